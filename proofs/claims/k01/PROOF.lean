import PyProof.Rows.All
import Wide.All
import OpenK.AllK
import Wide.FinOn
import Lean
import PyProof.EqAt
import PyProof.EqKinds
import PyProof.TupleCall
import PyProof.NeData
import PyProof.P3In
import PyProof.EnumFor
import PyProof.EnumMake
import PyProof.SliceStr2
import PyProof.StrBlock2
import KE.KEqDict
import PyProof.NsDelKeeps
import PyProof.Rows.SetFrom
import PyProof.FactsAll.subtypes_4
import KE.KRevSl
import PyProof.Rows.SumAny
import PyProof.ExcInit
import PyProof.InstStoreFacts
import PyProof.ExcArgsOwn
import PySem.Challenge.RW_callfold_k01_refusals_stand_alone
set_option Elab.async false
set_option linter.all false
set_option maxRecDepth 100000
theorem obi {α β : Type _} {o : Option α} {f : α → Option β} {b : β} : o.bind f = some b → ∃ a, o = some a ∧ f a = some b := Option.bind_eq_some_iff.mp
theorem omi {α β : Type _} {o : Option α} {f : α → β} {b : β} : o.map f = some b → ∃ a, o = some a ∧ f a = b := Option.map_eq_some_iff.mp
namespace L2
open PySem PySem.Spec PyProof.Rows
abbrev Key := Sum Int Str
def keyIs : Key → Value → Bool
  | .inl k, v => Value.isInt k v
  | .inr x, v => Value.isStrOf x v
def keyH (w : World) : Key → Int
  | .inl k => hashInt k
  | .inr x => hashStr w x
theorem keyIs_shape : ∀ {k : Key} {v : Value}, keyIs k v = true → (∃ i t, k = Sum.inl i ∧ v = Value.int i t) ∨ (∃ x t, k = Sum.inr x ∧ v = Value.str x t)
  | .inl i, v, h => by
    obtain ⟨t, e⟩ := Value.isInt_shape (k := i) (v := v) h
    exact .inl ⟨i, t, rfl, e⟩
  | .inr x, v, h => by
    obtain ⟨t, e⟩ := Value.isStrOf_shape (x := x) (v := v) h
    exact .inr ⟨x, t, rfl, e⟩
theorem key_ll (a b : Int) : decide ((Sum.inl a : Key) = Sum.inl b) = (a == b) := by
  by_cases e : a = b
  · subst e; simp
  · have h : ¬ (Sum.inl a : Key) = Sum.inl b := fun q => e (Sum.inl.inj q)
    rw [decide_eq_false h]
    exact (beq_eq_false_iff_ne.mpr e).symm
theorem key_rr (a b : Str) : decide ((Sum.inr a : Key) = Sum.inr b) = decide (a = b) := by
  by_cases e : a = b
  · subst e; simp
  · have h : ¬ (Sum.inr a : Key) = Sum.inr b := fun q => e (Sum.inr.inj q)
    rw [decide_eq_false h, decide_eq_false e]
theorem key_lr (a : Int) (b : Str) : decide ((Sum.inl a : Key) = Sum.inr b) = false := decide_eq_false (fun q => nomatch q)
theorem key_rl (a : Str) (b : Int) : decide ((Sum.inr a : Key) = Sum.inl b) = false := decide_eq_false (fun q => nomatch q)
def mixKind (prog : Program) (w : World) : PySem.KeyKind prog w Key where
  is := keyIs
  hash := keyH w
  inj := fun v a b ha hb => by
    rcases keyIs_shape ha with ⟨i, t, rfl, rfl⟩ | ⟨x, t, rfl, rfl⟩
    · rcases keyIs_shape hb with ⟨j, u, rfl, e⟩ | ⟨y, u, rfl, e⟩
      · injection e with e1 _; rw [e1]
      · exact nomatch e
    · rcases keyIs_shape hb with ⟨j, u, rfl, e⟩ | ⟨y, u, rfl, e⟩
      · exact nomatch e
      · injection e with e1 _; rw [e1]
  byValue := fun k v h => by
    rcases keyIs_shape h with ⟨i, t, rfl, rfl⟩ | ⟨x, t, rfl, rfl⟩ <;> rfl
  pyHash := fun hv h => by
    rcases keyIs_shape hv with ⟨i, t, rfl, rfl⟩ | ⟨x, t, rfl, rfl⟩
    · exact wpAny_pyHash_int h
    · exact wpAny_pyHash_str h
  eqBool := fun hu hv h => by
    rcases keyIs_shape hu with ⟨i, t, rfl, rfl⟩ | ⟨x, t, rfl, rfl⟩
    · rcases keyIs_shape hv with ⟨j, u, rfl, rfl⟩ | ⟨y, u, rfl, rfl⟩
      · rw [key_ll] at h; exact wpAny_eqBool_int h
      · rw [key_lr] at h; exact SeqAt.EqAt.int_str i t y u _ _ _ _ h
    · rcases keyIs_shape hv with ⟨j, u, rfl, rfl⟩ | ⟨y, u, rfl, rfl⟩
      · rw [key_rl] at h; exact SeqAt.EqAt.str_int x t j u _ _ _ _ h
      · rw [key_rr] at h; exact wpAny_eqBool_str h
  «strs» := fun k x t v h => by
    rcases keyIs_shape h with ⟨i, u, rfl, e⟩ | ⟨y, u, rfl, e⟩
    · exact nomatch e
    · injection e with e1 _
      subst e1
      cases v <;> rfl
end L2
namespace L2
open PySem PySem.Spec PyProof.Rows
inductive V where
  | non | bl (b : Bool) | int (i : Int) | str (x : Str) | byt (b : Array UInt8) | flt (b : UInt64) | ref (a : Addr) | ty (n : String)
  deriving DecidableEq
def RelV : V → Value → Prop
  | .non, u => u = Value.none
  | .bl b, u => u = Value.bool b
  | .int i, u => ∃ t, u = Value.int i t
  | .str x, u => ∃ t, u = Value.str x t
  | .byt b, u => ∃ t, u = Value.bytes b t
  | .flt b, u => ∃ t, u = Value.float b t
  | .ref a, u => u = Value.ref a
  | .ty n, u => u = Value.type n
abbrev Vals : List V → List Value → Prop := Paired RelV
theorem Vals.length {xs : List V} {us : List Value} (r : Vals xs us) : xs.length = us.length := Paired.length r
theorem Vals.get : ∀ {xs : List V} {us : List Value} {i : Nat} {x : V}, Vals xs us → xs[i]? = some x → ∃ u, us[i]? = some u ∧ RelV x u
  | _, _, _, _, .nil, e => by simp at e
  | _, _, 0, _, .cons r _, e => by simp at e; subst e; exact ⟨_, rfl, r⟩
  | _, _, i + 1, x, .cons _ t, e => by
    obtain ⟨u, h1, h2⟩ := Vals.get (i := i) (x := x) t (by simpa using e)
    exact ⟨u, by simpa using h1, h2⟩
theorem Vals.set {x : V} {u : Value} (r : RelV x u) : ∀ {xs : List V} {us : List Value} (i : Nat), Vals xs us → Vals (xs.set i x) (us.set i u)
  | _, _, _, .nil => .nil
  | _, _, 0, .cons _ t => .cons r t
  | _, _, i + 1, .cons q t => .cons q (Vals.set r i t)
theorem Vals.append : ∀ {xs ys : List V} {us ws : List Value}, Vals xs us → Vals ys ws → Vals (xs ++ ys) (us ++ ws)
  | _, _, _, _, .nil, s => s
  | _, _, _, _, .cons r t, s => .cons r (Vals.append t s)
theorem Vals.take : ∀ {xs : List V} {us : List Value} (n : Nat), Vals xs us → Vals (xs.take n) (us.take n)
  | _, _, 0, _ => .nil
  | _, _, _ + 1, .nil => .nil
  | _, _, n + 1, .cons r t => .cons r (Vals.take n t)
theorem Vals.drop : ∀ {xs : List V} {us : List Value} (n : Nat), Vals xs us → Vals (xs.drop n) (us.drop n)
  | _, _, 0, r => r
  | _, _, _ + 1, .nil => .nil
  | _, _, n + 1, .cons _ t => Vals.drop n t
def RelO : Option V → Option Value → Prop
  | some v, some u => RelV v u
  | none, none => True
  | _, _ => False
def KV {κ : Type} : List (κ × V) → List (κ × Value) → Prop := Paired fun (p : κ × V) (q : κ × Value) => p.1 = q.1 ∧ RelV p.2 q.2
def kV : Key → V
  | .inl i => .int i
  | .inr x => .str x
inductive HO where
  | lst (xs : List V)
  | tup (xs : List V)
  | dK (kvs : List (Key × V)) | dT (kvs : List (List Key × V))
  | set (S : Int → Bool) (n : Nat)
  | ins (C dx : Addr) (fs : List (Str × V))
  | own (x : Addr)
  | xd (fs : List (Str × V))
  | met (f x : Addr)
  | rng (lo hi : Int)
  | frz (o : Obj) (u : HO)
  | tbl (ps : Array Value)
  | ext (φ : Heap → Prop)
abbrev Hp := Addr → Option HO
def upd (H : Hp) (a : Addr) (o : HO) : Hp := fun b => if b = a then some o else H b
theorem upd_same {H : Hp} {a : Addr} {o : HO} : upd H a o a = some o := by unfold upd; rw [if_pos rfl]
theorem upd_ne {H : Hp} {a b : Addr} {o : HO} (h : b ≠ a) : upd H a o b = H b := by unfold upd; rw [if_neg h]
theorem ne_of_none {H : Hp} {a b : Addr} {o : HO} (h : H a = some o) (h' : H b = none) : a ≠ b := by
  intro e; subst e; rw [h] at h'; cases h'
section
variable (P : Program) (w : World)
def ObjOk (H : Hp) (h : Heap) (a : Addr) : HO → Prop
  | .lst xs => xs.length ≤ sizeLine ∧ ∃ (its : List Value) (n : Nat), Vals xs its ∧ h.get? a = some { cls := .type "list", data := .seq its.toArray n }
  | .tup xs => xs.length ≤ sizeLine ∧ ∃ its : List Value, Vals xs its ∧ IsTup h a its.toArray
  | .dK kvs => kvs.length ≤ sizeLine ∧ (a == sysModules) = false ∧ ∃ vs, KV kvs vs ∧ h.DictOf (mixKind P w) a vs
  | .dT kvs => kvs.length ≤ sizeLine ∧ (a == sysModules) = false ∧ ∃ xs : List (List Key × Addr × Value),
      Paired (fun (p : List Key × V) (q : List Key × Addr × Value) => p.1 = q.1 ∧ H q.2.1 = some (.tup (p.1.map kV)) ∧ RelV p.2 q.2.2) kvs xs ∧
      ∃ o es ep, h.get? a = some o ∧ o.ExactDict ∧ o.data = .dict es ep ∧ es.toList = xs.map (entryOfKey (tupleKind (mixKind P w))) ∧ (xs.map (·.1)).Nodup
  | .set S n => h.SetOf (intKind P w) a S n
  | .ins C dx fs => H dx = some (.own a) ∧ fs.length ≤ 1000 ∧ dx ≠ a ∧ h.get? a = some (PySem.W.instObj C dx) ∧
      ∃ mA, h.Ns1 dx mA ∧ (∀ f, RelO (fs.lookup f) (mA f)) ∧ PySem.Within mA (fs.map (·.1))
  | .own _ => ∃ o, h.get? a = some o
  | .xd fs => ∃ mA, h.Ns1 a mA ∧ ∀ f, RelO (fs.lookup f) (mA f)
  | .rng lo hi => ∃ t u v, h.get? a = some { cls := .type "range", data := .fields #[.int lo t, .int hi u, .int 1 v] }
  | .frz o u => h.get? a = some o ∧ ObjOk H h a u
  | .tbl ps => h.get? a = some { cls := .none, data := .fields ps }
  | .met f x => h.get? a = some (PySem.W.methodObj (.ref f) (.ref x))
  | .ext φ => φ h ∧ (∃ o, h.get? a = some o) ∧ ∀ h1 h2 : Heap, φ h1 → (∀ o, h1.get? a = some o → h2.get? a = some o) → φ h2
def HOk (H : Hp) (h : Heap) : Prop := ∀ a o, H a = some o → ObjOk P w H h a o
end
section
variable {P : Program} {w : World} {H H' : Hp} {h h' : Heap} {a : Addr} {o : HO}
theorem ObjOk.lt (x : ObjOk P w H h a o) : a < h.objs.size := by
  cases o with
  | lst xs => obtain ⟨_, _, _, _, e⟩ := x; exact Heap.lt_size e
  | tup xs => obtain ⟨_, _, _, p⟩ := x; exact p.lt
  | dK kvs => obtain ⟨_, _, _, _, o, _, _, e, _⟩ := x; exact Heap.lt_size e
  | dT kvs => obtain ⟨_, _, _, _, o, _, _, e, _⟩ := x; exact Heap.lt_size e
  | set S n => obtain ⟨o, _, _, _, e, _⟩ := x; exact Heap.lt_size e
  | ins C dx fs => obtain ⟨_, _, _, e, _⟩ := x; exact Heap.lt_size e
  | own y => obtain ⟨_, e⟩ := x; exact Heap.lt_size e
  | xd fs => obtain ⟨_, ⟨_, _, _, e, _⟩, _⟩ := x; exact Heap.lt_size e
  | rng lo hi => obtain ⟨_, _, _, e⟩ := x; exact Heap.lt_size e
  | frz ob u => obtain ⟨e, _⟩ := x; exact Heap.lt_size e
  | tbl ps => exact Heap.lt_size (show h.get? a = some _ from x)
  | met f y => exact Heap.lt_size (show h.get? a = some _ from x)
  | ext φ => obtain ⟨_, ⟨_, e⟩, _⟩ := x; exact Heap.lt_size e
theorem Paired.mapP {α β : Type} {F G : α → β → Prop} : ∀ {l₁ : List α} {l₂ : List β}, Paired F l₁ l₂ → (∀ a b, F a b → G a b) → Paired G l₁ l₂
  | _, _, .nil, _ => .nil
  | _, _, .cons r t, f => .cons (f _ _ r) (Paired.mapP t f)
theorem ObjOk.stay (x : ObjOk P w H h a o) (k : ∀ b u, (b = a ∨ H b = some (.own a)) → h.get? b = some u → h'.get? b = some u)
    (ho : ∀ b, H b = some (.own a) → H' b = some (.own a)) (ht : ∀ b xs, H b = some (.tup xs) → H' b = some (.tup xs)) : ObjOk P w H' h' a o := by
  induction o with
  | lst xs => obtain ⟨z, its, n, r, e⟩ := x; exact ⟨z, its, n, r, k _ _ (.inl rfl) e⟩
  | tup xs => obtain ⟨z, its, r, ob, e, c⟩ := x; exact ⟨z, its, r, ob, k _ _ (.inl rfl) e, c⟩
  | dK kvs => obtain ⟨z, y, vs, r, ob, es, ep, e, c⟩ := x; exact ⟨z, y, vs, r, ob, es, ep, k _ _ (.inl rfl) e, c⟩
  | dT kvs =>
    obtain ⟨z, y, xs, r, ob, es, ep, e, c⟩ := x
    exact ⟨z, y, xs, Paired.mapP r fun p q z => ⟨z.1, ht _ _ z.2.1, z.2.2⟩, ob, es, ep, k _ _ (.inl rfl) e, c⟩
  | set S n => obtain ⟨ob, es, ep, t, e, c⟩ := x; exact ⟨ob, es, ep, t, k _ _ (.inl rfl) e, c⟩
  | ins C dx fs =>
    obtain ⟨d, z, ne, e, mA, ⟨od, es, ep, e2, c⟩, r⟩ := x
    exact ⟨ho _ d, z, ne, k _ _ (.inl rfl) e, mA, ⟨od, es, ep, k _ _ (.inr d) e2, c⟩, r⟩
  | own y => obtain ⟨ob, e⟩ := x; exact ⟨ob, k _ _ (.inl rfl) e⟩
  | xd fs => obtain ⟨mA, ⟨od, es, ep, e, c⟩, r⟩ := x; exact ⟨mA, ⟨od, es, ep, k _ _ (.inl rfl) e, c⟩, r⟩
  | rng lo hi => obtain ⟨t, u, v, e⟩ := x; exact ⟨t, u, v, k _ _ (.inl rfl) e⟩
  | frz ob u ih => obtain ⟨e, q⟩ := x; exact ⟨k _ _ (.inl rfl) e, ih q⟩
  | tbl ps =>
    have e : h.get? a = some { cls := .none, data := .fields ps } := x
    show h'.get? a = some { cls := .none, data := .fields ps }
    exact k a _ (.inl rfl) e
  | met f y =>
    have e : h.get? a = some (PySem.W.methodObj (.ref f) (.ref y)) := x
    show h'.get? a = some (PySem.W.methodObj (.ref f) (.ref y))
    exact k a _ (.inl rfl) e
  | ext φ => obtain ⟨p, ⟨o, e⟩, st⟩ := x; exact ⟨st _ _ p fun o q => k _ _ (.inl rfl) q, ⟨o, k _ _ (.inl rfl) e⟩, st⟩
theorem HOk.lt (x : HOk P w H h) (e : H a = some o) : a < h.objs.size := (x a o e).lt
theorem HOk.fresh (x : HOk P w H h) (e : h.objs.size ≤ a) : H a = none := by
  cases q : H a with
  | none => rfl
  | some u => exact absurd (Nat.lt_of_lt_of_le (x.lt q) e) (Nat.lt_irrefl _)
theorem HOk.kept (x : HOk P w H h) (k : ∀ b u, h.get? b = some u → h'.get? b = some u) : HOk P w H h' := fun a o e =>
  (x a o e).stay (fun b u _ q => k b u q) (fun _ q => q) fun _ _ q => q
theorem HOk.laid (x : HOk P w H h) (k : ∀ b u, h.get? b = some u → h'.get? b = some u) (hp : h.objs.size ≤ a) (new : ObjOk P w (upd H a o) h' a o) : HOk P w (upd H a o) h' := fun b u e => by
  have hn := x.fresh hp
  by_cases hb : b = a
  · subst hb; rw [upd_same] at e; cases e; exact new
  · rw [upd_ne hb] at e
    exact (x b u e).stay (fun c v _ q => k c v q) (fun c q => by rw [upd_ne (ne_of_none q hn)]; exact q) fun c xs q => by rw [upd_ne (ne_of_none q hn)]; exact q
end
def Rd (H : Hp) (a : Addr) (u : HO) : Prop := H a = some u ∨ ∃ o, H a = some (.frz o u)
theorem Rd.of {H : Hp} {a : Addr} {u : HO} (h : H a = some u) : Rd H a u := .inl h
theorem Rd.ok {P : Program} {w : World} {H : Hp} {h : Heap} {a : Addr} {u : HO} (r : Rd H a u) (x : HOk P w H h) : ObjOk P w H h a u := by
  rcases r with r | ⟨o, r⟩
  · exact x a u r
  · obtain ⟨_, q⟩ := x a _ r
    exact q
def Mut : Option HO → Prop
  | some (.lst _) => True
  | some (.dK _) => True
  | some (.dT _) => True
  | some (.set _ _) => True
  | some (.ins _ _ _) => True
  | some (.ext _) => True
  | _ => False
section
variable {P : Program} {w : World} {H : Hp} {h h' : Heap} {x e : Addr} {o' : HO}
theorem HOk.write (ok : HOk P w H h) (mu : Mut (H x)) (he : e = x ∨ H e = some (.own x)) (k : ∀ b u, b ≠ e → h.get? b = some u → h'.get? b = some u) (heo : ∃ u, h'.get? e = some u)
    (new : ObjOk P w (upd H x o') h' x o') : HOk P w (upd H x o') h' := fun b u q => by
  have nown : ∀ c y, H c = some (.own y) → c ≠ x := fun c y r z => by subst z; rw [r] at mu; exact mu
  have ntup : ∀ c xs, H c = some (.tup xs) → c ≠ x := fun c xs r z => by subst z; rw [r] at mu; exact mu
  by_cases hb : b = x
  · subst hb; rw [upd_same] at q; cases q; exact new
  · rw [upd_ne hb] at q
    by_cases hbe : b = e
    · have q' : H b = some (.own x) := by
        rcases he with z | z
        · exact absurd (hbe.trans z) hb
        · rw [hbe]; exact z
      rw [q] at q'; cases q'
      obtain ⟨v, hv⟩ := heo
      exact ⟨v, by rw [hbe]; exact hv⟩
    · refine (ok b u q).stay (fun c v hc r => k c v ?_ r) (fun c r => by rw [upd_ne (nown c b r)]; exact r) fun c xs r => by rw [upd_ne (ntup c xs r)]; exact r
      rcases hc with rfl | hc
      · exact hbe
      · rintro rfl
        rcases he with z | z
        · exact nown c b hc z
        · rw [hc] at z; cases z; exact hb rfl
end
structure Un (fs ex : List Addr) (H H' : Hp) (h h' : Heap) : Prop where
  keep : ∀ b o, h.get? b = some o → H b = none → b ∉ fs → b ∉ ex → h'.get? b = some o
  slot : ∀ b o, h.get? b = some o → H b = none → b ∈ fs → b ∉ ex → ∃ sl, h'.get? b = some { o with slots := sl }
  free : ∀ b o, h.get? b = some o → H b = none → b ∉ ex → H' b = none
  there : ∀ b o, h.get? b = some o → b ∉ ex → ∃ o', h'.get? b = some o'
  tups : ∀ b xs, H b = some (.tup xs) → H' b = some (.tup xs)
  frzs : ∀ b o u, H b = some (.frz o u) → H' b = some (.frz o u)
  tbls : ∀ b ps, H b = some (.tbl ps) → ∃ more, H' b = some (.tbl (ps ++ more))
section
variable {fs fs' ex ex' : List Addr} {H H1 H2 : Hp} {h h1 h2 h' : Heap} {a x e : Addr} {o : HO}
theorem Un.any (u : Un fs ex H H1 h h1) {b : Addr} {ob : Obj} (q : h.get? b = some ob) (n : H b = none) (hx : b ∉ ex) : ∃ sl, h1.get? b = some { ob with slots := sl } := by
  by_cases hb : b ∈ fs
  · exact u.slot b ob q n hb hx
  · exact ⟨ob.slots, u.keep b ob q n hb hx⟩
theorem Un.trans (a : Un fs ex H H1 h h1) (b : Un fs ex H1 H2 h1 h2) : Un fs ex H H2 h h2 where
  keep := fun c ob q n hc hx => b.keep c ob (a.keep c ob q n hc hx) (a.free c ob q n hx) hc hx
  slot := fun c ob q n hc hx => by
    obtain ⟨sl, e1⟩ := a.slot c ob q n hc hx
    obtain ⟨sl', e2⟩ := b.slot c _ e1 (a.free c ob q n hx) hc hx
    exact ⟨sl', e2⟩
  free := fun c ob q n hx => by
    obtain ⟨o', e1⟩ := a.there c ob q hx
    exact b.free c o' e1 (a.free c ob q n hx) hx
  there := fun c ob q hx => by
    obtain ⟨o', e1⟩ := a.there c ob q hx
    exact b.there c o' e1 hx
  tups := fun c xs q => b.tups c xs (a.tups c xs q)
  frzs := fun c ob xs q => b.frzs c ob xs (a.frzs c ob xs q)
  tbls := fun c ps q => by
    obtain ⟨m1, e1⟩ := a.tbls c ps q
    obtain ⟨m2, e2⟩ := b.tbls c _ e1
    exact ⟨m1 ++ m2, by rw [e2, Array.append_assoc]⟩
theorem Un.kept (k : ∀ b u, h.get? b = some u → h'.get? b = some u) : Un fs ex H H h h' :=
  ⟨fun b ob q _ _ _ => k b ob q, fun b ob q _ _ _ => ⟨ob.slots, k b ob q⟩, fun _ _ _ n _ => n, fun b ob q _ => ⟨ob, k b ob q⟩, fun _ _ q => q, fun _ _ _ q => q, fun _ ps q => ⟨#[], by rw [q]; simp⟩⟩
theorem Un.refl : Un fs ex H H h h := Un.kept fun _ _ q => q
theorem Un.laid (k : ∀ b u, h.get? b = some u → h'.get? b = some u) (hp : h.objs.size ≤ a) (hn : H a = none) : Un fs ex H (upd H a o) h h' where
  keep := fun b u q _ _ _ => k b u q
  slot := fun b u q _ _ _ => ⟨u.slots, k b u q⟩
  free := fun b u q n _ => by rw [upd_ne (Nat.ne_of_lt (Nat.lt_of_lt_of_le (Heap.lt_size q) hp))]; exact n
  there := fun b u q _ => ⟨u, k b u q⟩
  tups := fun b xs q => by rw [upd_ne (ne_of_none q hn)]; exact q
  frzs := fun b u xs q => by rw [upd_ne (ne_of_none q hn)]; exact q
  tbls := fun b ps q => ⟨#[], by rw [upd_ne (ne_of_none q hn), q]; simp⟩
theorem Un.write (mu : Mut (H x)) (he : e = x ∨ H e = some (.own x)) (k : ∀ b u, b ≠ e → h.get? b = some u → h'.get? b = some u) (heo : ∃ u, h'.get? e = some u) : Un fs ex H (upd H x o) h h' := by
  have hx : ∀ b, H b = none → b ≠ x := fun b n z => by subst z; rw [n] at mu; exact mu
  have hb : ∀ b, H b = none → b ≠ e := fun b n z => by
    subst z
    rcases he with r | r
    · exact hx b n r
    · rw [n] at r; cases r
  have hm : ∀ b u, H b = some u → ¬ Mut (some u) → b ≠ x := fun b u q nm z => by subst z; rw [q] at mu; exact nm mu
  refine ⟨fun b u q n _ _ => k b u (hb b n) q, fun b u q n _ _ => ⟨u.slots, k b u (hb b n) q⟩, fun b u q n _ => by rw [upd_ne (hx b n)]; exact n, fun b u q _ => ?_,
    fun b xs q => by rw [upd_ne (hm b _ q fun z => z)]; exact q, fun b u xs q => by rw [upd_ne (hm b _ q fun z => z)]; exact q, fun b ps q => ⟨#[], by rw [upd_ne (hm b _ q fun z => z), q]; simp⟩⟩
  by_cases hbe : b = e
  · subst hbe; exact heo
  · exact ⟨u, k b u hbe q⟩
theorem Un.mono (u : Un fs ex H H1 h h1) (hs : ∀ b ∈ fs, b ∈ fs') (hx : ∀ b ∈ ex, b ∈ ex') : Un fs' ex' H H1 h h1 :=
  ⟨fun b ob q n hb he => u.keep b ob q n (fun z => hb (hs b z)) fun z => he (hx b z), fun _ _ q n _ he => u.any q n fun z => he (hx _ z), fun b ob q n he => u.free b ob q n fun z => he (hx b z), fun b ob q he => u.there b ob q fun z => he (hx b z), u.tups, u.frzs, u.tbls⟩
end
def trk (h : Heap) (H : Hp) : List Addr := (List.range h.objs.size).filter fun a => (H a).isSome
def hidT (h : Heap) (H : Hp) : Heap := PySem.W.hideAll h (trk h H)
theorem hidT_size (h : Heap) (H : Hp) : (hidT h H).objs.size = h.objs.size := PySem.W.hideAll_size _ _
theorem hidT_get {h : Heap} {H : Hp} {b : Addr} {o : Obj} (e : h.get? b = some o) (n : H b = none) : (hidT h H).get? b = some o :=
  PySem.W.hideAll_get _ e fun hm => by
    have q : (H b).isSome = true := (List.mem_filter.mp hm).2
    rw [n] at q; simp at q
theorem of_hidT {h : Heap} {H : Hp} {b : Addr} {o : Obj} (e : (hidT h H).get? b = some o) : h.get? b = some o ∧ H b = none := by
  have e' : h.get? b = some o := PySem.W.of_hideAll (trk h H) e
  refine ⟨e', ?_⟩
  cases q : H b with
  | none => rfl
  | some x =>
    have hm : b ∈ trk h H := List.mem_filter.mpr ⟨List.mem_range.mpr (Heap.lt_size e'), by simp [q]⟩
    have z : (hidT h H).get? b = none := PySem.W.hideAll_none (trk h H) hm
    rw [z] at e; cases e
end L2
namespace L2
open PySem PySem.Spec PyProof.Rows
structure Mod (K : PySem.W.Frag) (mg : Str → Option Value) (base : Heap) : Prop where
  kin : K.In base
  glob : base.Ns mainGlobals mg
  blt : ∃ mb, base.Ns builtinsNs mb ∧ ∀ x : Str, x ≠ "__name__" → mb x = bootBuiltins x
  nolimit : base.NoLimit
structure Cx where
  prog : Program
  w : World
  K : PySem.W.Frag
  mg : Str → Option Value
  base : Heap
  A : Around
  N : List Str
  s₀ : Shared
  H₀ : Hp
  env : Env
  outer : List Env
  stack : List Env
  ex : List Addr
  fn : Str → Bool
  calm : Bool
  pn : List (Addr × Obj)
  xe : Value → Shared → Prop
def frs (l : List Env) : List Addr := l.filterMap (·.frame)
abbrev Cx.fs (X : Cx) : List Addr := frs X.outer
def Vis (sc : Scope) (x : Str) : Prop := sc.names.lookup x = some .local ∨ sc.names.lookup x = some .cell ∨ sc.names.lookup x = some .free
def Loc (sc : Scope) (x : Str) : Prop := sc.names.lookup x = some .local ∨ sc.names.lookup x = some .cell
def Look (env : Env) (h : Heap) (m : Str → Option Value) (x : Str) (u : Value) : Prop :=
  (env.kindOf x = some .local ∧ m x = some u) ∨ ((env.kindOf x = some .cell ∨ env.kindOf x = some .free) ∧ ∃ c, env.cells.lookup x = some c ∧ h.IsCell c (some u))
structure Cx.Ok (X : Cx) : Prop where
  mod : Mod X.K X.mg X.base
  kind : X.env.scope.kind = .function
  glob : X.env.globals = mainGlobals
  blt : X.env.builtins = builtinsNs
  above : X.s₀.heap.objs.size ≤ X.env.locals
  inj : ∀ x y c, X.env.cells.lookup x = some c → X.env.cells.lookup y = some c → x = y
  has : ∀ x, (X.env.kindOf x = some .cell ∨ X.env.kindOf x = some .free) → ∃ c, X.env.cells.lookup x = some c
  cab : ∀ x c, X.fn x = true → X.env.cells.lookup x = some c → X.s₀.heap.objs.size ≤ c
  hd : X.calm = true → X.A.handled = none
  frames : X.A.frames = some X.stack
  stk : X.stack = X.outer ∨ (X.stack = X.env :: X.outer ∧ X.env.frame = some X.env.locals)
  exf : ∀ b ∈ X.ex, b ≠ X.env.locals ∧ ∀ x c, X.env.cells.lookup x = some c → c ≠ b
  bs : ∀ b o, X.base.get? b = some o → X.s₀.heap.get? b = some o ∧ X.H₀ b = none
  bsz : X.base.objs.size ≤ X.s₀.heap.objs.size
  noex : ∀ b o, X.base.get? b = some o → b ∉ X.ex
  exfs : ∀ b ∈ X.ex, b ∉ X.fs
  funs : X.s₀.heap.FunFrames X.base X.outer
  frf : ∀ b ∈ X.fs, X.H₀ b = none
structure Inv (X : Cx) (pins : List (Addr × Obj)) (σ : List (Option V)) (H : Hp) (s : Shared) : Prop where
  ok : X.Ok
  os : s.os = X.s₀.os
  bare : AllBare s.gens
  base : Un X.fs X.ex X.H₀ H X.s₀.heap s.heap
  loc : ∃ m, s.heap.Ns X.env.locals m ∧ ∀ (i : Nat) (x : Str) (v : V), X.N[i]? = some x → σ[i]? = some (some v) → Vis X.env.scope x → ∃ u, RelV v u ∧ Look X.env s.heap m x u
  cell : ∀ x c, X.env.cells.lookup x = some c → ∃ v, s.heap.IsCell c v
  free : H X.env.locals = none
  freeC : ∀ x c, X.env.cells.lookup x = some c → H c = none
  pin : ∀ p ∈ X.pn ++ pins, s.heap.get? p.1 = some p.2 ∧ H p.1 = none ∧ p.1 ≠ X.env.locals ∧ p.1 ∉ X.fs ∧ ∀ v, p.2.data ≠ .cell v
  hok : HOk X.prog X.w H s.heap
  len : σ.length = X.N.length
section
variable {X : Cx} {pins : List (Addr × Obj)} {σ : List (Option V)} {H H' : Hp} {s : Shared} {h' : Heap}
theorem Cx.Ok.nofr (ok : X.Ok) {b : Addr} {o : Obj} (e : X.base.get? b = some o) : b ∉ X.fs := fun hb => by
  have := (ok.funs.mem hb).1
  rw [e] at this; cases this
theorem Inv.bs (I : Inv X pins σ H s) : ∀ b o, X.base.get? b = some o → s.heap.get? b = some o ∧ H b = none := fun b o e =>
  ⟨I.base.keep b o (I.ok.bs b o e).1 (I.ok.bs b o e).2 (I.ok.nofr e) (I.ok.noex b o e), I.base.free b o (I.ok.bs b o e).1 (I.ok.bs b o e).2 (I.ok.noex b o e)⟩
theorem Inv.bk (I : Inv X pins σ H s) : ∀ b o, X.base.get? b = some o → s.heap.get? b = some o := fun b o e => (I.bs b o e).1
theorem Inv.mod (I : Inv X pins σ H s) : Mod X.K X.mg X.base := I.ok.mod
theorem Inv.kIn (I : Inv X pins σ H s) : X.K.In s.heap := I.ok.mod.kin.keeps I.bk
theorem Inv.nolimit (I : Inv X pins σ H s) : s.heap.NoLimit := I.ok.mod.nolimit.keeps I.bk
theorem Inv.lt (I : Inv X pins σ H s) : X.env.locals < s.heap.objs.size := let ⟨_, hn, _⟩ := I.loc; hn.lt
theorem Inv.sz (I : Inv X pins σ H s) : X.s₀.heap.objs.size ≤ s.heap.objs.size := Nat.le_trans I.ok.above (Nat.le_of_lt I.lt)
theorem Inv.nofs (I : Inv X pins σ H s) {a : Addr} (h : s.heap.objs.size ≤ a) : a ∉ X.fs := fun hb => by
  obtain ⟨_, o, ho, _⟩ := I.ok.funs.mem hb
  exact absurd (Nat.lt_of_lt_of_le (Heap.lt_size ho) (Nat.le_trans I.sz h)) (Nat.lt_irrefl _)
theorem Inv.cne (I : Inv X pins σ H s) : ∀ x c, X.env.cells.lookup x = some c → c ≠ X.env.locals := fun x c e z => by
  obtain ⟨v, o, ho, hd⟩ := I.cell x c e
  obtain ⟨m, ⟨o', es, ep, ho', hd', _⟩, _⟩ := I.loc
  rw [z, ho'] at ho; cases ho; rw [hd'] at hd; cases hd
theorem Inv.funs (I : Inv X pins σ H s) : s.heap.FunFrames X.base X.outer := by
  have all : ∀ (l : List Env), (∀ b ∈ frs l, b ∈ X.fs) → X.s₀.heap.FunFrames X.base l → s.heap.FunFrames X.base l := by
    intro l
    induction l with
    | nil => intro _ _; trivial
    | cons env r ih =>
      intro hs hl
      obtain ⟨hk, ⟨L, o, hf, hn, ho, hd⟩, hr⟩ := hl
      have hL : L ∈ X.fs := hs L (by unfold frs; rw [List.filterMap_cons, hf]; exact List.mem_cons_self)
      obtain ⟨sl, e⟩ := I.base.slot L o ho (I.ok.frf L hL) hL fun z => I.ok.exfs L z hL
      exact ⟨hk, ⟨L, _, hf, hn, e, hd⟩, ih (fun b hb => hs b (by unfold frs; rw [List.filterMap_cons, hf]; exact List.mem_cons_of_mem _ hb)) hr⟩
  exact all X.outer (fun _ hb => hb) I.ok.funs
theorem Inv.stack (I : Inv X pins σ H s) : s.heap.FunFrames X.base X.stack := by
  rcases I.ok.stk with e | ⟨e, hf⟩
  · rw [e]; exact I.funs
  · rw [e]
    obtain ⟨m, hn, _⟩ := I.loc
    refine .cons (by rw [I.ok.kind]; decide) hf hn ?_ I.funs
    exact Heap.get?_none_of_le (Nat.le_trans I.ok.bsz I.ok.above)
theorem Inv.stkSub (I : Inv X pins σ H s) : ∀ b ∈ frs X.stack, b ∈ X.env.locals :: X.fs := fun b hb => by
  rcases I.ok.stk with e | ⟨e, hf⟩
  · rw [e] at hb; exact List.mem_cons_of_mem _ hb
  · rw [e] at hb
    unfold frs at hb
    rw [List.filterMap_cons, hf] at hb
    exact hb
theorem Inv.stkFree (I : Inv X pins σ H s) : ∀ b ∈ frs X.stack, H b = none := fun b hb => by
  rcases List.mem_cons.mp (I.stkSub b hb) with e | hb
  · rw [e]; exact I.free
  · obtain ⟨_, o, ho, _⟩ := I.ok.funs.mem hb
    exact I.base.free b o ho (I.ok.frf b hb) fun z => I.ok.exfs b z hb
theorem Inv.step {g' : Array GenState} {t' : Nat} {d' : Drawn} {ch : List Addr} (I : Inv X pins σ H s)
    (hch : ∀ b ∈ ch, (b ∈ X.ex ∨ X.s₀.heap.objs.size ≤ b) ∧ b ≠ X.env.locals ∧ (∀ x c, X.env.cells.lookup x = some c → c ≠ b) ∧ ∀ p ∈ X.pn ++ pins, p.1 ≠ b)
    (keep : ∀ b o, b ≠ X.env.locals → b ∉ X.fs → b ∉ ch → s.heap.get? b = some o → H b = none → h'.get? b = some o)
    (slot : ∀ b o, b ≠ X.env.locals → b ∈ X.fs → b ∉ ch → s.heap.get? b = some o → H b = none → ∃ sl, h'.get? b = some { o with slots := sl }) (free : ∀ b o, b ∉ ch → s.heap.get? b = some o → H b = none → H' b = none)
    (there : ∀ b o, b ∉ ch → s.heap.get? b = some o → ∃ o', h'.get? b = some o')
    (tups : ∀ b xs, H b = some (.tup xs) → H' b = some (.tup xs)) (frzs : ∀ b o u, H b = some (.frz o u) → H' b = some (.frz o u)) (tbls : ∀ b ps, H b = some (.tbl ps) → ∃ more, H' b = some (.tbl (ps ++ more)))
    (ns : ∀ m, s.heap.Ns X.env.locals m → h'.Ns X.env.locals m) (hok : HOk X.prog X.w H' h') (hg : AllBare g') :
    Inv X pins σ H' { s with heap := h', gens := g', drawn := d', toks := t' } := by
  have neL : ∀ b o, X.s₀.heap.get? b = some o → b ≠ X.env.locals := fun b o e => Nat.ne_of_lt (Nat.lt_of_lt_of_le (Heap.lt_size e) I.ok.above)
  have neC : ∀ b o, X.s₀.heap.get? b = some o → b ∉ X.ex → b ∉ ch := fun b o e hx hb => by
    rcases (hch b hb).1 with z | z
    · exact hx z
    · exact absurd (Nat.lt_of_lt_of_le (Heap.lt_size e) z) (Nat.lt_irrefl _)
  have cellK : ∀ x c, X.env.cells.lookup x = some c → ∀ v, s.heap.IsCell c v → h'.IsCell c v := fun x c e v ⟨o, ho, hd⟩ => by
    have nch : c ∉ ch := fun z => (hch c z).2.2.1 x c e rfl
    by_cases hc : c ∈ X.fs
    · obtain ⟨sl, q⟩ := slot c o (I.cne x c e) hc nch ho (I.freeC x c e)
      exact ⟨_, q, hd⟩
    · exact ⟨o, keep c o (I.cne x c e) hc nch ho (I.freeC x c e), hd⟩
  refine ⟨I.ok, I.os, hg, ⟨fun b o e n hb hx => ?_, fun b o e n hb hx => ?_, fun b o e n hx => ?_, fun b o e hx => ?_, fun b xs e => tups b xs (I.base.tups b xs e), fun b o xs e => frzs b o xs (I.base.frzs b o xs e), fun b ps e => ?_⟩, ?_, fun x c e => ?_, ?_, fun x c e => ?_, fun p hp => ?_, hok, I.len⟩
  · exact keep b o (neL b o e) hb (neC b o e hx) (I.base.keep b o e n hb hx) (I.base.free b o e n hx)
  · obtain ⟨sl, e1⟩ := I.base.slot b o e n hb hx
    obtain ⟨sl', e2⟩ := slot b _ (neL b o e) hb (neC b o e hx) e1 (I.base.free b o e n hx)
    exact ⟨sl', e2⟩
  · obtain ⟨o', e1⟩ := I.base.there b o e hx
    exact free b o' (neC b o e hx) e1 (I.base.free b o e n hx)
  · obtain ⟨o', e1⟩ := I.base.there b o e hx
    exact there b o' (neC b o e hx) e1
  · obtain ⟨m1, e1⟩ := I.base.tbls b ps e
    obtain ⟨m2, e2⟩ := tbls b _ e1
    exact ⟨m1 ++ m2, by rw [e2, Array.append_assoc]⟩
  · obtain ⟨m, hn, hl⟩ := I.loc
    refine ⟨m, ns m hn, fun i x v e1 e2 e3 => ?_⟩
    obtain ⟨u, r, l⟩ := hl i x v e1 e2 e3
    refine ⟨u, r, ?_⟩
    rcases l with l | ⟨k, c, e, z⟩
    · exact .inl l
    · exact .inr ⟨k, c, e, cellK x c e _ z⟩
  · obtain ⟨v, z⟩ := I.cell x c e
    exact ⟨v, cellK x c e v z⟩
  · obtain ⟨m, ⟨o, _, _, ho, _⟩, _⟩ := I.loc
    exact free _ o (fun z => (hch _ z).2.1 rfl) ho I.free
  · obtain ⟨v, o, ho, hd⟩ := I.cell x c e
    exact free c o (fun z => (hch c z).2.2.1 x c e rfl) ho (I.freeC x c e)
  · obtain ⟨e, n, ne, nf, d⟩ := I.pin p hp
    have nch : p.1 ∉ ch := fun z => (hch p.1 z).2.2.2 p hp rfl
    exact ⟨keep p.1 p.2 ne nf nch e n, free p.1 p.2 nch e n, ne, nf, d⟩
theorem Inv.un {t' : Nat} (I : Inv X pins σ H s) (u : Un X.fs [] H H' s.heap h') (hok : HOk X.prog X.w H' h') : Inv X pins σ H' { s with heap := h', toks := t' } := by
  obtain ⟨m, ⟨o, es, ep, ho, r⟩, _⟩ := id I.loc
  obtain ⟨sl, hL⟩ := u.any ho I.free (by simp)
  exact I.step (g' := s.gens) (d' := s.drawn) (ch := []) (fun _ z => nomatch z) (fun b o _ hb _ e n => u.keep b o e n hb (by simp)) (fun b o _ hb _ e n => u.slot b o e n hb (by simp)) (fun b o _ e n => u.free b o e n (by simp)) (fun b o _ e => u.there b o e (by simp)) u.tups u.frzs u.tbls (fun m' hm => by
    obtain ⟨o', es', ep', ho', r'⟩ := hm
    rw [ho] at ho'; cases ho'
    exact ⟨_, es', ep', hL, r'⟩) hok I.bare
theorem Inv.call {g' : Array GenState} {t' : Nat} {d' : Drawn} {ch : List Addr} (I : Inv X pins σ H s) (u : Un (frs X.stack) ch H H' s.heap h') (hok : HOk X.prog X.w H' h') (hg : AllBare g')
    (hch : ∀ b ∈ ch, (b ∈ X.ex ∨ X.s₀.heap.objs.size ≤ b) ∧ b ≠ X.env.locals ∧ (∀ x c, X.env.cells.lookup x = some c → c ≠ b) ∧ ∀ p ∈ X.pn ++ pins, p.1 ≠ b) :
    Inv X pins σ H' { s with heap := h', gens := g', drawn := d', toks := t' } := by
  obtain ⟨m, ⟨o, es, ep, ho, r⟩, _⟩ := id I.loc
  obtain ⟨sl, hL⟩ := u.any ho I.free fun z => (hch _ z).2.1 rfl
  exact I.step (ch := ch) hch (fun b o hL hb hc e n => u.keep b o e n (fun z => (List.mem_cons.mp (I.stkSub b z)).elim hL hb) hc) (fun b o _ _ hc e n => u.any e n hc) (fun b o hc e n => u.free b o e n hc) (fun b o hc e => u.there b o e hc) u.tups u.frzs u.tbls (fun m' hm => by
    obtain ⟨o', es', ep', ho', r'⟩ := hm
    rw [ho] at ho'; cases ho'
    exact ⟨_, es', ep', hL, r'⟩) hok hg
theorem Inv.turned {t' : Nat} {it : Addr} (I : Inv X pins σ H s) (k : ∀ b o, b ≠ it → s.heap.get? b = some o → h'.get? b = some o) (hn : H it = none) (hL : it ≠ X.env.locals)
    (h1 : it ∈ X.ex ∨ X.s₀.heap.objs.size ≤ it) (h2 : ∀ x c, X.env.cells.lookup x = some c → c ≠ it) (h3 : ∀ p ∈ X.pn ++ pins, p.1 ≠ it) : Inv X pins σ H { s with heap := h', toks := t' } := by
  have nit : ∀ b u, H b = some u → b ≠ it := fun b u e z => by rw [z, hn] at e; cases e
  refine I.step (g' := s.gens) (d' := s.drawn) (ch := [it]) (fun b hb => ?_) (fun b o _ _ hc e _ => k b o (fun z => hc (by simp [z])) e) (fun b o _ _ hc e _ => ⟨o.slots, k b o (fun z => hc (by simp [z])) e⟩) (fun _ _ _ _ n => n)
    (fun b o hc e => ⟨o, k b o (fun z => hc (by simp [z])) e⟩) (fun _ _ e => e) (fun _ _ _ e => e) (fun b ps e => ⟨#[], by rw [e]; simp⟩) (fun m hm => ?_) (fun b u e => ?_) I.bare
  · have e : b = it := by simpa using hb
    subst e
    exact ⟨h1, hL, h2, h3⟩
  · obtain ⟨o, es, ep, ho, r⟩ := hm
    exact ⟨o, es, ep, k _ o (Ne.symm hL) ho, r⟩
  · refine (I.hok b u e).stay (fun c v hc q => k c v ?_ q) (fun _ q => q) fun _ _ q => q
    rcases hc with z | z
    · rw [z]; exact nit b u e
    · exact nit c _ z
theorem Inv.tok (I : Inv X pins σ H s) (t : Nat) : Inv X pins σ H { s with toks := t } := I.un (h' := s.heap) (t' := t) Un.refl I.hok
theorem Inv.kept {t' : Nat} (I : Inv X pins σ H s) (k : ∀ b u, s.heap.get? b = some u → h'.get? b = some u) : Inv X pins σ H { s with heap := h', toks := t' } := I.un (Un.kept k) (I.hok.kept k)
theorem Inv.laid {a : Addr} {o : HO} {t' : Nat} (I : Inv X pins σ H s) (k : ∀ b u, s.heap.get? b = some u → h'.get? b = some u) (hp : s.heap.objs.size ≤ a) (new : ObjOk X.prog X.w (upd H a o) h' a o) :
    Inv X pins σ (upd H a o) { s with heap := h', toks := t' } := I.un (Un.laid k hp (I.hok.fresh hp)) (I.hok.laid k hp new)
theorem Inv.write {x e : Addr} {o : HO} {t' : Nat} (I : Inv X pins σ H s) (mu : Mut (H x)) (he : e = x ∨ H e = some (.own x)) (k : ∀ b u, b ≠ e → s.heap.get? b = some u → h'.get? b = some u) (heo : ∃ u, h'.get? e = some u)
    (new : ObjOk X.prog X.w (upd H x o) h' x o) : Inv X pins σ (upd H x o) { s with heap := h', toks := t' } := I.un (Un.write mu he k heo) (I.hok.write mu he k heo new)
theorem Inv.pins_of {pins' : List (Addr × Obj)} (I : Inv X pins σ H s) (h : ∀ p ∈ pins', s.heap.get? p.1 = some p.2 ∧ H p.1 = none ∧ p.1 ≠ X.env.locals ∧ p.1 ∉ X.fs ∧ ∀ v, p.2.data ≠ .cell v) : Inv X pins' σ H s :=
  ⟨I.ok, I.os, I.bare, I.base, I.loc, I.cell, I.free, I.freeC, fun p hp => (List.mem_append.mp hp).elim (fun z => I.pin p (List.mem_append_left _ z)) (h p), I.hok, I.len⟩
theorem nodup_ix {N : List Str} (hN : N.Nodup) {i j : Nat} {x : Str} (a : N[i]? = some x) (b : N[j]? = some x) : i = j := by
  obtain ⟨h1, e1⟩ := List.getElem?_eq_some_iff.mp a
  obtain ⟨h2, e2⟩ := List.getElem?_eq_some_iff.mp b
  exact (List.getElem_inj hN).mp (e1.trans e2.symm)
theorem store_ok2 {M : Model} {A : Around} {E : Value → Shared → Prop} {i : Nat} {x : Str} {v : V} {u : Value} {Q : Unit → Shared → Prop} (I : Inv X pins σ H s) (hN : X.N.Nodup) (hi : X.N[i]? = some x) (hx : Loc X.env.scope x) (r : RelV v u)
    (h : ∀ s', Inv X pins (σ.set i (some v)) H s' → (∃ a, Heap.SameBut a s.heap s'.heap ∧ (a = X.env.locals ∨ X.env.cells.lookup x = some a)) → Q () s') (hf : X.fn x = true ∨ X.env.scope.names.lookup x = some .local := by first | exact .inl rfl | exact .inr rfl | assumption) : wpAny M A (storeName X.env x u) Q E s := by
  obtain ⟨m, hn, hl⟩ := id I.loc
  have hcls : (X.env.scope.kind == .class || (X.env.scope.kind == .module && X.env.locals != X.env.globals)) = false := by rw [I.ok.kind]; rfl
  have hiσ : i < σ.length := by rw [I.len]; exact (List.getElem?_eq_some_iff.mp hi).1
  have cne := I.cne
  have tracked : ∀ {a : Addr} {h' : Heap}, (∃ o, s.heap.get? a = some o ∧ H a = none) → Heap.SameBut a s.heap h' → HOk X.prog X.w H h' := fun {a h'} ha hs b ob e => by
    obtain ⟨_, _, hfree⟩ := ha
    refine (I.hok b ob e).stay (fun c w' hc q => (hs.2 c ?_).trans q) (fun _ q => q) fun _ _ q => q
    rintro rfl
    rcases hc with rfl | hc
    · rw [hfree] at e; cases e
    · rw [hfree] at hc; cases hc
  rcases hx with hk | hk
  · refine wpAny_storeName_local hk hn (fun h' hn' hs => ?_) hcls
    obtain ⟨oL, _, _, hoL, _⟩ := id hn
    refine h _ ⟨I.ok, I.os, I.bare, ⟨fun b o e n hb hx => ?_, fun b o e n hb hx => ?_, I.base.free, fun b o e hx => ?_, I.base.tups, I.base.frzs, I.base.tbls⟩, ⟨_, hn', fun j y v' e1 e2 e3 => ?_⟩, fun y c e => ?_, I.free, I.freeC, fun p hp => ?_, tracked ⟨oL, hoL, I.free⟩ hs, by simpa using I.len⟩ ⟨_, hs, .inl rfl⟩
    · exact (hs.2 b (Nat.ne_of_lt (Nat.lt_of_lt_of_le (Heap.lt_size e) I.ok.above))).trans (I.base.keep b o e n hb hx)
    · obtain ⟨sl, e1⟩ := I.base.slot b o e n hb hx
      exact ⟨sl, (hs.2 b (Nat.ne_of_lt (Nat.lt_of_lt_of_le (Heap.lt_size e) I.ok.above))).trans e1⟩
    · obtain ⟨o', e1⟩ := I.base.there b o e hx
      exact ⟨o', (hs.2 b (Nat.ne_of_lt (Nat.lt_of_lt_of_le (Heap.lt_size e) I.ok.above))).trans e1⟩
    · by_cases hj : j = i
      · subst hj
        rw [hi] at e1; cases e1
        rw [List.getElem?_set_self hiσ] at e2
        cases e2
        exact ⟨u, r, .inl ⟨hk, by simp⟩⟩
      · rw [List.getElem?_set_ne (Ne.symm hj)] at e2
        obtain ⟨u', r', q⟩ := hl j y v' e1 e2 e3
        refine ⟨u', r', ?_⟩
        rcases q with ⟨k, e⟩ | ⟨k, c, e, z⟩
        · refine .inl ⟨k, ?_⟩
          have : y ≠ x := fun e => hj (nodup_ix hN e1 (e ▸ hi))
          simp [this, e]
        · exact .inr ⟨k, c, e, z.sameBut hs (cne y c e)⟩
    · obtain ⟨w', z⟩ := I.cell y c e
      exact ⟨w', z.sameBut hs (cne y c e)⟩
    · obtain ⟨e, n, ne, nf, d⟩ := I.pin p hp
      exact ⟨(hs.2 p.1 ne).trans e, n, ne, nf, d⟩
  · have hfn : X.fn x = true := by
      rcases hf with z | z
      · exact z
      · rw [z] at hk; cases hk
    obtain ⟨c, hc⟩ := I.ok.has x (.inl hk)
    obtain ⟨w', z⟩ := I.cell x c hc
    refine wpAny_storeName_cell I.ok.kind hk hc z (fun h' hc' hs => ?_)
    obtain ⟨oc, hoc, hocd⟩ := id z
    refine h { s with heap := h' } ⟨I.ok, I.os, I.bare, ⟨fun b o e n hb hx => ?_, fun b o e n hb hx => ?_, I.base.free, fun b o e hx => ?_, I.base.tups, I.base.frzs, I.base.tbls⟩, ⟨m, hn.sameBut hs (Ne.symm (cne x c hc)), fun j y v' e1 e2 e3 => ?_⟩, fun y c' e => ?_, I.free, I.freeC, fun p hp => ?_, tracked ⟨oc, hoc, I.freeC x c hc⟩ hs, by simpa using I.len⟩ ⟨c, hs, .inr hc⟩
    · exact (hs.2 b (Nat.ne_of_lt (Nat.lt_of_lt_of_le (Heap.lt_size e) (I.ok.cab x c hfn hc)))).trans (I.base.keep b o e n hb hx)
    · obtain ⟨sl, e1⟩ := I.base.slot b o e n hb hx
      exact ⟨sl, (hs.2 b (Nat.ne_of_lt (Nat.lt_of_lt_of_le (Heap.lt_size e) (I.ok.cab x c hfn hc)))).trans e1⟩
    · obtain ⟨o', e1⟩ := I.base.there b o e hx
      exact ⟨o', (hs.2 b (Nat.ne_of_lt (Nat.lt_of_lt_of_le (Heap.lt_size e) (I.ok.cab x c hfn hc)))).trans e1⟩
    · by_cases hj : j = i
      · subst hj
        rw [hi] at e1; cases e1
        rw [List.getElem?_set_self hiσ] at e2
        cases e2
        exact ⟨u, r, .inr ⟨.inl hk, c, hc, hc'⟩⟩
      · rw [List.getElem?_set_ne (Ne.symm hj)] at e2
        obtain ⟨u', r', q⟩ := hl j y v' e1 e2 e3
        refine ⟨u', r', ?_⟩
        rcases q with q | ⟨k, c', e, z'⟩
        · exact .inl q
        · refine .inr ⟨k, c', e, z'.sameBut hs ?_⟩
          rintro rfl
          exact hj (nodup_ix hN e1 (I.ok.inj _ _ _ e hc ▸ hi))
    · by_cases hcc : c' = c
      · subst hcc; exact ⟨_, hc'⟩
      · obtain ⟨w2, z2⟩ := I.cell y c' e
        exact ⟨w2, z2.sameBut hs hcc⟩
    · obtain ⟨e, n, ne, nf, d⟩ := I.pin p hp
      refine ⟨(hs.2 p.1 ?_).trans e, n, ne, nf, d⟩
      intro q
      rw [q, hoc] at e
      have q' : oc = p.2 := Option.some.inj e
      exact d w' (by rw [← q']; exact hocd)
theorem store_ok {M : Model} {A : Around} {E : Value → Shared → Prop} {i : Nat} {x : Str} {v : V} {u : Value} {Q : Unit → Shared → Prop} (I : Inv X pins σ H s) (hN : X.N.Nodup) (hi : X.N[i]? = some x) (hx : Loc X.env.scope x) (r : RelV v u)
    (h : ∀ s', Inv X pins (σ.set i (some v)) H s' → Q () s') (hf : X.fn x = true ∨ X.env.scope.names.lookup x = some .local := by first | exact .inl rfl | exact .inr rfl | assumption) : wpAny M A (storeName X.env x u) Q E s :=
  store_ok2 I hN hi hx r (fun s' I' _ => h s' I') hf
theorem Inv.call' {s' : Shared} {ch : List Addr} (I : Inv X pins σ H s) (ho : s'.os = s.os) (u : Un (frs X.stack) ch H H' s.heap s'.heap) (hok : HOk X.prog X.w H' s'.heap) (hg : AllBare s'.gens)
    (hch : ∀ b ∈ ch, (b ∈ X.ex ∨ X.s₀.heap.objs.size ≤ b) ∧ b ≠ X.env.locals ∧ (∀ x c, X.env.cells.lookup x = some c → c ≠ b) ∧ ∀ p ∈ X.pn ++ pins, p.1 ≠ b) : Inv X pins σ H' s' := by
  obtain ⟨h', g', d', t', o'⟩ := s'
  have e : o' = s.os := ho
  subst e
  exact I.call (g' := g') (t' := t') (d' := d') u hok hg hch
end
abbrev XK := Value → Option Addr → Hp → Prop
abbrev St := List (Option V)
abbrev VK := V → Hp → Prop
abbrev TE := St → Hp → VK → Prop
abbrev TT := St → Hp → (Bool → Hp → Prop) → Prop
abbrev TA := St → Hp → (List V → Hp → Prop) → Prop
structure Ends where
  nx : St → Hp → Prop
  rt : VK
  bk : St → Hp → Prop := fun _ _ => False
  ct : St → Hp → Prop := fun _ _ => False
abbrev TS := Ends → St → Hp → Prop
def EP (X : Cx) (pins : List (Addr × Obj)) (σ : St) (Q : VK) (u : Value) (s' : Shared) : Prop := ∃ v H', Inv X pins σ H' s' ∧ RelV v u ∧ Q v H'
def TP (X : Cx) (pins : List (Addr × Obj)) (σ : St) (Q : Bool → Hp → Prop) (b : Bool) (s' : Shared) : Prop := ∃ H', Inv X pins σ H' s' ∧ Q b H'
def AP (X : Cx) (pins : List (Addr × Obj)) (σ : St) (Q : List V → Hp → Prop) (us : List Value) (s' : Shared) : Prop := ∃ vs H', Inv X pins σ H' s' ∧ Vals vs us ∧ Q vs H'
def SP (X : Cx) (pins : List (Addr × Obj)) (D : Ends) (f : Flow) (s' : Shared) : Prop :=
  match f with
  | .next => ∃ σ' H', Inv X pins σ' H' s' ∧ D.nx σ' H'
  | .brk => ∃ σ' H', Inv X pins σ' H' s' ∧ D.bk σ' H'
  | .cont => ∃ σ' H', Inv X pins σ' H' s' ∧ D.ct σ' H'
  | .ret u => ∃ v σ' H', Inv X pins σ' H' s' ∧ RelV v u ∧ D.rt v H'
def PE (X : Cx) (e : Expr) (t : TE) : Prop :=
  ∀ (pins : List (Addr × Obj)) (s : Shared) (σ : St) (H : Hp) (Q : VK), Inv X pins σ H s → t σ H Q → wpAny (model X.prog X.w) X.A (eval e X.env) (EP X pins σ Q) X.xe s
def PT (X : Cx) (e : Expr) (t : TT) : Prop :=
  ∀ (pins : List (Addr × Obj)) (s : Shared) (σ : St) (H : Hp) (Q : Bool → Hp → Prop), Inv X pins σ H s → t σ H Q → wpAny (model X.prog X.w) X.A (isTrue e X.env (eval e X.env)) (TP X pins σ Q) X.xe s
def PW (X : Cx) (e : Expr) (t : TT) : Prop :=
  ∀ (whole : Sem Value) (pins : List (Addr × Obj)) (s : Shared) (σ : St) (H : Hp) (Q : Bool → Hp → Prop), Inv X pins σ H s → t σ H Q → wpAny (model X.prog X.w) X.A (isTrue e X.env whole) (TP X pins σ Q) X.xe s
theorem PW.pt {X : Cx} {e : Expr} {t : TT} (h : PW X e t) : PT X e t := h _
def PA (X : Cx) (es : List Expr) (t : TA) : Prop :=
  ∀ (pos : Pos) (pins : List (Addr × Obj)) (s : Shared) (σ : St) (H : Hp) (Q : List V → Hp → Prop), Inv X pins σ H s → t σ H Q → wpAny (model X.prog X.w) X.A (spliced (backTo pos (starEach es X.env))) (AP X pins σ Q) X.xe s
def PS (X : Cx) (st : Stmt) (t : TS) : Prop :=
  ∀ (pins : List (Addr × Obj)) (s : Shared) (σ : St) (H : Hp) (D : Ends), Inv X pins σ H s → t D σ H → wpAny (model X.prog X.w) X.A (exec st X.env) (SP X pins D) X.xe s
def PSs (X : Cx) (st : List Stmt) (t : TS) : Prop :=
  ∀ (pins : List (Addr × Obj)) (s : Shared) (σ : St) (H : Hp) (D : Ends), Inv X pins σ H s → t D σ H → wpAny (model X.prog X.w) X.A (execs st X.env) (SP X pins D) X.xe s
theorem thn {α : Type} {t : Sem α} {Q Q' : α → Shared → Prop} {M : Model} {A : Around} {E : Value → Shared → Prop} {s : Shared} (h : wpAny M A t Q E s) (hQ : ∀ a s, Q a s → Q' a s) : wpAny M A t Q' E s := wpAny_mono h hQ fun _ _ x => x
end L2
namespace L2
open PySem PySem.Spec PyProof.Rows
section
variable {X : Cx}
theorem bin {a b : Expr} {ta tb : TE} (ha : PE X a ta) (hb : PE X b tb) {pins : List (Addr × Obj)} {s : Shared} {σ : St} {H : Hp} {R : V → V → Hp → Prop} (I : Inv X pins σ H s) (h : ta σ H fun x H1 => tb σ H1 fun y H2 => R x y H2)
    {α : Type} {Q : α → Shared → Prop} {f : Value → Value → Sem α}
    (hf : ∀ v u s2 x y H2, Inv X pins σ H2 s2 → RelV x v → RelV y u → R x y H2 → wpAny (model X.prog X.w) X.A (f v u) Q X.xe s2) :
    wpAny (model X.prog X.w) X.A (eval a X.env) (fun v s₁ => wpAny (model X.prog X.w) X.A (eval b X.env) (fun u s₂ => wpAny (model X.prog X.w) X.A (f v u) Q X.xe s₂) X.xe s₁) X.xe s := by
  refine thn (ha pins s σ H _ I h) fun v s1 ⟨x, H1, I1, r1, q1⟩ => ?_
  refine thn (hb pins s1 σ H1 _ I1 q1) fun u s2 ⟨y, H2, I2, r2, q2⟩ => ?_
  exact hf v u s2 x y H2 I2 r1 r2 q2
def tVar (i : Nat) : TE := fun σ H Q => ∃ v, σ[i]? = some (some v) ∧ Q v H
def tC (v : V) : TE := fun _ H Q => Q v H
theorem pe_var {i : Nat} {x : Str} {pos : Pos} (hN : X.N[i]? = some x) (hv : Vis X.env.scope x) (hd : (x == ("__debug__" : Str)) = false := by decide) (hcd : (x == ("__classdict__" : Str)) = false := by decide) : PE X (.Name x pos) (tVar i) := by
  intro pins s σ H Q I h
  obtain ⟨v, e, h⟩ := h
  obtain ⟨m, hn, hl⟩ := I.loc
  obtain ⟨u, r, l⟩ := hl i x v hN e hv
  have fin : EP X pins σ Q u s := ⟨v, H, I, r, h⟩
  rcases l with ⟨hk, hm⟩ | ⟨hk, c, hc, hcell⟩
  · exact wpAny_Name (wpAny_loadName_local I.ok.kind hk hn hm fin) hd
  · rcases hk with hk | hk
    · exact wpAny_Name (wpAny_loadName_cell I.ok.kind hk hc hcell fin) hd
    · exact wpAny_Name (wpAny_loadName_free I.ok.kind hk hc hcell fin hcd) hd
theorem pe_int {i j pos} : PE X (.Constant (.int i) j pos) (tC (.int i)) := fun _ _ _ H _ I h => wpAny_Constant_int ⟨.int i, H, I.tok _, ⟨_, rfl⟩, h⟩
theorem pe_bl {b j pos} : PE X (.Constant (.bool b) j pos) (tC (.bl b)) := fun _ _ _ H _ I h => Constant_bool ⟨.bl b, H, I, rfl, h⟩
theorem pe_str {x j pos} : PE X (.Constant (.str x) j pos) (tC (.str x)) := fun _ _ _ H _ I h => Calls.Constant_str ⟨.str x, H, I.tok _, ⟨_, rfl⟩, h⟩
def Gl (X : Cx) (x : Str) : Prop := X.env.kindOf x = some .globalImplicit
theorem ld_glob {E : Value → Shared → Prop} {pins : List (Addr × Obj)} {s : Shared} {σ : St} {H : Hp} {x : Str} {u : Value} {pos : Pos} {Q : Value → Shared → Prop} (I : Inv X pins σ H s) (hg : Gl X x) (hm : X.mg x = some u) (h : Q u s)
    (hd : (x == ("__debug__" : Str)) = false := by decide) : wpAny (model X.prog X.w) X.A (eval (.Name x pos) X.env) Q E s :=
  Calls.Name_function_global I.ok.kind hg (Calls.loadGlobal_global (by rw [I.ok.glob]; exact I.mod.glob.keeps I.bk) hm h) hd
theorem ld_blt {E : Value → Shared → Prop} {pins : List (Addr × Obj)} {s : Shared} {σ : St} {H : Hp} {x : Str} {u : Value} {pos : Pos} {Q : Value → Shared → Prop} (I : Inv X pins σ H s) (hg : Gl X x) (hm : X.mg x = none) (hv : bootBuiltins x = some u) (h : Q u s)
    (hn : x ≠ "__name__" := by decide) (hd : (x == ("__debug__" : Str)) = false := by decide) : wpAny (model X.prog X.w) X.A (eval (.Name x pos) X.env) Q E s := by
  obtain ⟨mb, h1, h2⟩ := I.mod.blt
  exact Calls.Name_function_global I.ok.kind hg (Calls.loadGlobal_builtin (by rw [I.ok.glob]; exact I.mod.glob.keeps I.bk) hm (by rw [I.ok.blt]; exact h1.keeps I.bk) ((h2 x hn).trans hv) h) hd
theorem pe_glob {x : Str} {v : V} {u : Value} {pos : Pos} (hg : Gl X x) (hm : X.mg x = some u) (r : RelV v u) (hd : (x == ("__debug__" : Str)) = false := by decide) : PE X (.Name x pos) (tC v) :=
  fun _ _ _ H _ I h => ld_glob I hg hm ⟨v, H, I, r, h⟩ hd
theorem pe_bltn {x : Str} {v : V} {u : Value} {pos : Pos} (hg : Gl X x) (hm : X.mg x = none) (hv : bootBuiltins x = some u) (r : RelV v u) (hn : x ≠ "__name__" := by decide) (hd : (x == ("__debug__" : Str)) = false := by decide) : PE X (.Name x pos) (tC v) :=
  fun _ _ _ H _ I h => ld_blt I hg hm hv ⟨v, H, I, r, h⟩ hn hd
variable {a b : Expr} {ta tb : TE} {pos : Pos}
variable {tA tB' : TT} {rest : List Expr}
def tOr (t u : TT) : TT := fun σ H Q => t σ H fun c H1 => if c = true then Q true H1 else u σ H1 Q
def tNot (t : TT) : TT := fun σ H Q => t σ H fun c H1 => Q (!c) H1
theorem pw_or1 (ha : PT X a tA) : PW X (.BoolOp .Or [a] pos) tA := by
  intro wh pins s σ H Q I h
  refine isTrue_or (thn (ha pins s σ H Q I h) fun c s1 e => ?_)
  cases c with
  | false => exact isTrue_or_nil e
  | true => exact e
theorem pw_or (ha : PT X a tA) (hb : PW X (.BoolOp .Or (b :: rest) pos) tB') : PW X (.BoolOp .Or (a :: b :: rest) pos) (tOr tA tB') := by
  intro wh pins s σ H Q I h
  refine isTrue_or (thn (ha pins s σ H _ I h) fun c s1 ⟨H1, I1, q1⟩ => ?_)
  cases c with
  | true => exact ⟨H1, I1, q1⟩
  | false => exact hb wh pins s1 σ H1 Q I1 q1
theorem pt_not (ha : PT X a tA) : PT X (.UnaryOp .Not a pos) (tNot tA) := by
  intro pins s σ H Q I h
  exact isTrue_not (ha pins s σ H (fun c H1 => Q (!c) H1) I h)
def tAndV (ta tb : TE) : TE := fun σ H Q => ta σ H fun x H1 => ∃ c, x = .bl c ∧ if c = true then tb σ H1 Q else Q (.bl false) H1
theorem pe_one {op} {t : TE} (h : PE X a t) : PE X (.BoolOp op [a] pos) t := fun pins s σ H Q I hw => BoolOp_one (h pins s σ H Q I hw)
theorem pe_and (ha : PE X a ta) (hb : PE X (.BoolOp .And (b :: rest) pos) tb) : PE X (.BoolOp .And (a :: b :: rest) pos) (tAndV ta tb) := by
  intro pins s σ H Q I h
  refine BoolOp_and (thn (ha pins s σ H _ I h) fun v s1 ⟨x, H1, I1, r1, q1⟩ => ?_)
  obtain ⟨c, rfl, q1⟩ := q1
  cases r1
  refine wpAny_truthy_bool ?_
  cases c with
  | true => exact hb pins s1 σ H1 Q I1 q1
  | false => exact ⟨.bl false, H1, I1, rfl, q1⟩
end
end L2
namespace L2
open PySem PySem.Spec PyProof.Rows
def SqL (K : PySem.W.Frag) (H : Hp) (a : Addr) (xs : List V) : Prop :=
  Rd H a (.lst xs) ∨
    ∃ (o : Obj) (its : Array Value) (n : Nat), K.lookup a = some o ∧ o.cls = .type "list" ∧ o.dict = none ∧ o.data = .seq its n ∧ its.size ≤ sizeLine ∧ Vals xs its.toList
def SqT (K : PySem.W.Frag) (H : Hp) (a : Addr) (xs : List V) : Prop :=
  Rd H a (.tup xs) ∨
    ∃ (o : Obj) (its : Array Value) (n : Nat), K.lookup a = some o ∧ o.cls = .type "tuple" ∧ o.data = .seq its n ∧ its.size ≤ sizeLine ∧ Vals xs its.toList
def absV : Value → Option V
  | .none => some .non
  | .bool b => some (.bl b)
  | .int i _ => some (.int i)
  | .str x _ => some (.str x)
  | .bytes b _ => some (.byt b)
  | .float b _ => some (.flt b)
  | .ref a => some (.ref a)
  | .type n => some (.ty n)
  | _ => none
theorem RelV.abs {x : V} {u : Value} (r : RelV x u) : absV u = some x := by
  cases x with
  | non => cases r; rfl
  | bl _ => cases r; rfl
  | int _ => obtain ⟨t, rfl⟩ := r; rfl
  | str _ => obtain ⟨t, rfl⟩ := r; rfl
  | byt _ => obtain ⟨t, rfl⟩ := r; rfl
  | flt _ => obtain ⟨t, rfl⟩ := r; rfl
  | ref _ => cases r; rfl
  | ty _ => cases r; rfl
theorem RelV.inj {x y : V} {u : Value} (r : RelV x u) (q : RelV y u) : x = y := Option.some.inj (r.abs.symm.trans q.abs)
theorem Vals.inj : ∀ {xs ys : List V} {us : List Value}, Vals xs us → Vals ys us → xs = ys
  | _, _, _, .nil, .nil => rfl
  | _, _, _, .cons r t, .cons r' t' => by rw [r.inj r', Vals.inj t t']
section
variable {X : Cx} {pins : List (Addr × Obj)} {σ : St} {H : Hp} {s : Shared} {a : Addr} {xs ys : List V}
theorem SqL.of {K : PySem.W.Frag} (h : H a = some (.lst xs)) : SqL K H a xs := .inl (.inl h)
theorem SqT.of {K : PySem.W.Frag} (h : H a = some (.tup xs)) : SqT K H a xs := .inl (.inl h)
theorem Inv.list (I : Inv X pins σ H s) (h : SqL X.K H a xs) : ∃ its : List Value, Vals xs its ∧ PlainL s.heap a its.toArray ∧ xs.length ≤ sizeLine := by
  rcases h with h | ⟨o, its, n, hk, hc, hd, hs, hz, r⟩
  · obtain ⟨z, its, n, r, e⟩ := h.ok I.hok
    exact ⟨its, r, ⟨_, n, e, rfl, rfl, rfl⟩, z⟩
  · refine ⟨its.toList, r, ⟨o, n, I.kIn a o hk, hc, hd, by simpa using hs⟩, ?_⟩
    have e := r.length
    simp only [Array.length_toList] at e
    omega
theorem Inv.tuple (I : Inv X pins σ H s) (h : SqT X.K H a xs) : ∃ its : List Value, Vals xs its ∧ IsTup s.heap a its.toArray ∧ xs.length ≤ sizeLine := by
  rcases h with h | ⟨o, its, n, hk, hc, hs, hz, r⟩
  · obtain ⟨z, its, r, p⟩ := h.ok I.hok
    exact ⟨its, r, p, z⟩
  · refine ⟨its.toList, r, ⟨o, I.kIn a o hk, hc, n, by simpa using hs⟩, ?_⟩
    have e := r.length
    simp only [Array.length_toList] at e
    omega
theorem Inv.list_inj (I : Inv X pins σ H s) (h : SqL X.K H a xs) (h' : SqL X.K H a ys) : xs = ys := by
  obtain ⟨its, r, ⟨o, n, e, _, _, d⟩, _⟩ := I.list h
  obtain ⟨its', r', ⟨o', n', e', _, _, d'⟩, _⟩ := I.list h'
  rw [e] at e'; cases e'
  rw [d] at d'
  injection d' with d1 _
  have : its = its' := by simpa using congrArg Array.toList d1
  subst this
  exact r.inj r'
theorem Inv.tuple_inj (I : Inv X pins σ H s) (h : SqT X.K H a xs) (h' : SqT X.K H a ys) : xs = ys := by
  obtain ⟨its, r, ⟨o, e, _, n, d⟩, _⟩ := I.tuple h
  obtain ⟨its', r', ⟨o', e', _, n', d'⟩, _⟩ := I.tuple h'
  rw [e] at e'; cases e'
  rw [d] at d'
  injection d' with d1 _
  have : its = its' := by simpa using congrArg Array.toList d1
  subst this
  exact r.inj r'
end
abbrev Cx.wish (X : Cx) (E : Value → Shared → Prop) : Cx := { X with xe := E }
abbrev Cx.nox (X : Cx) : Cx := X.wish fun _ _ => False
theorem Cx.Ok.wish {X : Cx} (ok : X.Ok) (E : Value → Shared → Prop) : (X.wish E).Ok :=
  ⟨ok.mod, ok.kind, ok.glob, ok.blt, ok.above, ok.inj, ok.has, ok.cab, ok.hd, ok.frames, ok.stk, ok.exf, ok.bs, ok.bsz, ok.noex, ok.exfs, ok.funs, ok.frf⟩
theorem Cx.Ok.unwish {X : Cx} {E : Value → Shared → Prop} (ok : (X.wish E).Ok) : X.Ok :=
  ⟨ok.mod, ok.kind, ok.glob, ok.blt, ok.above, ok.inj, ok.has, ok.cab, ok.hd, ok.frames, ok.stk, ok.exf, ok.bs, ok.bsz, ok.noex, ok.exfs, ok.funs, ok.frf⟩
section
variable {X : Cx} {pins : List (Addr × Obj)} {σ : St} {H : Hp} {s : Shared} {E : Value → Shared → Prop}
theorem Inv.wish (I : Inv X pins σ H s) (E : Value → Shared → Prop) : Inv (X.wish E) pins σ H s := ⟨I.ok.wish E, I.os, I.bare, I.base, I.loc, I.cell, I.free, I.freeC, I.pin, I.hok, I.len⟩
theorem Inv.unwish (I : Inv (X.wish E) pins σ H s) : Inv X pins σ H s := ⟨I.ok.unwish, I.os, I.bare, I.base, I.loc, I.cell, I.free, I.freeC, I.pin, I.hok, I.len⟩
theorem SP.unwish {D : Ends} {f : Flow} {s' : Shared} (h : SP (X.wish E) pins D f s') : SP X pins D f s' := by
  cases f with
  | next => obtain ⟨σ', H', I, q⟩ := h; exact ⟨σ', H', I.unwish, q⟩
  | brk => obtain ⟨σ', H', I, q⟩ := h; exact ⟨σ', H', I.unwish, q⟩
  | cont => obtain ⟨σ', H', I, q⟩ := h; exact ⟨σ', H', I.unwish, q⟩
  | ret u => obtain ⟨v, σ', H', I, r, q⟩ := h; exact ⟨v, σ', H', I.unwish, r, q⟩
theorem PSs.nox {st : List Stmt} {t : TS} (h : PSs X.nox st t) : PSs X st t := fun pins s σ H D I hw =>
  wpAny_mono (h pins s σ H D (I.wish _) hw) (fun _ _ q => q.unwish) fun _ _ z => False.elim z
end
section
variable {X : Cx} {st : Stmt} {rest : List Stmt} {t u : TS} {e : Expr} {te : TE} {pos : Pos}
def tNext : TS := fun D σ H => D.nx σ H
def tSeq (t u : TS) : TS := fun D σ H => t { D with nx := u D } σ H
theorem pss_nil : PSs X [] tNext := fun _ _ σ H _ I h => wpAny_execs_nil ⟨σ, H, I, h⟩
theorem pss_cons (h1 : PS X st t) (h2 : PSs X rest u) : PSs X (st :: rest) (tSeq t u) := by
  intro pins s σ H D I h
  refine wpAny_execs_cons (thn (h1 pins s σ H { D with nx := u D } I h) fun f s1 q => ?_)
  cases f with
  | next =>
    obtain ⟨σ', H', I', q⟩ := q
    exact h2 pins s1 σ' H' D I' q
  | ret v => exact q
  | brk => exact q
  | cont => exact q
theorem pss_one (h1 : PS X st t) : PSs X [st] t := by
  intro pins s σ H D I h
  refine wpAny_execs_cons (thn (h1 pins s σ H D I h) fun f s1 q => ?_)
  cases f with
  | next => exact wpAny_execs_nil q
  | ret v => exact q
  | brk => exact q
  | cont => exact q
theorem Inv.quiet {pins : List (Addr × Obj)} {σ : St} {H : Hp} {s : Shared} (I : Inv X pins σ H s) : interactive X.env = false := by simp [interactive, I.ok.kind]
def tDrop (te : TE) : TS := fun D σ H => te σ H fun _ H1 => D.nx σ H1
theorem ps_expr (he : PE X e te) (hs : swapsWith e none pos.line X.env = pure false := by rfl) : PS X (.Expr e pos) (tDrop te) := by
  intro pins s σ H D I h
  exact wpAny_Expr_any (thn (he pins s σ H _ I h) fun v s1 ⟨x, H1, I1, r1, q1⟩ => ⟨σ, H1, I1, q1⟩) I.quiet hs
def tRet (te : TE) : TS := fun D σ H => te σ H D.rt
theorem ps_ret (he : PE X e te) : PS X (.Return (some e) pos) (tRet te) := by
  intro pins s σ H D I h
  exact wpAny_Return_some (thn (he pins s σ H _ I h) fun v s1 ⟨x, H1, I1, r1, q1⟩ => ⟨x, σ, H1, I1, r1, q1⟩)
def tIfS (c : TT) (t u : TS) : TS := fun D σ H => c σ H fun b H1 => if b = true then t D σ H1 else u D σ H1
theorem ps_if {c : Expr} {a b : List Stmt} {tc : TT} (hc : PT X c tc) (ha : PSs X a t) (hb : PSs X b u) : PS X (.If c a b pos) (tIfS tc t u) := by
  intro pins s σ H D I h
  refine wpAny_If (thn (hc pins s σ H _ I h) fun d s1 ⟨H1, I1, q1⟩ => ?_)
  cases d with
  | true => exact ha pins s1 σ H1 D I1 q1
  | false => exact hb pins s1 σ H1 D I1 q1
def tNever : TS := fun _ _ _ => False
theorem pss_never {sts : List Stmt} : PSs X sts tNever := fun _ _ _ _ _ _ h => h.elim
end
abbrev TG := V → St → Hp → (St → Hp → Prop) → Prop
def PG (X : Cx) (target : Expr) (t : TG) : Prop :=
  ∀ (pins : List (Addr × Obj)) (s : Shared) (σ : St) (H : Hp) (v : V) (u : Value) (Q : St → Hp → Prop), Inv X pins σ H s → RelV v u → t v σ H Q →
    wpAny (model X.prog X.w) X.A (assign target X.env u) (fun _ s' => ∃ σ' H', Inv X pins σ' H' s' ∧ Q σ' H') X.xe s
section
variable {X : Cx} {pos : Pos}
def gName (i : Nat) : TG := fun v σ H Q => Q (σ.set i (some v)) H
theorem pg_name {i : Nat} {x : Str} (hN : X.N.Nodup) (hi : X.N[i]? = some x) (hx : Loc X.env.scope x) (hf : X.fn x = true ∨ X.env.scope.names.lookup x = some .local := by first | exact .inl rfl | exact .inr rfl | assumption) : PG X (.Name x pos) (gName i) := by
  intro pins s σ H v u Q I r h
  exact wpAny_assign_Name (store_ok I hN hi hx r (fun s' I' => ⟨_, H, I', h⟩) hf)
def tAsg (te : TE) (g : TG) : TS := fun D σ H => te σ H fun x H1 => g x σ H1 D.nx
theorem ps_set {i : Nat} {x : Str} {e : Expr} {te : TE} {pos' : Pos} (hN : X.N.Nodup) (hi : X.N[i]? = some x) (hx : Loc X.env.scope x) (he : PE X e te) (hs : swapsWith e (some (.Name x pos')) pos.line X.env = pure false := by rfl) (hf : X.fn x = true ∨ X.env.scope.names.lookup x = some .local := by first | exact .inl rfl | exact .inr rfl | assumption) :
    PS X (.Assign [.Name x pos'] e pos) (tAsg te (gName i)) := by
  intro pins s σ H D I h
  refine wpAny_Assign_Name (thn (he pins s σ H _ I h) fun v s1 ⟨y, H1, I1, r1, q1⟩ => ?_) hs
  exact store_ok I1 hN hi hx r1 (fun s2 I2 => ⟨_, H1, I2, q1⟩) hf
end
section
variable {X : Cx} {pos : Pos}
end
structure It where
  go : Nat → Hp → Prop
  yld : Nat → Hp → V → Hp → Prop
  stop : Nat → Hp → Prop
def FpOk (X : Cx) (pins : List (Addr × Obj)) (H : Hp) (b : Addr) : Prop :=
  H b = none ∧ b ≠ X.env.locals ∧ b ∉ X.fs ∧ (b ∈ X.ex ∨ X.s₀.heap.objs.size ≤ b) ∧ (∀ x c, X.env.cells.lookup x = some c → c ≠ b) ∧ ∀ p ∈ X.pn ++ pins, p.1 ≠ b
theorem Inv.fpOk {X : Cx} {pins : List (Addr × Obj)} {σ : St} {H H' : Hp} {s : Shared} {b : Addr} (I : Inv X pins σ H s) (hb : s.heap.objs.size ≤ b) (hn : H' b = none) : FpOk X pins H' b := by
  refine ⟨hn, Nat.ne_of_gt (Nat.lt_of_lt_of_le I.lt hb), I.nofs hb, .inr (Nat.le_trans I.sz hb), fun x c e z => ?_, fun p hp z => ?_⟩
  · obtain ⟨v, q⟩ := I.cell x c e
    exact absurd (Nat.lt_of_lt_of_le q.lt (by rw [z]; exact hb)) (Nat.lt_irrefl _)
  · exact absurd (Nat.lt_of_lt_of_le (Heap.lt_size (I.pin p hp).1) (by rw [z]; exact hb)) (Nat.lt_irrefl _)
structure Turn (P : Program) (w : World) (K : PySem.W.Frag) (tg : Expr) (J : It) (fp : List Addr) (it : Addr) (tn : Nat → Heap → Prop) : Prop where
  mem : it ∈ fp
  obj : ∀ i h, tn i h → ∀ b ∈ fp, ∃ o, h.get? b = some o ∧ ∀ v, o.data ≠ .cell v
  keep : ∀ i h h', tn i h → (∀ b ∈ fp, ∀ o, h.get? b = some o → h'.get? b = some o) → tn i h'
  item : ∀ (X : Cx), X.prog = P → X.w = w → X.K = K → X.calm = true → ∀ (i : Nat) (pins : List (Addr × Obj)) (s : Shared) (σ : St) (H : Hp) (E : Value → Shared → Prop), Inv X pins σ H s → (∀ b ∈ fp, FpOk X pins H b) → tn i s.heap → J.go i H →
    wpAny (model P w) X.A (pyNext (.ref it)) (fun r s1 => ∃ u, r = some u ∧
      wpAny (model P w) X.A (letOwnedTupleGo tg (.ref it) u) (fun _ s2 => ∃ x H', Inv X pins σ H' s2 ∧ RelV x u ∧ J.yld i H x H' ∧ tn (i + 1) s2.heap ∧ ∀ b ∈ fp, H' b = none) E s1) E s
  done : ∀ (X : Cx), X.prog = P → X.w = w → X.K = K → X.calm = true → ∀ (i : Nat) (pins : List (Addr × Obj)) (s : Shared) (σ : St) (H : Hp) (E : Value → Shared → Prop), Inv X pins σ H s → (∀ b ∈ fp, FpOk X pins H b) → tn i s.heap → J.stop i H →
    wpAny (model P w) X.A (pyNext (.ref it)) (fun r s1 => r = none ∧ Inv X pins σ H s1) E s
  self : ∀ (A : Around) (i : Nat) (s : Shared) (Q : Value → Shared → Prop) (E : Value → Shared → Prop), tn i s.heap → Q (.ref it) s → wpAny (model P w) A (pyIter (.ref it)) Q E s
abbrev TI := St → Hp → (It → Hp → Prop) → Prop
def PIE (X : Cx) (pins : List (Addr × Obj)) (σ : St) (tg : Expr) (R : It → Hp → Prop) (itv : Value) (s2 : Shared) : Prop :=
  ∃ (it : Addr) (fp : List Addr) (tn : Nat → Heap → Prop) (J : It) (H' : Hp), itv = .ref it ∧ Inv X pins σ H' s2 ∧ Turn X.prog X.w X.K tg J fp it tn ∧ tn 0 s2.heap ∧ (∀ b ∈ fp, FpOk X pins H' b) ∧ R J H'
def PI (X : Cx) (tg iter : Expr) (wi : TI) : Prop :=
  ∀ (pins : List (Addr × Obj)) (s : Shared) (σ : St) (H : Hp) (R : It → Hp → Prop), Inv X pins σ H s → wi σ H R →
    wpAny (model X.prog X.w) X.A (eval iter X.env) (fun v s1 => wpAny (model X.prog X.w) X.A (pyIter v) (PIE X pins σ tg R) X.xe s1) X.xe s
theorem go_of {M : Model} {A : Around} {E : Value → Shared → Prop} {s : Shared} {tg : Expr} {it : Addr} {u : Value} {o : Obj} {n : String} {vs : Array Value} {Q : Unit → Shared → Prop} (ho : s.heap.get? it = some o) (hc : o.cls = .type n) (hd : o.data = .fields vs)
    (hn : ["enumerate", "zip", "dict_itemiterator", "dict_reverseitemiterator", "odict_iterator", "itertools.zip_longest", "itertools.pairwise"].contains n = false) (hQ : Q () s) : wpAny M A (letOwnedTupleGo tg (.ref it) u) Q E s := by
  unfold letOwnedTupleGo
  cases tg <;> first
    | exact wpAny_pure hQ
    | (cases u <;> first
        | exact wpAny_pure hQ
        | (refine wpAny_bind (wpAny_load ho ?_)
           rw [hc, hd]
           show wpAny M A (if (["enumerate", "zip", "dict_itemiterator", "dict_reverseitemiterator", "odict_iterator", "itertools.zip_longest", "itertools.pairwise"].contains n && vs[0]? == some (rawInt _)) = true then _ else _) Q E s
           rw [if_neg (by intro h; rw [hn, Bool.false_and] at h; cases h)]
           exact wpAny_pure hQ))
def Itl (K : PySem.W.Frag) (a : Addr) : It :=
  ⟨fun i H => ∃ xs x, SqL K H a xs ∧ xs[i]? = some x, fun i H x H' => H' = H ∧ ∀ xs, SqL K H a xs → xs[i]? = some x, fun i H => ∃ xs, SqL K H a xs ∧ xs.length ≤ i⟩
def Itt (K : PySem.W.Frag) (a : Addr) : It :=
  ⟨fun i H => ∃ xs x, SqT K H a xs ∧ xs[i]? = some x, fun i H x H' => H' = H ∧ ∀ xs, SqT K H a xs → xs[i]? = some x, fun i H => ∃ xs, SqT K H a xs ∧ xs.length ≤ i⟩
def Itr (lo : Int) (n : Nat) : It := ⟨fun i _ => i < n, fun i H x H' => H' = H ∧ x = .int (lo + i), fun i _ => n ≤ i⟩
theorem turn_list {P : Program} {w : World} {K : PySem.W.Frag} {tg : Expr} (a it : Addr) : Turn P w K tg (Itl K a) [it] it (fun i h => h.IsListIter it a i) where
  mem := by simp
  obj := fun i h st b hb => by
    have e : b = it := by simpa using hb
    subst e
    obtain ⟨o, e, c, d⟩ := st
    exact ⟨o, e, fun v z => by rw [d] at z; cases z⟩
  keep := fun i h h' st k => st.at fun o e => k it (by simp) o e
  item := by
    intro X hP hw hK hc i pins s σ H E I hf st hg
    subst hP hw hK
    obtain ⟨xs, x, hq, hx⟩ := hg
    obtain ⟨its, rv, p, hz⟩ := I.list hq
    obtain ⟨u, hu, ru⟩ := rv.get hx
    obtain ⟨f0, f1, f2, f3, f4, f5⟩ := hf it (by simp)
    refine wpAny_pyNext_list_item st p.isList (x := u) (by simpa using hu) fun h' st' sb => ?_
    have I1 : Inv X pins σ H { s with heap := h' } := I.turned (t' := s.toks) (fun b o hb e => (sb.2 b hb).trans e) f0 f1 f3 f4 f5
    obtain ⟨o, e, c, d⟩ := id st'
    exact ⟨u, rfl, go_of (s := { s with heap := h' }) e c d (by decide) ⟨x, H, I1, ru, ⟨rfl, fun ys hy => by rw [I.list_inj hy hq]; exact hx⟩, st', fun b hb => (hf b hb).1⟩⟩
  done := by
    intro X hP hw hK hc i pins s σ H E I hf st hg
    subst hP hw hK
    obtain ⟨xs, hq, hx⟩ := hg
    obtain ⟨its, rv, p, hz⟩ := I.list hq
    obtain ⟨f0, f1, f2, f3, f4, f5⟩ := hf it (by simp)
    have hl := rv.length
    exact wpAny_pyNext_list_end (I.ok.hd hc) st p.isList (by simp; omega) fun h' eb => ⟨rfl, I.turned (t' := s.toks) (fun b o hb e => eb b o hb e) f0 f1 f3 f4 f5⟩
  self := fun _ _ _ _ _ st h => wpAny_pyIter_listiter st h
theorem turn_tuple {P : Program} {w : World} {K : PySem.W.Frag} {tg : Expr} (a it : Addr) : Turn P w K tg (Itt K a) [it] it (fun i h => h.IsTupleIter it a i) where
  mem := by simp
  obj := fun i h st b hb => by
    have e : b = it := by simpa using hb
    subst e
    obtain ⟨o, e, c, d⟩ := st
    exact ⟨o, e, fun v z => by rw [d] at z; cases z⟩
  keep := fun i h h' st k => st.at fun o e => k it (by simp) o e
  item := by
    intro X hP hw hK hc i pins s σ H E I hf st hg
    subst hP hw hK
    obtain ⟨xs, x, hq, hx⟩ := hg
    obtain ⟨its, rv, p, hz⟩ := I.tuple hq
    obtain ⟨u, hu, ru⟩ := rv.get hx
    obtain ⟨f0, f1, f2, f3, f4, f5⟩ := hf it (by simp)
    refine wpAny_pyNext_tuple_item st (show s.heap.IsTuple a its.toArray from p) (x := u) (by simpa using hu) fun h' st' sb => ?_
    have I1 : Inv X pins σ H { s with heap := h' } := I.turned (t' := s.toks) (fun b o hb e => (sb.2 b hb).trans e) f0 f1 f3 f4 f5
    obtain ⟨o, e, c, d⟩ := id st'
    exact ⟨u, rfl, go_of (s := { s with heap := h' }) e c d (by decide) ⟨x, H, I1, ru, ⟨rfl, fun ys hy => by rw [I.tuple_inj hy hq]; exact hx⟩, st', fun b hb => (hf b hb).1⟩⟩
  done := by
    intro X hP hw hK hc i pins s σ H E I hf st hg
    subst hP hw hK
    obtain ⟨xs, hq, hx⟩ := hg
    obtain ⟨its, rv, p, hz⟩ := I.tuple hq
    obtain ⟨f0, f1, f2, f3, f4, f5⟩ := hf it (by simp)
    have hl := rv.length
    exact wpAny_pyNext_tuple_end (I.ok.hd hc) st (show s.heap.IsTuple a its.toArray from p) (by simp; omega) fun h' eb => ⟨rfl, I.turned (t' := s.toks) (fun b o hb e => eb b o hb e) f0 f1 f3 f4 f5⟩
  self := fun _ _ _ _ _ st h => wpAny_pyIter_tupleiter st h
theorem turn_range {P : Program} {w : World} {K : PySem.W.Frag} {tg : Expr} (it : Addr) (lo : Int) (n : Nat) : Turn P w K tg (Itr lo n) [it] it (fun i h => IsRangeIter h it (lo + (i : Nat) * 1) ((n : Int) - (i : Nat)) 1) where
  mem := by simp
  obj := fun i h st b hb => by
    have e : b = it := by simpa using hb
    subst e
    exact ⟨_, st, fun v z => by
      have z' : Data.fields _ = Data.cell v := z
      cases z'⟩
  keep := fun i h h' st k => k it (by simp) _ st
  item := by
    intro X hP hw hK hc i pins s σ H E I hf st hg
    subst hP hw hK
    obtain ⟨f0, f1, f2, f3, f4, f5⟩ := hf it (by simp)
    have W := Walks.range (prog := X.prog) (w := X.w) (I.ok.hd hc) it lo 1 n
    refine W.item i s _ _ hg st fun v h' tk hv st' kk => ?_
    obtain ⟨t, rfl⟩ := hv
    have I1 : Inv X pins σ H { s with heap := h', toks := tk } := I.turned (fun b o hb e => kk b o (by simpa using hb) e) f0 f1 f3 f4 f5
    refine ⟨_, rfl, go_of (s := { s with heap := h', toks := tk }) (n := "range_iterator") st' rfl rfl (by decide) ⟨.int (lo + i), H, I1, ⟨t, ?_⟩, ⟨rfl, rfl⟩, st', fun b hb => (hf b hb).1⟩⟩
    rw [Int.mul_one]
  done := by
    intro X hP hw hK hc i pins s σ H E I hf st hg
    subst hP hw hK
    obtain ⟨f0, f1, f2, f3, f4, f5⟩ := hf it (by simp)
    exact wpAny_pyNext_range_end (I.ok.hd hc) st (by have : n ≤ i := hg; omega) fun h' eb => ⟨rfl, I.turned (t' := s.toks) (fun b o hb e => eb b o hb e) f0 f1 f3 f4 f5⟩
  self := fun _ _ _ _ _ st h => wpAny_pyIter_rangeiter st h
end L2
namespace L2
open PySem PySem.Spec PyProof.Rows
section
variable {X : Cx} {tg : Expr}
def iList (K : PySem.W.Frag) (tl : TE) : TI := fun σ H R => tl σ H fun x H1 => ∃ a, x = .ref a ∧ (∃ xs, SqL K H1 a xs) ∧ R (Itl K a) H1
def iTup (K : PySem.W.Frag) (tl : TE) : TI := fun σ H R => tl σ H fun x H1 => ∃ a, x = .ref a ∧ (∃ xs, SqT K H1 a xs) ∧ R (Itt K a) H1
theorem pi_list {l : Expr} {tl : TE} (hl : PE X l tl) : PI X tg l (iList X.K tl) := by
  intro pins s σ H R I h
  refine thn (hl pins s σ H _ I h) fun v s1 ⟨x, H1, I1, r1, q1⟩ => ?_
  obtain ⟨a, e, ⟨xs, hq⟩, q⟩ := q1
  subst e
  cases r1
  obtain ⟨its, rv, p, hz⟩ := I1.list hq
  refine wpAny_pyIter_list p.isList ?_
  refine ⟨s1.heap.objs.size, [s1.heap.objs.size], _, _, H1, rfl, I1.kept (t' := s1.toks) fun b o e => Heap.get?_push_of_some _ e, turn_list a _, ⟨_, Heap.get?_push_size _ rfl, rfl, rfl⟩, fun b hb => ?_, q⟩
  have e : b = s1.heap.objs.size := by simpa using hb
  subst e
  exact I1.fpOk (Nat.le_refl _) (I1.hok.fresh (Nat.le_refl _))
theorem pi_tup {l : Expr} {tl : TE} (hl : PE X l tl) : PI X tg l (iTup X.K tl) := by
  intro pins s σ H R I h
  refine thn (hl pins s σ H _ I h) fun v s1 ⟨x, H1, I1, r1, q1⟩ => ?_
  obtain ⟨a, e, ⟨xs, hq⟩, q⟩ := q1
  subst e
  cases r1
  obtain ⟨its, rv, p, hz⟩ := I1.tuple hq
  refine wpAny_pyIter_tuple (show s1.heap.IsTuple a its.toArray from p) ?_
  refine ⟨s1.heap.objs.size, [s1.heap.objs.size], _, _, H1, rfl, I1.kept (t' := s1.toks) fun b o e => Heap.get?_push_of_some _ e, turn_tuple a _, ⟨_, Heap.get?_push_size _ rfl, rfl, rfl⟩, fun b hb => ?_, q⟩
  have e : b = s1.heap.objs.size := by simpa using hb
  subst e
  exact I1.fpOk (Nat.le_refl _) (I1.hok.fresh (Nat.le_refl _))
theorem range_it {pins : List (Addr × Obj)} {σ : St} {H : Hp} {s : Shared} {R : It → Hp → Prop} {E : Value → Shared → Prop} {lo hi : Int} {t u v : Tok} {tk : Nat} (I : Inv X pins σ H s) (h1 : -(2 ^ 62) ≤ lo) (h2 : lo < 2 ^ 62) (h3 : -(2 ^ 62) ≤ hi) (h4 : hi < 2 ^ 62)
    (q : R (Itr lo (hi - lo).toNat) H) : wpAny (model X.prog X.w) X.A (pyIter (.ref s.heap.objs.size)) (PIE X pins σ tg R) E { s with heap := s.heap.push { cls := .type "range", data := .fields #[.int lo t, .int hi u, .int 1 v] }, toks := tk } := by
  refine wpAny_pyIter_range (IsRange.new ..) (small_one h1 h2 h3 h4) ?_
  have I1 : Inv X pins σ H { s with heap := s.heap.push { cls := .type "range", data := .fields #[.int lo t, .int hi u, .int 1 v] }, toks := tk } := I.kept fun b o e => Heap.get?_push_of_some _ e
  refine ⟨(s.heap.push { cls := .type "range", data := .fields #[.int lo t, .int hi u, .int 1 v] }).objs.size, [(s.heap.push { cls := .type "range", data := .fields #[.int lo t, .int hi u, .int 1 v] }).objs.size], _, _, H, rfl,
    I1.kept (t' := tk) fun b o e => Heap.get?_push_of_some _ e, turn_range _ lo (hi - lo).toNat, ?_, fun b hb => ?_, q⟩
  · have e1 : lo + ((0 : Nat) : Int) * 1 = lo := by simp
    have e2 : (((hi - lo).toNat : Nat) : Int) - ((0 : Nat) : Int) = Builtin.Range.rangeSize lo hi 1 := by rw [rangeSize_one]; split <;> omega
    show IsRangeIter _ _ (lo + ((0 : Nat) : Int) * 1) ((((hi - lo).toNat : Nat) : Int) - ((0 : Nat) : Int)) 1
    rw [e1, e2]
    exact Heap.get?_push_size _ rfl
  · have e : b = (s.heap.push { cls := .type "range", data := .fields #[.int lo t, .int hi u, .int 1 v] }).objs.size := by simpa using hb
    subst e
    exact I1.fpOk (Nat.le_refl _) (I1.hok.fresh (Nat.le_refl _))
def iRng1 (ta : TA) : TI := fun σ H R => ta σ H fun vs H1 => ∃ j : Int, vs = [.int j] ∧ -(2 ^ 62) ≤ j ∧ j < 2 ^ 62 ∧ R (Itr 0 j.toNat) H1
theorem pi_range1 {a : Expr} {ta : TA} {p pos : Pos} (hg : Gl X "range") (hm : X.mg "range" = none) (ha : PA X [a] ta) (hs : starEach [a] X.env = [(false, eval a X.env)] := by rfl) : PI X tg (.Call (.Name "range" p) [a] [] pos) (iRng1 ta) := by
  intro pins s σ H R I h
  refine Call_ (ld_blt I hg hm boot_range (PyProof.Rows.callWith_type1 (thn (ha pos pins s σ H _ I h) fun us s1 ⟨vs, H1, I1, r1, q1⟩ => ?_) hs rfl))
  obtain ⟨j, e, q1, q2, q⟩ := q1
  subst e
  cases r1 with
  | cons r rr =>
    cases rr
    obtain ⟨t, rfl⟩ := r
    exact call_range_1 (range_it I1 (by omega) (by omega) q1 q2 (by simpa using q))
def tFor (wi : TI) (g : TG) (tb : TS) : TS := fun D σ H => wi σ H fun J H1 => ∃ W : Nat → Nat → St → Hp → Prop, (∃ m, W 0 m σ H1) ∧ ∀ i m σ H, W i m σ H →
  (J.stop i H ∧ D.nx σ H) ∨ (J.go i H ∧ ∃ N : St → Hp → Prop, (∀ σ' H', N σ' H' → ∃ m', m' < m ∧ W (i + 1) m' σ' H') ∧ ∀ x H', J.yld i H x H' → g x σ H' fun σ2 H2 => tb { D with nx := N, ct := N, bk := D.nx } σ2 H2)
def pinsAt (fp : List Addr) (h : Heap) : List (Addr × Obj) := fp.filterMap fun b => (h.get? b).map fun o => (b, o)
theorem mem_pinsAt {fp : List Addr} {h : Heap} {b : Addr} {o : Obj} (hb : b ∈ fp) (e : h.get? b = some o) : (b, o) ∈ pinsAt fp h := List.mem_filterMap.mpr ⟨b, hb, by rw [e]; rfl⟩
theorem of_pinsAt {fp : List Addr} {h : Heap} {p : Addr × Obj} (hp : p ∈ pinsAt fp h) : p.1 ∈ fp ∧ h.get? p.1 = some p.2 := by
  obtain ⟨b, hb, e⟩ := List.mem_filterMap.mp hp
  cases q : h.get? b with
  | none => rw [q] at e; cases e
  | some o =>
    rw [q] at e
    have e' : (b, o) = p := Option.some.inj e
    subst e'
    exact ⟨hb, q⟩
theorem Inv.pinned {pins : List (Addr × Obj)} {σ : St} {H : Hp} {s : Shared} {fp : List Addr} (I : Inv X pins σ H s) (hf : ∀ b ∈ fp, FpOk X pins H b) (ho : ∀ b ∈ fp, ∃ o, s.heap.get? b = some o ∧ ∀ v, o.data ≠ .cell v) : Inv X (pins ++ pinsAt fp s.heap) σ H s :=
  I.pins_of fun p hp => (List.mem_append.mp hp).elim (fun z => I.pin p (List.mem_append_right _ z)) fun z => by
    obtain ⟨hb, e⟩ := of_pinsAt z
    obtain ⟨f0, f1, f2, _⟩ := hf p.1 hb
    obtain ⟨o, e', d⟩ := ho p.1 hb
    rw [e] at e'; cases e'
    exact ⟨e, f0, f1, f2, d⟩
theorem Inv.unpinned {pins pl : List (Addr × Obj)} {σ : St} {H : Hp} {s : Shared} (I : Inv X (pins ++ pl) σ H s) : Inv X pins σ H s := I.pins_of fun p hp => I.pin p (List.mem_append_right _ (List.mem_append_left _ hp))
theorem ps_for {iter : Expr} {body : List Stmt} {wi : TI} {g : TG} {tb : TS} {pos : Pos} (hp : PassesOwn (model X.prog X.w) X.A X.env X.xe) (hc : X.calm = true) (hi : PI X tg iter wi) (hg : PG X tg g) (hb : PSs X body tb)
    (hs : ∀ x, foldedSetIterable iter X.env x = pure x := by intro _; rfl) : PS X (.For tg iter body [] pos) (tFor wi g tb) := by
  intro pins s σ H D I h
  refine wpAny_For (thn (hi pins s σ H _ I h) fun v s1 h1 => thn h1 fun itv s2 h2 => ?_) hs
  obtain ⟨it, fp, tn, J, H2, e, I2, T, st2, f2, W, ⟨m0, w0⟩, turn⟩ := h2
  subst e
  have stat : ∀ {H' : Hp}, (∀ b ∈ fp, H' b = none) → ∀ b ∈ fp, FpOk X pins H' b := fun hn b hb => ⟨hn b hb, (f2 b hb).2⟩
  refine codeAny_forLoop_any (fun n s' => ∃ i σ' H', Inv X pins σ' H' s' ∧ tn i s'.heap ∧ (∀ b ∈ fp, H' b = none) ∧ W i n σ' H') ?_ m0 ⟨0, σ, H2, I2, st2, fun b hb => (f2 b hb).1, w0⟩
  rintro n s3 ⟨i, σ3, H3, I3, st3, fr3, w3⟩
  rcases turn i n σ3 H3 w3 with ⟨stop, qn⟩ | ⟨go, N, hN, step⟩
  · refine wpAny_passesOwn hp (thn (T.done X rfl rfl rfl hc i pins s3 σ3 H3 X.xe I3 (stat fr3) st3 stop) fun r s4 ⟨hr, I4⟩ => ?_)
    subst hr
    exact wpAny_execs_nil ⟨σ3, H3, I4, qn⟩
  · refine wpAny_passesOwn hp (thn (T.item X rfl rfl rfl hc i pins s3 σ3 H3 X.xe I3 (stat fr3) st3 go) fun r s4 ⟨u, hr, h4⟩ => ?_)
    subst hr
    refine wpAny_passesOwn hp (thn h4 fun _ s5 ⟨x, H5, I5, r5, y5, st5, fr5⟩ => ?_)
    have I5' := I5.pinned (stat fr5) (T.obj _ _ st5)
    refine wpAny_passesOwn hp (thn (hg _ s5 σ3 H5 x u _ I5' r5 (step x H5 y5)) fun _ s6 ⟨σ6, H6, I6, q6⟩ => ?_)
    refine wpAny_passesOwn hp (thn (hb _ s6 σ6 H6 _ I6 q6) fun f s7 q7 => ?_)
    have again : ∀ {σ7 : St} {H7 : Hp}, Inv X (pins ++ pinsAt fp s5.heap) σ7 H7 s7 → N σ7 H7 → ∃ m, m < n ∧ ∃ i σ' H', Inv X pins σ' H' s7 ∧ tn i s7.heap ∧ (∀ b ∈ fp, H' b = none) ∧ W i m σ' H' := fun {σ7 H7} I7 n7 => by
      obtain ⟨m', hm, w7⟩ := hN σ7 H7 n7
      refine ⟨m', hm, i + 1, σ7, H7, I7.unpinned, T.keep _ _ _ st5 fun b hb o e => (I7.pin (b, o) (List.mem_append_right _ (List.mem_append_right _ (mem_pinsAt hb e)))).1, fun b hb => ?_, w7⟩
      obtain ⟨o, e, d⟩ := T.obj _ _ st5 b hb
      exact (I7.pin (b, o) (List.mem_append_right _ (List.mem_append_right _ (mem_pinsAt hb e)))).2.1
    cases f with
    | next => obtain ⟨σ7, H7, I7, n7⟩ := q7; exact again I7 n7
    | cont => obtain ⟨σ7, H7, I7, n7⟩ := q7; exact again I7 n7
    | brk => obtain ⟨σ7, H7, I7, q7⟩ := q7; exact ⟨σ7, H7, I7.unpinned, q7⟩
    | ret v => obtain ⟨x7, σ7, H7, I7, r7, q7⟩ := q7; exact ⟨x7, σ7, H7, I7.unpinned, r7, q7⟩
end
end L2
namespace L2
open PySem PySem.Spec PyProof.Rows
abbrev R2 := V → V → Hp → VK → Prop
def OpR (X : Cx) (f : Value → Value → Sem Value) (r : R2) : Prop :=
  ∀ (pins : List (Addr × Obj)) (s : Shared) (σ : St) (H : Hp) (x y : V) (v u : Value) (Q : VK), Inv X pins σ H s → RelV x v → RelV y u → r x y H Q →
    wpAny (model X.prog X.w) X.A (f v u) (EP X pins σ Q) X.xe s
def CallR (X : Cx) (f : Value) (r : List V → Hp → VK → Prop) : Prop :=
  ∀ (pins : List (Addr × Obj)) (s : Shared) (σ : St) (H : Hp) (xs : List V) (us : List Value) (Q : VK), Inv X pins σ H s → Vals xs us → r xs H Q →
    wpAny (model X.prog X.w) X.A (call f us) (EP X pins σ Q) X.xe s
def TruR (X : Cx) (r : V → Hp → (Bool → Hp → Prop) → Prop) : Prop :=
  ∀ (pins : List (Addr × Obj)) (s : Shared) (σ : St) (H : Hp) (x : V) (v : Value) (Q : Bool → Hp → Prop), Inv X pins σ H s → RelV x v → r x H Q →
    wpAny (model X.prog X.w) X.A (truthy v) (TP X pins σ Q) X.xe s
def tOp (r : R2) (ta tb : TE) : TE := fun σ H Q => ta σ H fun x H1 => tb σ H1 fun y H2 => r x y H2 Q
def rI (C : Int → Int → Prop) (g : Int → Int → V) : R2 := fun x y H Q => ∃ i j, x = .int i ∧ y = .int j ∧ C i j ∧ Q (g i j) H
def rI0 (g : Int → Int → V) : R2 := fun x y H Q => ∃ i j, x = .int i ∧ y = .int j ∧ Q (g i j) H
section
variable {X : Cx} {a b c : Expr} {ta tb tc : TE} {pos : Pos}
theorem binT (ha : PE X a ta) (hb : PE X b tb) {pins : List (Addr × Obj)} {s : Shared} {σ : St} {H : Hp} {R : V → V → Hp → Prop} (I : Inv X pins σ H s)
    (h : ta σ H fun x H1 => tb σ H1 fun y H2 => R x y H2) {Q : Value → Shared → Prop} {f : Value → Value → Sem Value}
    (hf : ∀ v u s2 x y H2, Inv X pins σ H2 s2 → RelV x v → RelV y u → R x y H2 → wpAny (model X.prog X.w) X.A (f v u) Q X.xe s2) :
    wpAny (model X.prog X.w) X.A (eval a X.env) (fun v s₁ => wpAny (model X.prog X.w) X.A (eval b X.env) (fun u s₂ => wpAny (model X.prog X.w) X.A (f v u) Q X.xe s₂) X.xe s₁) X.xe s := by
  refine thn (ha pins s σ H _ I h) fun v s1 ⟨x, H1, I1, r1, q1⟩ => ?_
  refine thn (hb pins s1 σ H1 _ I1 q1) fun u s2 ⟨y, H2, I2, r2, q2⟩ => ?_
  exact hf v u s2 x y H2 I2 r1 r2 q2
theorem pe_op {op : Operator} {r : R2} (ho : OpR X (binaryOp op) r) (ha : PE X a ta) (hb : PE X b tb) : PE X (.BinOp a op b pos) (tOp r ta tb) := by
  intro pins s σ H Q I h
  exact wpAny_BinOp (binT ha hb I h fun v u s2 x y H2 I2 rx ry q => ho pins s2 σ H2 x y v u Q I2 rx ry q)
theorem opI {f : Value → Value → Sem Value} {C : Int → Int → Prop} {g : Int → Int → Int}
    (rule : ∀ (i j : Int) (t u : Tok) (s : Shared) (Q : Value → Shared → Prop) (E : Value → Shared → Prop), C i j → Q (.int (g i j) s.toks) { s with toks := s.toks + 1 } → wpAny (model X.prog X.w) X.A (f (.int i t) (.int j u)) Q E s) :
    OpR X f (rI C fun i j => .int (g i j)) := by
  intro pins s σ H x y v u Q I rx ry h
  obtain ⟨i, j, rfl, rfl, hc, q⟩ := h
  obtain ⟨t, rfl⟩ := rx
  obtain ⟨t', rfl⟩ := ry
  exact rule i j t t' s _ _ hc ⟨.int (g i j), H, I.tok _, ⟨_, rfl⟩, q⟩
theorem opI0 {f : Value → Value → Sem Value} {g : Int → Int → Int}
    (rule : ∀ (i j : Int) (t u : Tok) (s : Shared) (Q : Value → Shared → Prop) (E : Value → Shared → Prop), Q (.int (g i j) s.toks) { s with toks := s.toks + 1 } → wpAny (model X.prog X.w) X.A (f (.int i t) (.int j u)) Q E s) :
    OpR X f (rI0 fun i j => .int (g i j)) := by
  intro pins s σ H x y v u Q I rx ry h
  obtain ⟨i, j, rfl, rfl, q⟩ := h
  obtain ⟨t, rfl⟩ := rx
  obtain ⟨t', rfl⟩ := ry
  exact rule i j t t' s _ _ ⟨.int (g i j), H, I.tok _, ⟨_, rfl⟩, q⟩
theorem opB0 {f : Value → Value → Sem Value} {g : Int → Int → Bool}
    (rule : ∀ (i j : Int) (t u : Tok) (s : Shared) (Q : Value → Shared → Prop) (E : Value → Shared → Prop), Q (.bool (g i j)) s → wpAny (model X.prog X.w) X.A (f (.int i t) (.int j u)) Q E s) :
    OpR X f (rI0 fun i j => .bl (g i j)) := by
  intro pins s σ H x y v u Q I rx ry h
  obtain ⟨i, j, rfl, rfl, q⟩ := h
  obtain ⟨t, rfl⟩ := rx
  obtain ⟨t', rfl⟩ := ry
  exact rule i j t t' s _ _ ⟨.bl (g i j), H, I, rfl, q⟩
def CMul (i j : Int) : Prop := (-(2 ^ 64) < i ∧ i < 2 ^ 64) ∨ (-(2 ^ 64) < j ∧ j < 2 ^ 64)
theorem CMul.ok {i j : Int} (h : CMul i j) : IntMulOk i j := by
  rcases h with ⟨h1, h2⟩ | ⟨h1, h2⟩
  · exact .of_left (intBits_le_64 h1 h2)
  · exact .of_right (intBits_le_64 h1 h2)
theorem op_add : OpR X (binaryOp .Add) (rI0 fun i j => .int (i + j)) := opI0 fun _ _ _ _ _ _ _ q => add_int q
theorem op_mod : OpR X (binaryOp .Mod) (rI (fun _ j => 0 < j) fun i j => .int (i % j)) := opI fun i j _ _ _ _ _ hc q => by
  have h1 : (0 : Int) < j := hc
  exact mod_int' (by omega) (by rw [Int.fmod_eq_emod_of_nonneg i (by omega)]; exact q)
end
section
variable {X : Cx} {a b c : Expr} {ta tb tc : TE} {pos : Pos}
theorem op_lt : OpR X (compareOp .Lt) (rI0 fun i j => .bl (decide (i < j))) := opB0 fun _ _ _ _ _ _ _ q => lt_int q
theorem OpR.or {f : Value → Value → Sem Value} {r r' : R2} (h : OpR X f r) (h' : OpR X f r') : OpR X f (fun x y H Q => r x y H Q ∨ r' x y H Q) := by
  intro pins s σ H x y v u Q I rx ry q
  rcases q with q | q
  · exact h pins s σ H x y v u Q I rx ry q
  · exact h' pins s σ H x y v u Q I rx ry q
theorem nomark (b : Expr) {op : CmpOp} (h : op ≠ .In := by decide) (h2 : op ≠ .NotIn := by decide) : behindInMarks op b = false := by
  have e1 : (op == CmpOp.In) = false := by cases op <;> first | rfl | exact absurd rfl h
  have e2 : (op == CmpOp.NotIn) = false := by cases op <;> first | rfl | exact absurd rfl h2
  cases b <;> simp [behindInMarks, e1, e2]
theorem pe_cmpR {op : CmpOp} {r : R2} (ho : OpR X (compareOp op) r) (ha : PE X a ta) (hb : PE X b tb) (hm : behindInMarks op b = false) : PE X (.Compare a [op] [b] pos) (tOp r ta tb) := by
  intro pins s σ H Q I h
  exact wpAny_Compare1 (binT ha hb I h fun v u s2 x y H2 I2 rx ry q => ho pins s2 σ H2 x y v u Q I2 rx ry q) hm
def tTest (t : TE) : TT := fun σ H Q => t σ H fun x H' => ∃ k, x = .bl k ∧ Q k H'
theorem pt_cmpR {op : CmpOp} {r : R2} (ho : OpR X (compareOp op) r) (ha : PE X a ta) (hb : PE X b tb) (hm : behindInMarks op b = false) : PT X (.Compare a [op] [b] pos) (tTest (tOp r ta tb)) := by
  intro pins s σ H Q I h
  refine wpAny_isTrue_Compare1 (thn (ha pins s σ H _ I h) fun v s1 ⟨x, H1, I1, r1, q1⟩ => thn (hb pins s1 σ H1 _ I1 q1) fun u s2 ⟨y, H2, I2, r2, q2⟩ =>
    thn (ho pins s2 σ H2 x y v u _ I2 r1 r2 q2) fun c s3 ⟨z, H3, I3, r3, k, e, q3⟩ => ?_) hm
  subst e
  cases r3
  exact wpAny_truthy_bool ⟨H3, I3, q3⟩
def TruV (K : PySem.W.Frag) (x : V) (H : Hp) (k : Bool) : Prop :=
  match x with
  | .non => k = false
  | .bl b => k = b
  | .int i => k = (i != 0)
  | .str y => y.length ≤ sizeLine ∧ k = ((y.length : Int) != 0)
  | .byt y => y.size ≤ sizeLine ∧ k = ((y.size : Int) != 0)
  | .ref p => (∃ xs, SqL K H p xs ∧ k = !xs.isEmpty) ∨ (∃ xs, SqT K H p xs ∧ k = !xs.isEmpty) ∨ ∃ kvs, H p = some (.dK kvs) ∧ k = !kvs.isEmpty
  | _ => False
theorem isEmpty_kv {κ : Type} {kvs : List (κ × V)} {vs : List (κ × Value)} (r : KV kvs vs) : (!vs.isEmpty) = !kvs.isEmpty := by
  cases r <;> rfl
theorem isEmpty_of {xs : List V} {its : List Value} (r : Vals xs its) : (!its.toArray.isEmpty) = !xs.isEmpty := by
  cases r <;> simp
theorem line63 : (sizeLine : Nat) < 2 ^ 63 := by rw [sizeLine_eq]; decide
theorem tru_ok : TruR X (fun x H Q => ∃ k, TruV X.K x H k ∧ Q k H) := by
  intro pins s σ H x v Q I rx h
  obtain ⟨k, e, q⟩ := h
  have hl := line63
  have hs : sizeLine = 16777216 := sizeLine_eq
  cases x with
  | non =>
    cases rx
    have e' : k = false := e
    subst e'
    exact truthy_none ⟨H, I, q⟩
  | bl b =>
    cases rx
    have e' : k = b := e
    subst e'
    exact wpAny_truthy_bool ⟨H, I, q⟩
  | int i =>
    obtain ⟨t, rfl⟩ := rx
    have e' : k = (i != 0) := e
    subst e'
    exact PySem.P.truthy_int ⟨H, I, q⟩
  | str y =>
    obtain ⟨t, rfl⟩ := rx
    obtain ⟨hy, e'⟩ : y.length ≤ sizeLine ∧ k = ((y.length : Int) != 0) := e
    subst e'
    exact PySem.P.truthy_str (by omega) ⟨H, I.tok _, q⟩
  | byt y =>
    obtain ⟨t, rfl⟩ := rx
    obtain ⟨hy, e'⟩ : y.size ≤ sizeLine ∧ k = ((y.size : Int) != 0) := e
    subst e'
    exact PySem.W.truthy_bytes (by omega) ⟨H, I.tok _, q⟩
  | ref p =>
    cases rx
    have e' : (∃ xs, SqL X.K H p xs ∧ k = !xs.isEmpty) ∨ (∃ xs, SqT X.K H p xs ∧ k = !xs.isEmpty) ∨ ∃ kvs, H p = some (.dK kvs) ∧ k = !kvs.isEmpty := e
    rcases e' with ⟨xs, hx, e'⟩ | ⟨xs, hx, e'⟩ | ⟨kvs, hx, e'⟩
    · subst e'
      obtain ⟨its, r, pl, hz⟩ := I.list hx
      have hlen := r.length
      exact wpAny_truthy_list pl.isList (by simp only [List.size_toArray]; omega) ⟨H, I.tok _, by rw [isEmpty_of r]; exact q⟩
    · subst e'
      obtain ⟨its, r, pl, hz⟩ := I.tuple hx
      have hlen := r.length
      exact truthy_tuple pl (by simp only [List.size_toArray]; omega) ⟨H, I.tok _, by rw [isEmpty_of r]; exact q⟩
    · subst e'
      obtain ⟨hz, hS, vs, r, m⟩ : kvs.length ≤ sizeLine ∧ (p == sysModules) = false ∧ ∃ vs, KV kvs vs ∧ s.heap.DictOf (mixKind X.prog X.w) p vs := I.hok p _ hx
      have hlen : kvs.length = vs.length := Paired.length r
      exact wpAny_truthy_dict hS m (by omega) ⟨H, I.tok _, by rw [isEmpty_kv r]; exact q⟩
  | _ => exact (show False from e).elim
theorem pt_truth (ha : PE X a ta) (he : ∀ whole, isTrue a X.env whole = (do let v ← whole; standAt a.pos; holding [v] (truthy v))) :
    PT X a (fun σ H Q => ta σ H fun x H' => ∃ k, TruV X.K x H' k ∧ Q k H') := by
  intro pins s σ H Q I h
  exact isTrue_plain (thn (ha pins s σ H _ I h) fun v s1 ⟨x, H1, I1, r1, q1⟩ => tru_ok pins s1 σ H1 x v Q I1 r1 q1) (he _)
theorem op_add_str : OpR X (binaryOp .Add) (fun x y H Q => ∃ i j, x = .str i ∧ y = .str j ∧ i.length + j.length ≤ sizeLine ∧ Q (.str (i ++ j)) H) := by
  intro pins s σ H x y v u Q I rx ry h
  obtain ⟨i, j, rfl, rfl, hz, q⟩ := h
  obtain ⟨t, rfl⟩ := rx
  obtain ⟨t', rfl⟩ := ry
  exact add_str (fun t' tk => ⟨.str (i ++ j), H, I.tok _, ⟨_, rfl⟩, q⟩) hz
theorem vals1 {x : V} {us : List Value} (r : Vals [x] us) : ∃ u, us = [u] ∧ RelV x u := by
  cases r with
  | cons r1 r2 => cases r2; exact ⟨_, rfl, r1⟩
theorem vals2 {x y : V} {us : List Value} (r : Vals [x, y] us) : ∃ u w', us = [u, w'] ∧ RelV x u ∧ RelV y w' := by
  cases r with
  | cons r1 r2 =>
    cases r2 with
    | cons r3 r4 => cases r4; exact ⟨_, _, rfl, r1, r3⟩
theorem call_abs : CallR X (.builtin "abs") (fun xs H Q => ∃ i, xs = [.int i] ∧ Q (.int (if i < 0 then -i else i)) H) := by
  intro pins s σ H xs us Q I r h
  obtain ⟨i, rfl, q⟩ := h
  obtain ⟨u, rfl, t, rfl⟩ := vals1 r
  exact call_abs_int fun u tk => ⟨.int (if i < 0 then -i else i), H, I.tok _, ⟨_, rfl⟩, q⟩
theorem call_str_int : CallR X (.type "str") (fun xs H Q => ∃ i, xs = [.int i] ∧ i.natAbs.log2 < 1920 ∧ Q (.str (toString i)) H) := by
  intro pins s σ H xs us Q I r h
  obtain ⟨i, rfl, hz, q⟩ := h
  obtain ⟨u, rfl, t, rfl⟩ := vals1 r
  exact PySem.P.str_of_int hz ⟨.str _, H, I.tok _, ⟨_, rfl⟩, q⟩
end
end L2
namespace L2
open PySem PySem.Spec PyProof.Rows
structure ObjM (h : Heap) (x dx C : Addr) (mA : Str → Option Value) : Prop where
  obj : h.get? x = some (PySem.W.instObj C dx)
  ns : h.Ns1 dx mA
  ne : dx ≠ x
section
variable {prog : Program} {w : World} {A : Around} {E : Value → Shared → Prop} {s : Shared} {K : PySem.W.Frag} {x dx C f : Addr} {mA : Str → Option Value} {name : Str} {v : Value}
end
theorem RelO.some_of {v : V} {o : Option Value} (r : RelO (some v) o) : ∃ u, o = some u ∧ RelV v u := by
  cases o with
  | none => exact (show False from r).elim
  | some u => exact ⟨u, rfl, r⟩
theorem handed_of {v : V} {u : Value} (r : RelV v u) : PySem.W.handedIn u = true := by
  cases v with
  | non => cases (show u = Value.none from r); rfl
  | bl b => cases (show u = Value.bool b from r); rfl
  | int i => obtain ⟨t, e⟩ := (show ∃ t, u = Value.int i t from r); cases e; rfl
  | str x => obtain ⟨t, e⟩ := (show ∃ t, u = Value.str x t from r); cases e; rfl
  | byt b => obtain ⟨t, e⟩ := (show ∃ t, u = Value.bytes b t from r); cases e; rfl
  | flt b => obtain ⟨t, e⟩ := (show ∃ t, u = Value.float b t from r); cases e; rfl
  | ref a => cases (show u = Value.ref a from r); rfl
  | ty n => cases (show u = Value.type n from r); rfl
section
variable {P : Program} {w : World} {H H' : Hp} {h h' : Heap} {a C dx : Addr} {fs fs' : List (Str × V)}
end
structure Cls (K : PySem.W.Frag) (C : Addr) : Prop where
  pg : PySem.W.plainGet K C Str.empty = true
  hd : PySem.W.hasDictIn K C = true
  po : PySem.W.plainOver K C = true
  sa : PySem.W.findIn K (.ref C) "__setattr__" = some (some (.builtin "object.__setattr__"))
theorem Cls.get {K : PySem.W.Frag} {C : Addr} (c : Cls K C) (f : Str) : PySem.W.plainGet K C f = true := c.pg
structure Con (K : PySem.W.Frag) (C : Addr) (f : Str) (v : V) (u : Value) : Prop where
  at_ : PySem.W.findIn K (.ref C) f = some (some u)
  rel : RelV v u
  get : PySem.W.specialIn K u "__get__" = some none
  cp : PySem.W.copiedNames.contains f = false
structure Meth (K : PySem.W.Frag) (C : Addr) (m : Str) (f : Addr) : Prop where
  at_ : PySem.W.findIn K (.ref C) m = some (some (.ref f))
  fn : PySem.W.isFn K (.ref f) = true
  kp : PySem.W.keepIn K (.ref f) = true
section
variable {X : Cx} {pins : List (Addr × Obj)} {σ : St} {H : Hp} {s : Shared} {a C dx : Addr} {fs : List (Str × V)} {f : Str} {v : V} {A : Around} {E : Value → Shared → Prop}
theorem Inv.made (I : Inv X pins σ H s) : Inv X pins σ (upd (upd H s.heap.objs.size (.own (s.heap.objs.size + 1))) (s.heap.objs.size + 1) (.ins C s.heap.objs.size []))
    { s with heap := (s.heap.push PySem.W.emptyDict).push (PySem.W.instObj C s.heap.objs.size) } := by
  have e1 : (s.heap.push PySem.W.emptyDict).get? s.heap.objs.size = some PySem.W.emptyDict := Heap.get?_push_size s.heap rfl
  have e2 : ((s.heap.push PySem.W.emptyDict).push (PySem.W.instObj C s.heap.objs.size)).get? (s.heap.objs.size + 1) = some (PySem.W.instObj C s.heap.objs.size) := by
    have := Heap.get?_push_size (s.heap.push PySem.W.emptyDict) (o := PySem.W.instObj C s.heap.objs.size) rfl
    rwa [Heap.size_push] at this
  have e3 : (s.heap.push PySem.W.emptyDict).Ns s.heap.objs.size (fun _ => none) := ⟨PySem.W.emptyDict, #[], _, e1, rfl, (fun e he => absurd he (by simp)), fun _ => rfl⟩
  have I1 := I.laid (a := s.heap.objs.size) (o := .own (s.heap.objs.size + 1)) (h' := s.heap.push PySem.W.emptyDict) (t' := s.toks) (fun b u q => Heap.get?_push_of_some _ q) (Nat.le_refl _) ⟨_, e1⟩
  refine I1.laid (a := s.heap.objs.size + 1) (o := .ins C s.heap.objs.size []) (t' := s.toks) (fun b u q => Heap.get?_push_of_some _ q) (Nat.le_of_eq (Heap.size_push _ _)) ?_
  have ne : s.heap.objs.size ≠ s.heap.objs.size + 1 := Nat.ne_of_lt (Nat.lt_succ_self _)
  refine ⟨by rw [upd_ne ne, upd_same], Nat.zero_le _, ne, e2, fun _ => none, (Heap.Ns1.of_empty e3).at fun o q => Heap.get?_push_of_some _ q, fun _ => True.intro, fun y hy => absurd rfl hy⟩
theorem attr_of {prog : Program} {w : World} {env : Env} {e : Expr} {f : Str} {pos : Pos} {s : Shared} {Q : Value → Shared → Prop} (hb : attributeBase e f env (eval e env) = eval e env)
    (h : wpAny (model prog w) A (eval e env) (fun o s₁ => wpAny (model prog w) A (getAttr o f true) Q E s₁) E s) : wpAny (model prog w) A (eval (.Attribute e f pos) env) Q E s :=
  Attribute_any_ h (by rw [arm_eval_Attribute, hb])
end
section
variable {X : Cx} {o e value : Expr} {f : Str} {pos pos' tpos : Pos} {ta tv : TE}
end
section
variable {X : Cx} {pins : List (Addr × Obj)} {σ : St} {H : Hp} {s : Shared} {A : Around} {E : Value → Shared → Prop} {Q : Value → Shared → Prop} {c : Value} {b : Bool}
inductive TyOf (K : PySem.W.Frag) (H : Hp) : V → Value → Prop where
  | non : TyOf K H .non (.type "NoneType")
  | bl (x : Bool) : TyOf K H (.bl x) (.type "bool")
  | int (i : Int) : TyOf K H (.int i) (.type "int")
  | str (x : Str) : TyOf K H (.str x) (.type "str")
  | flt (x : UInt64) : TyOf K H (.flt x) (.type "float")
  | lst {a : Addr} {xs : List V} (e : H a = some (.lst xs)) : TyOf K H (.ref a) (.type "list")
  | frz {a : Addr} {o : Obj} {xs : List V} (e : H a = some (.frz o (.lst xs))) : TyOf K H (.ref a) (.type "list")
  | tup {a : Addr} {xs : List V} (e : H a = some (.tup xs)) : TyOf K H (.ref a) (.type "tuple")
  | dK {a : Addr} {kvs : List (Key × V)} (e : H a = some (.dK kvs)) : TyOf K H (.ref a) (.type "dict")
  | dT {a : Addr} {kvs : List (List Key × V)} (e : H a = some (.dT kvs)) : TyOf K H (.ref a) (.type "dict")
  | ins {a C dx : Addr} {fs : List (Str × V)} (e : H a = some (.ins C dx fs)) (cl : Cls K C) (ha : PySem.W.findIn K (.ref C) "__class__" = some (some (.builtin "object.__class__")))
      (hn : PySem.W.specialIn K (.builtin "object.__class__") "__get__" = some (some (.builtin "getset_descriptor.__get__"))) (htk : PySem.W.takesIn K (.builtin "object.__class__") = some true)
      (hm : PySem.W.mroIn K C (.type "object") = some true) : TyOf K H (.ref a) (.ref C)
end
end L2
namespace L2
open PySem PySem.Spec PyProof.Rows
structure Room (k : Nat) (A : Around) : Prop where
  hd : A.handled = none
  dp : A.depth + 3 * k + 5 < recursionLimit
  un : A.units + 16 * k + 200 < cLine
theorem Room.mono {j k : Nat} {A : Around} (r : Room k A) (h : j ≤ k) : Room j A := ⟨r.hd, by have := r.dp; omega, by have := r.un; omega⟩
theorem Room.deeper {k : Nat} {A : Around} (r : Room (k + 1) A) (env : Env) : Room k (A.deeper env) :=
  ⟨r.hd, by have := r.dp; show A.depth + 1 + 3 * k + 5 < _; omega, by have := r.un; show A.units + 3 + 16 * k + 200 < _; omega⟩
theorem make_depth {A : Around} {C : Addr} {us : List Value} {kw : List (Str × Value)} : (A.under (.builtin "type.__call__" ⟨.ref C :: us, kw⟩)).depth = A.depth + 1 := by
  first | rfl | simp [Around.under, Code.weight, Code.isCreation, Code.isGuard, Code.isCaller, Code.frames, Code.isFrame, guardIds]
theorem make_units {A : Around} {C : Addr} {us : List Value} {kw : List (Str × Value)} : (A.under (.builtin "type.__call__" ⟨.ref C :: us, kw⟩)).units = A.units + 1 := by
  first | rfl | simp [Around.under, Code.cUnits, Code.frames, Code.isFrame]
theorem Room.make {k : Nat} {A : Around} (r : Room (k + 1) A) (C : Addr) (us : List Value) (kw : List (Str × Value)) : Room k (A.under (.builtin "type.__call__" ⟨.ref C :: us, kw⟩)) :=
  ⟨r.hd, by have := r.dp; rw [make_depth]; omega, by have := r.un; rw [make_units]; omega⟩
theorem Room.depth {k : Nat} {A : Around} (r : Room k A) : A.depth < recursionLimit := by have := r.dp; omega
theorem Room.units {k : Nat} {A : Around} (r : Room k A) : A.units + 64 < cLine := by have := r.un; omega
def tNil : TA := fun _ H Q => Q [] H
def tCons (ta : TE) (tr : TA) : TA := fun σ H Q => ta σ H fun x H1 => tr σ H1 fun xs H2 => Q (x :: xs) H2
section
variable {X : Cx} {e : Expr} {es : List Expr} {te : TE} {t : TA} {pos : Pos}
theorem pa_nil : PA X [] tNil := fun _ _ _ _ H Q I h => Calls.spliced_nil ⟨[], H, I, .nil, h⟩
theorem pa_cons (ha : PE X e te) (hr : PA X es t) (hs : starEach (e :: es) X.env = (false, eval e X.env) :: starEach es X.env := by rfl) : PA X (e :: es) (tCons te t) := by
  intro pos pins s σ H Q I h
  rw [hs]
  show wpAny _ _ (spliced ((false, eval e X.env) :: backTo pos (starEach es X.env))) _ _ s
  refine Calls.spliced_cons (thn (ha pins s σ H _ I h) fun u s1 ⟨x, H1, I1, r1, q1⟩ => ?_)
  exact thn (hr pos pins s1 σ H1 _ I1 q1) fun us s2 ⟨xs, H2, I2, r2, q2⟩ => ⟨x :: xs, H2, I2, .cons r1 r2, q2⟩
def tLst (t : TA) : TE := fun σ H Q => t σ H fun xs H1 => xs.length ≤ sizeLine ∧ ∀ p, H1 p = none → Q (.ref p) (upd H1 p (.lst xs))
theorem pe_lst (h : PA X es t) : PE X (.List es pos) (tLst t) := by
  intro pins s σ H Q I hq
  refine wpAny_List_spliced (thn (h pos pins s σ H _ I hq) fun us s1 ⟨xs, H1, I1, r, z, q⟩ => ⟨by rw [← r.length]; exact z, ?_⟩)
  have hf : H1 s1.heap.objs.size = none := I1.hok.fresh (Nat.le_refl _)
  refine ⟨.ref s1.heap.objs.size, upd H1 s1.heap.objs.size (.lst xs), I1.laid (t' := s1.toks) (fun b u e => Heap.get?_push_of_some _ e) (Nat.le_refl _) ?_, rfl, q _ hf⟩
  exact ⟨z, us, 0, r, Heap.get?_push_size _ rfl⟩
end
abbrev Sp := List V → Hp → VK → XK → Prop
abbrev CXT := List Env → Hp → Shared → XK → Value → Shared → Prop
structure Env0 (P : Program) (w : World) (K : PySem.W.Frag) (mg : Str → Option Value) (base : Heap) (A : Around) (outer : List Env) (s : Shared) (H : Hp) : Prop where
  frames : A.frames = some outer
  mod : Mod K mg base
  bs : ∀ b o, base.get? b = some o → s.heap.get? b = some o ∧ H b = none
  bsz : base.objs.size ≤ s.heap.objs.size
  funs : s.heap.FunFrames base outer
  frf : ∀ b ∈ frs outer, H b = none
  hok : HOk P w H s.heap
  bare : AllBare s.gens
def CE (outer : List Env) (P : Program) (w : World) (H : Hp) (s : Shared) (Q : VK) (u : Value) (s' : Shared) : Prop :=
  ∃ v H', s'.os = s.os ∧ AllBare s'.gens ∧ Un (frs outer) [] H H' s.heap s'.heap ∧ HOk P w H' s'.heap ∧ RelV v u ∧ Q v H'
def CR (CX : CXT) (outer : List Env) (P : Program) (w : World) (H : Hp) (s : Shared) (Q : VK) (E : XK) (r : Result) (s' : Shared) : Prop :=
  match r with
  | .ok (.ret u) => CE outer P w H s Q u s'
  | .ok _ => False
  | .error e => CX outer H s E e s'
structure FnOk (P : Program) (w : World) (K : PySem.W.Frag) (mg : Str → Option Value) (base : Heap) (CX : CXT) (k : Nat) (f : Addr) (fd : FuncData) (ps : List Str) (sp : Sp) : Prop where
  len : ∀ vs H Q E, sp vs H Q E → vs.length = ps.length
  run : ∀ (A : Around) (outer : List Env) (s : Shared) (H : Hp) (args : Args) (us : List Value) (vs : List V) (Q : VK) (E : XK), Room k A → Env0 P w K mg base A outer s H → BindsTo s fd args (ps.zip us) → Vals vs us → sp vs H Q E →
    codeAny (model P w) A (.call (.ref f) args) (CR CX outer P w H s Q E) s
theorem FnOk.mono {P : Program} {w : World} {K : PySem.W.Frag} {mg : Str → Option Value} {base : Heap} {CX : CXT} {j k : Nat} {f : Addr} {fd : FuncData} {ps : List Str} {sp : Sp} (F : FnOk P w K mg base CX j f fd ps sp) (h : j ≤ k) :
    FnOk P w K mg base CX k f fd ps sp := ⟨F.len, fun A outer s H args us vs Q E hr => F.run A outer s H args us vs Q E (hr.mono h)⟩
theorem Env0.make {P : Program} {w : World} {K : PySem.W.Frag} {mg : Str → Option Value} {base : Heap} {A : Around} {outer : List Env} {s : Shared} {H : Hp} (e : Env0 P w K mg base A outer s H) (C : Addr) (us : List Value) (kw : List (Str × Value)) :
    Env0 P w K mg base (A.under (.builtin "type.__call__" ⟨.ref C :: us, kw⟩)) outer s H := ⟨by first | exact e.frames | (simpa [Around.under, Code.envs, Code.isFrame, pushEnvs] using e.frames), e.mod, e.bs, e.bsz, e.funs, e.frf, e.hok, e.bare⟩
section
variable {X : Cx} {pins : List (Addr × Obj)} {σ : St} {H : Hp} {s s' : Shared}
theorem Inv.env0 (I : Inv X pins σ H s) : Env0 X.prog X.w X.K X.mg X.base X.A X.stack s H :=
  ⟨I.ok.frames, I.ok.mod, I.bs, Nat.le_trans I.ok.bsz I.sz, I.stack, I.stkFree, I.hok, I.bare⟩
theorem Inv.after {Q : VK} {u : Value} (I : Inv X pins σ H s) (h : CE X.stack X.prog X.w H s Q u s') : EP X pins σ Q u s' := by
  obtain ⟨v, H', os, bare, un, hok, r, q⟩ := h
  obtain ⟨hh, g, d, t, os'⟩ := s'
  obtain rfl : os' = s.os := os
  exact ⟨v, H', I.call (h' := hh) (g' := g) (d' := d) (t' := t) (ch := []) un hok bare (fun b z => absurd z (by simp)), r, q⟩
end
def tCall (sp : Sp) (dvs : List V) (E : XK) (t : TA) : TE := fun σ H Q => t σ H fun vs H1 => sp (vs ++ dvs) H1 Q E
def Binds (K : PySem.W.Frag) (fd : FuncData) (ps : List Str) (ds : List Value) : Prop :=
  ∀ (s : Shared) (us : List Value), K.In s.heap → (us ++ ds).length = ps.length → BindsTo s fd ⟨us, []⟩ (ps.zip (us ++ ds))
theorem Binds.all {K : PySem.W.Frag} {fd : FuncData} {ps : List Str} (h : ∀ us : List Value, us.length = ps.length → bindArgs fd ⟨us, []⟩ = pure (ps.zip us)) : Binds K fd ps [] := fun s us _ hl => by
  rw [List.append_nil] at hl ⊢
  exact .of_eq (h us hl)
def Passes (CX : CXT) (X : Cx) (E : XK) : Prop := ∀ (pins : List (Addr × Obj)) (σ : St) (H : Hp) (s : Shared) (e : Value) (s' : Shared), Inv X pins σ H s → CX X.stack H s E e s' → X.xe e s'
section
variable {X : Cx} {CX : CXT} {k : Nat} {f C : Addr} {fd : FuncData} {ps : List Str} {sp : Sp} {dvs : List V} {ds : List Value} {E : XK} {x m : Str} {p pos apos : Pos} {e o : Expr} {es : List Expr} {ta : TE} {t : TA}
theorem run_fn {pins : List (Addr × Obj)} {σ : St} {H : Hp} {s : Shared} {Q : VK} {us : List Value} {vs : List V} (F : FnOk X.prog X.w X.K X.mg X.base CX k f fd ps sp) (hr : Room k X.A) (hb : Binds X.K fd ps ds) (hd : Vals dvs ds) (hx : Passes CX X E)
    (I : Inv X pins σ H s) (r : Vals vs us) (h : sp (vs ++ dvs) H Q E) : wpAny (model X.prog X.w) X.A (call (.ref f) us) (EP X pins σ Q) X.xe s := by
  have r2 : Vals (vs ++ dvs) (us ++ ds) := r.append hd
  have hl : (us ++ ds).length = ps.length := by rw [← r2.length]; exact F.len _ _ _ _ h
  refine wpAny_call (codeAny_mono (F.run X.A X.stack s H ⟨us, []⟩ (us ++ ds) (vs ++ dvs) Q E hr I.env0 (hb s us I.kIn hl) r2 h) fun r s' hq => ?_)
  cases r with
  | error e => exact hx pins σ H s e s' I hq
  | ok fl =>
    cases fl with
    | ret u => exact I.after hq
    | next => exact False.elim hq
    | brk => exact False.elim hq
    | cont => exact False.elim hq
theorem pe_call (F : FnOk X.prog X.w X.K X.mg X.base CX k f fd ps sp) (hr : Room k X.A) (hg : Gl X x) (hm : X.mg x = some (.ref f)) (hk : PySem.W.keepIn X.K (.ref f) = true) (hb : Binds X.K fd ps ds) (hd : Vals dvs ds) (hx : Passes CX X E)
    (ha : PA X (e :: es) t) (hdb : (x == ("__debug__" : Str)) = false := by decide) (he : starEach (e :: es) X.env = (false, eval e X.env) :: starEach es X.env := by rfl) (hpl : (backTo pos (starEach es X.env)).any (·.1) = false := by rfl) :
    PE X (.Call (.Name x p) (e :: es) [] pos) (tCall sp dvs E t) := by
  intro pins s σ H Q I h
  refine wpAny_Call_Name_kw (ld_glob I hg hm ?_ hdb)
  refine PySem.W.callWith_K (h₀ := X.base) I.ok.mod.kin hk (thn (ha pos pins s σ H _ I h) fun us s1 ⟨vs, H1, I1, r, q⟩ => ⟨I1.kIn, ?_⟩) he hpl
  exact run_fn F hr hb hd hx I1 r q
structure Mk (K : PySem.W.Frag) (C f : Addr) : Prop where
  makes : PySem.W.makesIn K C = true
  init : PySem.W.findIn K (.ref C) "__init__" = some (some (.ref f))
  fn : PySem.W.isFn K (.ref f) = true
  kp : PySem.W.keepIn K (.ref C) = true
end
section
variable {X : Cx} {CX : CXT} {k : Nat} {f C : Addr} {fd : FuncData} {ps ks : List Str} {sp : Sp} {E : XK} {x m : Str} {p pos apos kpos : Pos} {e o : Expr} {es : List Expr} {kws : List Keyword} {te ta : TE} {t tk : TA} {nm : Option Str}
structure KBinds (K : PySem.W.Frag) (fd : FuncData) (ps ks : List Str) (g : List Value → List Value → List Value) (gV : List V → List V → List V) : Prop where
  to : ∀ (s : Shared) (us ws : List Value), K.In s.heap → (g us ws).length = ps.length → BindsTo s fd ⟨us, ks.zip ws⟩ (ps.zip (g us ws))
  rel : ∀ {vs : List V} {us : List Value} {zs : List V} {ws : List Value}, Vals vs us → Vals zs ws → Vals (gV vs zs) (g us ws)
variable {g : List Value → List Value → List Value} {gV : List V → List V → List V}
end
structure FnScope (N P : List Str) (sc : Scope) : Prop where
  kind : sc.kind = .function
  co : sc.isCoroutine = false
  gen : sc.isGenerator = false
  nd : N.Nodup
  pre : N.take P.length = P
  par : ∀ x ∈ P, sc.names.lookup x = some .local ∨ sc.names.lookup x = some .cell
  nofree : ∀ y ∈ sc.names, y.2 ≠ .free
theorem bindL_out {kindOf : Str → Option NameKind} {x : Str} : ∀ {binds : List (Str × Value)} {m : Str → Option Value}, (∀ v, (x, v) ∉ binds) → bindL kindOf binds m x = m x
  | [], _, _ => rfl
  | (n, v) :: r, m, h => by
    unfold bindL
    rw [bindL_out fun w hw => h w (List.mem_cons_of_mem _ hw)]
    split
    · have : x ≠ n := by rintro rfl; exact h v List.mem_cons_self
      simp [this]
    · rfl
theorem bindC_out {kindOf : Str → Option NameKind} {x : Str} : ∀ {binds : List (Str × Value)} {m : Str → Option Value}, (∀ v, (x, v) ∉ binds) → bindC kindOf binds m x = m x
  | [], _, _ => rfl
  | (n, v) :: r, m, h => by
    unfold bindC
    rw [bindC_out fun w hw => h w (List.mem_cons_of_mem _ hw)]
    split
    · rfl
    · have : x ≠ n := by rintro rfl; exact h v List.mem_cons_self
      simp [this]
theorem bindL_get {kindOf : Str → Option NameKind} {x : Str} {v : Value} : ∀ {P : List Str} {vs : List Value} {i : Nat} {m : Str → Option Value}, P.Nodup → P[i]? = some x → vs[i]? = some v → kindOf x = some .local →
    bindL kindOf (P.zip vs) m x = some v
  | [], _, _, _, _, h, _, _ => by simp at h
  | _ :: _, [], _, _, _, _, h, _ => by simp at h
  | p :: P, w :: vs, 0, m, nd, h1, h2, hk => by
    simp at h1 h2; subst h1; subst h2
    show bindL kindOf ((p, w) :: P.zip vs) m p = _
    unfold bindL
    rw [bindL_out fun v hv => (List.nodup_cons.mp nd).1 (List.of_mem_zip hv).1, if_pos hk]
    simp
  | p :: P, w :: vs, i + 1, m, nd, h1, h2, hk => by
    show bindL kindOf ((p, w) :: P.zip vs) m x = _
    unfold bindL
    exact bindL_get (i := i) (List.nodup_cons.mp nd).2 (by simpa using h1) (by simpa using h2) hk
theorem bindC_get {kindOf : Str → Option NameKind} {x : Str} {v : Value} : ∀ {P : List Str} {vs : List Value} {i : Nat} {m : Str → Option Value}, P.Nodup → P[i]? = some x → vs[i]? = some v → kindOf x ≠ some .local →
    bindC kindOf (P.zip vs) m x = some v
  | [], _, _, _, _, h, _, _ => by simp at h
  | _ :: _, [], _, _, _, _, h, _ => by simp at h
  | p :: P, w :: vs, 0, m, nd, h1, h2, hk => by
    simp at h1 h2; subst h1; subst h2
    show bindC kindOf ((p, w) :: P.zip vs) m p = _
    unfold bindC
    rw [bindC_out fun v hv => (List.nodup_cons.mp nd).1 (List.of_mem_zip hv).1, if_neg hk]
    simp
  | p :: P, w :: vs, i + 1, m, nd, h1, h2, hk => by
    show bindC kindOf ((p, w) :: P.zip vs) m x = _
    unfold bindC
    exact bindC_get (i := i) (List.nodup_cons.mp nd).2 (by simpa using h1) (by simpa using h2) hk
def start (N : List Str) (vs : List V) : St := vs.map some ++ List.replicate (N.length - vs.length) none
def cxOf (CX : CXT) (P : Program) (w : World) (K : PySem.W.Frag) (mg : Str → Option Value) (base : Heap) (N : List Str) (qual : Str) (scope : Scope) (f : Addr) (cd : Value) (A : Around) (outer : List Env) (s : Shared) (H : Hp) (E : XK) : Cx where
  prog := P
  w := w
  K := K
  mg := mg
  base := base
  A := A.deeper (envOfC qual scope s.heap.objs.size f cd)
  N := N
  s₀ := s
  H₀ := H
  env := envOfC qual scope s.heap.objs.size f cd
  outer := outer
  stack := envOfC qual scope s.heap.objs.size f cd :: outer
  ex := []
  calm := true
  fn := fun _ => true
  pn := []
  xe := fun e s' => wpAny (model P w) (A.deeper (envOfC qual scope s.heap.objs.size f cd)) (leaving (envOfC qual scope s.heap.objs.size f cd) e) (fun _ s'' => CX outer H s E e s'') (fun e' s'' => CX outer H s E e' s'') s'
theorem cell_has {sc : Scope} {n : Nat} {x : Str} (h : sc.names.lookup x = some .cell) : ∃ c, (cellsFrom n sc.names []).lookup x = some c := by
  have q := PySem.W.cellsFrom_some sc.names n [] (.inl h)
  exact Option.isSome_iff_exists.mp q
theorem inv_start {CX : CXT} {P : Program} {w : World} {K : PySem.W.Frag} {mg : Str → Option Value} {base : Heap} {N ps : List Str} {qual : Str} {scope : Scope} {f : Addr} {cd : Value} {A : Around} {outer : List Env} {s s1 : Shared} {H : Hp} {E : XK} {us : List Value} {vs : List V}
    (S : FnScope N ps scope) (hd : A.handled = none) (e0 : Env0 P w K mg base A outer s H) (hl : vs.length = ps.length) (r : Vals vs us)
    (x : InCallC s s.heap.objs.size (bindL (envOfC qual scope s.heap.objs.size f cd).kindOf (ps.zip us) fun _ => none) (cellsFrom (s.heap.objs.size + 1) scope.names []) (bindC (envOfC qual scope s.heap.objs.size f cd).kindOf (ps.zip us) fun _ => none) s1) :
    Inv (cxOf CX P w K mg base N qual scope f cd A outer s H E) [] (start N vs) H s1 := by
  have hpl : ps.length ≤ N.length := by have := congrArg List.length S.pre; rw [List.length_take] at this; omega
  obtain ⟨h1, tk, rfl, hk⟩ := x.done
  have noA : ∀ b : Addr, b ∉ (cxOf CX P w K mg base N qual scope f cd A outer s H E).ex := fun b z => absurd (show b ∈ ([] : List Addr) from z) (by simp)
  refine ⟨⟨e0.mod, S.kind, rfl, rfl, Nat.le_refl _, fun y z c h1 h2 => ?_, fun y hy => ?_, fun y c _ h => ?_, fun _ => hd, Around.frames_deeper e0.frames, .inr ⟨rfl, rfl⟩, fun b z => absurd z (noA b), e0.bs, e0.bsz, fun b _ _ => noA b, fun b z => absurd z (noA b), e0.funs, e0.frf⟩,
    rfl, e0.bare, Un.kept hk, ⟨_, x.toInCall.ns, fun i y v h1 h2 h3 => ?_⟩, fun y c h => ⟨_, x.cell y c h⟩, e0.hok.fresh (Nat.le_refl _), fun y c h => ?_, fun p hp => absurd (show p ∈ ([] : List (Addr × Obj)) from hp) (by simp), e0.hok.kept hk, ?_⟩
  · exact name_of_addr x.apart (PySem.mem_of_lookup h1) (PySem.mem_of_lookup h2)
  · have hy : scope.names.lookup y = some .cell ∨ scope.names.lookup y = some .free := hy
    rcases hy with hy | hy
    · exact cell_has hy
    · exact absurd rfl (S.nofree _ (PySem.mem_of_lookup hy))
  · exact Nat.le_of_lt (x.above y c (PySem.mem_of_lookup h))
  · have hi : i < vs.length := by
      unfold start at h2
      by_cases hi : i < vs.length
      · exact hi
      · rw [List.getElem?_append_right (by simpa using hi)] at h2
        rw [List.getElem?_replicate] at h2
        split at h2 <;> cases h2
    have ha : vs[i]? = some v := by
      unfold start at h2
      rw [List.getElem?_append_left (by simpa using hi), List.getElem?_map] at h2
      cases e : vs[i]? with
      | none => rw [e] at h2; cases h2
      | some a => rw [e] at h2; cases h2; rfl
    obtain ⟨u, hu, rv⟩ := r.get ha
    have hp : ps[i]? = some y := by
      rw [← S.pre, List.getElem?_take_of_lt (by omega)]; exact h1
    have ndP : ps.Nodup := by rw [← S.pre]; exact S.nd.sublist (List.take_sublist _ _)
    refine ⟨u, rv, ?_⟩
    rcases S.par y (List.mem_of_getElem? hp) with k | k
    · exact .inl ⟨k, bindL_get ndP hp hu k⟩
    · obtain ⟨c, e⟩ := cell_has (n := s.heap.objs.size + 1) k
      refine .inr ⟨.inl k, c, e, ?_⟩
      have q := x.cell y c e
      rw [bindC_get ndP hp hu (by show scope.names.lookup y ≠ _; rw [k]; decide)] at q
      exact q
  · exact e0.hok.fresh (Nat.le_of_lt (x.above y c (PySem.mem_of_lookup h)))
  · unfold start
    show _ = N.length
    rw [List.length_append, List.length_map, List.length_replicate]
    omega
theorem fn_of {CX : CXT} {P : Program} {w : World} {K : PySem.W.Frag} {mg : Str → Option Value} {base : Heap} {k : Nat} {f : Addr} {name qual : Str} {params : Arguments} {body : List Stmt} {scope : Scope} {dV kV doc pm cdv ct oc : Value} {an od : Option Addr}
    {osl : Array (Option Value)} {N ps : List Str} {sp : Sp} (lk : K.lookup f = some ⟨oc, od, .func (PySem.W.fnOf name qual params body scope dV kV doc pm an cdv ct), osl⟩) (hcd : PySem.W.codeIn K cdv qual = true) (S : FnScope N ps scope)
    (len : ∀ vs H Q E, sp vs H Q E → vs.length = ps.length)
    (hbody : ∀ (A : Around) (outer : List Env) (s : Shared) (H : Hp) (vs : List V) (Q : VK) (E : XK), Room k (A.deeper (envOfC qual scope s.heap.objs.size f cdv)) → sp vs H Q E →
      ∃ t, PSs (cxOf CX P w K mg base N qual scope f cdv A outer s H E) body t ∧ t { nx := fun _ H' => Q .non H', rt := Q } (start N vs) H) :
    FnOk P w K mg base CX (k + 1) f (PySem.W.fnOf name qual params body scope dV kV doc pm an cdv ct) ps sp := by
  refine ⟨len, fun A outer s H args us vs Q E hr e0 hb r hsp => ?_⟩
  have hl := len _ _ _ _ hsp
  have KX : K.In s.heap := e0.mod.kin.keeps fun b o e => (e0.bs b o e).1
  have lim : s.heap.NoLimit := e0.mod.nolimit.keeps fun b o e => (e0.bs b o e).1
  have hkind : ∀ y ∈ ps.zip us, scope.names.lookup y.1 = some .local ∨ (scope.names.lookup y.1 = some .cell ∧ ((cellsFrom (s.heap.objs.size + 1) scope.names []).lookup y.1).isSome = true) := fun ⟨n, v⟩ hy => by
    rcases S.par n (List.of_mem_zip hy).1 with q | q
    · exact .inl q
    · exact .inr ⟨q, PySem.W.cellsFrom_some _ _ _ (.inl q)⟩
  refine codeAny_call_function hr.depth (KX _ _ lk) rfl S.co S.gen rfl (PySem.W.codeRec_of KX hcd) (hb _ _ _ _ ?_)
  refine wpAny_newFunctionEnv_cells S.kind hkind fun env he s1 x => ?_
  subst he
  refine ⟨lim.keeps x.toInCall.keep, codeAny_func ?_⟩
  obtain ⟨t, ht, hq⟩ := hbody A outer s H vs Q E (hr.deeper _) hsp
  have I : Inv (cxOf CX P w K mg base N qual scope f cdv A outer s H E) [] (start N vs) H s1 := inv_start S hr.hd e0 hl r x
  refine wpAny_mono (ht [] s1 (start N vs) H _ I hq) (fun fl s' hs => ?_) fun e s' hs => hs
  have fin : ∀ {σ' : St} {H' : Hp} {v : V} {u : Value}, Inv (cxOf CX P w K mg base N qual scope f cdv A outer s H E) [] σ' H' s' → RelV v u → Q v H' → CE outer P w H s Q u s' :=
    fun {σ' H' v u} J rv q => ⟨v, H', J.os, J.bare, J.base, J.hok, rv, q⟩
  cases fl with
  | ret u =>
    obtain ⟨v, σ', H', J, rv, q⟩ := hs
    exact fin J rv q
  | next =>
    obtain ⟨σ', H', J, q⟩ := hs
    exact fin (v := V.non) (u := Value.none) J rfl q
  | brk =>
    obtain ⟨_, _, _, q⟩ := hs
    exact False.elim q
  | cont =>
    obtain ⟨_, _, _, q⟩ := hs
    exact False.elim q
end L2
namespace L2
open PySem PySem.Spec PyProof.Rows
section
variable {X : Cx} {x : Str} {p pos : Pos} {e : Expr} {es : List Expr} {t : TA} {id T : String} {r : List V → Hp → VK → Prop}
def tCB (r : List V → Hp → VK → Prop) (t : TA) : TE := fun σ H Q => t σ H fun vs H1 => r vs H1 Q
theorem pe_callB (hc : CallR X (.builtin id) r) (hg : Gl X x) (hm : X.mg x = none) (hv : bootBuiltins x = some (.builtin id)) (ha : PA X (e :: es) t) (hn : x ≠ "__name__" := by decide) (hdb : (x == ("__debug__" : Str)) = false := by decide)
    (he : starEach (e :: es) X.env = (false, eval e X.env) :: starEach es X.env := by rfl) (hpl : (backTo pos (starEach es X.env)).any (·.1) = false := by rfl) : PE X (.Call (.Name x p) (e :: es) [] pos) (tCB r t) := by
  intro pins s σ H Q I h
  refine wpAny_Call_Name_kw (ld_blt I hg hm hv ?_ hn hdb)
  exact PyProof.Rows.callWith_builtin1 (thn (ha pos pins s σ H _ I h) fun us s1 ⟨vs, H1, I1, r1, q1⟩ => hc pins s1 σ H1 vs us Q I1 r1 q1) he hpl
theorem pe_callTy (hc : CallR X (.type T) r) (hg : Gl X x) (hm : X.mg x = none) (hv : bootBuiltins x = some (.type T)) (ha : PA X (e :: es) t) (hn : x ≠ "__name__" := by decide) (hdb : (x == ("__debug__" : Str)) = false := by decide)
    (he : starEach (e :: es) X.env = (false, eval e X.env) :: starEach es X.env := by rfl) (hpl : (backTo pos (starEach es X.env)).any (·.1) = false := by rfl) : PE X (.Call (.Name x p) (e :: es) [] pos) (tCB r t) := by
  intro pins s σ H Q I h
  refine wpAny_Call_Name_kw (ld_blt I hg hm hv ?_ hn hdb)
  exact PyProof.Rows.callWith_type1 (thn (ha pos pins s σ H _ I h) fun us s1 ⟨vs, H1, I1, r1, q1⟩ => hc pins s1 σ H1 vs us Q I1 r1 q1) he hpl
end
end L2
namespace L2
open PySem PySem.Spec PyProof.Rows
section
variable {κ : Type} [DecidableEq κ]
def valV (kvs : List (κ × V)) (k : κ) : Option V := (kvs.find? fun kv => decide (kv.1 = k)).map (·.2)
def putK (kvs : List (κ × V)) (k : κ) (v : V) : List (κ × V) :=
  if (kvs.any fun kv => decide (kv.1 = k)) = true then kvs.map (fun kv => if kv.1 = k then (kv.1, v) else kv) else kvs ++ [(k, v)]
theorem valV_pos {p : κ × V} {r : List (κ × V)} {k : κ} (e : p.1 = k) : valV (p :: r) k = some p.2 := by simp [valV, List.find?_cons, e]
theorem valV_neg {p : κ × V} {r : List (κ × V)} {k : κ} (e : ¬ p.1 = k) : valV (p :: r) k = valV r k := by simp [valV, List.find?_cons, e]
theorem KV.val {kvs : List (κ × V)} {vs : List (κ × Value)} (r : KV kvs vs) (k : κ) : RelO (valV kvs k) (valueAt vs k) := by
  unfold KV at r
  induction r with
  | nil => exact True.intro
  | @cons p q ps qs h t ih =>
    obtain ⟨h1, h2⟩ := h
    by_cases e : p.1 = k
    · have e' : q.1 = k := h1.symm.trans e
      have b : valueAt (q :: qs) k = some q.2 := by simp [valueAt, List.find?_cons, e']
      rw [valV_pos e, b]; exact h2
    · have e' : ¬ q.1 = k := fun z => e (h1.trans z)
      have b : valueAt (q :: qs) k = valueAt qs k := by simp [valueAt, List.find?_cons, e']
      rw [valV_neg e, b]; exact ih
theorem KV.any {kvs : List (κ × V)} {vs : List (κ × Value)} (r : KV kvs vs) (k : κ) : (kvs.any fun kv => decide (kv.1 = k)) = vs.any fun kv => decide (kv.1 = k) := by
  unfold KV at r
  induction r with
  | nil => rfl
  | cons h t ih => rw [List.any_cons, List.any_cons, ih, h.1]
theorem KV.keys {kvs : List (κ × V)} {vs : List (κ × Value)} (r : KV kvs vs) : kvs.map (·.1) = vs.map (·.1) := by
  unfold KV at r
  induction r with
  | nil => rfl
  | cons h t ih => rw [List.map_cons, List.map_cons, ih, h.1]
theorem KV.length {kvs : List (κ × V)} {vs : List (κ × Value)} (r : KV kvs vs) : kvs.length = vs.length := Paired.length r
end
abbrev KT (H : Hp) : List (List Key × V) → List (List Key × Addr × Value) → Prop := Paired fun p q => p.1 = q.1 ∧ H q.2.1 = some (.tup (p.1.map kV)) ∧ RelV p.2 q.2.2
theorem KT.val {H : Hp} {kvs : List (List Key × V)} {xs : List (List Key × Addr × Value)} (r : KT H kvs xs) (k : List Key) : RelO (valV kvs k) ((atKey xs k).map (·.2)) := by
  induction r with
  | nil => exact True.intro
  | @cons p q ps qs h t ih =>
    obtain ⟨h1, _, h2⟩ := h
    by_cases e : p.1 = k
    · have e' : q.1 = k := h1.symm.trans e
      have b : atKey (q :: qs) k = some q.2 := by simp [atKey, List.find?_cons, e']
      rw [valV_pos e, b]; exact h2
    · have e' : ¬ q.1 = k := fun z => e (h1.trans z)
      have b : atKey (q :: qs) k = atKey qs k := by simp [atKey, List.find?_cons, e']
      rw [valV_neg e, b]; exact ih
theorem KT.keeps {H H' : Hp} {kvs : List (List Key × V)} {xs : List (List Key × Addr × Value)} (r : KT H kvs xs) (ht : ∀ b ys, H b = some (.tup ys) → H' b = some (.tup ys)) : KT H' kvs xs :=
  Paired.mapP r fun _ _ z => ⟨z.1, ht _ _ z.2.1, z.2.2⟩
section
variable {P : Program} {w : World} {H : Hp} {h : Heap} {a : Addr}
end
def DGet (H : Hp) (a : Addr) (y : V) (r : Option V) : Prop :=
  (∃ kvs k, Rd H a (.dK kvs) ∧ y = kV k ∧ r = valV kvs k) ∨ ∃ kvs k b, Rd H a (.dT kvs) ∧ y = .ref b ∧ H b = some (.tup (k.map kV)) ∧ r = valV kvs k
def DPut (H : Hp) (a : Addr) (y v : V) (H' : Hp) : Prop :=
  (∃ kvs k, H a = some (.dK kvs) ∧ y = kV k ∧ kvs.length < sizeLine ∧ H' = upd H a (.dK (putK kvs k v))) ∨
  ∃ kvs k b, H a = some (.dT kvs) ∧ y = .ref b ∧ H b = some (.tup (k.map kV)) ∧ kvs.length < sizeLine ∧ H' = upd H a (.dT (putK kvs k v))
theorem DGet.k {H : Hp} {a : Addr} {kvs : List (Key × V)} {k : Key} (e : H a = some (.dK kvs)) : DGet H a (kV k) (valV kvs k) := .inl ⟨kvs, k, .inl e, rfl, rfl⟩
theorem DGet.t {H : Hp} {a b : Addr} {kvs : List (List Key × V)} {k : List Key} (e : H a = some (.dT kvs)) (eb : H b = some (.tup (k.map kV))) : DGet H a (.ref b) (valV kvs k) := .inr ⟨kvs, k, b, .inl e, rfl, eb, rfl⟩
theorem DPut.k {H : Hp} {a : Addr} {kvs : List (Key × V)} {k : Key} {v : V} (e : H a = some (.dK kvs)) (hl : kvs.length < sizeLine) : DPut H a (kV k) v (upd H a (.dK (putK kvs k v))) := .inl ⟨kvs, k, e, rfl, hl, rfl⟩
theorem DPut.t {H : Hp} {a b : Addr} {kvs : List (List Key × V)} {k : List Key} {v : V} (e : H a = some (.dT kvs)) (eb : H b = some (.tup (k.map kV))) (hl : kvs.length < sizeLine) :
    DPut H a (.ref b) v (upd H a (.dT (putK kvs k v))) := .inr ⟨kvs, k, b, e, rfl, eb, hl, rfl⟩
section
variable {X : Cx} {pins : List (Addr × Obj)} {σ : St} {H : Hp} {s : Shared} {a : Addr} {y v : V} {u r : Value} {o : Option V} {A : Around} {E : Value → Shared → Prop}
end
section
variable {X : Cx} {pins : List (Addr × Obj)} {σ : St} {H : Hp} {s : Shared} {a : Addr} {kvs : List (Key × V)} {k : Key} {u : Value} {A : Around} {E : Value → Shared → Prop}
end
section
variable {X : Cx} {o i e value : Expr} {pos pos' tpos : Pos} {td ty tv : TE}
end
section
variable {X : Cx} {pos : Pos}
end
structure M1 (X : Cx) (o : Expr) (m : Str) (apos : Pos) (e : Expr) (cpos : Pos) : Prop where
  base : attributeBase o m X.env (eval o X.env) = eval o X.env
  few : ((backTo cpos (starEach [e] X.env)).all (fun x => !x.1) && (backToKw cpos (keywordEach [] X.env)).all (fun x => x.1.isSome)
    && decide (([e] : List Expr).length + ([] : List Keyword).length + (if ([] : List Keyword).isEmpty then 0 else 1) < 30)) = true
  line : (apos.endLine == cpos.line) = true
  trees : backTo cpos (starEach [e] X.env) = [(false, eval e X.env)]
structure M2 (X : Cx) (o : Expr) (m : Str) (apos : Pos) (e f : Expr) (cpos : Pos) : Prop where
  base : attributeBase o m X.env (eval o X.env) = eval o X.env
  few : ((backTo cpos (starEach [e, f] X.env)).all (fun x => !x.1) && (backToKw cpos (keywordEach [] X.env)).all (fun x => x.1.isSome)
    && decide (([e, f] : List Expr).length + ([] : List Keyword).length + (if ([] : List Keyword).isEmpty then 0 else 1) < 30)) = true
  line : (apos.endLine == cpos.line) = true
  trees : backTo cpos (starEach [e, f] X.env) = [(false, eval e X.env), (false, eval f X.env)]
section
variable {X : Cx} {pins : List (Addr × Obj)} {σ : St} {H : Hp} {s : Shared} {a : Addr} {y d : V} {u r : Value} {o : Option V} {A : Around} {E : Value → Shared → Prop}
end
section
variable {X : Cx} {o e f : Expr} {apos cpos : Pos} {td ty tx : TE}
end
section
variable {X : Cx} {pins : List (Addr × Obj)} {σ : St} {H : Hp} {s : Shared} {a : Addr} {kvs : List (Key × V)} {A : Around} {E : Value → Shared → Prop}
end
section
variable {X : Cx} {pins : List (Addr × Obj)} {σ : St} {H : Hp} {s : Shared} {a : Addr} {y : V} {u : Value} {A : Around} {E : Value → Shared → Prop}
end
end L2
namespace HT
open PySem PyProof.Rows
section
open PySem.SeqAt
open PySem.AutoSeq1 (wpAny_loadPart')
open PySem.MeetsSeq PySem.MeetsSeq2 PySem.MeetsSeq3
end
section
variable {prog : Program} {w : World} {A : Around} {E : Value → Shared → Prop} {s : Shared}
def sIx (n d : Nat) : Option Int → Nat
  | none => d
  | some v => if v < 0 then (v + (n : Int)).toNat else min v.toNat n
theorem sIx_le (n d : Nat) (hd : d ≤ n) (o : Option Int) : sIx n d o ≤ n := by
  cases o with
  | none => exact hd
  | some v =>
    show (if v < 0 then (v + (n : Int)).toNat else min v.toNat n) ≤ n
    by_cases hv : v < 0
    · rw [if_pos hv]; omega
    · rw [if_neg hv]; exact Nat.min_le_right _ _
theorem clip_eq (v : Int) (n d : Nat) : (if v < 0 then max (v + (n : Int)) 0 else min v (n : Int)) = ((sIx n d (some v) : Nat) : Int) := by
  show (if v < 0 then max (v + (n : Int)) 0 else min v (n : Int)) = (((if v < 0 then (v + (n : Int)).toNat else min v.toNat n) : Nat) : Int)
  by_cases hv : v < 0
  · simp only [if_pos hv]; omega
  · simp only [if_neg hv]; omega
theorem adjust_gen (lo hi : Option Int) (n : Nat) : Builtin.Slice.sliceAdjust lo hi 1 (n : Int) = (((sIx n 0 lo : Nat) : Int), ((sIx n n hi : Nat) : Int)) := by
  have h1 : ¬ ((1 : Int) < 0) := by omega
  unfold Builtin.Slice.sliceAdjust
  simp only [h1, if_false]
  refine Prod.ext ?_ ?_
  · cases lo with
    | none => rfl
    | some v => exact clip_eq v n 0
  · cases hi with
    | none => rfl
    | some v => exact clip_eq v n n
theorem places_gen (i j : Nat) : Builtin.Slice.slicePlaces (i : Int) (j : Int) 1 = j - i := by
  unfold Builtin.Slice.slicePlaces
  have h1 : (1 : Int) > 0 := by omega
  simp only [h1, if_true, Int.ediv_one]
  split <;> omega
theorem slicePart_ {v : Value} {o : Option Int} {Q : Option Int → Shared → Prop} (p : IsPart v o) (h : Q o s) : wpAny (model prog w) A (Builtin.Slice.slicePartIndex v) Q E s := by
  cases p with
  | none => exact slicePart_none h
  | int i t => exact slicePart_int h
theorem sliceApplied_gen {sl : Addr} {vl vu : Value} {lo hi : Option Int} {n : Nat} {Q : Int × Int × Nat → Shared → Prop} (hs : s.heap.IsSliceOf sl vl vu .none) (pl : IsPart vl lo) (pu : IsPart vu hi)
    (h : Q (((sIx n 0 lo : Nat) : Int), 1, sIx n n hi - sIx n 0 lo) s) : wpAny (model prog w) A (Builtin.Slice.sliceApplied (.ref sl) (pure (n : Int))) Q E s := by
  obtain ⟨os, hos, hcs, hds⟩ := id hs
  unfold Builtin.Slice.sliceApplied Builtin.Slice.sliceFields
  refine wpAny_bind (wpAny_bind (wpAny_field hos hds (x := vl) rfl (wpAny_bind (wpAny_field hos hds (x := vu) rfl (wpAny_bind (wpAny_field hos hds (x := .none) rfl (wpAny_pure ?_)))))))
  refine wpAny_bind (slicePart_none ?_)
  show wpAny _ _ (if ((1 : Int) == 0) = true then _ else _) _ _ s
  rw [if_neg (by decide)]
  refine wpAny_bind (slicePart_ pl (wpAny_bind (slicePart_ pu (wpAny_bind (wpAny_pure ?_)))))
  show wpAny _ _ (match Builtin.Slice.sliceAdjust lo hi 1 (n : Int) with | (lo, hi) => pure (lo, (1 : Int), Builtin.Slice.slicePlaces lo hi 1)) _ _ s
  rw [adjust_gen lo hi n]
  show wpAny _ _ (pure (((sIx n 0 lo : Nat) : Int), (1 : Int), Builtin.Slice.slicePlaces ((sIx n 0 lo : Nat) : Int) ((sIx n n hi : Nat) : Int) 1)) _ _ s
  rw [places_gen]
  exact wpAny_pure h
theorem pick_gen (xs : Array Value) (i k : Nat) : ((List.range k).filterMap fun (m : Nat) => xs[((i : Int) + (m : Int) * 1).toNat]?).toArray = ((xs.toList.drop i).take k).toArray := by
  have e : (fun (m : Nat) => xs[((i : Int) + (m : Int) * 1).toNat]?) = fun m => xs[i + m]? := by
    funext m
    have : ((i : Int) + (m : Int) * 1).toNat = i + m := by omega
    rw [this]
  rw [e]
  have := pick_run xs i k
  rw [List.filterMap_map] at this
  have e2 : ((fun x => xs[x]?) ∘ fun x => i + x) = fun m => xs[i + m]? := rfl
  rw [e2] at this
  rw [this]
theorem getItem_tuple_cut {t sl : Addr} {items : Array Value} {vl vu : Value} {lo hi : Option Int} {Q : Value → Shared → Prop} (ht : IsTup s.heap t items) (hs : s.heap.IsSliceOf sl vl vu .none) (pl : IsPart vl lo) (pu : IsPart vu hi)
    (hw : ¬ (sIx items.size 0 lo = 0 ∧ sIx items.size items.size hi = items.size))
    (h : Q (.ref s.heap.objs.size) { s with heap := s.heap.push { cls := .type "tuple", data := .seq ((items.toList.drop (sIx items.size 0 lo)).take (sIx items.size items.size hi - sIx items.size 0 lo)).toArray } })
    (hsz : items.size ≤ sizeLine) : wpAny (model prog w) A (getItem (.ref t) (.ref sl)) Q E s := by
  have htake : sizeOk (.seq ((items.toList.drop (sIx items.size 0 lo)).take (sIx items.size items.size hi - sIx items.size 0 lo)).toArray) := by
    show ((items.toList.drop (sIx items.size 0 lo)).take (sIx items.size items.size hi - sIx items.size 0 lo)).toArray.size ≤ sizeLine
    rw [List.size_toArray, List.length_take, List.length_drop, Array.length_toList]
    omega
  have hj : sIx items.size items.size hi ≤ items.size := sIx_le _ _ (Nat.le_refl _) hi
  obtain ⟨os, hos, hcs, hds⟩ := id hs
  have hTs : s.TypeIs (.ref sl) "slice" := ⟨os, hos, hcs⟩
  unfold getItem
  try with_reducible refine wpAny_holding ?_
  first | refine wpAny_bind (wpAny_pure ?_) | skip
  refine wpAny_bind (wpAny_sequenceKey ht.typeIs (by decide) ?_)
  refine wpAny_bind (wpAny_callSpecial?_slot (name := Str.ofString "__getitem__") ht.typeIs PyProof.Rows.slot_tuple_getitem
    (wpAny_call_entry PyProof.Rows.slot_tuple_getitem ht.typeIs entry_tuple_getitem ?_ (args_tuple_getitem _ _)))
  show wpAny _ _ (Builtin.Tuple.tupleItemsOf (.ref t) >>= _) _ _ s
  refine wpAny_bind (tupleItemsOf_ ht ?_)
  refine wpAny_bind (wpAny_typeOf hTs ?_)
  rw [if_pos (by decide)]
  refine wpAny_bind (sliceApplied_gen hs pl pu ?_)
  have hno : ¬ ((((sIx items.size 0 lo : Nat) : Int) == 0 && (1 : Int) == 1 && (sIx items.size items.size hi - sIx items.size 0 lo) == items.size) = true) := by
    intro q
    rw [Bool.and_eq_true, Bool.and_eq_true] at q
    have q1 : ((sIx items.size 0 lo : Nat) : Int) = 0 := eq_of_beq q.1.1
    have q2 : sIx items.size items.size hi - sIx items.size 0 lo = items.size := eq_of_beq q.2
    exact hw ⟨by omega, by omega⟩
  show wpAny _ _ (if (((sIx items.size 0 lo : Nat) : Int) == 0 && (1 : Int) == 1 && (sIx items.size items.size hi - sIx items.size 0 lo) == items.size) = true then _ else _) _ _ s
  rw [if_neg hno, pick_gen]
  first
    | exact wpAny_bind (m := Builtin.Tuple.tupleExact _) (wpAny_newObj_type (wpAny_pure ⟨_, rfl, wpAny_pure h⟩) htake)
    | exact wpAny_bind (m := Builtin.Tuple.tupleExact _) (wpAny_newObj_type (wpAny_bind (wpAny_pure (wpAny_pure ⟨_, rfl, wpAny_pure h⟩))) htake)
    | exact wpAny_bind (wpAny_bind (m := Builtin.Tuple.tupleExact _) (wpAny_newObj_type (wpAny_pure (wpAny_pure ⟨_, rfl, wpAny_pure h⟩)) htake))
    | exact wpAny_bind (wpAny_bind (m := Builtin.Tuple.tupleExact _) (wpAny_newObj_type (wpAny_pure ⟨_, rfl, wpAny_pure h⟩) htake))
end
end HT
namespace L2
open PySem PySem.Spec PyProof.Rows
abbrev TO := St → Hp → (Option Int → Hp → Prop) → Prop
def PO (X : Cx) (e : Option Expr) (t : TO) : Prop :=
  ∀ (pins : List (Addr × Obj)) (s : Shared) (σ : St) (H : Hp) (Q : Option Int → Hp → Prop), Inv X pins σ H s → t σ H Q →
    wpAny (model X.prog X.w) X.A (evalPart e X.env) (fun u s' => ∃ o H', Inv X pins σ H' s' ∧ IsPart u o ∧ Q o H') X.xe s
def tNoPart : TO := fun _ H Q => Q none H
def tPart (t : TE) : TO := fun σ H Q => t σ H fun x H1 => ∃ i, x = .int i ∧ Q (some i) H1
section
variable {X : Cx} {e : Expr} {te : TE} {lo hi : Option Expr} {tl th : TO} {pos p2 : Pos}
theorem po_none : PO X none tNoPart := by
  intro pins s σ H Q I h
  rw [evalPart_none]
  exact wpAny_pure ⟨none, H, I, .none, h⟩
theorem po_some (h : PE X e te) : PO X (some e) (tPart te) := by
  intro pins s σ H Q I hw
  rw [evalPart_some]
  refine thn (h pins s σ H _ I hw) fun u s1 ⟨x, H1, I1, r1, q1⟩ => ?_
  obtain ⟨i, rfl, q⟩ := q1
  obtain ⟨t, rfl⟩ := r1
  exact ⟨some i, H1, I1, .int i t, q⟩
def SlR (X : Cx) (r : V → Option Int → Option Int → Hp → VK → Prop) : Prop :=
  ∀ (pins : List (Addr × Obj)) (s : Shared) (σ : St) (H : Hp) (x : V) (v vl vu : Value) (lo hi : Option Int) (sl : Addr) (Q : VK), Inv X pins σ H s → RelV x v → s.heap.IsSliceOf sl vl vu .none → IsPart vl lo → IsPart vu hi → r x lo hi H Q →
    ∃ T id, typeLookup (.type T) "__getitem__" = pure (some (.builtin id)) ∧ s.TypeIs v T ∧ wpAny (model X.prog X.w) X.A (getItem v (.ref sl)) (EP X pins σ Q) X.xe s
theorem SlR.or {r r' : V → Option Int → Option Int → Hp → VK → Prop} (h : SlR X r) (h' : SlR X r') : SlR X (fun x lo hi H Q => r x lo hi H Q ∨ r' x lo hi H Q) := by
  intro pins s σ H x v vl vu lo hi sl Q I rx hs pl pu q
  rcases q with q | q
  · exact h pins s σ H x v vl vu lo hi sl Q I rx hs pl pu q
  · exact h' pins s σ H x v vl vu lo hi sl Q I rx hs pl pu q
def tSl (r : V → Option Int → Option Int → Hp → VK → Prop) (te : TE) (tl th : TO) : TE := fun σ H Q => te σ H fun x H1 => tl σ H1 fun l H2 => th σ H2 fun u H3 => r x l u H3 Q
theorem pe_slice {r : V → Option Int → Option Int → Hp → VK → Prop} (hr : SlR X r) (he : PE X e te) (hl : PO X lo tl) (hu : PO X hi th) : PE X (.Subscript e (.Slice lo hi none p2) pos) (tSl r te tl th) := by
  intro pins s σ H Q I h
  refine Subscript_ (thn (he pins s σ H _ I h) fun v s1 ⟨x, H1, I1, r1, q1⟩ => ?_)
  refine wpAny_Slice (thn (hl pins s1 σ H1 _ I1 q1) fun vl s2 ⟨l, H2, I2, pl, q2⟩ => thn (hu pins s2 σ H2 _ I2 q2) fun vu s3 ⟨u, H3, I3, pu, q3⟩ => ?_)
  rw [evalPart_none]
  refine wpAny_pure ?_
  have I4 : Inv X pins σ H3 { s3 with heap := s3.heap.push { cls := .type "slice", data := .fields #[vl, vu, .none] } } := I3.kept (t' := s3.toks) fun b ob q => Heap.get?_push_of_some _ q
  obtain ⟨T, id, hT, ht, hg⟩ := hr pins { s3 with heap := s3.heap.push { cls := .type "slice", data := .fields #[vl, vu, .none] } } σ H3 x v vl vu l u s3.heap.objs.size Q I4 r1 (Heap.IsSliceOf.new ..) pl pu q3
  show wpAny (model X.prog X.w) X.A (subscriptTail e (.Slice lo hi none p2) v (.ref s3.heap.objs.size)) (EP X pins σ Q) X.xe { s3 with heap := s3.heap.push { cls := .type "slice", data := .fields #[vl, vu, .none] } }
  exact tail_any (ops := [.ref s3.heap.objs.size, v]) ht hT hg (by with_unfolding_all rfl)
def cutV (xs : List V) (lo hi : Option Int) : List V := (xs.drop (HT.sIx xs.length 0 lo)).take (HT.sIx xs.length xs.length hi - HT.sIx xs.length 0 lo)
theorem cutV_length (xs : List V) (lo hi : Option Int) : (cutV xs lo hi).length ≤ xs.length := by
  unfold cutV
  rw [List.length_take, List.length_drop]
  omega
def rSlT (K : PySem.W.Frag) : V → Option Int → Option Int → Hp → VK → Prop := fun x lo hi H Q => ∃ a xs, x = .ref a ∧ SqT K H a xs ∧
  ¬ (HT.sIx xs.length 0 lo = 0 ∧ HT.sIx xs.length xs.length hi = xs.length) ∧ ∀ p, H p = none → Q (.ref p) (upd H p (.tup (cutV xs lo hi)))
theorem sl_tup : SlR X (rSlT X.K) := by
  intro pins s σ H x v vl vu lo hi sl Q I rx hs pl pu h
  obtain ⟨a, xs, rfl, hx, hw, q⟩ := h
  cases rx
  obtain ⟨its, r, ht, hz⟩ := I.tuple hx
  have hlen : its.toArray.size = xs.length := by rw [List.size_toArray]; exact r.length.symm
  refine ⟨"tuple", _, PyProof.Rows.slot_tuple_getitem.lookup, ht.typeIs, ?_⟩
  refine HT.getItem_tuple_cut ht hs pl pu (by rw [hlen]; exact hw) ?_ (by rw [hlen]; exact hz)
  rw [hlen]
  refine ⟨.ref s.heap.objs.size, _, I.laid (t' := s.toks) (o := .tup (cutV xs lo hi)) (fun b ob q => Heap.get?_push_of_some _ q) (Nat.le_refl _) ?_, rfl, q _ (I.hok.fresh (Nat.le_refl _))⟩
  exact ⟨Nat.le_trans (cutV_length xs lo hi) hz, _, (r.drop (HT.sIx xs.length 0 lo)).take (HT.sIx xs.length xs.length hi - HT.sIx xs.length 0 lo), IsTup.new _ _⟩
end
end L2
namespace L2
open PySem PySem.Spec PyProof.Rows
def ixN (n : Nat) (i : Int) : Option Nat := if 0 ≤ i then (if i < n then some i.toNat else none) else if -(n : Int) ≤ i then some (i + n).toNat else none
def atI {α : Type} (xs : List α) (i : Int) : Option α := (ixN xs.length i).bind fun j => xs[j]?
theorem ixN_seq {n : Nat} {i : Int} {j : Nat} (h : ixN n i = some j) : seqIndex? i n = some j ∧ j < n ∧ -(n : Int) ≤ i ∧ i < n := by
  unfold ixN at h
  by_cases h0 : 0 ≤ i
  · rw [if_pos h0] at h
    by_cases h1 : i < n
    · rw [if_pos h1] at h
      have e : i.toNat = j := Option.some.inj h
      exact ⟨by rw [seqIndex_of h0 h1, e], by omega, by omega, h1⟩
    · rw [if_neg h1] at h; cases h
  · rw [if_neg h0] at h
    by_cases h1 : -(n : Int) ≤ i
    · rw [if_pos h1] at h
      have e : (i + n).toNat = j := Option.some.inj h
      exact ⟨by rw [seqIndex_neg (by omega) h1, e], by omega, h1, by omega⟩
    · rw [if_neg h1] at h; cases h
theorem atI_get {α : Type} {xs : List α} {i : Int} {v : α} (h : atI xs i = some v) : ∃ j, seqIndex? i xs.length = some j ∧ xs[j]? = some v ∧ j < xs.length ∧ -(xs.length : Int) ≤ i ∧ i < xs.length := by
  unfold atI at h
  cases e : ixN xs.length i with
  | none => rw [e] at h; cases h
  | some j =>
    rw [e] at h
    obtain ⟨h1, h2, h3, h4⟩ := ixN_seq e
    exact ⟨j, h1, h, h2, h3, h4⟩
def PlainIx (b : Expr) : Prop := ∀ o i, subscripted b false o i = operate [o, i] (getItem o i)
def IxR (X : Cx) (r : R2) : Prop :=
  ∀ (value slice : Expr) (pins : List (Addr × Obj)) (s : Shared) (σ : St) (H : Hp) (x y : V) (v u : Value) (Q : VK), Inv X pins σ H s → RelV x v → RelV y u → r x y H Q →
    subscripted slice false v u = operate [v, u] (getItem v u) → wpAny (model X.prog X.w) X.A (subscriptTail value slice v u) (EP X pins σ Q) X.xe s
def MtR (X : Cx) (id : String) (r : V → List V → Hp → VK → Prop) : Prop :=
  ∀ (pins : List (Addr × Obj)) (s : Shared) (σ : St) (H : Hp) (x : V) (xs : List V) (v : Value) (us : List Value) (Q : VK), Inv X pins σ H s → RelV x v → Vals xs us → r x xs H Q →
    wpAny (model X.prog X.w) X.A (call (.builtin id) (v :: us)) (EP X pins σ Q) X.xe s
section
variable {X : Cx} {a b : Expr} {ta tb : TE} {pos : Pos}
theorem IxR.or {r r' : R2} (h : IxR X r) (h' : IxR X r') : IxR X (fun x y H Q => r x y H Q ∨ r' x y H Q) := by
  intro value slice pins s σ H x y v u Q I rx ry q hs
  rcases q with q | q
  · exact h value slice pins s σ H x y v u Q I rx ry q hs
  · exact h' value slice pins s σ H x y v u Q I rx ry q hs
theorem MtR.or {id : String} {r r' : V → List V → Hp → VK → Prop} (h : MtR X id r) (h' : MtR X id r') : MtR X id (fun x xs H Q => r x xs H Q ∨ r' x xs H Q) := by
  intro pins s σ H x xs v us Q I rx rs q
  rcases q with q | q
  · exact h pins s σ H x xs v us Q I rx rs q
  · exact h' pins s σ H x xs v us Q I rx rs q
theorem pe_ix {r : R2} (hr : IxR X r) (ha : PE X a ta) (hb : PE X b tb) (hs : PlainIx b) : PE X (.Subscript a b pos) (tOp r ta tb) := by
  intro pins s σ H Q I h
  exact Subscript_ (binT ha hb I h fun v u s2 x y H2 I2 rx ry q => hr a b pins s2 σ H2 x y v u Q I2 rx ry q (hs _ _))
def rIxL (K : PySem.W.Frag) : R2 := fun x y H Q => ∃ p xs i v, x = .ref p ∧ y = .int i ∧ SqL K H p xs ∧ atI xs i = some v ∧ Q v H
def rIxT (K : PySem.W.Frag) : R2 := fun x y H Q => ∃ p xs i v, x = .ref p ∧ y = .int i ∧ SqT K H p xs ∧ atI xs i = some v ∧ Q v H
def rIxS : R2 := fun x y H Q => ∃ z i c, x = .str z ∧ y = .int i ∧ z.length ≤ sizeLine ∧ atI z.cps.toList i = some c ∧ Q (.str ⟨#[c]⟩) H
theorem ix_list : IxR X (rIxL X.K) := by
  intro value slice pins s σ H x y v u Q I rx ry h hs
  obtain ⟨p, xs, i, z, rfl, rfl, hq, he, q⟩ := h
  cases rx
  obtain ⟨t, rfl⟩ := ry
  obtain ⟨its, r, pl, hz⟩ := I.list hq
  obtain ⟨j, h1, h2, h3, h4, h5⟩ := atI_get he
  obtain ⟨w, ew, rw'⟩ := r.get h2
  have hl := r.length
  have hn := line63
  have fin : EP X pins σ Q w s := ⟨z, H, I, rw', q⟩
  by_cases h0 : 0 ≤ i
  · have hj : i.toNat = j := by
      rw [seqIndex_of h0 h5] at h1
      exact Option.some.inj h1
    exact item_listR pl.isList h0 (by omega) (by rw [hj]; simpa using ew) fin hs
  · have hj : (i + (its.toArray.size : Int)).toNat = j := by
      rw [seqIndex_neg (by omega) h4] at h1
      rw [List.size_toArray, ← hl]
      exact Option.some.inj h1
    exact subscriptTail_builtinR (x := w) pl.isList.typeIs slot_list_getitem.lookup
      (wpAny_getItem_list_neg (Q := fun r s' => r = w ∧ EP X pins σ Q r s') pl.isList (by omega) (by rw [List.size_toArray] <;> omega) (by omega) (by rw [hj]; simpa using ew) ⟨rfl, fin⟩) hs
theorem ix_tup : IxR X (rIxT X.K) := by
  intro value slice pins s σ H x y v u Q I rx ry h hs
  obtain ⟨p, xs, i, z, rfl, rfl, hq, he, q⟩ := h
  cases rx
  obtain ⟨t, rfl⟩ := ry
  obtain ⟨its, r, pl, hz⟩ := I.tuple hq
  obtain ⟨j, h1, h2, h3, h4, h5⟩ := atI_get he
  obtain ⟨w, ew, rw'⟩ := r.get h2
  have hl := r.length
  have hn := line63
  have fin : EP X pins σ Q w s := ⟨z, H, I, rw', q⟩
  exact subscriptTail_builtinR (x := w) pl.typeIs slot_tuple_getitem.lookup
    (getItem_tuple (j := j) (Q := fun r s' => r = w ∧ EP X pins σ Q r s') pl (by omega) (by omega) (by rw [List.size_toArray, ← hl]; exact h1) (by simpa using ew) ⟨rfl, fin⟩) hs
theorem ix_str : IxR X rIxS := by
  intro value slice pins s σ H x y v u Q I rx ry h hs
  obtain ⟨z, i, c, rfl, rfl, hz, he, q⟩ := h
  obtain ⟨t, rfl⟩ := rx
  obtain ⟨t', rfl⟩ := ry
  obtain ⟨j, h1, h2, h3, h4, h5⟩ := atI_get he
  have hl : z.cps.toList.length = z.length := by simp [Str.length]
  rw [hl] at h1 h4 h5
  have hn := line63
  exact tail_any (typeIs_str s z t) slot_str_getitem.lookup (getItem_str (c := c) (by
    have e1 : decide (i < -(2 ^ 63 : Int)) = false := decide_eq_false (by omega)
    have e2 : decide (i ≥ 2 ^ 63) = false := decide_eq_false (by omega)
    rw [e1, e2, Bool.or_false]) (by rw [h1]; simpa using h2) ⟨.str ⟨#[c]⟩, H, I.tok _, ⟨_, rfl⟩, q⟩) hs
theorem Inv.lst {pins : List (Addr × Obj)} {σ : St} {H : Hp} {s : Shared} {p : Addr} {xs : List V} (I : Inv X pins σ H s) (h : H p = some (.lst xs)) :
    ∃ (its : List Value) (n : Nat), Vals xs its ∧ s.heap.get? p = some { cls := .type "list", data := .seq its.toArray n } ∧ xs.length ≤ sizeLine := by
  obtain ⟨z, its, n, r, e⟩ := I.hok p _ h
  exact ⟨its, n, r, e, z⟩
theorem slice_bounds (lo hi : Option Int) (n : Nat) : (sliceBounds lo hi none n).1 = ((HT.sIx n 0 lo : Nat) : Int) ∧ (sliceBounds lo hi none n).2.1 = ((HT.sIx n n hi : Nat) : Int) ∧ (sliceBounds lo hi none n).2.2 = 1 := by
  refine ⟨?_, ?_, rfl⟩
  · cases lo with
    | none => simp [sliceBounds, HT.sIx]
    | some i =>
      simp only [sliceBounds, HT.sIx, Option.getD_none, show (1 : Int) > 0 by decide, if_true]
      by_cases h : i < 0
      · simp only [h, if_true] <;> omega
      · simp only [h, if_false] <;> omega
  · cases hi with
    | none => simp [sliceBounds, HT.sIx]
    | some i =>
      simp only [sliceBounds, HT.sIx, Option.getD_none, show (1 : Int) > 0 by decide, if_true]
      by_cases h : i < 0
      · simp only [h, if_true] <;> omega
      · simp only [h, if_false] <;> omega
theorem slicePick_cut (its : List Value) (lo hi : Option Int) : slicePick its.toArray lo hi none = ((its.drop (HT.sIx its.length 0 lo)).take (HT.sIx its.length its.length hi - HT.sIx its.length 0 lo)).toArray := by
  obtain ⟨h1, h2, h3⟩ := slice_bounds lo hi its.toArray.size
  unfold slicePick
  rw [h1, h2, h3]
  simp only [sliceRange_one, pick_run, List.size_toArray] <;> rfl
def rSlL (K : PySem.W.Frag) : V → Option Int → Option Int → Hp → VK → Prop := fun x lo hi H Q => ∃ a xs, x = .ref a ∧ SqL K H a xs ∧ ∀ p, H p = none → Q (.ref p) (upd H p (.lst (cutV xs lo hi)))
theorem sl_list : SlR X (rSlL X.K) := by
  intro pins s σ H x v vl vu lo hi sl Q I rx hs pl pu h
  obtain ⟨a, xs, rfl, hx, q⟩ := h
  cases rx
  obtain ⟨its, r, ht, hz⟩ := I.list hx
  have hlen := r.length
  refine ⟨"list", _, slot_list_getitem.lookup, ht.isList.typeIs, ?_⟩
  refine wpAny_getItem_list_slice ht.isList hs pl pu .none (by simp) ?_ (by rw [List.size_toArray] <;> omega)
  rw [slicePick_cut, ← hlen]
  refine ⟨.ref s.heap.objs.size, _, I.laid (t' := s.toks) (o := .lst (cutV xs lo hi)) (fun b ob q => Heap.get?_push_of_some _ q) (Nat.le_refl _) ?_, rfl, q _ (I.hok.fresh (Nat.le_refl _))⟩
  exact ⟨Nat.le_trans (cutV_length xs lo hi) hz, _, 0, (r.drop (HT.sIx xs.length 0 lo)).take (HT.sIx xs.length xs.length hi - HT.sIx xs.length 0 lo), Heap.get?_push_size _ rfl⟩
theorem call_len_seq : CallR X (.builtin "len") (fun xs H Q => ∃ p ys, xs = [.ref p] ∧ (SqL X.K H p ys ∨ SqT X.K H p ys) ∧ Q (.int ys.length) H) := by
  intro pins s σ H xs us Q I r h
  obtain ⟨p, ys, rfl, hq, q⟩ := h
  obtain ⟨u, rfl, rx⟩ := vals1 r
  cases rx
  have hn := line63
  rcases hq with hq | hq
  · obtain ⟨its, r', pl, hz⟩ := I.list hq
    have hlen := r'.length
    exact Calls.call_len_list pl.isList (by simp only [List.size_toArray] <;> omega) ⟨.int ys.length, H, I.tok _, ⟨s.toks + 1, by rw [List.size_toArray, hlen]⟩, q⟩
  · obtain ⟨its, r', pl, hz⟩ := I.tuple hq
    have hlen := r'.length
    exact len_tuple pl (by simp only [List.size_toArray] <;> omega) ⟨.int ys.length, H, I.tok _, ⟨s.toks + 1, by rw [List.size_toArray, hlen]⟩, q⟩
theorem call_len_str : CallR X (.builtin "len") (fun xs H Q => ∃ z, xs = [.str z] ∧ z.length ≤ sizeLine ∧ Q (.int z.length) H) := by
  intro pins s σ H xs us Q I r h
  obtain ⟨z, rfl, hz, q⟩ := h
  obtain ⟨u, rfl, t, rfl⟩ := vals1 r
  have hn := line63
  exact len_str (by omega) ⟨.int z.length, H, I.tok _, ⟨_, rfl⟩, q⟩
theorem CallR.or {f : Value} {r r' : List V → Hp → VK → Prop} (h : CallR X f r) (h' : CallR X f r') : CallR X f (fun xs H Q => r xs H Q ∨ r' xs H Q) := by
  intro pins s σ H xs us Q I rs q
  rcases q with q | q
  · exact h pins s σ H xs us Q I rs q
  · exact h' pins s σ H xs us Q I rs q
theorem call_list_of : CallR X (.type "list") (fun xs H Q => ∃ p ys, xs = [.ref p] ∧ (SqL X.K H p ys ∨ SqT X.K H p ys) ∧ ∀ l, H l = none → Q (.ref l) (upd H l (.lst ys))) := by
  intro pins s σ H xs us Q I r h
  obtain ⟨p, ys, rfl, hq, q⟩ := h
  obtain ⟨u, rfl, rx⟩ := vals1 r
  cases rx
  have fin : ∀ (its : List Value), Vals ys its → ys.length ≤ sizeLine → ∀ (h' : Heap) (c' : Nat), (∀ b o', s.heap.get? b = some o' → h'.get? b = some o') →
      h'.get? s.heap.objs.size = some { cls := .type "list", dict := none, data := .seq its.toArray c', slots := #[] } → EP X pins σ Q (.ref s.heap.objs.size) { s with heap := h' } := fun its r' hz h' c' kp e =>
    ⟨.ref s.heap.objs.size, _, I.laid (t' := s.toks) kp (Nat.le_refl _) (show ObjOk X.prog X.w _ h' _ (.lst ys) from ⟨hz, its, c', r', e⟩), rfl, q _ (I.hok.fresh (Nat.le_refl _))⟩
  rcases hq with hq | hq
  · obtain ⟨its, r', pl, hz⟩ := I.list hq
    have hlen := r'.length
    obtain ⟨o, ho, hc, n, hd⟩ := pl.isList
    exact call_list_seq p (.inl rfl) ho hc hd (fun h' c' kp e => fin its r' hz h' c' kp e) (by simp only [List.size_toArray] <;> omega)
  · obtain ⟨its, r', pl, hz⟩ := I.tuple hq
    have hlen := r'.length
    obtain ⟨o, ho, hc, n, hd⟩ := pl
    exact call_list_seq p (.inr rfl) ho hc hd (fun h' c' kp e => fin its r' hz h' c' kp e) (by simp only [List.size_toArray] <;> omega)
def tyV (K : PySem.W.Frag) (T : String) (x : V) (H : Hp) : Prop := match x with
  | .str _ => T = "str"
  | .int _ => T = "int"
  | .ref p => (T = "list" ∧ ∃ xs, SqL K H p xs) ∨ (T = "tuple" ∧ ∃ o, K.lookup p = some o ∧ o.cls = .type "tuple" ∧ o.dict = none) ∨
      (T = "dict" ∧ ((∃ kvs, H p = some (.dK kvs)) ∨ ∃ kvs, H p = some (.dT kvs))) ∨ (T = "set" ∧ ∃ S n, H p = some (.set S n))
  | _ => False
theorem tyV_is {pins : List (Addr × Obj)} {σ : St} {H : Hp} {s : Shared} {T : String} {x : V} {v : Value} (I : Inv X pins σ H s) (r : RelV x v) (ty : tyV X.K T x H) :
    s.TypeIs v T ∧ ∀ a, v = .ref a → ∃ ob, s.heap.get? a = some ob ∧ ob.dict = none := by
  cases x with
  | str z =>
    obtain ⟨t, rfl⟩ := r
    cases (show T = "str" from ty)
    exact ⟨typeIs_str s z t, fun _ e => nomatch e⟩
  | int i =>
    obtain ⟨t, rfl⟩ := r
    cases (show T = "int" from ty)
    exact ⟨typeIs_int s i t, fun _ e => nomatch e⟩
  | ref p =>
    cases r
    rcases ty with ⟨rfl, xs, hq⟩ | ⟨rfl, o, hk, hc, hd⟩ | ⟨rfl, hk⟩ | ⟨rfl, S, n, hk⟩
    · obtain ⟨its, _, pl, _⟩ := I.list hq
      refine ⟨pl.isList.typeIs, fun a e => ?_⟩
      cases e
      obtain ⟨o, n, e, c, hd, _⟩ := pl
      exact ⟨o, e, hd⟩
    · refine ⟨⟨o, I.kIn p o hk, hc⟩, fun a e => ?_⟩
      cases e
      exact ⟨o, I.kIn _ o hk, hd⟩
    · have z : ∃ o, s.heap.get? p = some o ∧ o.ExactDict := by
        rcases hk with ⟨kvs, hk⟩ | ⟨kvs, hk⟩
        · obtain ⟨_, _, _, _, o, _, _, e, ex, _⟩ := I.hok p _ hk
          exact ⟨o, e, ex⟩
        · obtain ⟨_, _, _, _, o, _, _, e, ex, _⟩ := I.hok p _ hk
          exact ⟨o, e, ex⟩
      obtain ⟨o, e, ex⟩ := z
      refine ⟨⟨o, e, ex.1⟩, fun a e2 => ?_⟩
      cases e2
      exact ⟨o, e, ex.2.1⟩
    · obtain ⟨o, _, _, _, e, ex, _⟩ := I.hok p _ hk
      refine ⟨⟨o, e, ex.1⟩, fun a e2 => ?_⟩
      cases e2
      exact ⟨o, e, ex.2.1⟩
  | _ => exact False.elim ty
def tBM (K : PySem.W.Frag) (T : String) (r : V → List V → Hp → VK → Prop) (to : TE) (t : TA) : TE := fun σ H Q => to σ H fun x H1 => tyV K T x H1 ∧ t σ H1 fun xs H2 => r x xs H2 Q
variable {o e : Expr} {es : List Expr} {to : TE} {t : TA} {name : Str} {apos cpos : Pos} {T id : String} {r : V → List V → Hp → VK → Prop}
theorem pe_bm (pa : PlainAttrs T) (slot : Slot T name id) (hty : typeOf (.builtin id) = pure (.type "method_descriptor")) (hm : MtR X id r) (ho : PE X o to) (ha : PA X (e :: es) t)
    (hbase : attributeBase o name X.env (eval o X.env) = eval o X.env := by rfl)
    (hfew : ((backTo cpos (starEach (e :: es) X.env)).all (fun x => !x.1) && (backToKw cpos (keywordEach [] X.env)).all (fun x => x.1.isSome)
      && decide ((e :: es).length + ([] : List Keyword).length + (if ([] : List Keyword).isEmpty then 0 else 1) < 30)) = true := by rfl)
    (hline : (apos.endLine == cpos.line) = true := by rfl) (hs : starEach (e :: es) X.env = (false, eval e X.env) :: starEach es X.env := by rfl) (hplain : (backTo cpos (starEach es X.env)).any (·.1) = false := by rfl) :
    PE X (.Call (.Attribute o name apos) (e :: es) [] cpos) (tBM X.K T r to t) := by
  intro pins s σ H Q I h
  refine wpAny_Call_method_late hbase hfew hline rfl (thn (ho pins s σ H _ I h) fun v s1 ⟨x, H1, I1, r1, ty, q1⟩ => ?_)
  obtain ⟨h1, h2⟩ := tyV_is I1 r1 ty
  refine ⟨T, id, pa, slot, hty, h1, h2, ?_⟩
  have hA := ha cpos pins s1 σ H1 _ I1 q1
  rw [hs] at hA ⊢
  refine Calls.callWith_builtin (by show (false || (backTo cpos (starEach es X.env)).any (·.1)) = false; rw [hplain] <;> rfl) (Calls.evalArgs_plain ?_)
  exact thn hA fun us s2 ⟨vs, H2, I2, r2, q2⟩ => hm pins s2 σ H2 x vs v us Q I2 r1 r2 q2
/- xs.append(e), list.index on a module's tuple .. are MtR facts of 06m -/
end
end L2
namespace L2
open PySem PySem.Spec PyProof.Rows
def MtM (X : Cx) (id : String) (r : V → List V → Hp → VK → Prop) : Prop :=
  ∀ (pins : List (Addr × Obj)) (s : Shared) (σ : St) (H : Hp) (x : V) (xs : List V) (v : Value) (us : List Value) (Q : VK), Inv X pins σ H s → RelV x v → Vals xs us → r x xs H Q →
    wpAny (model X.prog X.w) X.A (call (.builtin id) (v :: us)) (EP X pins σ Q) X.xe s
theorem Vals.one : ∀ {x : V} {us : List Value}, Vals [x] us → ∃ u, us = [u] ∧ RelV x u
  | _, _, .cons r .nil => ⟨_, rfl, r⟩
theorem Vals.eraseIdx : ∀ {xs : List V} {us : List Value} (i : Nat), Vals xs us → Vals (xs.eraseIdx i) (us.eraseIdx i)
  | _, _, _, .nil => .nil
  | _, _, 0, .cons _ t => t
  | _, _, i + 1, .cons r t => .cons r (Vals.eraseIdx i t)
section
variable {X : Cx} {pins : List (Addr × Obj)} {σ : St} {H : Hp} {s : Shared} {l b : Addr} {xs ys zs : List V}
theorem Inv.lset {its its' : List Value} {n : Nat} {f : Array Value → Array Value} {t' : Nat} (I : Inv X pins σ H s) (hH : H l = some (.lst xs))
    (e : s.heap.get? l = some { cls := .type "list", data := .seq its.toArray n }) (hf : f its.toArray = its'.toArray) (hv : Vals ys its') (hz : ys.length ≤ sizeLine) :
    Inv X pins σ (upd H l (.lst ys)) { s with heap := s.heap.update l (Obj.mapSeq f), toks := t' } := by
  have q := PySem.IsL.update e f
  rw [hf] at q
  refine I.write (x := l) (e := l) (by rw [hH]; exact trivial) (.inl rfl) (fun b' u hb hu => (Heap.get?_update_other s.heap (Obj.mapSeq f) (Ne.symm hb)).trans hu) ⟨_, q⟩ ?_
  exact ⟨hz, its', _, hv, q⟩
theorem Inv.lnew {its : List Value} {t' : Nat} (I : Inv X pins σ H s) (hv : Vals ys its) (hz : ys.length ≤ sizeLine) :
    Inv X pins σ (upd H s.heap.objs.size (.lst ys)) { s with heap := s.heap.push { cls := .type "list", data := .seq its.toArray }, toks := t' } :=
  I.laid (fun _ _ q => Heap.get?_push_of_some _ q) (Nat.le_refl _) ⟨hz, its, 0, hv, Heap.get?_push_size _ rfl⟩
theorem Inv.fresh (I : Inv X pins σ H s) : H s.heap.objs.size = none := I.hok.fresh (Nat.le_refl _)
theorem Inv.lstM (I : Inv X pins σ H s) (hH : H l = some (.lst xs)) : xs.length ≤ sizeLine ∧ ∃ (its : List Value) (n : Nat), Vals xs its ∧ xs.length = its.length ∧ s.heap.get? l = some { cls := .type "list", data := .seq its.toArray n } := by
  obtain ⟨z, its, n, r, e⟩ := I.hok l _ hH
  exact ⟨z, its, n, r, r.length, e⟩
end
section
variable {X : Cx}
def rAppend : V → List V → Hp → VK → Prop := fun x vs H Q => ∃ l xs y, x = .ref l ∧ vs = [y] ∧ H l = some (.lst xs) ∧ xs.length < sizeLine ∧ Q .non (upd H l (.lst (xs ++ [y])))
theorem mt_append : MtM X "list.append" rAppend := by
  intro pins s σ H x vs v us Q I rx rv h
  obtain ⟨l, xs, y, rfl, rfl, hH, hz, q⟩ := h
  cases rx
  obtain ⟨u, rfl, ru⟩ := rv.one
  obtain ⟨z, its, n, r, hl, e⟩ := I.lstM hH
  refine call_meets F.slot_list_append ⟨_, e, rfl⟩ F.entry_list_append (F.args_list_append_2 _ _) (PySem.list_append l its.toArray n u (by rw [List.size_toArray]; omega)) ⟨e, ?_⟩
  refine ⟨.non, _, I.lset (its' := its ++ [u]) hH e (by simp) (r.append (.cons ru .nil)) ?_, rfl, q⟩
  rw [List.length_append, List.length_singleton]
  omega
end
section
variable {prog : Program} {w : World} {A : Around} {E : Value → Shared → Prop} {s : Shared}
end
section
variable {X : Cx}
end
end L2
namespace Att
open PySem PySem.W PySem.Calls PyProof.Rows
theorem ints_of_wellAll {P : Params} {h : Heap} : ∀ (ns : List Int) (vs : List Value), WellAll P h vs (ns.map WData.int) → IntsAre vs ns := by
  intro ns
  induction ns with
  | nil =>
    intro vs w
    rw [List.map_nil] at w
    cases w
    exact .nil
  | cons n ns ih =>
    intro vs w
    rw [List.map_cons] at w
    cases w with
    | cons a b =>
      cases a
      exact .cons _ _ (ih _ b)
theorem script_of {l : OpenLaw} {n : Nat} (hn : l.most = some n) {P : Params} {h : Heap} {args : List WData} {vals : List Value}
    (hpre : l.row.toRowW.claim.pre args = true) (hwl : WellAll P h vals args) :
    ∃ a vs ns, vals = [Value.ref a] ∧ args = [WData.list (ns.map WData.int)] ∧ h.get? a = some { cls := .type "list", data := .seq vs.toArray } ∧ IntsAre vs ns ∧ ns.length ≤ n := by
  have hsh : WShape.hasAll [] args [.list .int] = true := (pre_splitW hpre).1
  have hc : l.pre.holds [] { args := args } = true := (pre_splitW hpre).2
  obtain ⟨d, r, rfl, h1, h2⟩ := hasAllW_cons hsh
  obtain rfl := hasAllW_nil h2
  obtain ⟨xs, rfl, h3⟩ := hasW_list h1
  obtain ⟨ns, rfl⟩ := items_int h3
  have hlen : ns.length ≤ n := by
    unfold OpenLaw.pre at hc
    have h4 : (WTm.not (.lt (.lit (.int (n : Int))) (.len (.arg 0)))).holds [] { args := [.list (ns.map .int)] } = true := by
      have h4 := (holds_andW hc).1
      rw [hn] at h4
      exact h4
    have h5 := condW_of h4 (w_not (w_lt w_lit (w_len_list (w_arg rfl))))
    rw [List.length_map] at h5
    refine Nat.le_of_not_lt fun q => ?_
    have q' : (n : Int) < ((ns.length : Nat) : Int) := by omega
    first
      | (rw [decide_eq_true q'] at h5; exact absurd h5 (by decide))
      | (simp at h5; omega)
  cases hwl with
  | cons w1 w2 =>
    cases w2
    cases w1 with
    | list ho hall => exact ⟨_, _, ns, rfl, rfl, ho, ints_of_wellAll ns _ hall, hlen⟩
theorem post_true (l : OpenLaw) (args : List WData) : l.row.toRowW.claim.post args (.bool true) args = true :=
  postW_of (r := l.row.toRowW) (X := (true == true))
    (show WShape.has [] (.bool true) .bool = true by first | rfl | decide | simp [WShape.has, WShape.arms, WShape.armsAll])
    (show (WTm.eq .res (.lit (.bool true))).value [] { args := args, res := some (.bool true), after := args } = some (.bool (true == true)) from w_eq_bool (w_res rfl) w_lit) rfl
theorem attach_call {l : OpenLaw} {n : Nat} {q : Program} {loose : List Str} {XP : (Str → Option Value) → Heap → Prop} {YP : World → Heap → Prop} {d : DefRec}
    (hn : l.most = some n) (hdf : d.params.defaults = [])
    (call : ∀ (w : World) (s₀ s₁ : Shared) (mg mb : Str → Option Value) (fa : Addr) (o : Obj) (pm cd doc : Value) (a : Addr) (vs : List Value) (ns : List Int),
      Ground q loose [] XP w s₀ mg mb s₁.heap → YP w s₁.heap →
      s₁.heap.get? fa = some o → o.data = .func (docDef d.name d.params d.body d.scope pm cd doc) → s₁.heap.CodeRec cd d.name → mg d.name = some (.ref fa) →
      s₁.heap.get? a = some { cls := .type "list", data := .seq vs.toArray } → IntsAre vs ns → ns.length ≤ n → s₁.gens = #[] →
      codeAny (model l.prog w) callerA (.call (.ref fa) ⟨[.ref a], []⟩) (fun r s' => r = .ok (.ret (.bool true)) ∧ OldK s₁.heap s'.heap ∧ s'.os = s₁.os ∧ AllBare s'.gens) s₁) :
    WalkO q loose XP YP l.row.toRowW d [] (fun f vs => PySem.call f vs) := by
  intro w s₀ s₁ mg mb G Y fa o pm cd doc dV kV ho hd hcd hD hmg hg args vals as hpre hlay hrd hwl hlo
  obtain rfl : dV = .none := Dflts.none hD hdf
  obtain rfl : kV = .none := Dflts.noKw hD
  obtain ⟨a, vs, ns, rfl, rfl, hobj, hints, hlen⟩ := script_of hn hpre hwl
  refine enter_call (codeAny_mono (call w s₀ s₁ mg mb fa o pm cd doc a vs ns G Y ho (fd_plain hd) hcd hmg hobj hints hlen hg) fun r s' hq => ?_)
  obtain ⟨rfl, h2, h3, h4⟩ := hq
  exact ⟨.inl ⟨.bool true, .bool true, [], rfl, fun _ => rfl, .bool true, post_true l _, fun _ => ⟨List.Pairwise.nil, fun _ hm => (nomatch hm)⟩⟩, h2, h3, h4⟩
section
variable {prog : Program} {w : World} {A : Around} {E : Value → Shared → Prop} {s : Shared} {K : Frag}
end
end Att
namespace L2
open PySem PySem.Spec PyProof.Rows
theorem vals_ints : ∀ {vs : List Value} {ns : List Int}, IntsAre vs ns → Vals (ns.map V.int) vs
  | _, _, .nil => .nil
  | _, _, .cons n t h => .cons ⟨t, rfl⟩ (vals_ints h)
def Only (H : Hp) : Prop := ∀ b, H b = none ∨ ∃ o xs, H b = some (.frz o (.lst xs))
theorem law_call {P : Program} {w : World} {K : PySem.W.Frag} {mg mb : Str → Option Value} {CX : CXT} {k : Nat} {fa a : Addr} {fd : FuncData} {x : Str} {sp : Sp} {s₁ : Shared} {vs : List Value} {ns : List Int}
    (KX : K.In s₁.heap) (hns : s₁.heap.Ns mainGlobals mg) (hb : s₁.heap.Ns builtinsNs mb) (hbb : ∀ x : Str, x ≠ "__name__" → mb x = bootBuiltins x) (hlim : s₁.heap.NoLimit) (hg : s₁.gens = #[])
    (ha : s₁.heap.get? a = some { cls := .type "list", data := .seq vs.toArray }) (hi : IntsAre vs ns) (hl : ns.length ≤ sizeLine) (hr : Room k callerA)
    (F : ∀ base : Heap, K.In base → base.Ns mainGlobals mg → FnOk P w K mg base CX k fa fd [x] sp) (hbind : ∀ (s : Shared) (u : Value), BindsTo s fd ⟨[u], []⟩ [(x, u)])
    (hsp : ∀ H : Hp, Only H → SqL K H a (ns.map V.int) → sp [.ref a] H (fun v _ => v = .bl true) fun _ _ _ => False)
    (hCX : ∀ H e s', CX [] H s₁ (fun _ _ _ => False) e s' → False) :
    codeAny (model P w) callerA (.call (.ref fa) ⟨[.ref a], []⟩) (fun r s' => r = .ok (.ret (.bool true)) ∧ OldK s₁.heap s'.heap ∧ s'.os = s₁.os ∧ AllBare s'.gens) s₁ := by
  have rv := vals_ints hi
  have lenV := hi.length
  have core : ∀ H : Hp, Only H → SqL K H a (ns.map V.int) → HOk P w H s₁.heap → (∀ b, H b ≠ none → b = a) → (H a ≠ none → K.lookup a = none) →
      codeAny (model P w) callerA (.call (.ref fa) ⟨[.ref a], []⟩) (fun r s' => r = .ok (.ret (.bool true)) ∧ OldK s₁.heap s'.heap ∧ s'.os = s₁.os ∧ AllBare s'.gens) s₁ := by
    intro H hO hS hok hA hK
    have base_of : ∀ {b : Addr} {o : Obj}, s₁.heap.get? b = some o → H b = none → (hidT s₁.heap H).get? b = some o := fun e n => hidT_get e n
    have noA : ∀ {b : Addr} {o : Obj} {es : Array DictEntry} {ep : Nat}, s₁.heap.get? b = some o → o.data = .dict es ep → H b = none := fun {b o es ep} e d => by
      cases q : H b with
      | none => rfl
      | some u =>
        have e' : b = a := hA b (by rw [q]; simp)
        subst e'
        rw [ha] at e; cases e
        have d' : Data.seq vs.toArray _ = Data.dict es ep := d
        cases d'
    have nsK : ∀ {b : Addr} {m : Str → Option Value}, s₁.heap.Ns b m → (hidT s₁.heap H).Ns b m := fun {b m} ⟨o, es, ep, e, d, r⟩ => ⟨o, es, ep, base_of e (noA e d), d, r⟩
    have hKb : K.In (hidT s₁.heap H) := fun b o e => base_of (KX b o e) (by
      cases q : H b with
      | none => rfl
      | some u =>
        have e' : b = a := hA b (by rw [q]; simp)
        subst e'
        rw [hK (by rw [q]; simp)] at e; cases e)
    have hM : Mod K mg (hidT s₁.heap H) := ⟨hKb, nsK hns, ⟨mb, nsK hb, hbb⟩, let ⟨mc, h1, h2⟩ := hlim; ⟨mc, nsK h1, h2⟩⟩
    have e0 : Env0 P w K mg (hidT s₁.heap H) callerA [] s₁ H := ⟨rfl, hM, fun b o e => of_hidT e, Nat.le_of_eq (hidT_size _ _), trivial, fun b hb => absurd (show b ∈ ([] : List Addr) from hb) (by simp), hok, .of_eq hg⟩
    refine codeAny_mono ((F _ hKb (nsK hns)).run callerA [] s₁ H ⟨[.ref a], []⟩ [.ref a] [.ref a] _ _ hr e0 (hbind s₁ (.ref a)) (.cons rfl .nil) (hsp H hO hS)) fun r s' h => ?_
    cases r with
    | error e => exact (hCX H e s' h).elim
    | ok fl =>
      cases fl with
      | next => exact False.elim h
      | brk => exact False.elim h
      | cont => exact False.elim h
      | ret u =>
        obtain ⟨v, H', os, bare, un, hok', r', q⟩ := h
        have q' : v = .bl true := q
        subst q'
        obtain rfl : u = Value.bool true := r'
        refine ⟨rfl, OldK.of_keep fun b o e => ?_, os, bare⟩
        cases q : H b with
        | none => exact un.keep b o e q (by intro z; exact absurd (show b ∈ ([] : List Addr) from z) (by simp)) (by simp)
        | some u =>
          rcases hO b with z | ⟨ob, xs, z⟩
          · rw [q] at z; cases z
          · have z2 := un.frzs b ob _ z
            obtain ⟨e1, _⟩ := hok b _ z
            obtain ⟨e2, _⟩ := hok' b _ z2
            rw [e] at e1; cases e1
            exact e2
  cases hk : K.lookup a with
  | some o =>
    have e := KX a o hk
    rw [ha] at e
    cases e
    refine core (fun _ => none) (fun _ => .inl rfl) (.inr ⟨_, vs.toArray, _, hk, rfl, rfl, rfl, by rw [List.size_toArray, lenV]; exact hl, by simpa using rv⟩) (fun b u z => by have z' : (none : Option HO) = some u := z; cases z') (fun b z => absurd rfl z) fun z => absurd rfl z
  | none =>
    refine core (fun b => if b = a then some (.frz { cls := .type "list", data := .seq vs.toArray } (.lst (ns.map V.int))) else none) (fun b => ?_) (.inl (.inr ⟨{ cls := .type "list", data := .seq vs.toArray }, if_pos rfl⟩)) (fun b u z => ?_) (fun b z => ?_) fun _ => hk
    · by_cases hb : b = a
      · exact .inr ⟨_, _, if_pos hb⟩
      · exact .inl (if_neg hb)
    · by_cases hb : b = a
      · have z' := (if_pos hb).symm.trans z
        cases z'
        subst hb
        exact ⟨ha, by rw [List.length_map]; exact hl, vs, _, rv, ha⟩
      · have z' := (if_neg hb).symm.trans z
        cases z'
    · by_cases hb : b = a
      · exact hb
      · exact absurd (if_neg hb) z
end L2
namespace L2
open PySem PySem.Spec PyProof.Rows
abbrev KOf {K : PySem.W.Frag} {h : Heap} (_ : K.In h) : PySem.W.Frag := K
theorem walk_of {l : PySem.W.OpenLaw} {n k : Nat} {q : Program} {loose : List Str} {XP : (Str → Option Value) → Heap → Prop} {YP : World → Heap → Prop} {d : DefRec} {K : Params → PySem.W.Frag} {CX : World → CXT} {sp : World → Sp} {x : Str}
    (hn : l.most = some n) (hn2 : n ≤ sizeLine) (hdf : d.params.defaults = []) (hr : Room k callerA)
    (hY : ∀ (w : World) (h : Heap), YP w h → (K w.params).In h)
    (F : ∀ (w : World) (mg : Str → Option Value) (fa : Addr) (h : Heap), (K w.params).In h → h.Ns mainGlobals mg → mg d.name = some (.ref fa) →
      ∃ fd : FuncData, (∀ (s : Shared) (u : Value), BindsTo s fd ⟨[u], []⟩ [(x, u)]) ∧
        ∀ base : Heap, (K w.params).In base → base.Ns mainGlobals mg → FnOk l.prog w (K w.params) mg base (CX w) k fa fd [x] (sp w))
    (hsp : ∀ (w : World) (H : Hp) (a : Addr) (ns : List Int), ns.length ≤ n → Only H → SqL (K w.params) H a (ns.map V.int) → sp w [.ref a] H (fun v _ => v = .bl true) fun _ _ _ => False)
    (hCX : ∀ (w : World) (H : Hp) (s : Shared) (e : Value) (s' : Shared), CX w [] H s (fun _ _ _ => False) e s' → False) :
    PySem.W.WalkO q loose XP YP l.row.toRowW d [] (fun f vs => PySem.call f vs) := by
  refine Att.attach_call hn hdf fun w s₀ s₁ mg mb fa o pm cd doc a vs ns G Y ho hd hcd hmg hobj hints hlen hg => ?_
  have KX := hY w _ Y
  obtain ⟨fd, hb, hF⟩ := F w mg fa _ KX G.T.g hmg
  exact law_call KX G.T.g G.T.b G.T.builtins G.T.nolimit hg hobj hints (Nat.le_trans hlen hn2) hr hF hb (fun H hO hS => hsp w H a ns hlen hO hS) fun H e s' => hCX w H s₁ e s'
end L2
/- THE LAST THEOREM (shape; LID, My.* are yours):
   My.Adr: a structure of the addresses that your layer names (classes, functions); My.Txt K t: a structure (Prop) of the equations over K;
   My.txt_mk : {K} {implicit addresses ..} (e1 : nsIn K mainGlobals "law" = some (some (.ref f))) (e2 : K.lookup f = some ⟨oc, od, .func (fnOf "law" "law" params body scope dV kV doc pm an cdv ct), sl⟩) (e3 : codeIn K cdv "law" = true) .. : ∃ t, My.Txt K t
set_option maxRecDepth 100000 in
set_option maxHeartbeats 0 in
theorem PySem.Challenge.cw_LID_holds : PySem.Challenge.rw_LID.Holds := by
  w_on; o_law; k_head; (case hw => w_witness2)
  k_fill
  refine L2.walk_of (l := PySem.Challenge.rw_LID) (n := 63) (k := 40) (x := "script") (CX := fun w => ..) (sp := fun _ => My.sp_law) rfl (by decide) rfl ⟨rfl, by decide, by decide⟩ (fun w h Y => PySem.W.kIn_of Y) ?F ?S ?C
  case F =>
    intro w mg fa h KX G hmg
    have T : ∃ t, My.Txt (L2.KOf KX) t := by
      dsimp only [L2.KOf]                          -- K must stand as «<heap const> w.params» for k_is
      refine' My.txt_mk ?e1 ?e2 ?e3 ..
      (case e1 => PySem.W.k_is)                    -- in the order: a name -> its address -> its object -> its parts
      (case e2 => PySem.W.k_is)
      ..
    obtain ⟨t, T⟩ := T
    have e0 := hmg.symm.trans (PySem.W.mg_of KX G T.law)
    cases e0                                       -- fa is the law's own address
    exact ⟨_, fun s u => .of_eq rfl, fun base kb nb => My.law_fn T kb nb⟩     -- if «.of_eq rfl» comes too early: refine' ⟨_, ?b, fun base kb nb => My.law_fn T kb nb⟩; exact fun s u => .of_eq rfl
  case S => exact fun w H a ns hl hO hS => ..
  case C => exact ..
(the tactic k_is has no namespace: write k_is) -/
namespace L2
open PySem PySem.Spec PyProof.Rows
def defArgs (s : Stmt) : Arguments := match s with
  | .FunctionDef _ a _ _ _ _ _ _ _ _ => a
  | _ => { posonlyargs := [], args := [], vararg := none, kwonlyargs := [], kw_defaults := [], kwarg := none, defaults := [] }
def defBody (s : Stmt) : List Stmt := match s with
  | .FunctionDef _ _ b _ _ _ _ _ _ _ => b
  | _ => []
def defScope (s : Stmt) : Scope := match s with
  | .FunctionDef _ _ _ _ _ _ sc _ _ _ => sc
  | _ => { kind := .function, names := [], isGenerator := false, isCoroutine := false }
abbrev CX0 : CXT := fun _ _ _ _ _ _ => False
abbrev E0 : XK := fun _ _ _ => False
theorem pass0 {X : Cx} : Passes CX0 X E0 := fun _ _ _ _ _ _ _ h => h.elim
structure Fun (K : PySem.W.Frag) (x qual : Str) (st : Stmt) (f : Addr) (fd : FuncData) : Prop where
  ex : ∃ (oc : Value) (od : Option Addr) (kV doc pm : Value) (an : Option Addr) (cdv ct : Value) (osl : Array (Option Value)),
    fd = PySem.W.fnOf x qual (defArgs st) (defBody st) (defScope st) .none kV doc pm an cdv ct ∧ K.lookup f = some ⟨oc, od, .func fd, osl⟩ ∧ PySem.W.codeIn K cdv qual = true
  kp : PySem.W.keepIn K (.ref f) = true
section
variable {P : Program} {w : World} {K : PySem.W.Frag} {mg : Str → Option Value} {base : Heap}
theorem Fun.ok {x qual : Str} {st : Stmt} {f : Addr} {fd : FuncData} {N ps : List Str} {k : Nat} {sp : Sp} (F : Fun K x qual st f fd) (S : FnScope N ps (defScope st)) (len : ∀ vs H Q E, sp vs H Q E → vs.length = ps.length)
    (hbody : ∀ (cdv : Value) (A : Around) (outer : List Env) (s : Shared) (H : Hp) (vs : List V) (Q : VK) (E : XK), Room k (A.deeper (envOfC qual (defScope st) s.heap.objs.size f cdv)) → sp vs H Q E →
      ∃ t, PSs (cxOf CX0 P w K mg base N qual (defScope st) f cdv A outer s H E).nox (defBody st) t ∧ t { nx := fun _ H' => Q .non H', rt := Q } (start N vs) H) : FnOk P w K mg base CX0 (k + 1) f fd ps sp := by
  obtain ⟨oc, od, kV, doc, pm, an, cdv, ct, osl, rfl, lk, hcd⟩ := F.ex
  refine fn_of lk hcd S len fun A outer s H vs Q E hr hsp => ?_
  obtain ⟨t, h, q⟩ := hbody cdv A outer s H vs Q E hr hsp
  exact ⟨t, h.nox, q⟩
theorem Fun.binds {x qual : Str} {st : Stmt} {f : Addr} {fd : FuncData} {ps : List Str} (F : Fun K x qual st f fd)
    (h : ∀ (kV doc pm : Value) (an : Option Addr) (cdv ct : Value) (us : List Value), us.length = ps.length → bindArgs (PySem.W.fnOf x qual (defArgs st) (defBody st) (defScope st) .none kV doc pm an cdv ct) ⟨us, []⟩ = pure (ps.zip us)) : Binds K fd ps [] := by
  obtain ⟨oc, od, kV, doc, pm, an, cdv, ct, osl, rfl, lk, hcd⟩ := F.ex
  exact .all (h kV doc pm an cdv ct)
theorem fun_mk {x qual : Str} {st : Stmt} {f : Addr} {oc : Value} {od an : Option Addr} {osl : Array (Option Value)} {kV doc pm cdv ct : Value} (l : K.lookup f = some ⟨oc, od, .func (PySem.W.fnOf x qual (defArgs st) (defBody st) (defScope st) .none kV doc pm an cdv ct), osl⟩)
    (c : PySem.W.codeIn K cdv qual = true) (k : PySem.W.keepIn K (.ref f) = true) : Fun K x qual st f (PySem.W.fnOf x qual (defArgs st) (defBody st) (defScope st) .none kV doc pm an cdv ct) := ⟨⟨oc, od, kV, doc, pm, an, cdv, ct, osl, rfl, l, c⟩, k⟩
end
section
variable {X : Cx}
end
theorem iteF {A B : Prop} (h : B) : if false = true then A else B := by
  rw [if_neg Bool.false_ne_true]
  exact h
theorem iteT {A B : Prop} (h : A) : if true = true then A else B := by
  rw [if_pos rfl]
  exact h
def Same (H H' : Hp) : Prop := ∀ b o, H b = some o → H' b = some o
theorem Same.refl (H : Hp) : Same H H := fun _ _ h => h
theorem Same.trans {H H1 H2 : Hp} (a : Same H H1) (b : Same H1 H2) : Same H H2 := fun c o h => b c o (a c o h)
theorem Same.free {H H' : Hp} (e : Same H H') {l : Addr} (h : H' l = Option.none) : H l = Option.none := by
  cases q : H l with
  | none => rfl
  | some o =>
    rw [e l o q] at h
    cases h
theorem Same.seq {K : PySem.W.Frag} {H H' : Hp} {a : Addr} {xs : List V} (e : Same H H') (h : SqL K H a xs) : SqL K H' a xs := by
  rcases h with (h | ⟨o, h⟩) | h
  · exact .inl (.inl (e _ _ h))
  · exact .inl (.inr ⟨o, e _ _ h⟩)
  · exact .inr h
section
variable {κ : Type} [DecidableEq κ]
end
end L2
namespace L2.CF
open PySem PySem.Spec PyProof.Rows
variable {K : PySem.W.Frag}
inductive D where
  | non | bl (b : Bool) | int (i : Int) | str (x : Str) | tup (l : List D) | lst (l : List D) | dct (l : List (Key × D))
  | exc (c : Str)
  | ptr (a : Addr)
  | any
  | obj (c f : Str) (d : D)
abbrev Le (G G' : Hp) : Prop := ∀ b o, G b = some o → G' b = some o
theorem Le.refl (G : Hp) : Le G G := fun _ _ h => h
theorem rd_mono {G G' : Hp} (l : Le G G') {a : Addr} {u : HO} (h : Rd G a u) : Rd G' a u := h.elim (fun e => .inl (l _ _ e)) fun ⟨o, e⟩ => .inr ⟨o, l _ _ e⟩
theorem sqT_mono {K : PySem.W.Frag} {G G' : Hp} (l : Le G G') {a : Addr} {vs : List V} (h : SqT K G a vs) : SqT K G' a vs := h.elim (fun e => .inl (rd_mono l e)) .inr
theorem sqL_mono {K : PySem.W.Frag} {G G' : Hp} (l : Le G G') {a : Addr} {vs : List V} (h : SqL K G a vs) : SqL K G' a vs := h.elim (fun e => .inl (rd_mono l e)) .inr
theorem Le.trans {G G1 G2 : Hp} (a : Le G G1) (b : Le G1 G2) : Le G G2 := fun c o h => b c o (a c o h)
def isX (a C : Addr) : Heap → Prop := fun h => ∃ o, h.get? a = some o ∧ o.cls = .ref C
def isXF (a C dx : Addr) : Heap → Prop := fun h => ∃ o, h.get? a = some o ∧ o.cls = .ref C ∧ o.dict = some dx ∧ ∀ c, o.data ≠ .cls c
mutual
inductive Pu (K : PySem.W.Frag) (G : Hp) : V → D → Prop where
  | non : Pu K G .non .non
  | bl {b : Bool} : Pu K G (.bl b) (.bl b)
  | int {i : Int} : Pu K G (.int i) (.int i)
  | str {x : Str} : Pu K G (.str x) (.str x)
  | tup {a : Addr} {vs : List V} {ds : List D} : SqT K G a vs → Pus K G vs ds → Pu K G (.ref a) (.tup ds)
  | lst {a : Addr} {vs : List V} {ds : List D} : SqL K G a vs → Pus K G vs ds → Pu K G (.ref a) (.lst ds)
  | dct {a : Addr} {ks : List (Key × V)} {ds : List (Key × D)} : G a = some (.dK ks) → PuK K G ks ds → Pu K G (.ref a) (.dct ds)
  | exc {a C : Addr} {c : Str} : PySem.W.nsIn K mainGlobals c = some (some (.ref C)) → G a = some (.ext (isX a C)) → Pu K G (.ref a) (.exc c)
  | ptr {a : Addr} : Pu K G (.ref a) (.ptr a)
  | any {a : Addr} : Pu K G (.ref a) .any
  | obj {a C dx : Addr} {c f : Str} {v : V} {d : D} : PySem.W.nsIn K mainGlobals c = some (some (.ref C)) → G a = some (.ext (isXF a C dx)) → G dx = some (.xd [(f, v)]) → Pu K G v d → Pu K G (.ref a) (.obj c f d)
inductive Pus (K : PySem.W.Frag) (G : Hp) : List V → List D → Prop where
  | nil : Pus K G [] []
  | cons {v : V} {vs : List V} {d : D} {ds : List D} : Pu K G v d → Pus K G vs ds → Pus K G (v :: vs) (d :: ds)
inductive PuK (K : PySem.W.Frag) (G : Hp) : List (Key × V) → List (Key × D) → Prop where
  | nil : PuK K G [] []
  | cons {k : Key} {v : V} {vs : List (Key × V)} {d : D} {ds : List (Key × D)} : Pu K G v d → PuK K G vs ds → PuK K G ((k, v) :: vs) ((k, d) :: ds)
end
mutual
theorem Pu.mono {G G' : Hp} (l : Le G G') : ∀ {v : V} {d : D}, Pu K G v d → Pu K G' v d
  | _, _, .non => .non
  | _, _, .bl => .bl
  | _, _, .int => .int
  | _, _, .str => .str
  | _, _, .tup e h => .tup (sqT_mono l e) (Pus.mono l h)
  | _, _, .lst e h => .lst (sqL_mono l e) (Pus.mono l h)
  | _, _, .dct e h => .dct (l _ _ e) (PuK.mono l h)
  | _, _, .exc e h => .exc e (l _ _ h)
  | _, _, .ptr => .ptr
  | _, _, .any => .any
  | _, _, .obj e h1 h2 p => .obj e (l _ _ h1) (l _ _ h2) (Pu.mono l p)
theorem Pus.mono {G G' : Hp} (l : Le G G') : ∀ {v : List V} {d : List D}, Pus K G v d → Pus K G' v d
  | _, _, .nil => .nil
  | _, _, .cons a b => .cons (Pu.mono l a) (Pus.mono l b)
theorem PuK.mono {G G' : Hp} (l : Le G G') : ∀ {v : List (Key × V)} {d : List (Key × D)}, PuK K G v d → PuK K G' v d
  | _, _, .nil => .nil
  | _, _, .cons a b => .cons (Pu.mono l a) (PuK.mono l b)
end
theorem Pus.length {G : Hp} : ∀ {vs : List V} {ds : List D}, Pus K G vs ds → vs.length = ds.length
  | _, _, .nil => rfl
  | _, _, .cons _ h => congrArg (· + 1) (Pus.length h)
theorem Pus.get {G : Hp} : ∀ {vs : List V} {ds : List D} {i : Nat} {d : D}, Pus K G vs ds → ds[i]? = some d → ∃ v, vs[i]? = some v ∧ Pu K G v d
  | _, _, _, _, .nil, e => by simp at e
  | _, _, 0, _, .cons h _, e => by simp at e; subst e; exact ⟨_, rfl, h⟩
  | _, _, i + 1, d, .cons _ t, e => by
    obtain ⟨u, h1, h2⟩ := Pus.get (i := i) (d := d) t (by simpa using e)
    exact ⟨u, by simpa using h1, h2⟩
theorem Pus.append {G : Hp} : ∀ {vs ws : List V} {ds es : List D}, Pus K G vs ds → Pus K G ws es → Pus K G (vs ++ ws) (ds ++ es)
  | _, _, _, _, .nil, s => s
  | _, _, _, _, .cons r t, s => .cons r (Pus.append t s)
theorem Pus.take {G : Hp} : ∀ {vs : List V} {ds : List D} (n : Nat), Pus K G vs ds → Pus K G (vs.take n) (ds.take n)
  | _, _, 0, _ => .nil
  | _, _, _ + 1, .nil => .nil
  | _, _, n + 1, .cons r t => .cons r (Pus.take n t)
theorem Pus.drop {G : Hp} : ∀ {vs : List V} {ds : List D} (n : Nat), Pus K G vs ds → Pus K G (vs.drop n) (ds.drop n)
  | _, _, 0, r => r
  | _, _, _ + 1, .nil => .nil
  | _, _, n + 1, .cons _ t => Pus.drop n t
theorem Pus.set {G : Hp} {v : V} {d : D} (r : Pu K G v d) : ∀ {vs : List V} {ds : List D} (i : Nat), Pus K G vs ds → Pus K G (vs.set i v) (ds.set i d)
  | _, _, _, .nil => .nil
  | _, _, 0, .cons _ t => .cons r t
  | _, _, i + 1, .cons q t => .cons q (Pus.set r i t)
theorem Pus.replicate {G : Hp} {v : V} {d : D} (r : Pu K G v d) : ∀ n : Nat, Pus K G (List.replicate n v) (List.replicate n d)
  | 0 => .nil
  | n + 1 => .cons r (Pus.replicate r n)
inductive RV where
  | p (d : D)
  | L (ds : List D)
  | K (kvs : List (Key × D))
  | S (xs : List D) (a : Addr) (ms : List D)
abbrev DS := List (Option RV)
def RepV (K : PySem.W.Frag) (G H : Hp) (v : V) : RV → List Addr → Prop
  | .p d, S => S = [] ∧ Pu K G v d
  | .L ds, S => ∃ a vs, v = .ref a ∧ S = [a] ∧ H a = some (.lst vs) ∧ G a = none ∧ Pus K G vs ds
  | .K ds, S => ∃ a vs, v = .ref a ∧ S = [a] ∧ H a = some (.dK vs) ∧ G a = none ∧ PuK K G vs ds
  | .S ds a ms, S => ∃ b vs ws, v = .ref b ∧ S = [b, a] ∧ H b = some (.lst vs) ∧ G b = none ∧ Pus K G vs ds ∧ H a = some (.lst ws) ∧ G a = none ∧ Pus K G ws ms ∧ a ≠ b
theorem RepV.gfree {G H : Hp} {v : V} {r : RV} {S : List Addr} (h : RepV K G H v r S) {a : Addr} (ha : a ∈ S) : G a = none := by
  cases r with
  | p d => obtain ⟨rfl, _⟩ := h; simp at ha
  | L ds => obtain ⟨b, vs, _, rfl, _, g, _⟩ := h; simp at ha; subst ha; exact g
  | K ds => obtain ⟨b, vs, _, rfl, _, g, _⟩ := h; simp at ha; subst ha; exact g
  | S ds c ms =>
    obtain ⟨b, vs, ws, _, rfl, _, g, _, _, g', _⟩ := h
    simp at ha
    rcases ha with rfl | rfl
    · exact g
    · exact g'
theorem RepV.there {G H : Hp} {v : V} {r : RV} {S : List Addr} (h : RepV K G H v r S) {a : Addr} (ha : a ∈ S) : ∃ o, H a = some o := by
  cases r with
  | p d => obtain ⟨rfl, _⟩ := h; simp at ha
  | L ds => obtain ⟨b, vs, _, rfl, g, _⟩ := h; simp at ha; subst ha; exact ⟨_, g⟩
  | K ds => obtain ⟨b, vs, _, rfl, g, _⟩ := h; simp at ha; subst ha; exact ⟨_, g⟩
  | S ds c ms =>
    obtain ⟨b, vs, ws, _, rfl, g, _, _, g', _⟩ := h
    simp at ha
    rcases ha with rfl | rfl
    · exact ⟨_, g⟩
    · exact ⟨_, g'⟩
theorem RepV.stay {G H G' H' : Hp} {v : V} {r : RV} {S : List Addr} (h : RepV K G H v r S) (l : Le G G') (k : ∀ a ∈ S, ∀ o, H a = some o → H' a = some o) (g : ∀ a ∈ S, G' a = none) : RepV K G' H' v r S := by
  cases r with
  | p d => exact ⟨h.1, h.2.mono l⟩
  | L ds =>
    obtain ⟨b, vs, e, rfl, h1, h2, h3⟩ := h
    exact ⟨b, vs, e, rfl, k b (by simp) _ h1, g b (by simp), h3.mono l⟩
  | K ds =>
    obtain ⟨b, vs, e, rfl, h1, h2, h3⟩ := h
    exact ⟨b, vs, e, rfl, k b (by simp) _ h1, g b (by simp), h3.mono l⟩
  | S ds c ms =>
    obtain ⟨b, vs, ws, e, rfl, h1, h2, h3, h4, h5, h6, h7⟩ := h
    exact ⟨b, vs, ws, e, rfl, k b (by simp) _ h1, g b (by simp), h3.mono l, k c (by simp) _ h4, g c (by simp), h6.mono l, h7⟩
abbrev Ft := Nat → List Addr
structure Rep (K : PySem.W.Frag) (G H : Hp) (σ : St) (ρ : DS) (A : Ft) : Prop where
  imm : Le G H
  len : σ.length = ρ.length
  slot : ∀ i r, ρ[i]? = some (some r) → ∃ v, σ[i]? = some (some v) ∧ RepV K G H v r (A i)
  emp : ∀ i, (∀ r, ρ[i]? ≠ some (some r)) → A i = []
  disj : ∀ i j a, a ∈ A i → a ∈ A j → i = j
theorem Rep.there {G H : Hp} {σ : St} {ρ : DS} {A : Ft} (R : Rep K G H σ ρ A) {i : Nat} {a : Addr} (h : a ∈ A i) : ∃ o, H a = some o := by
  by_cases q : ∃ r, ρ[i]? = some (some r)
  · obtain ⟨r, q⟩ := q
    obtain ⟨v, _, hv⟩ := R.slot i r q
    exact hv.there h
  · have z := R.emp i (fun r e => q ⟨r, e⟩)
    rw [z] at h
    simp at h
structure Evo (G H : Hp) (A : Ft) (G' H' : Hp) (A' : Ft) : Prop where
  le : Le G G'
  new : ∀ b o, G' b = some o → G b = some o ∨ H b = none ∨ ∃ i, b ∈ A i
  keep : ∀ b o, H b = some o → (∀ i, b ∉ A i) → H' b = some o
  foot : ∀ i b, b ∈ A' i → H b = none ∨ ∃ j, b ∈ A j
theorem Evo.refl (G H : Hp) (A : Ft) : Evo G H A G H A := ⟨Le.refl G, fun _ _ h => .inl h, fun _ _ h _ => h, fun i _ h => .inr ⟨i, h⟩⟩
theorem Evo.back {G H G1 H1 : Hp} {A A1 : Ft} (e : Evo G H A G1 H1 A1) {b : Addr} (h : H1 b = none) : H b = none ∨ ∃ i, b ∈ A i := by
  cases q : H b with
  | none => exact .inl rfl
  | some o =>
    by_cases z : ∃ i, b ∈ A i
    · exact .inr z
    · have k := e.keep b o q (fun i hi => z ⟨i, hi⟩)
      rw [h] at k
      cases k
theorem Evo.trans {G H G1 H1 G2 H2 : Hp} {A A1 A2 : Ft} (a : Evo G H A G1 H1 A1) (b : Evo G1 H1 A1 G2 H2 A2) : Evo G H A G2 H2 A2 where
  le := a.le.trans b.le
  new := fun c o h => by
    rcases b.new c o h with h | h | ⟨i, h⟩
    · exact a.new c o h
    · exact .inr (a.back h)
    · exact .inr (a.foot i c h)
  keep := fun c o h n => b.keep c o (a.keep c o h n) fun i hi => by
    rcases a.foot i c hi with z | ⟨j, z⟩
    · rw [h] at z; cases z
    · exact n j z
  foot := fun i c h => by
    rcases b.foot i c h with h | ⟨j, h⟩
    · exact a.back h
    · exact a.foot j c h
theorem Evo.held {G H G' H' : Hp} {A A' : Ft} (e : Evo G H A G' H' A') {v : V} {r : RV} {S : List Addr} (h : RepV K G H v r S) (d : ∀ i, ∀ a ∈ S, a ∉ A i) : RepV K G' H' v r S := by
  refine h.stay e.le (fun a ha o q => e.keep a o q fun i => d i a ha) fun a ha => ?_
  cases q : G' a with
  | none => rfl
  | some o =>
    rcases e.new a o q with z | z | ⟨i, z⟩
    · rw [h.gfree ha] at z; cases z
    · obtain ⟨o', q'⟩ := h.there ha
      rw [q'] at z; cases z
    · exact absurd z (d i a ha)
theorem Evo.heldApart {G H G' H' : Hp} {A A' : Ft} (e : Evo G H A G' H' A') {v : V} {r : RV} {S : List Addr} (h : RepV K G H v r S) (d : ∀ i, ∀ a ∈ S, a ∉ A i) : ∀ i, ∀ a ∈ S, a ∉ A' i := fun i a ha z => by
  rcases e.foot i a z with q | ⟨j, q⟩
  · obtain ⟨o, q'⟩ := h.there ha
    rw [q] at q'; cases q'
  · exact d j a ha q
structure Al (G H G' H' : Hp) : Prop where
  leG : Le G G'
  leH : Le H H'
  imm : Le G' H'
  new : ∀ b o, G' b = some o → G b = some o ∨ H b = none
theorem Al.refl {G H : Hp} (l : Le G H) : Al G H G H := ⟨Le.refl G, Le.refl H, l, fun _ _ h => .inl h⟩
theorem Al.trans {G H G1 H1 G2 H2 : Hp} (a : Al G H G1 H1) (b : Al G1 H1 G2 H2) : Al G H G2 H2 :=
  ⟨a.leG.trans b.leG, a.leH.trans b.leH, b.imm, fun c o h => by
    rcases b.new c o h with h | h
    · exact a.new c o h
    · refine .inr ?_
      cases q : H c with
      | none => rfl
      | some o' => rw [a.leH c o' q] at h; cases h⟩
theorem Al.rv {G H G' H' : Hp} (a : Al G H G' H') {v : V} {r : RV} {S : List Addr} (h : RepV K G H v r S) : RepV K G' H' v r S :=
  h.stay a.leG (fun b _ o q => a.leH b o q) fun b hb => by
    cases q : G' b with
    | none => rfl
    | some o =>
      rcases a.new b o q with z | z
      · rw [h.gfree hb] at z; cases z
      · obtain ⟨o', q'⟩ := h.there hb
        rw [q'] at z; cases z
theorem Al.rep {G H G' H' : Hp} {σ : St} {ρ : DS} {A : Ft} (a : Al G H G' H') (R : Rep K G H σ ρ A) : Rep K G' H' σ ρ A :=
  ⟨a.imm, R.len, fun i r e => let ⟨v, h1, h2⟩ := R.slot i r e; ⟨v, h1, a.rv h2⟩, R.emp, R.disj⟩
theorem Al.evo {G H G' H' : Hp} {A : Ft} (a : Al G H G' H') : Evo G H A G' H' A :=
  ⟨a.leG, fun b o h => (a.new b o h).elim .inl fun z => .inr (.inl z), fun b o h _ => a.leH b o h, fun i b h => .inr ⟨i, h⟩⟩
theorem le_upd {H : Hp} {p : Addr} {o : HO} (h : H p = none) : Le H (upd H p o) := fun b u q => by rw [upd_ne (ne_of_none q h)]; exact q
theorem Al.frozen {G H : Hp} {p : Addr} {o : HO} (l : Le G H) (h : H p = none) : Al G H (upd G p o) (upd H p o) := by
  have g : G p = none := by
    cases q : G p with
    | none => rfl
    | some u => rw [l p u q] at h; cases h
  refine ⟨le_upd g, le_upd h, fun b u q => ?_, fun b u q => ?_⟩
  · by_cases e : b = p
    · subst e; rw [upd_same] at q ⊢; exact q
    · rw [upd_ne e] at q ⊢; exact l b u q
  · by_cases e : b = p
    · subst e; exact .inr h
    · rw [upd_ne e] at q; exact .inl q
theorem Al.own {G H : Hp} {p : Addr} {o : HO} (l : Le G H) (h : H p = none) : Al G H G (upd H p o) :=
  ⟨Le.refl G, le_upd h, l.trans (le_upd h), fun _ _ q => .inl q⟩
theorem g_none {G H : Hp} {p : Addr} (l : Le G H) (h : H p = none) : G p = none := by
  cases q : G p with
  | none => rfl
  | some u => rw [l p u q] at h; cases h
inductive RR where
  | own (r : RV)
  | at (i : Nat)
def ResOf (K : PySem.W.Frag) (G H : Hp) (σ : St) (A : Ft) (v : V) : RR → List Addr → Prop
  | .own r, S => RepV K G H v r S ∧ ∀ i, ∀ a ∈ S, a ∉ A i
  | .at i, S => S = [] ∧ σ[i]? = some (some v)
def res (ρ : DS) : RR → Option RV
  | .own r => some r
  | .at i => ρ[i]?.join
theorem res_of {G H : Hp} {σ : St} {ρ : DS} {A : Ft} {v : V} {rr : RR} {S : List Addr} {r : RV} (R : Rep K G H σ ρ A) (h : ResOf K G H σ A v rr S) (e : res ρ rr = some r) : ∃ S', RepV K G H v r S' := by
  cases rr with
  | own q => cases e; exact ⟨S, h.1⟩
  | «at» i =>
    obtain ⟨_, hv⟩ := h
    have e' : ρ[i]? = some (some r) := by
      have e : ρ[i]?.join = some r := e
      cases q : ρ[i]? with
      | none => rw [q] at e; cases e
      | some o => rw [q] at e; cases o with
        | none => cases e
        | some x => cases e; rfl
    obtain ⟨u, hu, hr⟩ := R.slot i r e'
    rw [hv] at hu
    cases hu
    exact ⟨_, hr⟩
theorem ResOf.evo {G H G' H' : Hp} {σ : St} {A A' : Ft} {v : V} {rr : RR} {S : List Addr} (e : Evo G H A G' H' A') (h : ResOf K G H σ A v rr S) : ResOf K G' H' σ A' v rr S := by
  cases rr with
  | own r => exact ⟨e.held h.1 h.2, e.heldApart h.1 h.2⟩
  | «at» i => exact h
def tD (K : PySem.W.Frag) (ρ : DS) (rr : RR) (ρ' : DS) : TE := fun σ H Q => ∃ G A, Rep K G H σ ρ A ∧ ∀ v G' H' A' S, Evo G H A G' H' A' → Rep K G' H' σ ρ' A' → ResOf K G' H' σ A' v rr S → (∀ a ∈ S, H a = none ∨ ∃ i, a ∈ A i) → Q v H'
abbrev FE := DS → Option (RR × DS)
def DE (X : Cx) (e : Expr) (f : FE) : Prop := ∀ ρ rr ρ', f ρ = some (rr, ρ') → PE X e (tD X.K ρ rr ρ')
theorem PE.imp {X : Cx} {e : Expr} {t t' : TE} (h : PE X e t) (i : ∀ σ H Q, t' σ H Q → t σ H Q) : PE X e t' := fun pins s σ H Q I q => h pins s σ H Q I (i σ H Q q)
def tDT (K : PySem.W.Frag) (ρ : DS) (b : Bool) (ρ' : DS) : TT := fun σ H Q => ∃ G A, Rep K G H σ ρ A ∧ ∀ G' H' A', Evo G H A G' H' A' → Rep K G' H' σ ρ' A' → Q b H'
abbrev FT := DS → Option (Bool × DS)
def DT (X : Cx) (e : Expr) (f : FT) : Prop := ∀ ρ b ρ', f ρ = some (b, ρ') → PT X e (tDT X.K ρ b ρ')
theorem PT.imp {X : Cx} {e : Expr} {t t' : TT} (h : PT X e t) (i : ∀ σ H Q, t' σ H Q → t σ H Q) : PT X e t' := fun pins s σ H Q I q => h pins s σ H Q I (i σ H Q q)
def ResL (K : PySem.W.Frag) (G H : Hp) (σ : St) (A : Ft) : List V → List RR → List (List Addr) → Prop
  | [], [], [] => True
  | v :: vs, r :: rs, S :: Ss => ResOf K G H σ A v r S ∧ (∀ T ∈ Ss, ∀ a ∈ S, a ∉ T) ∧ ResL K G H σ A vs rs Ss
  | _, _, _ => False
def tDA (K : PySem.W.Frag) (ρ : DS) (rs : List RR) (ρ' : DS) : TA := fun σ H Q => ∃ G A, Rep K G H σ ρ A ∧ ∀ vs G' H' A' Ss, Evo G H A G' H' A' → Rep K G' H' σ ρ' A' → ResL K G' H' σ A' vs rs Ss → (∀ S ∈ Ss, ∀ a ∈ S, H a = none ∨ ∃ i, a ∈ A i) → Q vs H'
abbrev FA := DS → Option (List RR × DS)
def DA (X : Cx) (es : List Expr) (f : FA) : Prop := ∀ ρ rs ρ', f ρ = some (rs, ρ') → PA X es (tDA X.K ρ rs ρ')
theorem PA.imp {X : Cx} {e : List Expr} {t t' : TA} (h : PA X e t) (i : ∀ σ H Q, t' σ H Q → t σ H Q) : PA X e t' := fun pos pins s σ H Q I q => h pos pins s σ H Q I (i σ H Q q)
end L2.CF
namespace L2.CF
open PySem PySem.Spec PyProof.Rows
variable {K : PySem.W.Frag}
section
variable {X : Cx} {a b c : Expr} {pos : Pos} {fa fb fc : FE} {es : List Expr}
def fVar (i : Nat) : FE := fun ρ => match ρ[i]? with
  | some (some (.p d)) => some (.own (.p d), ρ)
  | some (some _) => some (.at i, ρ)
  | _ => none
theorem de_var {i : Nat} (h : PE X a (tVar i)) : DE X a (fVar i) := by
  intro ρ rr ρ' hf
  refine PE.imp h fun σ H Q ⟨G, A, R, k⟩ => ?_
  unfold fVar at hf
  cases e : ρ[i]? with
  | none => rw [e] at hf; cases hf
  | some o =>
    rw [e] at hf
    cases o with
    | none => cases hf
    | some r =>
      obtain ⟨v, hv, hr⟩ := R.slot i r e
      refine ⟨v, hv, ?_⟩
      cases r with
      | p d =>
        cases hf
        exact k v G H A [] (Evo.refl _ _ _) R ⟨⟨rfl, hr.2⟩, by simp⟩ (by simp)
      | L ds => cases hf; exact k v G H A [] (Evo.refl _ _ _) R ⟨rfl, hv⟩ (by simp)
      | K ds => cases hf; exact k v G H A [] (Evo.refl _ _ _) R ⟨rfl, hv⟩ (by simp)
      | S ds c ms => cases hf; exact k v G H A [] (Evo.refl _ _ _) R ⟨rfl, hv⟩ (by simp)
def fC (d : D) : FE := fun ρ => some (.own (.p d), ρ)
theorem de_c {v : V} {d : D} (h : PE X a (tC v)) (hp : ∀ G, Pu X.K G v d) : DE X a (fC d) := by
  intro ρ rr ρ' hf
  cases hf
  exact PE.imp h fun σ H Q ⟨G, A, R, k⟩ => k v G H A [] (Evo.refl _ _ _) R ⟨⟨rfl, hp G⟩, by simp⟩ (by simp)
theorem de_int {i j pos} : DE X (.Constant (.int i) j pos) (fC (.int i)) := de_c pe_int fun _ => .int
theorem de_bl {i j pos} : DE X (.Constant (.bool i) j pos) (fC (.bl i)) := de_c pe_bl fun _ => .bl
theorem de_str {i j pos} : DE X (.Constant (.str i) j pos) (fC (.str i)) := de_c pe_str fun _ => .str
theorem dv (i : Nat) {x : Str} {pos : Pos} (hN : X.N[i]? = some x := by rfl) (hv : Vis X.env.scope x := by first | exact Or.inl rfl | exact Or.inr (Or.inl rfl) | exact Or.inr (Or.inr rfl)) (hd : (x == ("__debug__" : Str)) = false := by decide)
    (hcd : (x == ("__classdict__" : Str)) = false := by decide) : DE X (.Name x pos) (fVar i) := de_var (pe_var hN hv hd hcd)
abbrev G2 := RV → RV → Option RV
def rdOp (K : PySem.W.Frag) (x y r : RV) : R2 := fun vx vy H Q => ∃ G Sx Sy, Le G H ∧ RepV K G H vx x Sx ∧ RepV K G H vy y Sy ∧ ∀ v G' H' S, Al G H G' H' → RepV K G' H' v r S → (∀ a ∈ S, H a = none) → Q v H'
def OpD (X : Cx) (F : Value → Value → Sem Value) (g : G2) : Prop := ∀ x y r, g x y = some r → OpR X F (rdOp X.K x y r)
def IxD (X : Cx) (g : G2) : Prop := ∀ x y r, g x y = some r → IxR X (rdOp X.K x y r)
theorem OpR.imp {F : Value → Value → Sem Value} {r r' : R2} (h : OpR X F r) (i : ∀ x y H Q, r' x y H Q → r x y H Q) : OpR X F r' := fun pins s σ H x y v u Q I rx ry q => h pins s σ H x y v u Q I rx ry (i x y H Q q)
theorem IxR.imp {r r' : R2} (h : IxR X r) (i : ∀ x y H Q, r' x y H Q → r x y H Q) : IxR X r' := fun va sl pins s σ H x y v u Q I rx ry q => h va sl pins s σ H x y v u Q I rx ry (i x y H Q q)
def f2 (g : G2) (fa fb : FE) : FE := fun ρ => (fa ρ).bind fun p => (fb p.2).bind fun q => (res q.2 p.1).bind fun x => (res q.2 q.1).bind fun y => (g x y).map fun r => (.own r, q.2)
theorem f2_inv {g : G2} {ρ : DS} {rr : RR} {ρ' : DS} (h : f2 g fa fb ρ = some (rr, ρ')) : ∃ ra ρ1 rb x y r, fa ρ = some (ra, ρ1) ∧ fb ρ1 = some (rb, ρ') ∧ res ρ' ra = some x ∧ res ρ' rb = some y ∧ g x y = some r ∧ rr = .own r := by
  unfold f2 at h
  obtain ⟨⟨ra, ρ1⟩, h1, h⟩ := obi h
  obtain ⟨⟨rb, ρ2⟩, h2, h⟩ := obi h
  obtain ⟨x, h3, h⟩ := obi h
  obtain ⟨y, h4, h⟩ := obi h
  obtain ⟨r, h5, h⟩ := omi h
  cases h
  exact ⟨ra, ρ1, rb, x, y, r, h1, h2, h3, h4, h5, rfl⟩
theorem evo_apart {G H G' H' : Hp} {σ : St} {ρ : DS} {A A' : Ft} (R : Rep K G' H' σ ρ A') {S : List Addr} (f : ∀ a ∈ S, H' a = none) : ∀ i, ∀ a ∈ S, a ∉ A' i := fun i a ha z => by
  obtain ⟨o, q⟩ := R.there z
  rw [f a ha] at q; cases q
theorem op_ent {g : G2} {ρ ρ1 ρ2 : DS} {ra rb : RR} {x y r : RV} (h3 : res ρ2 ra = some x) (h4 : res ρ2 rb = some y) {σ : St} {H : Hp} {Q : VK} (h : tD K ρ (.own r) ρ2 σ H Q) : tOp (rdOp K x y r) (tD K ρ ra ρ1) (tD K ρ1 rb ρ2) σ H Q := by
  obtain ⟨G, A, R, k⟩ := h
  refine ⟨G, A, R, fun v1 G1 H1 A1 S1 e1 R1 q1 f1 => ⟨G1, A1, R1, fun v2 G2 H2 A2 S2 e2 R2 q2 f2 => ?_⟩⟩
  obtain ⟨Sx, hx⟩ := res_of R2 (q1.evo e2) h3
  obtain ⟨Sy, hy⟩ := res_of R2 q2 h4
  refine ⟨G2, Sx, Sy, R2.imm, hx, hy, fun v G3 H3 S al hr fr => ?_⟩
  exact k v G3 H3 A2 S ((e1.trans e2).trans al.evo) (al.rep R2) ⟨hr, evo_apart (G := G2) (H := H2) (A := A2) R2 fr⟩ fun a ha => (e1.trans e2).back (fr a ha)
theorem de_op {op : Operator} {g : G2} (ho : OpD X (binaryOp op) g) (ha : DE X a fa) (hb : DE X b fb) : DE X (.BinOp a op b pos) (f2 g fa fb) := by
  intro ρ rr ρ' hf
  obtain ⟨ra, ρ1, rb, x, y, r, h1, h2, h3, h4, h5, rfl⟩ := f2_inv hf
  exact PE.imp (pe_op (ho x y r h5) (ha _ _ _ h1) (hb _ _ _ h2)) fun σ H Q h => op_ent (g := g) h3 h4 h
theorem de_cmp {op : CmpOp} {g : G2} (ho : OpD X (compareOp op) g) (ha : DE X a fa) (hb : DE X b fb) (hm : behindInMarks op b = false := by first | exact nomark _ | with_unfolding_all rfl) : DE X (.Compare a [op] [b] pos) (f2 g fa fb) := by
  intro ρ rr ρ' hf
  obtain ⟨ra, ρ1, rb, x, y, r, h1, h2, h3, h4, h5, rfl⟩ := f2_inv hf
  exact PE.imp (pe_cmpR (ho x y r h5) (ha _ _ _ h1) (hb _ _ _ h2) hm) fun σ H Q h => op_ent (g := g) h3 h4 h
theorem de_ix {g : G2} (ho : IxD X g) (ha : DE X a fa) (hb : DE X b fb) (hs : PlainIx b := by exact fun _ _ => rfl) : DE X (.Subscript a b pos) (f2 g fa fb) := by
  intro ρ rr ρ' hf
  obtain ⟨ra, ρ1, rb, x, y, r, h1, h2, h3, h4, h5, rfl⟩ := f2_inv hf
  exact PE.imp (pe_ix (ho x y r h5) (ha _ _ _ h1) (hb _ _ _ h2) hs) fun σ H Q h => op_ent (g := g) h3 h4 h
def tru : RV → Option Bool
  | .p .non => some false
  | .p (.bl b) => some b
  | .p (.int i) => some (i != 0)
  | .p (.str x) => if x.length ≤ sizeLine then some ((x.length : Int) != 0) else none
  | .p (.tup l) => some (!l.isEmpty)
  | .p (.lst l) => some (!l.isEmpty)
  | .p (.dct l) => some (!l.isEmpty)
  | .p (.exc _) => none
  | .p (.ptr _) => none
  | .p .any => none
  | .p (.obj _ _ _) => none
  | .L l => some (!l.isEmpty)
  | .K l => some (!l.isEmpty)
  | .S _ _ _ => none
theorem Pus.emp {G : Hp} {vs : List V} {ds : List D} (h : Pus K G vs ds) : vs.isEmpty = ds.isEmpty := by cases h <;> rfl
theorem PuK.emp {G : Hp} {vs : List (Key × V)} {ds : List (Key × D)} (h : PuK K G vs ds) : vs.isEmpty = ds.isEmpty := by cases h <;> rfl
theorem tru_V {K : PySem.W.Frag} {G H : Hp} {v : V} {r : RV} {S : List Addr} {k : Bool} (l : Le G H) (h : RepV K G H v r S) (e : tru r = some k) : TruV K v H k := by
  cases r with
  | p d =>
    obtain ⟨_, h⟩ := h
    cases h with
    | non => cases e; rfl
    | bl => cases e; rfl
    | int => cases e; rfl
    | str =>
      simp only [tru] at e
      split at e
      · next hz => cases e; exact ⟨hz, rfl⟩
      · cases e
    | tup q z => cases e; exact .inr (.inl ⟨_, sqT_mono l q, by rw [z.emp]⟩)
    | lst q z => cases e; exact .inl ⟨_, sqL_mono l q, by rw [z.emp]⟩
    | dct q z => cases e; exact .inr (.inr ⟨_, l _ _ q, by rw [z.emp]⟩)
    | exc q z => cases e
    | ptr => cases e
    | any => cases e
    | obj _ _ _ _ => cases e
  | L ds => obtain ⟨a, vs, rfl, _, q, _, z⟩ := h; cases e; exact .inl ⟨_, SqL.of q, by rw [z.emp]⟩
  | K ds => obtain ⟨a, vs, rfl, _, q, _, z⟩ := h; cases e; exact .inr (.inr ⟨_, q, by rw [z.emp]⟩)
  | S ds c ms => cases e
def fT (f : FE) : FT := fun ρ => (f ρ).bind fun p => (res p.2 p.1).bind fun x => (tru x).map fun k => (k, p.2)
theorem fT_inv {f : FE} {ρ ρ' : DS} {k : Bool} (h : fT f ρ = some (k, ρ')) : ∃ rr x, f ρ = some (rr, ρ') ∧ res ρ' rr = some x ∧ tru x = some k := by
  unfold fT at h
  obtain ⟨⟨ra, ρ1⟩, h1, h⟩ := obi h
  obtain ⟨x, h3, h⟩ := obi h
  obtain ⟨r, h5, h⟩ := omi h
  cases h
  exact ⟨ra, x, h1, h3, h5⟩
theorem dt_truth (ha : DE X a fa) (he : ∀ whole, isTrue a X.env whole = (do let v ← whole; standAt a.pos; holding [v] (truthy v)) := by intro _; rfl) : DT X a (fT fa) := by
  intro ρ k ρ' hf
  obtain ⟨rr, x, h1, h2, h3⟩ := fT_inv hf
  refine PT.imp (pt_truth (ha _ _ _ h1) he) fun σ H Q ⟨G, A, R, q⟩ => ⟨G, A, R, fun v G' H' A' S e R' r f => ?_⟩
  obtain ⟨S', hx⟩ := res_of R' r h2
  exact ⟨k, tru_V R'.imm hx h3, q G' H' A' e R'⟩
theorem dt_cmp {op : CmpOp} {g : G2} (ho : OpD X (compareOp op) g) (hg : ∀ x y r, g x y = some r → ∃ k, r = .p (.bl k)) (ha : DE X a fa) (hb : DE X b fb) (hm : behindInMarks op b = false := by first | exact nomark _ | with_unfolding_all rfl) :
    DT X (.Compare a [op] [b] pos) (fT (f2 g fa fb)) := by
  intro ρ k ρ' hf
  obtain ⟨rr, z, h1, h2, h3⟩ := fT_inv hf
  obtain ⟨ra, ρ1, rb, x, y, r, g1, g2, g3, g4, g5, rfl⟩ := f2_inv h1
  obtain ⟨k', rfl⟩ := hg x y r g5
  cases h2
  cases h3
  refine PT.imp (pt_cmpR (ho x y _ g5) (ha _ _ _ g1) (hb _ _ _ g2) hm) fun σ H Q ⟨G, A, R, q⟩ => ?_
  refine op_ent (g := g) g3 g4 ⟨G, A, R, fun v G' H' A' S e R' ⟨r, _⟩ f => ?_⟩
  obtain ⟨_, r⟩ := r
  cases r
  exact ⟨_, rfl, q G' H' A' e R'⟩
variable {ta tb : FT} {rest : List Expr}
def fOr (t u : FT) : FT := fun ρ => (t ρ).bind fun p => if p.1 then some (true, p.2) else u p.2
def fNot (t : FT) : FT := fun ρ => (t ρ).map fun p => (!p.1, p.2)
def DW (X : Cx) (e : Expr) (f : FT) : Prop := ∀ ρ b ρ', f ρ = some (b, ρ') → PW X e (tDT X.K ρ b ρ')
theorem PW.imp {e : Expr} {t t' : TT} (h : PW X e t) (i : ∀ σ H Q, t' σ H Q → t σ H Q) : PW X e t' := fun w pins s σ H Q I q => h w pins s σ H Q I (i σ H Q q)
theorem DW.dt {e : Expr} {f : FT} (h : DW X e f) : DT X e f := fun ρ b ρ' hf => (h ρ b ρ' hf).pt
theorem dw_or1 (ha : DT X a ta) : DW X (.BoolOp .Or [a] pos) ta := fun ρ b ρ' hf => pw_or1 (ha ρ b ρ' hf)
theorem dw_or (ha : DT X a ta) (hb : DW X (.BoolOp .Or (b :: rest) pos) tb) : DW X (.BoolOp .Or (a :: b :: rest) pos) (fOr ta tb) := by
  intro ρ k ρ' hf
  unfold fOr at hf
  obtain ⟨⟨k1, ρ1⟩, h1, h⟩ := obi hf
  cases k1 with
  | false =>
    refine PW.imp (pw_or (ha _ _ _ h1) (hb _ _ _ h)) fun σ H Q ⟨G, A, R, q⟩ => ⟨G, A, R, fun G' H' A' e R' => ?_⟩
    refine iteF ⟨G', A', R', fun G2 H2 A2 e2 R2 => q G2 H2 A2 (e.trans e2) R2⟩
  | true =>
    cases h
    have z : PW X (.BoolOp .Or (b :: rest) pos) (fun _ _ _ => False) := fun _ _ _ _ _ _ _ f => f.elim
    exact PW.imp (pw_or (ha _ _ _ h1) z) fun σ H Q ⟨G, A, R, q⟩ => ⟨G, A, R, fun G' H' A' e R' => iteT (q G' H' A' e R')⟩
theorem dt_not (ha : DT X a ta) : DT X (.UnaryOp .Not a pos) (fNot ta) := by
  intro ρ k ρ' hf
  unfold fNot at hf
  obtain ⟨⟨k1, ρ1⟩, h1, h⟩ := omi hf
  cases h
  exact PT.imp (pt_not (ha _ _ _ h1)) fun σ H Q ⟨G, A, R, q⟩ => ⟨G, A, R, fun G' H' A' e R' => q G' H' A' e R'⟩
theorem tD_trans {ρ1 ρ' : DS} {rr : RR} {σ : St} {G H : Hp} {A : Ft} {Q : VK} (q : ∀ v G' H' A' S, Evo G H A G' H' A' → Rep K G' H' σ ρ' A' → ResOf K G' H' σ A' v rr S → (∀ a ∈ S, H a = none ∨ ∃ i, a ∈ A i) → Q v H') {G1 H1 : Hp} {A1 : Ft}
    (e : Evo G H A G1 H1 A1) (R : Rep K G1 H1 σ ρ1 A1) : tD K ρ1 rr ρ' σ H1 Q :=
  ⟨G1, A1, R, fun v G2 H2 A2 S e2 R2 r f => q v G2 H2 A2 S (e.trans e2) R2 r fun a ha => by
    rcases f a ha with z | ⟨i, z⟩
    · exact e.back z
    · exact e.foot i a z⟩
end
end L2.CF
namespace L2.CF
open PySem PySem.Spec PyProof.Rows
variable {K : PySem.W.Frag}
section
variable {X : Cx}
theorem pu_int {G H : Hp} {v : V} {i : Int} {S : List Addr} (h : RepV K G H v (.p (.int i)) S) : v = .int i := by obtain ⟨_, h⟩ := h; cases h; rfl
theorem pu_str {G H : Hp} {v : V} {i : Str} {S : List Addr} (h : RepV K G H v (.p (.str i)) S) : v = .str i := by obtain ⟨_, h⟩ := h; cases h; rfl
def gI (C : Int → Int → Bool) (g : Int → Int → D) : G2
  | .p (.int i), .p (.int j) => if C i j then some (.p (g i j)) else none
  | _, _ => none
theorem gI_inv {C : Int → Int → Bool} {g : Int → Int → D} {x y r : RV} (h : gI C g x y = some r) : ∃ i j, x = .p (.int i) ∧ y = .p (.int j) ∧ C i j = true ∧ r = .p (g i j) := by
  unfold gI at h
  split at h
  · next i j =>
    split at h
    · next hc => cases h; exact ⟨i, j, rfl, rfl, hc, rfl⟩
    · cases h
  · cases h
theorem opd_I {F : Value → Value → Sem Value} {P : Int → Int → Prop} {C : Int → Int → Bool} {gv : Int → Int → V} {g : Int → Int → D} (h : OpR X F (rI P gv)) (hc : ∀ i j, C i j = true → P i j) (hp : ∀ G i j, Pu X.K G (gv i j) (g i j)) : OpD X F (gI C g) := by
  intro x y r e
  obtain ⟨i, j, rfl, rfl, c, rfl⟩ := gI_inv e
  refine OpR.imp h fun vx vy H Q ⟨G, Sx, Sy, l, hx, hy, q⟩ => ?_
  exact ⟨i, j, pu_int hx, pu_int hy, hc i j c, q _ G H [] (Al.refl l) ⟨rfl, hp G i j⟩ (by simp)⟩
theorem opd_I0 {F : Value → Value → Sem Value} {gv : Int → Int → V} {g : Int → Int → D} (h : OpR X F (rI0 gv)) (hp : ∀ G i j, Pu X.K G (gv i j) (g i j)) : OpD X F (gI (fun _ _ => true) g) := by
  intro x y r e
  obtain ⟨i, j, rfl, rfl, c, rfl⟩ := gI_inv e
  refine OpR.imp h fun vx vy H Q ⟨G, Sx, Sy, l, hx, hy, q⟩ => ?_
  exact ⟨i, j, pu_int hx, pu_int hy, q _ G H [] (Al.refl l) ⟨rfl, hp G i j⟩ (by simp)⟩
def gMod : G2 := gI (fun _ j => decide (0 < j)) fun i j => .int (i % j)
theorem o_mod : OpD X (binaryOp .Mod) gMod := opd_I op_mod (fun i j h => of_decide_eq_true h) fun _ _ _ => .int
def gLt : G2 := gI (fun _ _ => true) fun i j => .bl (decide (i < j))
theorem o_lt : OpD X (compareOp .Lt) gLt := opd_I0 op_lt fun _ _ _ => .bl
theorem gI_bl {C : Int → Int → Bool} {g : Int → Int → Bool} : ∀ x y r, gI C (fun i j => .bl (g i j)) x y = some r → ∃ k, r = .p (.bl k) := fun x y r h => by
  obtain ⟨i, j, _, _, _, rfl⟩ := gI_inv h
  exact ⟨_, rfl⟩
def itemsL : RV → Option (List D)
  | .L l => some l
  | .p (.lst l) => some l
  | .S l _ _ => some l
  | _ => none
def itemsT : RV → Option (List D)
  | .p (.tup l) => some l
  | _ => none
def items (r : RV) : Option (List D) := (itemsL r).or (itemsT r)
theorem itemsL_of {G H : Hp} {v : V} {r : RV} {S : List Addr} {ds : List D} (l : Le G H) (h : RepV K G H v r S) (e : itemsL r = some ds) : ∃ a vs, v = .ref a ∧ SqL K H a vs ∧ Pus K G vs ds := by
  cases r with
  | p d =>
    cases d with
    | lst l' => cases e; obtain ⟨_, h⟩ := h; cases h with | lst q z => exact ⟨_, _, rfl, sqL_mono l q, z⟩
    | _ => cases e
  | L ds' => cases e; obtain ⟨a, vs, rfl, _, q, _, z⟩ := h; exact ⟨a, vs, rfl, SqL.of q, z⟩
  | K ds' => cases e
  | S ds' c ms => cases e; obtain ⟨b, vs, ws, rfl, _, q, _, z, _⟩ := h; exact ⟨b, vs, rfl, SqL.of q, z⟩
theorem itemsT_of {G H : Hp} {v : V} {r : RV} {S : List Addr} {ds : List D} (l : Le G H) (h : RepV K G H v r S) (e : itemsT r = some ds) : ∃ a vs, v = .ref a ∧ SqT K H a vs ∧ Pus K G vs ds := by
  cases r with
  | p d =>
    cases d with
    | tup l' => cases e; obtain ⟨_, h⟩ := h; cases h with | tup q z => exact ⟨_, _, rfl, sqT_mono l q, z⟩
    | _ => cases e
  | L ds' => cases e
  | K ds' => cases e
  | S ds' c ms => cases e
theorem items_of {K : PySem.W.Frag} {G H : Hp} {v : V} {r : RV} {S : List Addr} {ds : List D} (l : Le G H) (h : RepV K G H v r S) (e : items r = some ds) : ∃ a vs, v = .ref a ∧ (SqL K H a vs ∨ SqT K H a vs) ∧ Pus K G vs ds := by
  unfold items at e
  cases q : itemsL r with
  | some x =>
    rw [q] at e; cases e
    obtain ⟨a, vs, e1, e2, e3⟩ := itemsL_of l h q
    exact ⟨a, vs, e1, .inl e2, e3⟩
  | none =>
    rw [q] at e
    obtain ⟨a, vs, e1, e2, e3⟩ := itemsT_of l h e
    exact ⟨a, vs, e1, .inr e2, e3⟩
theorem new_L {G H : Hp} {p : Addr} {vs : List V} {ds : List D} (l : Le G H) (h : H p = none) (z : Pus K G vs ds) : RepV K G (upd H p (.lst vs)) (.ref p) (.L ds) [p] := ⟨p, vs, rfl, rfl, upd_same, g_none l h, z⟩
theorem new_T {G H : Hp} {p : Addr} {vs : List V} {ds : List D} (l : Le G H) (h : H p = none) (z : Pus K G vs ds) : RepV K (upd G p (.tup vs)) (upd H p (.tup vs)) (.ref p) (.p (.tup ds)) [] :=
  ⟨rfl, .tup (SqT.of upd_same) (z.mono (le_upd (g_none l h)))⟩
def rCatS (K : PySem.W.Frag) : R2 := fun x y H Q => ∃ l b xs zs, x = .ref l ∧ y = .ref b ∧ SqL K H l xs ∧ SqL K H b zs ∧ xs.length + zs.length ≤ sizeLine ∧ ∀ p, H p = none → Q (.ref p) (upd H p (.lst (xs ++ zs)))
theorem op_catS : OpR X (binaryOp .Add) (rCatS X.K) := by
  intro pins s σ H x y v u Q I rx ry h
  obtain ⟨l, b, xs, zs, rfl, rfl, hH, hB, hz, q⟩ := h
  cases rx
  cases ry
  obtain ⟨its, r, pl, z⟩ := I.list hH
  obtain ⟨its2, r2, pl2, z2⟩ := I.list hB
  have e1 := r.length
  have e2 := r2.length
  obtain ⟨⟨cls, dd, data, sl⟩, ho, hc, n, hd⟩ := pl.isList
  obtain ⟨⟨cls2, dd2, data2, sl2⟩, ho2, hc2, n2, hd2⟩ := pl2.isList
  simp only at hc hd hc2 hd2
  subst hc hd hc2 hd2
  have e : its.toArray ++ its2.toArray = (its ++ its2).toArray := by simp
  refine concat_meets ⟨_, ho, rfl⟩ ⟨_, ho2, rfl⟩ noFill_list_add seq_list_add PySem.F.slot_list_add PySem.F.entry_list_add (PySem.F.args_list_add_2 _ _) (list_addW l b its.toArray its2.toArray n n2 dd dd2 sl sl2 (by simp only [List.size_toArray]; omega)) ⟨ho, ho2, ?_⟩
  rw [e]
  exact ⟨.ref _, _, I.lnew (t' := s.toks) (r.append r2) (by rw [List.length_append]; omega), rfl, q _ I.fresh⟩
def gAdd : G2
  | .p (.int i), .p (.int j) => some (.p (.int (i + j)))
  | .p (.str i), .p (.str j) => if i.length + j.length ≤ sizeLine then some (.p (.str (i ++ j))) else none
  | x, y => (itemsL x).bind fun l => (itemsL y).bind fun m => if l.length + m.length ≤ sizeLine then some (.L (l ++ m)) else none
theorem o_add : OpD X (binaryOp .Add) gAdd := by
  intro x y r e
  unfold gAdd at e
  split at e
  · next i j =>
    cases e
    refine OpR.imp op_add fun vx vy H Q ⟨G, Sx, Sy, l, hx, hy, q⟩ => ?_
    exact ⟨i, j, pu_int hx, pu_int hy, q _ G H [] (Al.refl l) ⟨rfl, .int⟩ (by simp)⟩
  · next i j =>
    split at e
    · next hz =>
      cases e
      refine OpR.imp op_add_str fun vx vy H Q ⟨G, Sx, Sy, l, hx, hy, q⟩ => ?_
      exact ⟨i, j, pu_str hx, pu_str hy, hz, q _ G H [] (Al.refl l) ⟨rfl, .str⟩ (by simp)⟩
    · cases e
  · obtain ⟨l1, h1, e⟩ := obi e
    obtain ⟨l2, h2, e⟩ := obi e
    split at e
    · next hz =>
      cases e
      refine OpR.imp op_catS fun vx vy H Q ⟨G, Sx, Sy, l, hx, hy, q⟩ => ?_
      obtain ⟨a, vs, rfl, q1, z1⟩ := itemsL_of l hx h1
      obtain ⟨b, ws, rfl, q2, z2⟩ := itemsL_of l hy h2
      refine ⟨a, b, vs, ws, rfl, rfl, q1, q2, by rw [z1.length, z2.length]; exact hz, fun p hp => ?_⟩
      exact q _ G _ [p] (Al.own l hp) (new_L l hp (z1.append z2)) (by simpa using hp)
    · cases e
theorem atI_pus {G : Hp} {vs : List V} {ds : List D} {i : Int} {d : D} (z : Pus K G vs ds) (h : atI ds i = some d) : ∃ v, atI vs i = some v ∧ Pu K G v d := by
  unfold atI at h ⊢
  obtain ⟨j, h1, h2⟩ := obi h
  obtain ⟨v, h3, h4⟩ := z.get h2
  rw [z.length, h1]
  exact ⟨v, h3, h4⟩
def gIx : G2
  | .p (.str z), .p (.int i) => if z.length ≤ sizeLine then (atI z.cps.toList i).map fun c => .p (.str ⟨#[c]⟩) else none
  | x, .p (.int i) => (items x).bind fun l => (atI l i).map .p
  | _, _ => none
theorem o_ix : IxD X gIx := by
  intro x y r e
  unfold gIx at e
  split at e
  · next z i =>
    split at e
    · next hz =>
      obtain ⟨c, h1, h2⟩ := omi e
      cases h2
      refine IxR.imp ix_str fun vx vy H Q ⟨G, Sx, Sy, l, hx, hy, q⟩ => ?_
      exact ⟨z, i, c, pu_str hx, pu_int hy, hz, h1, q _ G H [] (Al.refl l) ⟨rfl, .str⟩ (by simp)⟩
    · cases e
  · next i _ =>
    obtain ⟨l1, h1, e⟩ := obi e
    obtain ⟨d, h2, h3⟩ := omi e
    cases h3
    refine IxR.imp (ix_list.or ix_tup) fun vx vy H Q ⟨G, Sx, Sy, l, hx, hy, q⟩ => ?_
    obtain ⟨a, vs, rfl, hq, z⟩ := items_of (K := X.K) l hx h1
    obtain ⟨v, e1, e2⟩ := atI_pus z h2
    have fin := q v G H [] (Al.refl l) ⟨rfl, e2⟩ (by simp)
    rcases hq with hq | hq
    · exact .inl ⟨a, vs, i, v, rfl, pu_int hy, hq, e1, fin⟩
    · exact .inr ⟨a, vs, i, v, rfl, pu_int hy, hq, e1, fin⟩
  · cases e
end
end L2.CF
namespace L2.CF
open PySem PySem.Spec PyProof.Rows
variable {K : PySem.W.Frag}
section
variable {X : Cx} {e : Expr} {es : List Expr} {fe : FE} {fa : FA} {pos p : Pos}
def fNil : FA := fun ρ => some ([], ρ)
def fCons (f : FE) (g : FA) : FA := fun ρ => (f ρ).bind fun p => (g p.2).map fun q => (p.1 :: q.1, q.2)
theorem da_nil : DA X [] fNil := by
  intro ρ rs ρ' hf
  cases hf
  exact PA.imp pa_nil fun σ H Q ⟨G, A, R, k⟩ => k [] G H A [] (Evo.refl _ _ _) R trivial (by simp)
theorem ResOf.thereS {G H : Hp} {σ : St} {A : Ft} {v : V} {rr : RR} {S : List Addr} (h : ResOf K G H σ A v rr S) {a : Addr} (ha : a ∈ S) : ∃ o, H a = some o := by
  cases rr with
  | own r => exact h.1.there ha
  | «at» i => rw [h.1] at ha; simp at ha
theorem ResOf.apart {G H : Hp} {σ : St} {A : Ft} {v : V} {rr : RR} {S : List Addr} (h : ResOf K G H σ A v rr S) : ∀ i, ∀ a ∈ S, a ∉ A i := by
  cases rr with
  | own r => exact h.2
  | «at» i => rw [h.1]; simp
theorem da_cons (he : DE X e fe) (ha : DA X es fa) (hs : starEach (e :: es) X.env = (false, eval e X.env) :: starEach es X.env := by rfl) : DA X (e :: es) (fCons fe fa) := by
  intro ρ rs ρ' hf
  unfold fCons at hf
  obtain ⟨⟨ra, ρ1⟩, h1, h⟩ := obi hf
  obtain ⟨⟨rb, ρ2⟩, h2, h⟩ := omi h
  cases h
  refine PA.imp (pa_cons (he _ _ _ h1) (ha _ _ _ h2) hs) fun σ H Q ⟨G, A, R, k⟩ => ?_
  refine ⟨G, A, R, fun v G1 H1 A1 S e1 R1 q1 f1 => ⟨G1, A1, R1, fun vs G2 H2 A2 Ss e2 R2 q2 f2 => ?_⟩⟩
  refine k (v :: vs) G2 H2 A2 (S :: Ss) (e1.trans e2) R2 ⟨q1.evo e2, fun T hT a ha z => ?_, q2⟩ fun T hT a ha => ?_
  · rcases f2 T hT a z with w | ⟨i, w⟩
    · obtain ⟨o, q⟩ := q1.thereS ha
      rw [w] at q; cases q
    · exact q1.apart i a ha w
  · rcases List.mem_cons.mp hT with rfl | hT
    · exact f1 a ha
    · rcases f2 T hT a ha with w | ⟨i, w⟩
      · exact e1.back w
      · exact e1.foot i a w
def resL (ρ : DS) : List RR → Option (List RV)
  | [] => some []
  | r :: rs => (res ρ r).bind fun x => (resL ρ rs).map (x :: ·)
def pures : List RV → Option (List D)
  | [] => some []
  | .p d :: rs => (pures rs).map (d :: ·)
  | _ => none
theorem pures_of {G H : Hp} {σ : St} {ρ : DS} {A : Ft} (R : Rep K G H σ ρ A) : ∀ {vs : List V} {rs : List RR} {Ss : List (List Addr)} {xs : List RV} {ds : List D}, ResL K G H σ A vs rs Ss → resL ρ rs = some xs → pures xs = some ds → Pus K G vs ds
  | [], [], [], xs, ds, _, h1, h2 => by cases h1; cases h2; exact .nil
  | v :: vs, r :: rs, S :: Ss, xs, ds, ⟨q, _, qs⟩, h1, h2 => by
    unfold resL at h1
    obtain ⟨x, e1, h1⟩ := obi h1
    obtain ⟨ys, e2, h1⟩ := omi h1
    subst h1
    cases x with
    | p d =>
      obtain ⟨dd, e3, h2⟩ := omi h2
      subst h2
      obtain ⟨S', hx⟩ := res_of R q e1
      exact .cons hx.2 (pures_of R qs e2 e3)
    | L _ => cases h2
    | K _ => cases h2
    | S _ _ _ => cases h2
  | [], [], _ :: _, _, _, h, _, _ => h.elim
  | [], _ :: _, _, _, _, h, _, _ => h.elim
  | _ :: _, [], _, _, _, h, _, _ => h.elim
  | _ :: _, _ :: _, [], _, _, h, _, _ => h.elim
def fLst (f : FA) : FE := fun ρ => (f ρ).bind fun p => (resL p.2 p.1).bind fun xs => (pures xs).bind fun ds => if ds.length ≤ sizeLine then some (.own (.L ds), p.2) else none
theorem de_lst (ha : DA X es fa) : DE X (.List es pos) (fLst fa) := by
  intro ρ rr ρ' hf
  unfold fLst at hf
  obtain ⟨⟨rs, ρ1⟩, h1, h⟩ := obi hf
  obtain ⟨xs, h2, h⟩ := obi h
  obtain ⟨ds, h3, h⟩ := obi h
  split at h
  · next hz =>
    cases h
    refine PE.imp (pe_lst (ha _ _ _ h1)) fun σ H Q ⟨G, A, R, k⟩ => ⟨G, A, R, fun vs G1 H1 A1 Ss e1 R1 q1 f1 => ?_⟩
    have z := pures_of R1 q1 h2 h3
    refine ⟨by rw [z.length]; exact hz, fun p hp => ?_⟩
    have al : Al G1 H1 G1 (upd H1 p (.lst vs)) := Al.own R1.imm hp
    have fr : ∀ a ∈ [p], H1 a = none := by simpa using hp
    exact k _ _ _ A1 [p] (e1.trans al.evo) (al.rep R1) ⟨new_L R1.imm hp z, evo_apart (G := G1) (H := H1) (A := A1) R1 fr⟩ fun a ha => e1.back (fr a ha)
  · cases h
def RepL (K : PySem.W.Frag) (G H : Hp) : List V → List RV → Prop
  | [], [] => True
  | v :: vs, r :: rs => (∃ S, RepV K G H v r S) ∧ RepL K G H vs rs
  | _, _ => False
theorem repL_of {G H : Hp} {σ : St} {ρ : DS} {A : Ft} (R : Rep K G H σ ρ A) : ∀ {vs : List V} {rs : List RR} {Ss : List (List Addr)} {xs : List RV}, ResL K G H σ A vs rs Ss → resL ρ rs = some xs → RepL K G H vs xs
  | [], [], [], xs, _, h1 => by cases h1; trivial
  | v :: vs, r :: rs, S :: Ss, xs, ⟨q, _, qs⟩, h1 => by
    unfold resL at h1
    obtain ⟨x, e1, h1⟩ := obi h1
    obtain ⟨ys, e2, h1⟩ := omi h1
    subst h1
    exact ⟨res_of R q e1, repL_of R qs e2⟩
  | [], [], _ :: _, _, h, _ => h.elim
  | [], _ :: _, _, _, h, _ => h.elim
  | _ :: _, [], _, _, h, _ => h.elim
  | _ :: _, _ :: _, [], _, h, _ => h.elim
abbrev GL := List RV → Option RV
def rdCall (K : PySem.W.Frag) (xs : List RV) (r : RV) : List V → Hp → VK → Prop := fun vs H Q => ∃ G, Le G H ∧ RepL K G H vs xs ∧ ∀ v G' H' S, Al G H G' H' → RepV K G' H' v r S → (∀ a ∈ S, H a = none) → Q v H'
def CallD (X : Cx) (f : Value) (g : GL) : Prop := ∀ xs r, g xs = some r → CallR X f (rdCall X.K xs r)
theorem CallR.imp {f : Value} {r r' : List V → Hp → VK → Prop} (h : CallR X f r) (i : ∀ xs H Q, r' xs H Q → r xs H Q) : CallR X f r' := fun pins s σ H xs us Q I rx q => h pins s σ H xs us Q I rx (i xs H Q q)
def fCall (g : GL) (f : FA) : FE := fun ρ => (f ρ).bind fun p => (resL p.2 p.1).bind fun xs => (g xs).map fun r => (.own r, p.2)
theorem fCall_inv {g : GL} {f : FA} {ρ ρ' : DS} {rr : RR} (h : fCall g f ρ = some (rr, ρ')) : ∃ rs xs r, f ρ = some (rs, ρ') ∧ resL ρ' rs = some xs ∧ g xs = some r ∧ rr = .own r := by
  unfold fCall at h
  obtain ⟨⟨rs, ρ1⟩, h1, h⟩ := obi h
  obtain ⟨xs, h2, h⟩ := obi h
  obtain ⟨r, h3, h⟩ := omi h
  cases h
  exact ⟨rs, xs, r, h1, h2, h3, rfl⟩
theorem call_ent {ρ ρ1 : DS} {rs : List RR} {xs : List RV} {r : RV} (h2 : resL ρ1 rs = some xs) {σ : St} {H : Hp} {Q : VK} (h : tD K ρ (.own r) ρ1 σ H Q) : tCB (rdCall K xs r) (tDA K ρ rs ρ1) σ H Q := by
  obtain ⟨G, A, R, k⟩ := h
  refine ⟨G, A, R, fun vs G1 H1 A1 Ss e1 R1 q1 f1 => ⟨G1, R1.imm, repL_of R1 q1 h2, fun v G3 H3 S al hr fr => ?_⟩⟩
  exact k v G3 H3 A1 S (e1.trans al.evo) (al.rep R1) ⟨hr, evo_apart (G := G1) (H := H1) (A := A1) R1 fr⟩ fun a ha => e1.back (fr a ha)
theorem de_callB {x : Str} {id : String} {g : GL} (hc : CallD X (.builtin id) g) (hg : Gl X x) (hm : X.mg x = none) (hv : bootBuiltins x = some (.builtin id)) (ha : DA X (e :: es) fa) (hn : x ≠ "__name__" := by decide) (hdb : (x == ("__debug__" : Str)) = false := by decide)
    (he : starEach (e :: es) X.env = (false, eval e X.env) :: starEach es X.env := by rfl) (hpl : (backTo pos (starEach es X.env)).any (·.1) = false := by rfl) : DE X (.Call (.Name x p) (e :: es) [] pos) (fCall g fa) := by
  intro ρ rr ρ' hf
  obtain ⟨rs, xs, r, h1, h2, h3, rfl⟩ := fCall_inv hf
  exact PE.imp (pe_callB (hc xs r h3) hg hm hv (ha _ _ _ h1) hn hdb he hpl) fun σ H Q h => call_ent h2 h
theorem de_callTy {x : Str} {T : String} {g : GL} (hc : CallD X (.type T) g) (hg : Gl X x) (hm : X.mg x = none) (hv : bootBuiltins x = some (.type T)) (ha : DA X (e :: es) fa) (hn : x ≠ "__name__" := by decide) (hdb : (x == ("__debug__" : Str)) = false := by decide)
    (he : starEach (e :: es) X.env = (false, eval e X.env) :: starEach es X.env := by rfl) (hpl : (backTo pos (starEach es X.env)).any (·.1) = false := by rfl) : DE X (.Call (.Name x p) (e :: es) [] pos) (fCall g fa) := by
  intro ρ rr ρ' hf
  obtain ⟨rs, xs, r, h1, h2, h3, rfl⟩ := fCall_inv hf
  exact PE.imp (pe_callTy (hc xs r h3) hg hm hv (ha _ _ _ h1) hn hdb he hpl) fun σ H Q h => call_ent h2 h
theorem RepL.one {G H : Hp} {vs : List V} {x : RV} (h : RepL K G H vs [x]) : ∃ v S, vs = [v] ∧ RepV K G H v x S := by
  match vs, h with
  | [v], ⟨⟨S, h⟩, _⟩ => exact ⟨v, S, rfl, h⟩
  | [], h => exact h.elim
  | _ :: _ :: _, ⟨_, h⟩ => exact h.elim
def gLen : GL
  | [.p (.str z)] => if z.length ≤ sizeLine then some (.p (.int z.length)) else none
  | [x] => (items x).map fun l => .p (.int l.length)
  | _ => none
theorem c_len : CallD X (.builtin "len") gLen := by
  intro xs r e
  unfold gLen at e
  split at e
  · next z =>
    split at e
    · next hz =>
      cases e
      refine CallR.imp call_len_str fun vs H Q ⟨G, l, h, q⟩ => ?_
      obtain ⟨v, S, rfl, hv⟩ := h.one
      exact ⟨z, by rw [pu_str hv], hz, q _ G H [] (Al.refl l) ⟨rfl, .int⟩ (by simp)⟩
    · cases e
  · next x _ =>
    obtain ⟨l1, h1, h2⟩ := omi e
    cases h2
    refine CallR.imp call_len_seq fun vs H Q ⟨G, l, h, q⟩ => ?_
    obtain ⟨v, S, rfl, hv⟩ := h.one
    obtain ⟨a, ws, rfl, hq, z⟩ := items_of (K := X.K) l hv h1
    exact ⟨a, ws, rfl, hq, by rw [z.length]; exact q _ G H [] (Al.refl l) ⟨rfl, .int⟩ (by simp)⟩
  · cases e
def gListOf : GL
  | [x] => (items x).map .L
  | _ => none
theorem c_list : CallD X (.type "list") gListOf := by
  intro xs r e
  unfold gListOf at e
  split at e
  · next x =>
    obtain ⟨l1, h1, h2⟩ := omi e
    cases h2
    refine CallR.imp call_list_of fun vs H Q ⟨G, l, h, q⟩ => ?_
    obtain ⟨v, S, rfl, hv⟩ := h.one
    obtain ⟨a, ws, rfl, hq, z⟩ := items_of (K := X.K) l hv h1
    exact ⟨a, ws, rfl, hq, fun p hp => q _ G _ [p] (Al.own l hp) (new_L l hp z) (by simpa using hp)⟩
  · cases e
def gStrOf : GL
  | [.p (.int i)] => if i.natAbs.log2 < 1920 then some (.p (.str (toString i))) else none
  | _ => none
theorem c_str : CallD X (.type "str") gStrOf := by
  intro xs r e
  unfold gStrOf at e
  split at e
  · next i =>
    split at e
    · next hz =>
      cases e
      refine CallR.imp call_str_int fun vs H Q ⟨G, l, h, q⟩ => ?_
      obtain ⟨v, S, rfl, hv⟩ := h.one
      exact ⟨i, by rw [pu_int hv], hz, q _ G H [] (Al.refl l) ⟨rfl, .str⟩ (by simp)⟩
    · cases e
  · cases e
end
end L2.CF
namespace L2.CF
open PySem PySem.Spec PyProof.Rows
variable {K : PySem.W.Frag}
def ownd : RV → Bool
  | .p _ => false
  | _ => true
def ownAt (ρ : DS) (i : Nat) : Prop := ∃ r, ρ[i]? = some (some r) ∧ ownd r = true
structure Pin (P : Nat) (ρ : DS) (σ : St) (ρ' : DS) (σ' : St) : Prop where
  par : ∀ i, i < P → ownAt ρ i → σ'[i]? = σ[i]? ∧ ownAt ρ' i
  held : ∀ (i : Nat) (r : RV), ρ[i]? = some (some r) → ∃ r', ρ'[i]? = some (some r')
  non : ∀ i : Nat, ρ'[i]? = some none → σ'[i]? = σ[i]?
  len : ρ'.length = ρ.length
theorem Pin.refl {P : Nat} {ρ : DS} {σ : St} : Pin P ρ σ ρ σ := ⟨fun _ _ h => ⟨rfl, h⟩, fun _ r h => ⟨r, h⟩, fun _ _ => rfl, rfl⟩
theorem Pin.noneBack {P : Nat} {ρ ρ' : DS} {σ σ' : St} (a : Pin P ρ σ ρ' σ') {i : Nat} (h : ρ'[i]? = some none) : ρ[i]? = some none := by
  have hl : i < ρ'.length := by
    rcases Nat.lt_or_ge i ρ'.length with z | z
    · exact z
    · rw [List.getElem?_eq_none_iff.mpr z] at h; cases h
  rw [a.len] at hl
  cases q : ρ[i]? with
  | none => rw [List.getElem?_eq_none_iff] at q; omega
  | some o =>
    cases o with
    | none => rfl
    | some r => obtain ⟨r', z⟩ := a.held i r q; rw [h] at z; cases z
theorem Pin.trans {P : Nat} {ρ ρ1 ρ2 : DS} {σ σ1 σ2 : St} (a : Pin P ρ σ ρ1 σ1) (b : Pin P ρ1 σ1 ρ2 σ2) : Pin P ρ σ ρ2 σ2 where
  par := fun i hi h => by
    obtain ⟨e1, h1⟩ := a.par i hi h
    obtain ⟨e2, h2⟩ := b.par i hi h1
    exact ⟨e2.trans e1, h2⟩
  held := fun i r h => by
    obtain ⟨r1, h1⟩ := a.held i r h
    exact b.held i r1 h1
  non := fun i h => (b.non i h).trans (a.non i (b.noneBack h))
  len := b.len.trans a.len
structure PinR (P : Nat) (ρ : DS) (σ : St) (ρ' : DS) (σ' : St) : Prop where
  par : ∀ i, i < P → ownAt ρ i → σ'[i]? = σ[i]? ∧ ownAt ρ' i
  held : ∀ (i : Nat) (r : RV), i < P → ρ[i]? = some (some r) → ∃ r', ρ'[i]? = some (some r')
  non : ∀ i : Nat, i < P → ρ'[i]? = some none → σ'[i]? = σ[i]?
  len : ρ'.length = ρ.length
theorem Pin.toR {P : Nat} {ρ ρ' : DS} {σ σ' : St} (a : Pin P ρ σ ρ' σ') : PinR P ρ σ ρ' σ' := ⟨a.par, fun i r _ h => a.held i r h, fun i _ h => a.non i h, a.len⟩
theorem PinR.noneBack {P : Nat} {ρ ρ' : DS} {σ σ' : St} (a : PinR P ρ σ ρ' σ') {i : Nat} (hp : i < P) (h : ρ'[i]? = some none) : ρ[i]? = some none := by
  have hl : i < ρ'.length := by
    rcases Nat.lt_or_ge i ρ'.length with z | z
    · exact z
    · rw [List.getElem?_eq_none_iff.mpr z] at h; cases h
  rw [a.len] at hl
  cases q : ρ[i]? with
  | none => rw [List.getElem?_eq_none_iff] at q; omega
  | some o =>
    cases o with
    | none => rfl
    | some r => obtain ⟨r', z⟩ := a.held i r hp q; rw [h] at z; cases z
theorem PinR.trans {P : Nat} {ρ ρ1 ρ2 : DS} {σ σ1 σ2 : St} (a : PinR P ρ σ ρ1 σ1) (b : PinR P ρ1 σ1 ρ2 σ2) : PinR P ρ σ ρ2 σ2 where
  par := fun i hi h => by
    obtain ⟨e1, h1⟩ := a.par i hi h
    obtain ⟨e2, h2⟩ := b.par i hi h1
    exact ⟨e2.trans e1, h2⟩
  held := fun i r hp h => by
    obtain ⟨r1, h1⟩ := a.held i r hp h
    exact b.held i r1 hp h1
  non := fun i hp h => (b.non i hp h).trans (a.non i hp (b.noneBack hp h))
  len := b.len.trans a.len
inductive FL where
  | nx | bk | ct
  | rt (r : RV)
def tDS (K : PySem.W.Frag) (P : Nat) (ρ : DS) (fl : FL) (ρ' : DS) : TS := fun D σ H => ∃ G A, Rep K G H σ ρ A ∧
  match fl with
  | .nx => ∀ σ' G' H' A', Evo G H A G' H' A' → Rep K G' H' σ' ρ' A' → Pin P ρ σ ρ' σ' → D.nx σ' H'
  | .bk => ∀ σ' G' H' A', Evo G H A G' H' A' → Rep K G' H' σ' ρ' A' → Pin P ρ σ ρ' σ' → D.bk σ' H'
  | .ct => ∀ σ' G' H' A', Evo G H A G' H' A' → Rep K G' H' σ' ρ' A' → Pin P ρ σ ρ' σ' → D.ct σ' H'
  | .rt r => ∀ v σ' G' H' A' S, Evo G H A G' H' A' → Rep K G' H' σ' ρ' A' → PinR P ρ σ ρ' σ' → RepV K G' H' v r S → (∀ i, ∀ a ∈ S, a ∉ A' i) → (∀ a ∈ S, H a = none ∨ ∃ i, a ∈ A i) → D.rt v H'
abbrev FS := DS → Option (FL × DS)
def DSt (P : Nat) (X : Cx) (st : Stmt) (f : FS) : Prop := ∀ ρ fl ρ', f ρ = some (fl, ρ') → PS X st (tDS X.K P ρ fl ρ')
def DSs (P : Nat) (X : Cx) (st : List Stmt) (f : FS) : Prop := ∀ ρ fl ρ', f ρ = some (fl, ρ') → PSs X st (tDS X.K P ρ fl ρ')
section
variable {X : Cx} {P : Nat} {st : Stmt} {rest : List Stmt} {f g : FS} {e c : Expr} {fe : FE} {pos : Pos}
theorem PS.imp {t t' : TS} (h : PS X st t) (i : ∀ D σ H, t' D σ H → t D σ H) : PS X st t' := fun pins s σ H D I q => h pins s σ H D I (i D σ H q)
theorem PSs.imp {t t' : TS} (h : PSs X rest t) (i : ∀ D σ H, t' D σ H → t D σ H) : PSs X rest t' := fun pins s σ H D I q => h pins s σ H D I (i D σ H q)
theorem tDS_trans {ρ ρ1 ρ' : DS} {fl : FL} {D : Ends} {σ σ1 : St} {G H G1 H1 : Hp} {A A1 : Ft} (e : Evo G H A G1 H1 A1) (R1 : Rep K G1 H1 σ1 ρ1 A1) (p : Pin P ρ σ ρ1 σ1)
    (k : match fl with
      | .nx => ∀ σ' G' H' A', Evo G H A G' H' A' → Rep K G' H' σ' ρ' A' → Pin P ρ σ ρ' σ' → D.nx σ' H'
      | .bk => ∀ σ' G' H' A', Evo G H A G' H' A' → Rep K G' H' σ' ρ' A' → Pin P ρ σ ρ' σ' → D.bk σ' H'
      | .ct => ∀ σ' G' H' A', Evo G H A G' H' A' → Rep K G' H' σ' ρ' A' → Pin P ρ σ ρ' σ' → D.ct σ' H'
      | .rt r => ∀ v σ' G' H' A' S, Evo G H A G' H' A' → Rep K G' H' σ' ρ' A' → PinR P ρ σ ρ' σ' → RepV K G' H' v r S → (∀ i, ∀ a ∈ S, a ∉ A' i) → (∀ a ∈ S, H a = none ∨ ∃ i, a ∈ A i) → D.rt v H') :
    tDS K P ρ1 fl ρ' D σ1 H1 := by
  refine ⟨G1, A1, R1, ?_⟩
  cases fl with
  | nx => exact fun σ' G' H' A' e' R' p' => k σ' G' H' A' (e.trans e') R' (p.trans p')
  | bk => exact fun σ' G' H' A' e' R' p' => k σ' G' H' A' (e.trans e') R' (p.trans p')
  | ct => exact fun σ' G' H' A' e' R' p' => k σ' G' H' A' (e.trans e') R' (p.trans p')
  | rt r =>
    refine fun v σ' G' H' A' S e' R' p' hr ap fr => k v σ' G' H' A' S (e.trans e') R' (p.toR.trans p') hr ap fun a ha => ?_
    · rcases fr a ha with z | ⟨i, z⟩
      · exact e.back z
      · exact e.foot i a z
def sNext : FS := fun ρ => some (.nx, ρ)
theorem ds_nil : DSs P X [] sNext := by
  intro ρ fl ρ' hf
  cases hf
  exact PSs.imp pss_nil fun D σ H ⟨G, A, R, k⟩ => k σ G H A (Evo.refl _ _ _) R .refl
def sSeq (f g : FS) : FS := fun ρ => (f ρ).bind fun p => match p.1 with
  | .nx => g p.2
  | fl => some (fl, p.2)
theorem ds_cons (h1 : DSt P X st f) (h2 : DSs P X rest g) : DSs P X (st :: rest) (sSeq f g) := by
  intro ρ fl ρ' hf
  unfold sSeq at hf
  obtain ⟨⟨fl1, ρ1⟩, e1, hf⟩ := obi hf
  have never : PSs X rest tNever := pss_never
  cases fl1 with
  | nx => exact PSs.imp (pss_cons (h1 _ _ _ e1) (h2 _ _ _ hf)) fun D σ H ⟨G, A, R, k⟩ => ⟨G, A, R, fun σ1 G1 H1 A1 e R1 p => tDS_trans e R1 p k⟩
  | bk => cases hf; exact PSs.imp (pss_cons (h1 _ _ _ e1) never) fun D σ H h => h
  | ct => cases hf; exact PSs.imp (pss_cons (h1 _ _ _ e1) never) fun D σ H h => h
  | rt r => cases hf; exact PSs.imp (pss_cons (h1 _ _ _ e1) never) fun D σ H h => h
theorem ds_one (h1 : DSt P X st f) : DSs P X [st] f := fun ρ fl ρ' hf => pss_one (h1 _ _ _ hf)
def sExpr (f : FE) : FS := fun ρ => (f ρ).map fun p => (.nx, p.2)
def Kp (P : Nat) (ρ ρ' : DS) : Prop := ρ'.length = ρ.length ∧ ∀ i : Nat, (∀ r : RV, ρ[i]? = some (some r) → ∃ r', ρ'[i]? = some (some r') ∧ (i < P → ownd r' = ownd r)) ∧ (ρ[i]? = some none → ρ'[i]? = some none)
theorem Kp.refl (ρ : DS) : Kp P ρ ρ := ⟨rfl, fun _ => ⟨fun r h => ⟨r, h, fun _ => rfl⟩, fun h => h⟩⟩
theorem Kp.trans {ρ ρ1 ρ2 : DS} (a : Kp P ρ ρ1) (b : Kp P ρ1 ρ2) : Kp P ρ ρ2 := ⟨b.1.trans a.1, fun i => ⟨fun r h => by
  obtain ⟨r1, h1, e1⟩ := (a.2 i).1 r h
  obtain ⟨r2, h2, e2⟩ := (b.2 i).1 r1 h1
  exact ⟨r2, h2, fun hp => (e2 hp).trans (e1 hp)⟩, fun h => (b.2 i).2 ((a.2 i).2 h)⟩⟩
theorem Kp.pin {ρ ρ' : DS} {σ : St} (k : Kp P ρ ρ') : Pin P ρ σ ρ' σ :=
  ⟨fun i hp ⟨r, h, o⟩ => ⟨rfl, let ⟨r', h', o'⟩ := (k.2 i).1 r h; ⟨r', h', (o' hp).trans o⟩⟩, fun i r h => let ⟨r', h', _⟩ := (k.2 i).1 r h; ⟨r', h'⟩, fun i _ => rfl, k.1⟩
class KpE (P : Nat) (f : FE) : Prop where kp : ∀ ρ rr ρ', f ρ = some (rr, ρ') → Kp P ρ ρ'
class KpT (P : Nat) (f : FT) : Prop where kp : ∀ ρ b ρ', f ρ = some (b, ρ') → Kp P ρ ρ'
class KpA (P : Nat) (f : FA) : Prop where kp : ∀ ρ rs ρ', f ρ = some (rs, ρ') → Kp P ρ ρ'
theorem ds_expr (he : DE X e fe) [hk : KpE P fe] (hs : swapsWith e none pos.line X.env = pure false := by rfl) : DSt P X (.Expr e pos) (sExpr fe) := by
  intro ρ fl ρ' hf
  unfold sExpr at hf
  obtain ⟨⟨rr, ρ1⟩, e1, h⟩ := omi hf
  cases h
  exact PS.imp (ps_expr (he _ _ _ e1) hs) fun D σ H ⟨G, A, R, k⟩ => ⟨G, A, R, fun v G1 H1 A1 S e R1 r f1 => k σ G1 H1 A1 e R1 (hk.kp _ _ _ e1).pin⟩
def sRet (P : Nat) (f : FE) : FS := fun ρ => (f ρ).bind fun p => match p.1 with
  | .own r => some (.rt r, p.2)
  | .at i => if i < P then none else (res p.2 (.at i)).map fun r => (.rt r, p.2.set i none)
theorem Rep.out {G H : Hp} {σ : St} {ρ : DS} {A : Ft} {i : Nat} {r : RV} {v : V} (R : Rep K G H σ ρ A) (hr : ρ[i]? = some (some r)) (hv : σ[i]? = some (some v)) :
    Rep K G H σ (ρ.set i none) (fun j => if j = i then [] else A j) ∧ RepV K G H v r (A i) ∧ ∀ j, ∀ a ∈ A i, a ∉ (fun j => if j = i then [] else A j) j := by
  obtain ⟨u, hu, hru⟩ := R.slot i r hr
  rw [hv] at hu
  cases hu
  refine ⟨⟨R.imm, by rw [List.length_set]; exact R.len, fun j q hj => ?_, fun j hj => ?_, fun j k a h1 h2 => ?_⟩, hru, fun j a ha z => ?_⟩
  · by_cases e : i = j
    · subst e
      have hl : i < ρ.length := (List.getElem?_eq_some_iff.mp hr).1
      rw [List.getElem?_set_self hl] at hj; cases hj
    · rw [List.getElem?_set_ne e] at hj
      obtain ⟨w, h1, h2⟩ := R.slot j q hj
      refine ⟨w, h1, ?_⟩
      rw [if_neg (Ne.symm e)]
      exact h2
  · by_cases e : i = j
    · subst e; rw [if_pos rfl]
    · rw [if_neg (Ne.symm e)]
      refine R.emp j fun q hq => hj q ?_
      rw [List.getElem?_set_ne e]; exact hq
  · by_cases ej : j = i
    · subst ej; simp at h1
    · by_cases ek : k = i
      · subst ek; simp at h2
      · simp only [ej, ek, if_false] at h1 h2
        exact R.disj j k a h1 h2
  · by_cases ej : j = i
    · subst ej; simp at z
    · simp only [ej, if_false] at z
      exact ej (R.disj j i a z ha)
theorem ds_ret (he : DE X e fe) [hk : KpE P fe] : DSt P X (.Return (some e) pos) (sRet P fe) := by
  intro ρ fl ρ' hf
  unfold sRet at hf
  obtain ⟨⟨rr, ρ1⟩, e1, h⟩ := obi hf
  cases rr with
  | own r =>
    cases h
    exact PS.imp (ps_ret (he _ _ _ e1)) fun D σ H ⟨G, A, R, k⟩ => ⟨G, A, R, fun v G1 H1 A1 S e R1 r f1 => k v σ G1 H1 A1 S e R1 ((hk.kp _ _ _ e1).pin (P := P) (σ := σ)).toR r.1 r.2 f1⟩
  | «at» i =>
    simp only at h
    split at h
    · cases h
    · next hi =>
      obtain ⟨r, h1, h2⟩ := omi h
      cases h2
      have h1' : ρ1[i]? = some (some r) := by
        have h1 : ρ1[i]?.join = some r := h1
        cases q : ρ1[i]? with
        | none => rw [q] at h1; cases h1
        | some o => rw [q] at h1; cases o with
          | none => cases h1
          | some x => cases h1; rfl
      refine PS.imp (ps_ret (he _ _ _ e1)) fun D σ H ⟨G, A, R, k⟩ => ⟨G, A, R, fun v G1 H1 A1 S e R1 q f1 => ?_⟩
      obtain ⟨_, hv⟩ := q
      obtain ⟨R2, hr, ap⟩ := R1.out h1' hv
      refine k v σ G1 H1 _ (A1 i) ⟨e.le, e.new, e.keep, fun j b hb => ?_⟩ R2 (((hk.kp _ _ _ e1).pin (P := P) (σ := σ)).toR.trans ⟨fun j hj ho => ?_, fun j r' hj hr' => ?_, fun j _ _ => rfl, by rw [List.length_set]⟩) hr ap fun a ha => e.foot i a ha
      · by_cases ej : j = i
        · subst ej; simp at hb
        · simp only [ej, if_false] at hb
          exact e.foot j b hb
      · obtain ⟨r', z2, z3⟩ := ho
        exact ⟨rfl, r', by rw [List.getElem?_set_ne (by omega)]; exact z2, z3⟩
      · exact ⟨r', by rw [List.getElem?_set_ne (by omega)]; exact hr'⟩
def sIf (t : FT) (f g : FS) : FS := fun ρ => (t ρ).bind fun p => if p.1 then f p.2 else g p.2
theorem ds_if {t : FT} {a b : List Stmt} (hc : DT X c t) [hk : KpT P t] (ha : DSs P X a f) (hb : DSs P X b g) : DSt P X (.If c a b pos) (sIf t f g) := by
  intro ρ fl ρ' hf
  unfold sIf at hf
  obtain ⟨⟨k1, ρ1⟩, h1, h⟩ := obi hf
  cases k1 with
  | true => exact PS.imp (ps_if (hc _ _ _ h1) (ha _ _ _ h) pss_never) fun D σ H ⟨G, A, R, k⟩ => ⟨G, A, R, fun G1 H1 A1 e R1 => iteT (tDS_trans e R1 (hk.kp _ _ _ h1).pin k)⟩
  | false => exact PS.imp (ps_if (hc _ _ _ h1) pss_never (hb _ _ _ h)) fun D σ H ⟨G, A, R, k⟩ => ⟨G, A, R, fun G1 H1 A1 e R1 => iteF (tDS_trans e R1 (hk.kp _ _ _ h1).pin k)⟩
open Classical in
noncomputable def setAt (P : Nat) (i : Nat) (r : RV) (ρ : DS) : Option DS := if i < ρ.length ∧ ¬ (i < P ∧ ownAt ρ i) then some (ρ.set i (some r)) else none
theorem setAt_inv {i : Nat} {r : RV} {ρ ρ' : DS} (h : setAt P i r ρ = some ρ') : i < ρ.length ∧ ¬ (i < P ∧ ownAt ρ i) ∧ ρ' = ρ.set i (some r) := by
  unfold setAt at h
  split at h
  · next z => cases h; exact ⟨z.1, z.2, rfl⟩
  · cases h
theorem Rep.store {G H : Hp} {σ : St} {ρ ρ' : DS} {A : Ft} {i : Nat} {r : RV} {v : V} {S : List Addr} (R : Rep K G H σ ρ A) (h : setAt P i r ρ = some ρ') (hr : RepV K G H v r S) (ap : ∀ j, ∀ a ∈ S, a ∉ A j) :
    Rep K G H (σ.set i (some v)) ρ' (fun j => if j = i then S else A j) ∧ Pin P ρ σ ρ' (σ.set i (some v)) := by
  obtain ⟨hl, hp, rfl⟩ := setAt_inv h
  have hls : i < σ.length := by rw [R.len]; exact hl
  refine ⟨⟨R.imm, by rw [List.length_set, List.length_set]; exact R.len, fun j q hj => ?_, fun j hj => ?_, fun j k a h1 h2 => ?_⟩, ⟨fun j hj ho => ?_, fun j q hj => ?_, fun j hj => ?_, by rw [List.length_set]⟩⟩
  · by_cases e : i = j
    · subst e
      rw [List.getElem?_set_self hl] at hj
      cases hj
      refine ⟨v, List.getElem?_set_self hls, ?_⟩
      rw [if_pos rfl]; exact hr
    · rw [List.getElem?_set_ne e] at hj
      obtain ⟨w, h1, h2⟩ := R.slot j q hj
      refine ⟨w, by rw [List.getElem?_set_ne e]; exact h1, ?_⟩
      rw [if_neg (Ne.symm e)]; exact h2
  · by_cases e : i = j
    · subst e; exact absurd (List.getElem?_set_self hl) (hj r)
    · rw [if_neg (Ne.symm e)]
      refine R.emp j fun q hq => hj q ?_
      rw [List.getElem?_set_ne e]; exact hq
  · by_cases ej : j = i
    · by_cases ek : k = i
      · rw [ej, ek]
      · simp only [ej, ek, if_true, if_false] at h1 h2
        exact absurd h2 (ap k a h1)
    · by_cases ek : k = i
      · simp only [ej, ek, if_true, if_false] at h1 h2
        exact absurd h1 (ap j a h2)
      · simp only [ej, ek, if_false] at h1 h2
        exact R.disj j k a h1 h2
  · have e : i ≠ j := fun e => by subst e; exact hp ⟨hj, ho⟩
    refine ⟨by rw [List.getElem?_set_ne e], ?_⟩
    obtain ⟨r', z1, z2⟩ := ho
    exact ⟨r', by rw [List.getElem?_set_ne e]; exact z1, z2⟩
  · by_cases e : i = j
    · subst e; exact ⟨r, List.getElem?_set_self hl⟩
    · exact ⟨q, by rw [List.getElem?_set_ne e]; exact hj⟩
  · by_cases e : i = j
    · subst e; rw [List.getElem?_set_self hl] at hj; cases hj
    · rw [List.getElem?_set_ne e]
theorem Evo.storeA {G H G1 H1 : Hp} {A A1 : Ft} {S : List Addr} {i : Nat} (e : Evo G H A G1 H1 A1) (f : ∀ a ∈ S, H a = none ∨ ∃ i, a ∈ A i) : Evo G H A G1 H1 (fun j => if j = i then S else A1 j) :=
  ⟨e.le, e.new, e.keep, fun j b hb => by
    by_cases ej : j = i
    · simp only [ej, if_true] at hb; exact f b hb
    · simp only [ej, if_false] at hb; exact e.foot j b hb⟩
noncomputable def sSet (P : Nat) (i : Nat) (f : FE) : FS := fun ρ => (f ρ).bind fun p => match p.1 with
  | .own r => (setAt P i r p.2).map fun ρ2 => (.nx, ρ2)
  | .at _ => none
theorem ds_set {i : Nat} {x : Str} {pos' : Pos} (hN : X.N.Nodup) (hi : X.N[i]? = some x := by rfl) (hx : Loc X.env.scope x := by exact Or.inl rfl) (he : DE X e fe) [hk : KpE P fe] (hs : swapsWith e (some (.Name x pos')) pos.line X.env = pure false := by rfl)
    (hf : X.fn x = true ∨ X.env.scope.names.lookup x = some .local := by first | exact .inl rfl | exact .inr rfl | assumption) : DSt P X (.Assign [.Name x pos'] e pos) (sSet P i fe) := by
  intro ρ fl ρ' h
  unfold sSet at h
  obtain ⟨⟨rr, ρ1⟩, e1, h⟩ := obi h
  cases rr with
  | own r =>
    obtain ⟨ρ2, h1, h2⟩ := omi h
    cases h2
    refine PS.imp (ps_set hN hi hx (he _ _ _ e1) hs hf) fun D σ H ⟨G, A, R, k⟩ => ⟨G, A, R, fun v G1 H1 A1 S e R1 q f1 => ?_⟩
    obtain ⟨R2, p2⟩ := R1.store (P := P) h1 q.1 q.2
    exact k _ G1 H1 _ (e.storeA f1) R2 ((hk.kp _ _ _ e1).pin.trans p2)
  | «at» j => cases h
end
section
variable {P : Nat} {fa fb : FE} {ga gb : FA} {ta tb : FT} {g : G2} {gl : GL} {i : Nat} {d : D}
instance : KpE P (fVar i) := ⟨fun ρ rr ρ' h => by
  unfold fVar at h
  split at h
  · cases h; exact Kp.refl _
  · cases h; exact Kp.refl _
  · cases h⟩
instance : KpE P (fC d) := ⟨fun ρ rr ρ' h => by cases h; exact Kp.refl _⟩
instance [ha : KpE P fa] [hb : KpE P fb] : KpE P (f2 g fa fb) := ⟨fun ρ rr ρ' h => by
  obtain ⟨ra, ρ1, rb, x, y, r, h1, h2, _⟩ := f2_inv h
  exact (ha.kp _ _ _ h1).trans (hb.kp _ _ _ h2)⟩
instance [ha : KpE P fa] : KpT P (fT fa) := ⟨fun ρ k ρ' h => by
  obtain ⟨rr, x, h1, _⟩ := fT_inv h
  exact ha.kp _ _ _ h1⟩
instance [ha : KpT P ta] [hb : KpT P tb] : KpT P (fOr ta tb) := ⟨fun ρ k ρ' h => by
  unfold fOr at h
  obtain ⟨⟨k1, ρ1⟩, h1, h⟩ := obi h
  cases k1 with
  | false => exact (ha.kp _ _ _ h1).trans (hb.kp _ _ _ h)
  | true => cases h; exact ha.kp _ _ _ h1⟩
instance [ha : KpT P ta] : KpT P (fNot ta) := ⟨fun ρ k ρ' h => by
  unfold fNot at h
  obtain ⟨⟨k1, ρ1⟩, h1, h⟩ := omi h
  cases h; exact ha.kp _ _ _ h1⟩
instance : KpA P fNil := ⟨fun ρ rs ρ' h => by cases h; exact Kp.refl _⟩
instance [ha : KpE P fa] [hb : KpA P gb] : KpA P (fCons fa gb) := ⟨fun ρ k ρ' h => by
  unfold fCons at h
  obtain ⟨⟨ra, ρ1⟩, h1, h⟩ := obi h
  obtain ⟨⟨rb, ρ2⟩, h2, h⟩ := omi h
  cases h
  exact (ha.kp _ _ _ h1).trans (hb.kp _ _ _ h2)⟩
instance [ha : KpA P ga] : KpE P (fLst ga) := ⟨fun ρ k ρ' h => by
  unfold fLst at h
  obtain ⟨⟨rs, ρ1⟩, h1, h⟩ := obi h
  obtain ⟨xs, h2, h⟩ := obi h
  obtain ⟨ds, h3, h⟩ := obi h
  split at h
  · cases h; exact ha.kp _ _ _ h1
  · cases h⟩
instance [ha : KpA P ga] : KpE P (fCall gl ga) := ⟨fun ρ k ρ' h => by
  obtain ⟨rs, xs, r, h1, _⟩ := fCall_inv h
  exact ha.kp _ _ _ h1⟩
end
end L2.CF
namespace L2.CF
open PySem PySem.Spec PyProof.Rows
variable {K : PySem.W.Frag}
theorem Rep.write {P : Nat} {G H : Hp} {σ : St} {ρ : DS} {A : Ft} {i : Nat} {ds ds' : List D} {a : Addr} {us us' : List V} (R : Rep K G H σ ρ A) (hi : ρ[i]? = some (some (.L ds))) (hv : σ[i]? = some (some (.ref a))) (z : Pus K G us' ds') :
    Rep K G (upd H a (.lst us')) σ (ρ.set i (some (.L ds'))) A ∧ Evo G H A G (upd H a (.lst us')) A ∧ Kp P ρ (ρ.set i (some (.L ds'))) := by
  obtain ⟨u, hu, b, vs, e1, e2, h1, h2, h3⟩ := R.slot i _ hi
  rw [hv] at hu
  cases hu
  cases e1
  have hl : i < ρ.length := (List.getElem?_eq_some_iff.mp hi).1
  have ne : ∀ j, j ≠ i → a ∉ A j := fun j hj hm => hj (R.disj j i a hm (by rw [e2]; simp))
  refine ⟨⟨fun b o q => ?_, by rw [List.length_set]; exact R.len, fun j q hj => ?_, fun j hj => ?_, R.disj⟩, ⟨Le.refl G, fun b o q => .inl q, fun b o q n => ?_, fun j b hb => .inr ⟨j, hb⟩⟩, by rw [List.length_set], fun j => ⟨fun r hr => ?_, fun hr => ?_⟩⟩
  · rw [upd_ne (fun e => by subst e; rw [h2] at q; cases q)]
    exact R.imm b o q
  · by_cases e : i = j
    · subst e
      rw [List.getElem?_set_self hl] at hj
      cases hj
      exact ⟨.ref a, hv, a, us', rfl, e2, upd_same, h2, z⟩
    · rw [List.getElem?_set_ne e] at hj
      obtain ⟨w, g1, g2⟩ := R.slot j q hj
      refine ⟨w, g1, g2.stay (Le.refl G) (fun b hb o q => ?_) fun b hb => g2.gfree hb⟩
      rw [upd_ne (fun e' => by subst e'; exact ne j (Ne.symm e) hb)]
      exact q
  · refine R.emp j fun r hr => ?_
    by_cases e : i = j
    · subst e; exact hj _ (List.getElem?_set_self hl)
    · exact hj r (by rw [List.getElem?_set_ne e]; exact hr)
  · rw [upd_ne (fun e => by subst e; exact n i (by rw [e2]; simp))]
    exact q
  · by_cases e : i = j
    · subst e
      rw [hi] at hr; cases hr
      exact ⟨_, List.getElem?_set_self hl, fun _ => rfl⟩
    · exact ⟨r, by rw [List.getElem?_set_ne e]; exact hr, fun _ => rfl⟩
  · by_cases e : i = j
    · subst e; rw [hi] at hr; cases hr
    · rw [List.getElem?_set_ne e]; exact hr
def slotL (ρ : DS) (i : Nat) : Option (List D) := match ρ[i]? with
  | some (some (.L ds)) => some ds
  | _ => none
theorem slotL_of {ρ : DS} {i : Nat} {ds : List D} (h : slotL ρ i = some ds) : ρ[i]? = some (some (.L ds)) := by
  unfold slotL at h
  split at h
  · next q => cases h; exact q
  · cases h
abbrev GLm := List D → List RV → Option (List D × D)
def rdLm (K : PySem.W.Frag) (ds : List D) (xs : List RV) (ds' : List D) (d : D) : V → List V → Hp → VK → Prop := fun v vs H Q => ∃ G a us, Le G H ∧ v = .ref a ∧ H a = some (.lst us) ∧ G a = none ∧ Pus K G us ds ∧ RepL K G H vs xs ∧
  ∀ w us', Pus K G us' ds' → Pu K G w d → Q w (upd H a (.lst us'))
def LmD (X : Cx) (id : String) (g : GLm) : Prop := ∀ ds xs ds' d, g ds xs = some (ds', d) → MtR X id (rdLm X.K ds xs ds' d)
theorem MtR.imp {X : Cx} {id : String} {r r' : V → List V → Hp → VK → Prop} (h : MtR X id r) (i : ∀ x xs H Q, r' x xs H Q → r x xs H Q) : MtR X id r' := fun pins s σ H x xs v us Q I rx rs q => h pins s σ H x xs v us Q I rx rs (i x xs H Q q)
def fLm (g : GLm) (fo : FE) (fa : FA) : FE := fun ρ => (fo ρ).bind fun p => match p.1 with
  | .at i => (slotL p.2 i).bind fun _ => (fa p.2).bind fun q => (slotL q.2 i).bind fun ds => (resL q.2 q.1).bind fun xs => (g ds xs).map fun r => (.own (.p r.2), q.2.set i (some (.L r.1)))
  | _ => none
theorem fLm_inv {g : GLm} {fo : FE} {fa : FA} {ρ ρ' : DS} {rr : RR} (h : fLm g fo fa ρ = some (rr, ρ')) : ∃ i ρ1 ds0 rs ρ2 ds xs ds' d, fo ρ = some (.at i, ρ1) ∧ slotL ρ1 i = some ds0 ∧ fa ρ1 = some (rs, ρ2) ∧ slotL ρ2 i = some ds ∧ resL ρ2 rs = some xs ∧ g ds xs = some (ds', d) ∧ rr = .own (.p d) ∧ ρ' = ρ2.set i (some (.L ds')) := by
  unfold fLm at h
  obtain ⟨⟨ra, ρ1⟩, h1, h⟩ := obi h
  cases ra with
  | own r => cases h
  | «at» i =>
    obtain ⟨ds0, h2, h⟩ := obi h
    obtain ⟨⟨rs, ρ2⟩, h3, h⟩ := obi h
    obtain ⟨ds, h4, h⟩ := obi h
    obtain ⟨xs, h5, h⟩ := obi h
    obtain ⟨⟨ds', d⟩, h6, h⟩ := omi h
    cases h
    exact ⟨i, ρ1, ds0, rs, ρ2, ds, xs, ds', d, h1, h2, h3, h4, h5, h6, rfl, rfl⟩
section
variable {X : Cx} {o e : Expr} {es : List Expr} {fo fe fi : FE} {fa : FA} {name : Str} {apos cpos pos : Pos} {id : String} {g : GLm} {P : Nat}
theorem lm_ent {ρ ρ1 ρ2 : DS} {i : Nat} {ds0 ds ds' : List D} {rs : List RR} {xs : List RV} {d : D} (h2 : slotL ρ1 i = some ds0) (h4 : slotL ρ2 i = some ds) (h5 : resL ρ2 rs = some xs) {σ : St} {H : Hp} {Q : VK}
    (h : tD K ρ (.own (.p d)) (ρ2.set i (some (.L ds'))) σ H Q) : tBM K "list" (rdLm K ds xs ds' d) (tD K ρ (.at i) ρ1) (tDA K ρ1 rs ρ2) σ H Q := by
  obtain ⟨G, A, R, k⟩ := h
  refine ⟨G, A, R, fun v G1 H1 A1 S e1 R1 q1 f1 => ?_⟩
  obtain ⟨_, hv⟩ := q1
  obtain ⟨u, hu, b, vs, rfl, _, g1, _⟩ := R1.slot i _ (slotL_of h2)
  rw [hv] at hu
  cases hu
  refine ⟨.inl ⟨rfl, _, SqL.of g1⟩, G1, A1, R1, fun ws G2 H2 A2 Ss e2 R2 q2 f2 => ?_⟩
  obtain ⟨u, hu, b', us, rfl, _, g2, g3, g4⟩ := R2.slot i _ (slotL_of h4)
  rw [hv] at hu
  cases hu
  refine ⟨G2, b, us, R2.imm, rfl, g2, g3, g4, repL_of R2 q2 h5, fun w us' z hw => ?_⟩
  obtain ⟨R3, e3, _⟩ := R2.write (P := 0) (us := us) (slotL_of h4) hv z
  exact k w G2 _ A2 [] ((e1.trans e2).trans e3) R3 ⟨⟨rfl, hw⟩, by simp⟩ (by simp)
theorem de_lm (slot : Slot "list" name id) (hty : typeOf (.builtin id) = pure (.type "method_descriptor")) (hm : LmD X id g) (ho : DE X o fo) (ha : DA X (e :: es) fa)
    (hbase : attributeBase o name X.env (eval o X.env) = eval o X.env := by rfl)
    (hfew : ((backTo cpos (starEach (e :: es) X.env)).all (fun x => !x.1) && (backToKw cpos (keywordEach [] X.env)).all (fun x => x.1.isSome)
      && decide ((e :: es).length + ([] : List Keyword).length + (if ([] : List Keyword).isEmpty then 0 else 1) < 30)) = true := by rfl)
    (hline : (apos.endLine == cpos.line) = true := by rfl) (hs : starEach (e :: es) X.env = (false, eval e X.env) :: starEach es X.env := by rfl) (hplain : (backTo cpos (starEach es X.env)).any (·.1) = false := by rfl) :
    DE X (.Call (.Attribute o name apos) (e :: es) [] cpos) (fLm g fo fa) := by
  intro ρ rr ρ' hf
  obtain ⟨i, ρ1, ds0, rs, ρ2, ds, xs, ds', d, h1, h2, h3, h4, h5, h6, rfl, rfl⟩ := fLm_inv hf
  exact PE.imp (pe_bm PySem.F.plainAttrs_list slot hty (hm _ _ _ _ h6) (ho _ _ _ h1) (ha _ _ _ h3) hbase hfew hline hs hplain) fun σ H Q h => lm_ent h2 h4 h5 h
instance [ho : KpE P fo] [ha : KpA P fa] : KpE P (fLm g fo fa) := ⟨fun ρ rr ρ' h => by
  obtain ⟨i, ρ1, ds0, rs, ρ2, ds, xs, ds', d, h1, h2, h3, h4, h5, h6, rfl, rfl⟩ := fLm_inv h
  refine ((ho.kp _ _ _ h1).trans (ha.kp _ _ _ h3)).trans ?_
  have hi := slotL_of h4
  have hl : i < ρ2.length := (List.getElem?_eq_some_iff.mp hi).1
  refine ⟨by rw [List.length_set], fun j => ⟨fun r hr => ?_, fun hr => ?_⟩⟩
  · by_cases e : i = j
    · subst e
      rw [hi] at hr; cases hr
      exact ⟨_, List.getElem?_set_self hl, fun _ => rfl⟩
    · exact ⟨r, by rw [List.getElem?_set_ne e]; exact hr, fun _ => rfl⟩
  · by_cases e : i = j
    · subst e; rw [hi] at hr; cases hr
    · rw [List.getElem?_set_ne e]; exact hr⟩
def gAppend : GLm := fun ds xs => match xs with
  | [.p d] => if ds.length < sizeLine then some (ds ++ [d], .non) else none
  | _ => none
theorem m_append : LmD X "list.append" gAppend := by
  intro ds xs ds' d e
  unfold gAppend at e
  split at e
  · next dd =>
    split at e
    · next hz =>
      cases e
      refine MtR.imp mt_append fun v vs H Q ⟨G, a, us, l, e1, h1, h2, z, rl, q⟩ => ?_
      obtain ⟨w, S, rfl, hw⟩ := rl.one
      exact ⟨a, us, w, e1, rfl, h1, by rw [z.length]; exact hz, q .non _ (z.append (.cons hw.2 .nil)) .non⟩
    · cases e
  · cases e
end
end L2.CF
namespace L2.CF
open PySem PySem.Spec PyProof.Rows
variable {K : PySem.W.Frag}
structure Src (K : PySem.W.Frag) (J : It) (ds : List D) (S : List Addr) (Sc : Hp → Hp → Prop) : Prop where
  go : ∀ i d G H, Le G H → Sc G H → ds[i]? = some d → J.go i H ∧ ∀ x H', J.yld i H x H' → ∃ G', Al G H G' H' ∧ Pu K G' x d
  stop : ∀ i G H, Le G H → Sc G H → ds.length ≤ i → J.stop i H
  evo : ∀ G H A G' H' A', Evo G H A G' H' A' → (∀ i, ∀ a ∈ S, a ∉ A i) → Sc G H → Sc G' H'
  there : ∀ G H, Sc G H → ∀ a ∈ S, ∃ o, H a = some o
abbrev Bk := Option (Nat × RV)
def BkOk (K : PySem.W.Frag) (S : List Addr) (Sc : Hp → Hp → Prop) (σ : St) : Bk → Prop
  | none => True
  | some (j, r) => ∃ v, σ[j]? = some (some v) ∧ ∀ G H, Sc G H → RepV K G H v r S
def tDI (K : PySem.W.Frag) (ρ : DS) (ds : List D) (bk : Bk) (ρ' : DS) : TI := fun σ H R => ∃ G A, Rep K G H σ ρ A ∧ ∀ J G' H' A' S Sc, Evo G H A G' H' A' → Rep K G' H' σ ρ' A' → Src K J ds S Sc → Sc G' H' → (∀ i, ∀ a ∈ S, a ∉ A' i) → (∀ a ∈ S, H a = none ∨ ∃ i, a ∈ A i) → BkOk K S Sc σ bk → R J H'
abbrev FI := DS → Option (List D × Bk × DS)
def DI (X : Cx) (tg iter : Expr) (f : FI) : Prop := ∀ ρ ds bk ρ', f ρ = some (ds, bk, ρ') → PI X tg iter (tDI X.K ρ ds bk ρ')
theorem PI.imp {X : Cx} {tg iter : Expr} {t t' : TI} (h : PI X tg iter t) (i : ∀ σ H R, t' σ H R → t σ H R) : PI X tg iter t' := fun pins s σ H R I q => h pins s σ H R I (i σ H R q)
def fiSeq (f : FE) : FI := fun ρ => (f ρ).bind fun p => match p.1 with
  | .own r => (items r).map fun ds => (ds, none, p.2)
  | .at i => (slotL p.2 i).map fun ds => (ds, some (i, .L ds), p.2.set i none)
theorem src_list {a : Addr} {ds : List D} {r : RV} {S : List Addr} (hl : itemsL r = some ds) : Src K (Itl K a) ds S (fun G H => RepV K G H (.ref a) r S) where
  go := fun i d G H l h hd => by
    obtain ⟨a', vs, e, sq, z⟩ := itemsL_of l h hl
    cases e
    obtain ⟨v, hv, pv⟩ := z.get hd
    refine ⟨⟨vs, v, sq, hv⟩, fun x H' ⟨e, y⟩ => ?_⟩
    subst e
    have q := y vs sq
    rw [hv] at q
    cases q
    exact ⟨G, Al.refl l, pv⟩
  stop := fun i G H l h hd => by
    obtain ⟨a', vs, e, sq, z⟩ := itemsL_of l h hl
    cases e
    exact ⟨vs, sq, by rw [z.length]; exact hd⟩
  evo := fun G H A G' H' A' e d h => e.held h d
  there := fun G H h a ha => h.there ha
theorem src_tup {a : Addr} {ds : List D} {r : RV} {S : List Addr} (hl : itemsT r = some ds) : Src K (Itt K a) ds S (fun G H => RepV K G H (.ref a) r S) where
  go := fun i d G H l h hd => by
    obtain ⟨a', vs, e, sq, z⟩ := itemsT_of l h hl
    cases e
    obtain ⟨v, hv, pv⟩ := z.get hd
    refine ⟨⟨vs, v, sq, hv⟩, fun x H' ⟨e, y⟩ => ?_⟩
    subst e
    have q := y vs sq
    rw [hv] at q
    cases q
    exact ⟨G, Al.refl l, pv⟩
  stop := fun i G H l h hd => by
    obtain ⟨a', vs, e, sq, z⟩ := itemsT_of l h hl
    cases e
    exact ⟨vs, sq, by rw [z.length]; exact hd⟩
  evo := fun G H A G' H' A' e d h => e.held h d
  there := fun G H h a ha => h.there ha
theorem src_range {lo : Int} {n : Nat} : Src K (Itr lo n) ((List.range n).map fun (i : Nat) => D.int (lo + i)) [] (fun _ _ => True) where
  go := fun i d G H l h hd => by
    rw [List.getElem?_map] at hd
    cases q : (List.range n)[i]? with
    | none => rw [q] at hd; cases hd
    | some m =>
      rw [q] at hd
      cases hd
      obtain ⟨h1, h2⟩ := List.getElem?_eq_some_iff.mp q
      rw [List.length_range] at h1
      rw [List.getElem_range] at h2
      subst h2
      refine ⟨h1, fun x H' ⟨e, y⟩ => ?_⟩
      subst e y
      exact ⟨G, Al.refl l, .int⟩
  stop := fun i G H l h hd => by
    rw [List.length_map, List.length_range] at hd
    exact hd
  evo := fun G H A G' H' A' e d h => trivial
  there := fun G H h a ha => by simp at ha
theorem ResL.one {G H : Hp} {σ : St} {A : Ft} {vs : List V} {r : RR} {Ss : List (List Addr)} (h : ResL K G H σ A vs [r] Ss) : ∃ v S, vs = [v] ∧ Ss = [S] ∧ ResOf K G H σ A v r S := by
  match vs, Ss, h with
  | [], _, h => exact h.elim
  | [_], [], h => exact h.elim
  | [v], [S], ⟨h, _, _⟩ => exact ⟨v, S, rfl, rfl, h⟩
  | [_], _ :: _ :: _, ⟨_, _, h⟩ => exact h.elim
  | _ :: _ :: _, [], h => exact h.elim
  | _ :: _ :: _, _ :: _, ⟨_, _, h⟩ => exact h.elim
section
variable {X : Cx} {P : Nat} {tg iter : Expr} {e : Expr} {es : List Expr} {fe : FE} {fa : FA} {pos p : Pos}
theorem di_seq (he : DE X iter fe) : DI X tg iter (fiSeq fe) := by
  intro ρ ds bk ρ' hf
  unfold fiSeq at hf
  obtain ⟨⟨rr, ρ1⟩, e1, hf⟩ := obi hf
  cases rr with
  | own r =>
    obtain ⟨ds', h1, h2⟩ := omi hf
    cases h2
    unfold items at h1
    cases q : itemsL r with
    | some x =>
      rw [q] at h1; cases h1
      refine PI.imp (pi_list (he _ _ _ e1)) fun σ H R ⟨G, A, Re, k⟩ => ⟨G, A, Re, fun v G1 H1 A1 S v1 R1 q1 f1 => ?_⟩
      obtain ⟨a, vs, rfl, sq, z⟩ := itemsL_of R1.imm q1.1 q
      exact ⟨a, rfl, ⟨vs, sq⟩, k _ G1 H1 A1 S _ v1 R1 (src_list q) q1.1 q1.2 f1 trivial⟩
    | none =>
      rw [q] at h1
      have h1 : itemsT r = some ds := h1
      refine PI.imp (pi_tup (he _ _ _ e1)) fun σ H R ⟨G, A, Re, k⟩ => ⟨G, A, Re, fun v G1 H1 A1 S v1 R1 q1 f1 => ?_⟩
      obtain ⟨a, vs, rfl, sq, z⟩ := itemsT_of R1.imm q1.1 h1
      exact ⟨a, rfl, ⟨vs, sq⟩, k _ G1 H1 A1 S _ v1 R1 (src_tup h1) q1.1 q1.2 f1 trivial⟩
  | «at» i =>
    obtain ⟨ds', h1, h2⟩ := omi hf
    cases h2
    refine PI.imp (pi_list (he _ _ _ e1)) fun σ H R ⟨G, A, Re, k⟩ => ⟨G, A, Re, fun v G1 H1 A1 S v1 R1 q1 f1 => ?_⟩
    obtain ⟨_, hv⟩ := q1
    obtain ⟨R2, hr, ap⟩ := R1.out (slotL_of h1) hv
    obtain ⟨a, vs, rfl, sq, z⟩ := itemsL_of R1.imm hr rfl
    refine ⟨a, rfl, ⟨vs, sq⟩, k _ G1 H1 _ (A1 i) _ ⟨v1.le, v1.new, v1.keep, fun j b hb => ?_⟩ R2 (src_list rfl) hr ap (fun b hb => v1.foot i b hb) ⟨_, hv, fun G H h => h⟩⟩
    by_cases ej : j = i
    · subst ej; simp at hb
    · simp only [ej, if_false] at hb
      exact v1.foot j b hb
def fiRange1 (f : FA) : FI := fun ρ => (f ρ).bind fun p => match p.1 with
  | [.own (.p (.int j))] => if -(2 ^ 62) ≤ j ∧ j < 2 ^ 62 then some ((List.range j.toNat).map fun (i : Nat) => D.int i, none, p.2) else none
  | _ => none
theorem di_range1 {a : Expr} (hg : Gl X "range") (hm : X.mg "range" = none) (ha : DA X [a] fa) (hs : starEach [a] X.env = [(false, eval a X.env)] := by rfl) : DI X tg (.Call (.Name "range" p) [a] [] pos) (fiRange1 fa) := by
  intro ρ ds bk ρ' hf
  unfold fiRange1 at hf
  obtain ⟨⟨rs, ρ1⟩, e1, hf⟩ := obi hf
  match rs, e1, hf with
  | [.own (.p (.int j))], e1, hf =>
    simp only at hf
    split at hf
    · next hz =>
      cases hf
      refine PI.imp (pi_range1 hg hm (ha _ _ _ e1) hs) fun σ H R ⟨G, A, Re, k⟩ => ⟨G, A, Re, fun vs G1 H1 A1 Ss v1 R1 q1 f1 => ?_⟩
      obtain ⟨v, S, rfl, rfl, ⟨_, hv⟩, _⟩ := q1.one
      cases hv
      have es : Src X.K (Itr 0 j.toNat) ((List.range j.toNat).map fun (i : Nat) => D.int i) [] (fun _ _ => True) := by
        have z := src_range (K := X.K) (lo := 0) (n := j.toNat)
        simpa using z
      exact ⟨j, rfl, hz.1, hz.2, k _ G1 H1 A1 [] _ v1 R1 es trivial (by simp) (by simp) trivial⟩
    · cases hf
def tDG (K : PySem.W.Frag) (P : Nat) (d : D) (ρ ρ' : DS) : TG := fun v σ H Q => ∃ G A, Rep K G H σ ρ A ∧ Pu K G v d ∧ ∀ σ' G' H' A', Evo G H A G' H' A' → Rep K G' H' σ' ρ' A' → Pin P ρ σ ρ' σ' → Q σ' H'
abbrev FG := D → DS → Option DS
def DG (P : Nat) (X : Cx) (tg : Expr) (f : FG) : Prop := ∀ d ρ ρ', f d ρ = some ρ' → PG X tg (tDG X.K P d ρ ρ')
theorem PG.imp {t t' : TG} (h : PG X tg t) (i : ∀ v σ H Q, t' v σ H Q → t v σ H Q) : PG X tg t' := fun pins s σ H v u Q I r q => h pins s σ H v u Q I r (i v σ H Q q)
noncomputable def gName' (P i : Nat) : FG := fun d ρ => setAt P i (.p d) ρ
theorem dg_name {i : Nat} {x : Str} (hN : X.N.Nodup) (hi : X.N[i]? = some x := by rfl) (hx : Loc X.env.scope x := by exact Or.inl rfl) (hf : X.fn x = true ∨ X.env.scope.names.lookup x = some .local := by first | exact .inl rfl | exact .inr rfl | assumption) :
    DG P X (.Name x pos) (gName' P i) := by
  intro d ρ ρ' h
  refine PG.imp (pg_name hN hi hx hf) fun v σ H Q ⟨G, A, R, z, k⟩ => ?_
  obtain ⟨R2, p2⟩ := R.store (P := P) (S := []) (v := v) h ⟨rfl, z⟩ (by simp)
  exact k _ G H _ ((Evo.refl G H A).storeA (by simp)) R2 p2
def forD (asg : FG) (body : FS) : List D → DS → Option (FL × DS)
  | [], ρ => some (.nx, ρ)
  | d :: ds, ρ => (asg d ρ).bind fun ρa => (body ρa).bind fun q => match q.1 with
    | .nx => forD asg body ds q.2
    | .ct => forD asg body ds q.2
    | .bk => some (.nx, q.2)
    | .rt r => some (.rt r, q.2)
open Classical in
noncomputable def sFor (P : Nat) (fi : FI) (asg : FG) (body : FS) : FS := fun ρ => (fi ρ).bind fun p => (forD asg body p.1 p.2.2).bind fun q => match p.2.1 with
  | none => some q
  | some (j, r) => match q.1 with
    | .rt _ => if j < P then (if q.2[j]? = some none then some (q.1, q.2.set j (some r)) else none) else some q
    | _ => if q.2[j]? = some none then some (q.1, q.2.set j (some r)) else none
theorem Rep.back {G H : Hp} {σ : St} {ρ : DS} {A : Ft} {j : Nat} {r : RV} {v : V} {S : List Addr} (R : Rep K G H σ ρ A) (hj : ρ[j]? = some none) (hv : σ[j]? = some (some v)) (hr : RepV K G H v r S) (ap : ∀ i, ∀ a ∈ S, a ∉ A i) :
    Rep K G H σ (ρ.set j (some r)) (fun i => if i = j then S else A i) := by
  have hl : j < ρ.length := (List.getElem?_eq_some_iff.mp hj).1
  refine ⟨R.imm, by rw [List.length_set]; exact R.len, fun i q hi => ?_, fun i hi => ?_, fun i k a h1 h2 => ?_⟩
  · by_cases e : j = i
    · subst e
      rw [List.getElem?_set_self hl] at hi
      cases hi
      exact ⟨v, hv, by rw [if_pos rfl]; exact hr⟩
    · rw [List.getElem?_set_ne e] at hi
      obtain ⟨w, h1, h2⟩ := R.slot i q hi
      exact ⟨w, h1, by rw [if_neg (Ne.symm e)]; exact h2⟩
  · by_cases e : j = i
    · subst e; exact absurd (List.getElem?_set_self hl) (hi r)
    · rw [if_neg (Ne.symm e)]
      refine R.emp i fun q hq => hi q ?_
      rw [List.getElem?_set_ne e]; exact hq
  · by_cases ei : i = j
    · by_cases ek : k = j
      · rw [ei, ek]
      · simp only [ei, ek, if_true, if_false] at h1 h2
        exact absurd h2 (ap k a h1)
    · by_cases ek : k = j
      · simp only [ei, ek, if_true, if_false] at h1 h2
        exact absurd h1 (ap i a h2)
      · simp only [ei, ek, if_false] at h1 h2
        exact R.disj i k a h1 h2
def tAll (K : PySem.W.Frag) (P : Nat) (f : FS) : TS := fun D σ H => ∃ ρ fl ρ', f ρ = some (fl, ρ') ∧ tDS K P ρ fl ρ' D σ H
theorem DSs.all {st : List Stmt} {f : FS} (h : DSs P X st f) : PSs X st (tAll X.K P f) := fun pins s σ H D I ⟨ρ, fl, ρ', e, q⟩ => h ρ fl ρ' e pins s σ H D I q
def tAllG (K : PySem.W.Frag) (P : Nat) (f : FG) : TG := fun v σ H Q => ∃ d ρ ρ', f d ρ = some ρ' ∧ tDG K P d ρ ρ' v σ H Q
theorem DG.all {f : FG} (h : DG P X tg f) : PG X tg (tAllG X.K P f) := fun pins s σ H v u Q I r ⟨d, ρ, ρ', e, q⟩ => h d ρ ρ' e pins s σ H v u Q I r q
theorem Src.apart {J : It} {ds : List D} {S : List Addr} {Sc : Hp → Hp → Prop} (src : Src K J ds S Sc) {G H G' H' : Hp} {A A' : Ft} (v : Evo G H A G' H' A') (sc : Sc G H) (ap : ∀ i, ∀ a ∈ S, a ∉ A i) : ∀ i, ∀ a ∈ S, a ∉ A' i := fun i a ha z => by
  rcases v.foot i a z with q | ⟨j, q⟩
  · obtain ⟨o, q'⟩ := src.there G H sc a ha
    rw [q] at q'; cases q'
  · exact ap j a ha q
theorem for_core {J : It} {ds : List D} {S : List Addr} {Sc : Hp → Hp → Prop} {asg : FG} {body : FS} {D : Ends} {ρ1 : DS} {σ : St} {G H : Hp} {A : Ft} {fl : FL} {ρ2 : DS} (src : Src K J ds S Sc) (R : Rep K G H σ ρ1 A) (sc : Sc G H) (ap : ∀ i, ∀ a ∈ S, a ∉ A i)
    (hf : forD asg body ds ρ1 = some (fl, ρ2))
    (kn : fl = .nx → ∀ σ' G' H' A', Evo G H A G' H' A' → Rep K G' H' σ' ρ2 A' → Pin P ρ1 σ ρ2 σ' → Sc G' H' → (∀ i, ∀ a ∈ S, a ∉ A' i) → D.nx σ' H')
    (kr : ∀ r, fl = .rt r → ∀ v σ' G' H' A' T, Evo G H A G' H' A' → Rep K G' H' σ' ρ2 A' → PinR P ρ1 σ ρ2 σ' → RepV K G' H' v r T → (∀ i, ∀ a ∈ T, a ∉ A' i) → (∀ a ∈ T, H a = none ∨ ∃ i, a ∈ A i) → Sc G' H' → (∀ i, ∀ a ∈ S, a ∉ A' i) → D.rt v H') :
    ∃ W : Nat → Nat → St → Hp → Prop, (∃ m, W 0 m σ H) ∧ ∀ i m σ H, W i m σ H →
      (J.stop i H ∧ D.nx σ H) ∨ (J.go i H ∧ ∃ N : St → Hp → Prop, (∀ σ' H', N σ' H' → ∃ m', m' < m ∧ W (i + 1) m' σ' H') ∧ ∀ x H', J.yld i H x H' → tAllG K P asg x σ H' fun σ2 H2 => tAll K P body { D with nx := N, ct := N, bk := D.nx } σ2 H2) := by
  refine ⟨fun i m σ' H' => m = ds.length - i ∧ i ≤ ds.length ∧ ∃ G' A' ρi, Evo G H A G' H' A' ∧ Rep K G' H' σ' ρi A' ∧ Pin P ρ1 σ ρi σ' ∧ Sc G' H' ∧ (∀ i, ∀ a ∈ S, a ∉ A' i) ∧ forD asg body (ds.drop i) ρi = some (fl, ρ2),
    ⟨ds.length, by simp, Nat.zero_le _, G, A, ρ1, Evo.refl _ _ _, R, .refl, sc, ap, by rw [List.drop_zero]; exact hf⟩, ?_⟩
  rintro i m σ1 H1 ⟨rfl, hi, G1, A1, ρi, v1, R1, p1, sc1, ap1, hf1⟩
  by_cases hlt : i < ds.length
  · have hd : ds[i]? = some ds[i] := List.getElem?_eq_getElem hlt
    rw [List.drop_eq_getElem_cons hlt] at hf1
    simp only [forD] at hf1
    obtain ⟨ρa, ha, hf1⟩ := obi hf1
    obtain ⟨⟨fl1, ρb⟩, hb, hf1⟩ := obi hf1
    obtain ⟨go, yl⟩ := src.go i _ G1 H1 R1.imm sc1 hd
    refine .inr ⟨go, fun σ' H' => ∃ G' A', Evo G H A G' H' A' ∧ Rep K G' H' σ' ρb A' ∧ Pin P ρ1 σ ρb σ' ∧ Sc G' H' ∧ (∀ i, ∀ a ∈ S, a ∉ A' i) ∧ forD asg body (ds.drop (i + 1)) ρb = some (fl, ρ2),
      fun σ' H' ⟨G', A', h1, h2, h3, h4, h5, h6⟩ => ⟨ds.length - (i + 1), by omega, rfl, hlt, G', A', ρb, h1, h2, h3, h4, h5, h6⟩, fun x H' y => ?_⟩
    obtain ⟨G2, al, px⟩ := yl x H' y
    have v2 : Evo G1 H1 A1 G2 H' A1 := al.evo
    have sc2 := src.evo _ _ _ _ _ _ v2 ap1 sc1
    refine ⟨ds[i], ρi, ρa, ha, G2, A1, al.rep R1, px, fun σ3 G3 H3 A3 v3 R3 p3 => ⟨ρa, fl1, ρb, hb, G3, A3, R3, ?_⟩⟩
    have v13 := (v1.trans v2).trans v3
    have sc3 := src.evo _ _ _ _ _ _ v3 ap1 sc2
    have ap3 := src.apart v3 sc2 ap1
    cases fl1 with
    | nx => exact fun σ4 G4 H4 A4 v4 R4 p4 => ⟨G4, A4, v13.trans v4, R4, (p1.trans p3).trans p4, src.evo _ _ _ _ _ _ v4 ap3 sc3, src.apart v4 sc3 ap3, hf1⟩
    | ct => exact fun σ4 G4 H4 A4 v4 R4 p4 => ⟨G4, A4, v13.trans v4, R4, (p1.trans p3).trans p4, src.evo _ _ _ _ _ _ v4 ap3 sc3, src.apart v4 sc3 ap3, hf1⟩
    | bk =>
      cases hf1
      exact fun σ4 G4 H4 A4 v4 R4 p4 => kn rfl σ4 G4 H4 A4 (v13.trans v4) R4 ((p1.trans p3).trans p4) (src.evo _ _ _ _ _ _ v4 ap3 sc3) (src.apart v4 sc3 ap3)
    | rt r =>
      cases hf1
      refine fun v σ4 G4 H4 A4 T v4 R4 p4 hr ap4 fr => kr r rfl v σ4 G4 H4 A4 T (v13.trans v4) R4 ((p1.trans p3).toR.trans p4) hr ap4 (fun a ha => ?_) (src.evo _ _ _ _ _ _ v4 ap3 sc3) (src.apart v4 sc3 ap3)
      rcases fr a ha with z | ⟨j, z⟩
      · exact v13.back z
      · exact v13.foot j a z
  · have e : ds.drop i = [] := List.drop_eq_nil_of_le (by omega)
    rw [e] at hf1
    cases hf1
    exact .inl ⟨src.stop i G1 H1 R1.imm sc1 (by omega), kn rfl σ1 G1 H1 A1 v1 R1 p1 sc1 ap1⟩
class KpI (P : Nat) (f : FI) : Prop where kp : ∀ ρ ds bk ρ', f ρ = some (ds, bk, ρ') → match bk with
  | none => Kp P ρ ρ'
  | some (j, r) => ∃ ρ1, Kp P ρ ρ1 ∧ ρ1[j]? = some (some r) ∧ ownd r = true ∧ ρ' = ρ1.set j none
instance [h : KpE P fe] : KpI P (fiSeq fe) := ⟨fun ρ ds bk ρ' hf => by
  unfold fiSeq at hf
  obtain ⟨⟨rr, ρ1⟩, e1, hf⟩ := obi hf
  cases rr with
  | own r =>
    obtain ⟨ds', h1, h2⟩ := omi hf
    cases h2
    exact h.kp _ _ _ e1
  | «at» i =>
    obtain ⟨ds', h1, h2⟩ := omi hf
    cases h2
    exact ⟨ρ1, h.kp _ _ _ e1, slotL_of h1, rfl, rfl⟩⟩
instance [h : KpA P fa] : KpI P (fiRange1 fa) := ⟨fun ρ ds bk ρ' hf => by
  unfold fiRange1 at hf
  obtain ⟨⟨rs, ρ1⟩, e1, hf⟩ := obi hf
  split at hf
  · split at hf
    · cases hf; exact h.kp _ _ _ e1
    · cases hf
  · cases hf⟩
theorem ds_for {fi : FI} {asg : FG} {body : List Stmt} {f : FS} (hp : PassesOwn (model X.prog X.w) X.A X.env X.xe) (hc : X.calm = true) (hi : DI X tg iter fi) [ki : KpI P fi] (hg : DG P X tg asg) (hb : DSs P X body f)
    (hs : ∀ x, foldedSetIterable iter X.env x = pure x := by intro _; rfl) : DSt P X (.For tg iter body [] pos) (sFor P fi asg f) := by
  intro ρ fl ρ' hf
  unfold sFor at hf
  obtain ⟨⟨ds, bk, ρ1⟩, e1, hf⟩ := obi hf
  obtain ⟨⟨fl2, ρ2⟩, e2, hf⟩ := obi hf
  have kp := ki.kp _ _ _ _ e1
  refine PS.imp (ps_for hp hc (hi _ _ _ _ e1) hg.all hb.all hs) fun D σ H ⟨G, A, R, k⟩ => ⟨G, A, R, fun J G1 H1 A1 S Sc v1 R1 src sc ap fr ok => ?_⟩
  cases bk with
  | none =>
    cases hf
    have kp : Kp P ρ ρ1 := kp
    refine for_core (P := P) src R1 sc ap e2 (fun e => ?_) (fun r e => ?_)
    · subst e
      exact fun σ' G' H' A' v R' p _ _ => k σ' G' H' A' (v1.trans v) R' (kp.pin.trans p)
    · subst e
      refine fun v σ' G' H' A' T v' R' p hr ap' f' _ _ => k v σ' G' H' A' T (v1.trans v') R' (kp.pin.toR.trans p) hr ap' fun a ha => ?_
      rcases f' a ha with z | ⟨i, z⟩
      · exact v1.back z
      · exact v1.foot i a z
  | some jr =>
    obtain ⟨j, r⟩ := jr
    obtain ⟨ρ0, k0, hj0, ho, rfl⟩ := kp
    obtain ⟨v, hv, hr⟩ := ok
    have hl0 : j < ρ0.length := (List.getElem?_eq_some_iff.mp hj0).1
    have nxt : ∀ (hj : ρ2[j]? = some none) (kk : ∀ σ' G' H' A', Evo G H A G' H' A' → Rep X.K G' H' σ' (ρ2.set j (some r)) A' → Pin P ρ σ (ρ2.set j (some r)) σ' → D.nx σ' H'), ∀ σ' G' H' A', Evo G1 H1 A1 G' H' A' → Rep X.K G' H' σ' ρ2 A' → Pin P (ρ0.set j none) σ ρ2 σ' → Sc G' H' → (∀ i, ∀ a ∈ S, a ∉ A' i) → D.nx σ' H' := by
      intro hj k σ' G' H' A' v' R' p sc' ap'
      have hl2 : j < ρ2.length := (List.getElem?_eq_some_iff.mp hj).1
      have hv' : σ'[j]? = some (some v) := (p.non j hj).trans hv
      refine k σ' G' H' _ ((v1.trans v').storeA fr) (R'.back hj hv' (hr _ _ sc') ap') (k0.pin.trans ⟨fun i hi hoi => ?_, fun i q hq => ?_, fun i hq => ?_, ?_⟩)
      · by_cases e : j = i
        · subst e; exact ⟨p.non j hj, r, List.getElem?_set_self hl2, ho⟩
        · obtain ⟨q, z1, z2⟩ := hoi
          obtain ⟨w1, q', w2, w3⟩ := p.par i hi ⟨q, by rw [List.getElem?_set_ne e]; exact z1, z2⟩
          exact ⟨w1, q', by rw [List.getElem?_set_ne e]; exact w2, w3⟩
      · by_cases e : j = i
        · subst e; exact ⟨r, List.getElem?_set_self hl2⟩
        · obtain ⟨q', w⟩ := p.held i q (by rw [List.getElem?_set_ne e]; exact hq)
          exact ⟨q', by rw [List.getElem?_set_ne e]; exact w⟩
      · by_cases e : j = i
        · subst e; exact p.non j hj
        · exact p.non i (by rw [List.getElem?_set_ne e] at hq; exact hq)
      · rw [List.length_set, p.len, List.length_set]
    cases fl2 with
    | nx =>
      simp only at hf
      split at hf
      · next hj =>
        cases hf
        refine for_core (P := P) src R1 sc ap e2 (fun _ => nxt hj k) (fun r' e => ?_)
        cases e
      · cases hf
    | bk =>
      simp only at hf
      split at hf
      · next hj =>
        cases hf
        refine for_core (P := P) src R1 sc ap e2 (fun e => ?_) (fun r' e => ?_)
        · cases e
        · cases e
      · cases hf
    | ct =>
      simp only at hf
      split at hf
      · next hj =>
        cases hf
        refine for_core (P := P) src R1 sc ap e2 (fun e => ?_) (fun r' e => ?_)
        · cases e
        · cases e
      · cases hf
    | rt r0 =>
      simp only at hf
      split at hf
      · next hjP =>
        split at hf
        · next hj =>
          cases hf
          have hl2 : j < ρ2.length := (List.getElem?_eq_some_iff.mp hj).1
          refine for_core (P := P) src R1 sc ap e2 (fun e => ?_) (fun r' e => ?_)
          · cases e
          · cases e
            intro w σ' G' H' A' T v' R' p hw ap' f' sc' apS
            have hv' : σ'[j]? = some (some v) := (p.non j hjP hj).trans hv
            refine k w σ' G' H' _ T ((v1.trans v').storeA fr) (R'.back hj hv' (hr _ _ sc') apS) (k0.pin.toR.trans ⟨fun i hi hoi => ?_, fun i q hip hq => ?_, fun i hip hq => ?_, ?_⟩) hw (fun i a ha z => ?_) fun a ha => ?_
            · by_cases e : j = i
              · subst e; exact ⟨p.non j hjP hj, r, List.getElem?_set_self hl2, ho⟩
              · obtain ⟨q, z1, z2⟩ := hoi
                obtain ⟨w1, q', w2, w3⟩ := p.par i hi ⟨q, by rw [List.getElem?_set_ne e]; exact z1, z2⟩
                exact ⟨w1, q', by rw [List.getElem?_set_ne e]; exact w2, w3⟩
            · by_cases e : j = i
              · subst e; exact ⟨r, List.getElem?_set_self hl2⟩
              · obtain ⟨q', w⟩ := p.held i q hip (by rw [List.getElem?_set_ne e]; exact hq)
                exact ⟨q', by rw [List.getElem?_set_ne e]; exact w⟩
            · by_cases e : j = i
              · subst e; exact p.non j hjP hj
              · exact p.non i hip (by rw [List.getElem?_set_ne e] at hq; exact hq)
            · rw [List.length_set, p.len, List.length_set]
            · by_cases e : i = j
              · simp only [e, if_true] at z
                rcases f' a ha with q | ⟨i', q⟩
                · obtain ⟨o, q'⟩ := src.there _ _ sc a z
                  rw [q] at q'; cases q'
                · exact ap i' a z q
              · simp only [e, if_false] at z
                exact ap' i a ha z
            · rcases f' a ha with z | ⟨i, z⟩
              · exact v1.back z
              · exact v1.foot i a z
        · cases hf
      · next hjP =>
        cases hf
        refine for_core (P := P) src R1 sc ap e2 (fun e => ?_) (fun r' e => ?_)
        · cases e
        · cases e
          intro w σ' G' H' A' T v' R' p hw ap' f' sc' apS
          refine k w σ' G' H' A' T (v1.trans v') R' (k0.pin.toR.trans ⟨fun i hi hoi => ?_, fun i q hip hq => ?_, fun i hip hq => p.non i hip hq, by rw [p.len, List.length_set]⟩) hw ap' fun a ha => ?_
          · obtain ⟨q, z1, z2⟩ := hoi
            exact p.par i hi ⟨q, by rw [List.getElem?_set_ne (by omega)]; exact z1, z2⟩
          · exact p.held i q hip (by rw [List.getElem?_set_ne (by omega)]; exact hq)
          · rcases f' a ha with z | ⟨i, z⟩
            · exact v1.back z
            · exact v1.foot i a z
end
end L2.CF
namespace L2.CF
open PySem PySem.Spec PyProof.Rows
variable {K : PySem.W.Frag}
abbrev FF := List RV → Option (RV × List RV)
def ArgsR (K : PySem.W.Frag) (G H : Hp) : List V → List RV → List (List Addr) → Prop
  | [], [], [] => True
  | v :: vs, x :: xs, S :: Ss => RepV K G H v x S ∧ (∀ T ∈ Ss, ∀ a ∈ S, a ∉ T) ∧ ArgsR K G H vs xs Ss
  | _, _, _ => False
def spD (K : PySem.W.Frag) (F : FF) : Sp := fun vs H Q _ => ∃ G xs Ss r ys, F xs = some (r, ys) ∧ Le G H ∧ ArgsR K G H vs xs Ss ∧
  ∀ v G' H' S, Le G G' → (∀ b o, G' b = some o → G b = some o ∨ H b = none ∨ ∃ T ∈ Ss, b ∈ T) → Le G' H' → (∀ b o, H b = some o → (∀ T ∈ Ss, b ∉ T) → H' b = some o) → ArgsR K G' H' vs ys Ss →
    RepV K G' H' v r S → (∀ T ∈ Ss, ∀ a ∈ S, a ∉ T) → (∀ a ∈ S, H a = none ∨ ∃ T ∈ Ss, a ∈ T) → Q v H'
theorem ArgsR.len {G H : Hp} : ∀ {vs : List V} {xs : List RV} {Ss : List (List Addr)}, ArgsR K G H vs xs Ss → vs.length = xs.length ∧ Ss.length = xs.length
  | [], [], [], _ => ⟨rfl, rfl⟩
  | _ :: _, _ :: _, _ :: _, ⟨_, _, h⟩ => by have q := h.len; simp [q.1, q.2]
  | [], [], _ :: _, h => h.elim
  | [], _ :: _, _, h => h.elim
  | _ :: _, [], _, h => h.elim
  | _ :: _, _ :: _, [], h => h.elim
theorem ArgsR.get {G H : Hp} : ∀ {vs : List V} {xs : List RV} {Ss : List (List Addr)} {i : Nat} {x : RV}, ArgsR K G H vs xs Ss → xs[i]? = some x → ∃ v S, vs[i]? = some v ∧ Ss[i]? = some S ∧ RepV K G H v x S
  | _ :: _, _ :: _, _ :: _, 0, _, ⟨h, _, _⟩, e => by simp at e; subst e; exact ⟨_, _, rfl, rfl, h⟩
  | _ :: _, _ :: _, _ :: _, i + 1, x, ⟨_, _, h⟩, e => by
    obtain ⟨v, S, h1, h2, h3⟩ := ArgsR.get (i := i) (x := x) h (by simpa using e)
    exact ⟨v, S, by simpa using h1, by simpa using h2, h3⟩
  | [], [], [], _, _, _, e => by simp at e
  | [], [], _ :: _, _, _, h, _ => h.elim
  | [], _ :: _, _, _, _, h, _ => h.elim
  | _ :: _, [], _, _, _, h, _ => h.elim
  | _ :: _, _ :: _, [], _, _, h, _ => h.elim
theorem ArgsR.disj {G H : Hp} : ∀ {vs : List V} {xs : List RV} {Ss : List (List Addr)}, ArgsR K G H vs xs Ss → ∀ {i j : Nat} {S T : List Addr} {a : Addr}, Ss[i]? = some S → Ss[j]? = some T → a ∈ S → a ∈ T → i = j
  | _ :: _, _ :: _, _ :: _, ⟨_, h1, h2⟩, 0, 0, _, _, _, _, _, _, _ => rfl
  | _ :: _, _ :: _, _ :: _, ⟨_, h1, h2⟩, 0, j + 1, S, T, a, e1, e2, m1, m2 => by
    simp at e1; subst e1
    exact absurd m2 (h1 T (List.mem_of_getElem? (by simpa using e2)) a m1)
  | _ :: _, _ :: _, _ :: _, ⟨_, h1, h2⟩, i + 1, 0, S, T, a, e1, e2, m1, m2 => by
    simp at e2; subst e2
    exact absurd m1 (h1 S (List.mem_of_getElem? (by simpa using e1)) a m2)
  | _ :: _, _ :: _, _ :: _, ⟨_, h1, h2⟩, i + 1, j + 1, S, T, a, e1, e2, m1, m2 => by
    have q := ArgsR.disj h2 (i := i) (j := j) (by simpa using e1) (by simpa using e2) m1 m2
    omega
  | [], [], [], _, _, _, _, _, _, e1, _, _, _ => by simp at e1
  | [], [], _ :: _, h, _, _, _, _, _, _, _, _, _ => h.elim
  | [], _ :: _, _, h, _, _, _, _, _, _, _, _, _ => h.elim
  | _ :: _, [], _, h, _, _, _, _, _, _, _, _, _ => h.elim
  | _ :: _, _ :: _, [], h, _, _, _, _, _, _, _, _, _ => h.elim
theorem ArgsR.mk {G H : Hp} : ∀ {vs : List V} {xs : List RV} {Ss : List (List Addr)}, vs.length = xs.length → Ss.length = xs.length → (∀ (i : Nat) x v S, xs[i]? = some x → vs[i]? = some v → Ss[i]? = some S → RepV K G H v x S) →
    (∀ (i j : Nat) S T a, Ss[i]? = some S → Ss[j]? = some T → a ∈ S → a ∈ T → i = j) → ArgsR K G H vs xs Ss
  | [], [], [], _, _, _, _ => trivial
  | v :: vs, x :: xs, S :: Ss, h1, h2, h3, h4 => by
    refine ⟨h3 0 x v S rfl rfl rfl, fun T hT a m1 m2 => ?_, ArgsR.mk (by simpa using h1) (by simpa using h2) (fun i x v S e1 e2 e3 => h3 (i + 1) x v S (by simpa using e1) (by simpa using e2) (by simpa using e3)) fun i j S T a e1 e2 m1 m2 => ?_⟩
    · obtain ⟨j, hj⟩ := List.mem_iff_getElem?.mp hT
      have q := h4 0 (j + 1) S T a rfl (by simpa using hj) m1 m2
      omega
    · have q := h4 (i + 1) (j + 1) S T a (by simpa using e1) (by simpa using e2) m1 m2
      omega
  | [], _ :: _, _, h, _, _, _ => by simp at h
  | _ :: _, [], _, h, _, _, _ => by simp at h
  | [], [], _ :: _, _, h, _, _ => by simp at h
  | _ :: _, _ :: _, [], _, h, _, _ => by simp at h
def sat : RV → Option Addr
  | .S _ a _ => some a
  | _ => none
def outAt (ρ' : DS) : Nat → List RV → Option (List RV)
  | _, [] => some []
  | i, x :: xs => (match ownd x, ρ'[i]? with
    | false, _ => some x
    | true, some (some r) => if ownd r ∧ sat r = sat x then some r else none
    | true, _ => none).bind fun y => (outAt ρ' (i + 1) xs).map (y :: ·)
def runBody (n : Nat) (f : FS) : FF := fun xs => (f (xs.map some ++ List.replicate (n - xs.length) none)).bind fun q => match q.1 with
  | .rt r => (outAt q.2 0 xs).map fun ys => (r, ys)
  | .nx => (outAt q.2 0 xs).map fun ys => (.p .non, ys)
  | _ => none
theorem outAt_of {ρ' : DS} : ∀ {xs ys : List RV} {i : Nat}, outAt ρ' i xs = some ys → ys.length = xs.length ∧ ∀ j x y, xs[j]? = some x → ys[j]? = some y → (ownd x = false ∧ y = x) ∨ (ownd x = true ∧ ρ'[i + j]? = some (some y) ∧ ownd y = true ∧ sat y = sat x)
  | [], ys, i, h => by cases h; exact ⟨rfl, fun j x y e => by simp at e⟩
  | x :: xs, ys, i, h => by
    unfold outAt at h
    obtain ⟨y, h1, h⟩ := obi h
    obtain ⟨zs, h2, h⟩ := omi h
    subst h
    obtain ⟨l, q⟩ := outAt_of h2
    refine ⟨by simp [l], fun j x' y' e1 e2 => ?_⟩
    cases j with
    | zero =>
      simp at e1 e2
      subst e1 e2
      cases o : ownd x with
      | false => rw [o] at h1; cases h1; exact .inl ⟨rfl, rfl⟩
      | true =>
        rw [o] at h1
        cases z : ρ'[i]? with
        | none => rw [z] at h1; cases h1
        | some w =>
          rw [z] at h1
          cases w with
          | none => cases h1
          | some w =>
            simp only at h1
            split at h1
            · next ow => cases h1; exact .inr ⟨rfl, rfl, ow.1, ow.2⟩
            · cases h1
    | succ j =>
      have r := q j x' y' (by simpa using e1) (by simpa using e2)
      rw [show i + 1 + j = i + (j + 1) by omega] at r
      exact r
theorem own_foot {G H : Hp} {v : V} {r : RV} {S : List Addr} (h : RepV K G H v r S) (o : ownd r = true) : ∃ a, v = .ref a ∧ S = a :: (sat r).toList := by
  cases r with
  | p d => cases o
  | L ds => obtain ⟨a, vs, e, s, _⟩ := h; exact ⟨a, e, s⟩
  | K ds => obtain ⟨a, vs, e, s, _⟩ := h; exact ⟨a, e, s⟩
  | S ds c ms => obtain ⟨a, vs, ws, e, s, _⟩ := h; exact ⟨a, e, s⟩
theorem pure_foot {G H : Hp} {v : V} {r : RV} {S : List Addr} (h : RepV K G H v r S) (o : ownd r = false) : S = [] := by
  cases r with
  | p d => exact h.1
  | L ds => cases o
  | K ds => cases o
  | S ds c ms => cases o
theorem body_run {P : Nat} {N : List Str} {m : FS} {vs : List V} {H : Hp} {Q : VK} {xs : List RV} {Ss : List (List Addr)} {G : Hp} {r : RV} {ys : List RV} (hN : vs.length ≤ N.length) (hP : P = vs.length) (hf : runBody N.length m xs = some (r, ys)) (l : Le G H) (ha : ArgsR K G H vs xs Ss)
    (k : ∀ v G' H' S, Le G G' → (∀ b o, G' b = some o → G b = some o ∨ H b = none ∨ ∃ T ∈ Ss, b ∈ T) → Le G' H' → (∀ b o, H b = some o → (∀ T ∈ Ss, b ∉ T) → H' b = some o) → ArgsR K G' H' vs ys Ss →
      RepV K G' H' v r S → (∀ T ∈ Ss, ∀ a ∈ S, a ∉ T) → (∀ a ∈ S, H a = none ∨ ∃ T ∈ Ss, a ∈ T) → Q v H') :
    ∃ ρ fl ρ', m ρ = some (fl, ρ') ∧ tDS K P ρ fl ρ' { nx := fun _ H' => Q .non H', rt := Q } (start N vs) H := by
  unfold runBody at hf
  obtain ⟨⟨fl, ρ'⟩, hm, hf⟩ := obi hf
  obtain ⟨lx, lS⟩ := ha.len
  refine ⟨_, fl, ρ', hm, G, fun i => Ss.getD i [], ⟨l, ?_, fun i x e => ?_, fun i e => ?_, fun i j a h1 h2 => ?_⟩, ?_⟩
  · unfold start
    rw [List.length_append, List.length_append, List.length_map, List.length_map, List.length_replicate, List.length_replicate, lx]
  · have hi : i < xs.length := by
      by_cases z : i < xs.length
      · exact z
      · rw [List.getElem?_append_right (by simpa using z), List.getElem?_replicate] at e
        split at e <;> cases e
    rw [List.getElem?_append_left (by simpa using hi), List.getElem?_map] at e
    have e' : xs[i]? = some x := by
      cases q : xs[i]? with
      | none => rw [q] at e; cases e
      | some z => rw [q] at e; cases e; rfl
    obtain ⟨v, S, h1, h2, h3⟩ := ha.get e'
    refine ⟨v, ?_, ?_⟩
    · unfold start
      rw [List.getElem?_append_left (by rw [List.length_map, lx]; exact hi), List.getElem?_map, h1]
      rfl
    · rw [List.getD_eq_getElem?_getD, h2]
      exact h3
  · have hi : ¬ i < xs.length := fun z => by
      refine e xs[i] ?_
      rw [List.getElem?_append_left (by simpa using z), List.getElem?_map, List.getElem?_eq_getElem z]
      rfl
    show Ss.getD i [] = []
    rw [List.getD_eq_getElem?_getD, List.getElem?_eq_none_iff.mpr (by omega)]
    rfl
  · have z1 : ∃ S, Ss[i]? = some S ∧ a ∈ S := by
      have h1 : a ∈ Ss.getD i [] := h1
      rw [List.getD_eq_getElem?_getD] at h1
      cases q : Ss[i]? with
      | none => rw [q] at h1; simp at h1
      | some S => rw [q] at h1; exact ⟨S, rfl, h1⟩
    have z2 : ∃ S, Ss[j]? = some S ∧ a ∈ S := by
      have h2 : a ∈ Ss.getD j [] := h2
      rw [List.getD_eq_getElem?_getD] at h2
      cases q : Ss[j]? with
      | none => rw [q] at h2; simp at h2
      | some S => rw [q] at h2; exact ⟨S, rfl, h2⟩
    obtain ⟨S, e1, m1⟩ := z1
    obtain ⟨T, e2, m2⟩ := z2
    exact ha.disj e1 e2 m1 m2
  · -- what is in the frame's footprint is an argument's
    have inS : ∀ {i : Nat} {b : Addr}, b ∈ Ss.getD i [] → ∃ T ∈ Ss, b ∈ T := fun {i b} h => by
      rw [List.getD_eq_getElem?_getD] at h
      cases q : Ss[i]? with
      | none => rw [q] at h; simp at h
      | some S => rw [q] at h; exact ⟨S, List.mem_of_getElem? q, h⟩
    have ofS : ∀ {T : List Addr} {b : Addr}, T ∈ Ss → b ∈ T → ∃ i, b ∈ Ss.getD i [] := fun {T b} h hb => by
      obtain ⟨i, hi⟩ := List.mem_iff_getElem?.mp h
      exact ⟨i, by rw [List.getD_eq_getElem?_getD, hi]; exact hb⟩
    have fin : ∀ (hy : outAt ρ' 0 xs = some ys) (v : V) (σ' : St) (G' H' : Hp) (A' : Ft) (S : List Addr), Evo G H (fun i => Ss.getD i []) G' H' A' → Rep K G' H' σ' ρ' A' → PinR P (xs.map some ++ List.replicate (N.length - xs.length) none) (start N vs) ρ' σ' →
        RepV K G' H' v r S → (∀ i, ∀ a ∈ S, a ∉ A' i) → (∀ a ∈ S, H a = none ∨ ∃ i, a ∈ Ss.getD i []) → Q v H' := by
      intro hy v σ' G' H' A' S ev R' pin hr ap fr
      obtain ⟨ly, oy⟩ := outAt_of hy
      have slotOf : ∀ {i : Nat} {x : RV} {w : V} {T : List Addr} {y : RV}, xs[i]? = some x → vs[i]? = some w → Ss[i]? = some T → ys[i]? = some y → ownd x = true → RepV K G' H' w y T ∧ A' i = T := by
        intro i x w T y e1 e2 e3 e4 o
        have hi : i < xs.length := (List.getElem?_eq_some_iff.mp e1).1
        have es : (start N vs)[i]? = some (some w) := by
          unfold start
          rw [List.getElem?_append_left (by rw [List.length_map, lx]; exact hi), List.getElem?_map, e2]
          rfl
        have er : (xs.map some ++ List.replicate (N.length - xs.length) none)[i]? = some (some x) := by
          rw [List.getElem?_append_left (by simpa using hi), List.getElem?_map, e1]
          rfl
        obtain ⟨p1, _⟩ := pin.par i (by omega) ⟨x, er, o⟩
        have q : ρ'[0 + i]? = some (some y) := by
          rcases oy i x y e1 e4 with ⟨z, _⟩ | ⟨_, z, _⟩
          · rw [o] at z; cases z
          · exact z
        rw [Nat.zero_add] at q
        obtain ⟨u, hu, hru⟩ := R'.slot i y q
        rw [p1, es] at hu
        cases hu
        obtain ⟨w', T', g1, g2, g3⟩ := ha.get e1
        rw [e2] at g1; cases g1
        rw [e3] at g2; cases g2
        obtain ⟨a, ea, eT⟩ := own_foot g3 o
        have oy' : ownd y = true := by
          obtain ⟨_, z1, z2, z3⟩ := pin.par i (by omega) ⟨x, er, o⟩
          rw [q] at z2; cases z2; exact z3
        obtain ⟨b, eb, eA⟩ := own_foot hru oy'
        rw [ea] at eb
        cases eb
        have hsat : sat y = sat x := by
          rcases oy i x y e1 e4 with ⟨z, _⟩ | ⟨_, _, _, z⟩
          · rw [o] at z; cases z
          · exact z
        have e : A' i = T := by rw [eA, eT, hsat]
        rw [e] at hru
        exact ⟨hru, e⟩
      refine k v G' H' S ev.le (fun b o h => ?_) R'.imm (fun b o h n => ev.keep b o h fun i hi => ?_) (ArgsR.mk (by rw [lx, ly]) (by rw [lS, ly]) (fun i y w T e1 e2 e3 => ?_) fun i j S T a e1 e2 m1 m2 => ha.disj e1 e2 m1 m2) hr (fun T hT a m1 m2 => ?_) fun a m => ?_
      · rcases ev.new b o h with z | z | ⟨i, z⟩
        · exact .inl z
        · exact .inr (.inl z)
        · exact .inr (.inr (inS z))
      · obtain ⟨T, hT, hb⟩ := inS hi
        exact n T hT hb
      · have hi : i < xs.length := by rw [← ly]; exact (List.getElem?_eq_some_iff.mp e1).1
        have ex : xs[i]? = some xs[i] := List.getElem?_eq_getElem hi
        cases o : ownd xs[i] with
        | true => exact (slotOf ex e2 e3 e1 o).1
        | false =>
          obtain ⟨w', T', g1, g2, g3⟩ := ha.get ex
          rw [e2] at g1; cases g1
          rw [e3] at g2; cases g2
          have ey : y = xs[i] := by
            rcases oy i _ y ex e1 with ⟨_, z⟩ | ⟨z, _, _⟩
            · exact z
            · rw [o] at z; cases z
          rw [ey]
          have e0 := pure_foot g3 o
          subst e0
          exact g3.stay ev.le (by simp) (by simp)
      · obtain ⟨i, hi⟩ := List.mem_iff_getElem?.mp hT
        have hl : i < xs.length := by rw [← lS]; exact (List.getElem?_eq_some_iff.mp hi).1
        have ex : xs[i]? = some xs[i] := List.getElem?_eq_getElem hl
        have ev' : vs[i]? = some (vs[i]'(by omega)) := List.getElem?_eq_getElem (by omega)
        have ey' : ys[i]? = some (ys[i]'(by omega)) := List.getElem?_eq_getElem (by omega)
        cases o : ownd xs[i] with
        | true =>
          have q := (slotOf ex ev' hi ey' o).2
          exact ap i a m1 (by rw [q]; exact m2)
        | false =>
          obtain ⟨w', T', g1, g2, g3⟩ := ha.get ex
          rw [hi] at g2; cases g2
          rw [pure_foot g3 o] at m2
          simp at m2
      · rcases fr a m with z | ⟨i, z⟩
        · exact .inl z
        · exact .inr (inS z)
    cases fl with
    | nx =>
      obtain ⟨ys', h1, h2⟩ := omi hf
      cases h2
      exact fun σ' G' H' A' ev R' p => fin h1 .non σ' G' H' A' [] ev R' p.toR ⟨rfl, .non⟩ (by simp) (by simp)
    | rt r' =>
      obtain ⟨ys', h1, h2⟩ := omi hf
      cases h2
      exact fun v σ' G' H' A' S ev R' p hr ap fr => fin h1 v σ' G' H' A' S ev R' p hr ap fr
    | bk => cases hf
    | ct => cases hf
theorem fn_data {Pg : Program} {w : World} {K : PySem.W.Frag} {mg : Str → Option Value} {base : Heap} {x qual : Str} {st : Stmt} {f : Addr} {fd : FuncData} {N ps : List Str} {k : Nat} {m : FS} (F : Fun K x qual st f fd) (S : FnScope N ps (defScope st))
    (hbody : ∀ (cdv : Value) (A : Around) (outer : List Env) (s : Shared) (H : Hp) (E : XK), Room k (A.deeper (envOfC qual (defScope st) s.heap.objs.size f cdv)) → DSs ps.length (cxOf CX0 Pg w K mg base N qual (defScope st) f cdv A outer s H E).nox (defBody st) m) :
    FnOk Pg w K mg base CX0 (k + 1) f fd ps (fun vs H Q E => vs.length = ps.length ∧ spD K (runBody N.length m) vs H Q E) := by
  refine F.ok S (fun vs H Q E h => h.1) (fun cdv A outer s H vs Q E hr h => ?_)
  obtain ⟨hl, G, xs, Ss, r, ys, hf, l, ha, kk⟩ := h
  have hN : vs.length ≤ N.length := by
    have := congrArg List.length S.pre
    rw [List.length_take] at this
    omega
  obtain ⟨ρ, fl, ρ', hm, q⟩ := body_run hN hl.symm hf l ha kk
  exact ⟨_, hbody cdv A outer s H E hr ρ fl ρ' hm, q⟩
end L2.CF
namespace L2.CF
open PySem PySem.Spec PyProof.Rows
variable {K : PySem.W.Frag}
class KpF (F : FF) : Prop where kp : ∀ xs r ys, F xs = some (r, ys) → ys.length = xs.length ∧ ∀ (i : Nat) x y, xs[i]? = some x → ys[i]? = some y → ownd y = ownd x
instance {n : Nat} {f : FS} : KpF (runBody n f) := ⟨fun xs r ys h => by
  unfold runBody at h
  obtain ⟨⟨fl, ρ'⟩, hm, hf⟩ := obi h
  have key : ∀ zs, outAt ρ' 0 xs = some zs → zs.length = xs.length ∧ ∀ (i : Nat) x y, xs[i]? = some x → zs[i]? = some y → ownd y = ownd x := fun zs hz => by
    obtain ⟨l, q⟩ := outAt_of hz
    refine ⟨l, fun i x y e1 e2 => ?_⟩
    rcases q i x y e1 e2 with ⟨_, z⟩ | ⟨z1, _, z2, _⟩
    · rw [z]
    · rw [z1, z2]
  cases fl with
  | nx => obtain ⟨zs, h1, h2⟩ := omi hf; cases h2; exact key _ h1
  | rt r' => obtain ⟨zs, h1, h2⟩ := omi hf; cases h2; exact key _ h1
  | bk => cases hf
  | ct => cases hf⟩
abbrev FnD (Pg : Program) (w : World) (K : PySem.W.Frag) (mg : Str → Option Value) (base : Heap) (k : Nat) (f : Addr) (fd : FuncData) (ps : List Str) (F : FF) : Prop := FnOk Pg w K mg base CX0 k f fd ps (fun vs H Q E => vs.length = ps.length ∧ spD K F vs H Q E)
def ats : List RR → List Nat
  | [] => []
  | .at i :: rs => i :: ats rs
  | .own _ :: rs => ats rs
def putBack (ρ : DS) : List RR → List RV → DS
  | .at i :: rs, y :: ys => putBack (ρ.set i (some y)) rs ys
  | .own _ :: rs, _ :: ys => putBack ρ rs ys
  | _, _ => ρ
def footL (A : Ft) : List RR → List (List Addr) → List (List Addr)
  | .at i :: rs, _ :: Ss => A i :: footL A rs Ss
  | .own _ :: rs, S :: Ss => S :: footL A rs Ss
  | _, _ => []
theorem mem_ats {i : Nat} : ∀ {rs : List RR}, i ∈ ats rs ↔ RR.at i ∈ rs
  | [] => by simp [ats]
  | .at j :: rs => by simp [ats, mem_ats]
  | .own _ :: rs => by simp [ats, mem_ats]
theorem putBack_len : ∀ {rs : List RR} {ys : List RV} {ρ : DS}, (putBack ρ rs ys).length = ρ.length
  | .at i :: rs, y :: ys, ρ => by show (putBack (ρ.set i (some y)) rs ys).length = _; rw [putBack_len, List.length_set]
  | .own _ :: rs, _ :: ys, ρ => by show (putBack ρ rs ys).length = _; rw [putBack_len]
  | [], _, _ => by simp [putBack]
  | .at _ :: _, [], _ => rfl
  | .own _ :: _, [], _ => rfl
theorem putBack_ne {j : Nat} : ∀ {rs : List RR} {ys : List RV} {ρ : DS}, j ∉ ats rs → (putBack ρ rs ys)[j]? = ρ[j]?
  | .at i :: rs, y :: ys, ρ, h => by
    simp [ats] at h
    show (putBack (ρ.set i (some y)) rs ys)[j]? = _
    rw [putBack_ne h.2, List.getElem?_set_ne (by omega)]
  | .own _ :: rs, _ :: ys, ρ, h => by show (putBack ρ rs ys)[j]? = _; exact putBack_ne h
  | [], _, _, _ => by simp [putBack]
  | .at _ :: _, [], _, _ => rfl
  | .own _ :: _, [], _, _ => rfl
theorem putBack_eq {j : Nat} {y : RV} : ∀ {rs : List RR} {ys : List RV} {ρ : DS} {k : Nat}, (ats rs).Nodup → j < ρ.length → rs[k]? = some (.at j) → ys[k]? = some y → (putBack ρ rs ys)[j]? = some (some y)
  | .at i :: rs, z :: ys, ρ, 0, nd, hl, e1, e2 => by
    simp at e1 e2
    subst e1 e2
    show (putBack (ρ.set i (some z)) rs ys)[i]? = _
    rw [putBack_ne (List.nodup_cons.mp nd).1, List.getElem?_set_self hl]
  | .at i :: rs, z :: ys, ρ, k + 1, nd, hl, e1, e2 => by
    show (putBack (ρ.set i (some z)) rs ys)[j]? = _
    exact putBack_eq (k := k) (List.nodup_cons.mp nd).2 (by rw [List.length_set]; exact hl) (by simpa using e1) (by simpa using e2)
  | .own _ :: rs, z :: ys, ρ, 0, nd, hl, e1, e2 => by simp at e1
  | .own _ :: rs, z :: ys, ρ, k + 1, nd, hl, e1, e2 => by
    show (putBack ρ rs ys)[j]? = _
    exact putBack_eq (k := k) nd hl (by simpa using e1) (by simpa using e2)
  | [], _, _, _, _, _, e1, _ => by simp at e1
  | .at _ :: _, [], _, _, _, _, _, e2 => by simp at e2
  | .own _ :: _, [], _, _, _, _, _, e2 => by simp at e2
theorem footL_mem {G H : Hp} {σ : St} {A : Ft} : ∀ {vs : List V} {rs : List RR} {Ss : List (List Addr)} {T : List Addr}, ResL K G H σ A vs rs Ss → T ∈ footL A rs Ss → (∃ j, j ∈ ats rs ∧ T = A j) ∨ (T ∈ Ss ∧ ∀ i, ∀ a ∈ T, a ∉ A i)
  | v :: vs, .at i :: rs, S :: Ss, T, ⟨h, _, hs⟩, m => by
    rcases List.mem_cons.mp (show T ∈ A i :: footL A rs Ss from m) with rfl | m
    · exact .inl ⟨i, by simp [ats], rfl⟩
    · rcases footL_mem hs m with ⟨j, h1, h2⟩ | ⟨h1, h2⟩
      · exact .inl ⟨j, by simp [ats, h1], h2⟩
      · exact .inr ⟨List.mem_cons_of_mem _ h1, h2⟩
  | v :: vs, .own r :: rs, S :: Ss, T, ⟨h, _, hs⟩, m => by
    rcases List.mem_cons.mp (show T ∈ S :: footL A rs Ss from m) with rfl | m
    · exact .inr ⟨List.mem_cons_self, h.2⟩
    · rcases footL_mem hs m with ⟨j, h1, h2⟩ | ⟨h1, h2⟩
      · exact .inl ⟨j, h1, h2⟩
      · exact .inr ⟨List.mem_cons_of_mem _ h1, h2⟩
  | [], [], [], T, _, m => by simp [footL] at m
  | [], [], _ :: _, _, h, _ => h.elim
  | [], _ :: _, _, _, h, _ => h.elim
  | _ :: _, [], _, _, h, _ => h.elim
  | _ :: _, _ :: _, [], _, h, _ => h.elim
theorem footL_at {G H : Hp} {σ : St} {A : Ft} {j : Nat} : ∀ {vs : List V} {rs : List RR} {Ss : List (List Addr)}, ResL K G H σ A vs rs Ss → j ∈ ats rs → ∃ (k : Nat) (v : V), rs[k]? = some (RR.at j) ∧ vs[k]? = some v ∧ σ[j]? = some (some v) ∧ (footL A rs Ss)[k]? = some (A j)
  | v :: vs, .at i :: rs, S :: Ss, ⟨h, _, hs⟩, m => by
    rcases List.mem_cons.mp (show j ∈ i :: ats rs from m) with rfl | m
    · exact ⟨0, v, rfl, rfl, h.2, rfl⟩
    · obtain ⟨k, w, h1, h2, h3, h4⟩ := footL_at hs m
      exact ⟨k + 1, w, by simpa using h1, by simpa using h2, h3, by simpa [footL] using h4⟩
  | v :: vs, .own r :: rs, S :: Ss, ⟨h, _, hs⟩, m => by
    obtain ⟨k, w, h1, h2, h3, h4⟩ := footL_at hs m
    exact ⟨k + 1, w, by simpa using h1, by simpa using h2, h3, by simpa [footL] using h4⟩
  | [], [], [], _, m => by simp [ats] at m
  | [], [], _ :: _, h, _ => h.elim
  | [], _ :: _, _, h, _ => h.elim
  | _ :: _, [], _, h, _ => h.elim
  | _ :: _, _ :: _, [], h, _ => h.elim
theorem argsR_of {G H : Hp} {σ : St} {ρ : DS} {A : Ft} (R : Rep K G H σ ρ A) : ∀ {vs : List V} {rs : List RR} {Ss : List (List Addr)} {xs : List RV}, ResL K G H σ A vs rs Ss → (ats rs).Nodup → resL ρ rs = some xs → ArgsR K G H vs xs (footL A rs Ss)
  | [], [], [], xs, _, _, h1 => by cases h1; trivial
  | v :: vs, r :: rs, S :: Ss, xs, ⟨q, ds, qs⟩, nd, h1 => by
    unfold resL at h1
    obtain ⟨x, e1, h1⟩ := obi h1
    obtain ⟨ys, e2, h1⟩ := omi h1
    subst h1
    cases r with
    | own r' =>
      cases e1
      refine ⟨q.1, fun T hT a m1 m2 => ?_, argsR_of R qs nd e2⟩
      rcases footL_mem qs hT with ⟨j, _, rfl⟩ | ⟨h, _⟩
      · exact q.2 j a m1 m2
      · exact ds T h a m1 m2
    | «at» i =>
      have e1' : ρ[i]? = some (some x) := by
        have e1 : ρ[i]?.join = some x := e1
        cases z : ρ[i]? with
        | none => rw [z] at e1; cases e1
        | some o => rw [z] at e1; cases o with
          | none => cases e1
          | some w => cases e1; rfl
      obtain ⟨u, hu, hr⟩ := R.slot i x e1'
      rw [q.2] at hu
      cases hu
      have nd' : i ∉ ats rs ∧ (ats rs).Nodup := List.nodup_cons.mp nd
      refine ⟨hr, fun T hT a m1 m2 => ?_, argsR_of R qs nd'.2 e2⟩
      rcases footL_mem qs hT with ⟨j, hj, rfl⟩ | ⟨_, h⟩
      · have z := R.disj i j a m1 m2
        subst z
        exact nd'.1 hj
      · exact h i a m2 m1
  | [], [], _ :: _, _, h, _, _ => h.elim
  | [], _ :: _, _, _, h, _, _ => h.elim
  | _ :: _, [], _, _, h, _, _ => h.elim
  | _ :: _, _ :: _, [], _, h, _, _ => h.elim
theorem resL_get {ρ : DS} : ∀ {rs : List RR} {xs : List RV} {k : Nat} {j : Nat}, resL ρ rs = some xs → rs[k]? = some (.at j) → ∃ x, xs[k]? = some x ∧ ρ[j]? = some (some x)
  | [], xs, k, j, h, e => by simp at e
  | r :: rs, xs, k, j, h, e => by
    unfold resL at h
    obtain ⟨x, e1, h⟩ := obi h
    obtain ⟨ys, e2, h⟩ := omi h
    subst h
    cases k with
    | zero =>
      simp at e
      subst e
      have e1 : ρ[j]?.join = some x := e1
      refine ⟨x, rfl, ?_⟩
      cases z : ρ[j]? with
      | none => rw [z] at e1; cases e1
      | some o => rw [z] at e1; cases o with
        | none => cases e1
        | some w => cases e1; rfl
    | succ k =>
      obtain ⟨x', h1, h2⟩ := resL_get (k := k) e2 (by simpa using e)
      exact ⟨x', by simpa using h1, h2⟩
def fFn (n : Nat) (F : FF) (fa : FA) : FE := fun ρ => (fa ρ).bind fun p => if (ats p.1).Nodup then (resL p.2 p.1).bind fun xs => if xs.length = n then (F xs).map fun r => (.own r.1, putBack p.2 p.1 r.2) else none else none
theorem fFn_inv {n : Nat} {F : FF} {fa : FA} {ρ ρ' : DS} {rr : RR} (h : fFn n F fa ρ = some (rr, ρ')) : ∃ rs ρ1 xs r ys, fa ρ = some (rs, ρ1) ∧ (ats rs).Nodup ∧ resL ρ1 rs = some xs ∧ xs.length = n ∧ F xs = some (r, ys) ∧ rr = .own r ∧ ρ' = putBack ρ1 rs ys := by
  unfold fFn at h
  obtain ⟨⟨rs, ρ1⟩, h1, h⟩ := obi h
  split at h
  · next nd =>
    obtain ⟨xs, h2, h⟩ := obi h
    split at h
    · next hn =>
      obtain ⟨⟨r, ys⟩, h3, h⟩ := omi h
      cases h
      exact ⟨rs, ρ1, xs, r, ys, h1, nd, h2, hn, h3, rfl, rfl⟩
    · cases h
  · cases h
theorem putBack_kp {P : Nat} {ρ : DS} {rs : List RR} {xs ys : List RV} (nd : (ats rs).Nodup) (h2 : resL ρ rs = some xs) (kp : ys.length = xs.length ∧ ∀ (i : Nat) x y, xs[i]? = some x → ys[i]? = some y → ownd y = ownd x) : Kp P ρ (putBack ρ rs ys) := by
  refine ⟨putBack_len, fun j => ?_⟩
  by_cases hj : j ∈ ats rs
  · obtain ⟨k, hk⟩ := List.mem_iff_getElem?.mp (mem_ats.mp hj)
    obtain ⟨x, e1, e2⟩ := resL_get h2 hk
    have hl : j < ρ.length := (List.getElem?_eq_some_iff.mp e2).1
    have hky : k < ys.length := by rw [kp.1]; exact (List.getElem?_eq_some_iff.mp e1).1
    have ey : ys[k]? = some ys[k] := List.getElem?_eq_getElem hky
    have e3 := putBack_eq nd hl hk ey
    refine ⟨fun r hr => ?_, fun hr => ?_⟩
    · rw [e2] at hr; cases hr
      exact ⟨_, e3, fun _ => kp.2 k x _ e1 ey⟩
    · rw [e2] at hr; cases hr
  · rw [putBack_ne hj]
    exact ⟨fun r hr => ⟨r, hr, fun _ => rfl⟩, fun hr => hr⟩
instance {P n : Nat} {F : FF} {fa : FA} [hF : KpF F] [ha : KpA P fa] : KpE P (fFn n F fa) := ⟨fun ρ rr ρ' h => by
  obtain ⟨rs, ρ1, xs, r, ys, h1, nd, h2, hn, h3, rfl, rfl⟩ := fFn_inv h
  exact (ha.kp _ _ _ h1).trans (putBack_kp nd h2 (hF.kp _ _ _ h3))⟩
section
variable {X : Cx} {k : Nat} {f : Addr} {fd : FuncData} {ps : List Str} {F : FF} {x : Str} {p pos : Pos} {e : Expr} {es : List Expr} {fa : FA}
theorem fn_ent {ρ ρ1 : DS} {rs : List RR} {xs ys : List RV} {r : RV} (nd : (ats rs).Nodup) (h2 : resL ρ1 rs = some xs) (hn : xs.length = ps.length) (h3 : F xs = some (r, ys)) (kp : ys.length = xs.length ∧ ∀ (i : Nat) x y, xs[i]? = some x → ys[i]? = some y → ownd y = ownd x) {σ : St} {H : Hp} {Q : VK}
    (h : tD K ρ (.own r) (putBack ρ1 rs ys) σ H Q) : tCall (fun vs H Q E => vs.length = ps.length ∧ spD K F vs H Q E) [] E0 (tDA K ρ rs ρ1) σ H Q := by
  obtain ⟨G, A, R, k⟩ := h
  refine ⟨G, A, R, fun vs G1 H1 A1 Ss e1 R1 q1 f1 => ?_⟩
  show (vs ++ []).length = ps.length ∧ spD K F (vs ++ []) H1 Q E0
  rw [List.append_nil]
  have ha := argsR_of R1 q1 nd h2
  refine ⟨by rw [ha.len.1, hn], G1, xs, footL A1 rs Ss, r, ys, h3, R1.imm, ha, fun v G2 H2 S le new imm keep ha2 hr ap fr => ?_⟩
  have inA : ∀ {T : List Addr} {b : Addr}, T ∈ footL A1 rs Ss → b ∈ T → H b = none ∨ ∃ i, b ∈ A i := fun {T b} hT hb => by
    rcases footL_mem q1 hT with ⟨j, _, rfl⟩ | ⟨h, _⟩
    · exact e1.foot j b hb
    · exact f1 T h b hb
  have ev : Evo G H A G2 H2 A1 := by
    refine ⟨e1.le.trans le, fun b o h => ?_, fun b o h n => keep b o (e1.keep b o h n) fun T hT hb => ?_, e1.foot⟩
    · rcases new b o h with z | z | ⟨T, hT, z⟩
      · exact e1.new b o z
      · exact .inr (e1.back z)
      · exact .inr (inA hT z)
    · rcases inA hT hb with z | ⟨i, z⟩
      · rw [h] at z; cases z
      · exact n i z
  have out : ∀ {j : Nat}, j ∉ ats rs → ∀ {b : Addr}, b ∈ A1 j → ∀ T ∈ footL A1 rs Ss, b ∉ T := fun {j} hj {b} hb T hT m => by
    rcases footL_mem q1 hT with ⟨i, hi, rfl⟩ | ⟨_, h⟩
    · have z := R1.disj j i b hb m
      subst z
      exact hj hi
    · exact h j b m hb
  have R2 : Rep K G2 H2 σ (putBack ρ1 rs ys) A1 := by
    refine ⟨imm, by rw [putBack_len]; exact R1.len, fun j q hj => ?_, fun j hj => ?_, R1.disj⟩
    · by_cases hm : j ∈ ats rs
      · obtain ⟨kk, w, g1, g2, g3, g4⟩ := footL_at q1 hm
        obtain ⟨x, g5, g6⟩ := resL_get h2 g1
        have hl : j < ρ1.length := (List.getElem?_eq_some_iff.mp g6).1
        have hky : kk < ys.length := by rw [kp.1]; exact (List.getElem?_eq_some_iff.mp g5).1
        have ey : ys[kk]? = some ys[kk] := List.getElem?_eq_getElem hky
        rw [putBack_eq nd hl g1 ey] at hj
        cases hj
        obtain ⟨w', T, g7, g8, g9⟩ := ha2.get ey
        rw [g2] at g7; cases g7
        rw [g4] at g8; cases g8
        exact ⟨w, g3, g9⟩
      · rw [putBack_ne hm] at hj
        obtain ⟨w, g1, g2⟩ := R1.slot j q hj
        refine ⟨w, g1, g2.stay le (fun a ha' o qq => keep a o qq (out hm ha')) fun a ha' => ?_⟩
        cases z : G2 a with
        | none => rfl
        | some o =>
          rcases new a o z with y | y | ⟨T, hT, y⟩
          · rw [g2.gfree ha'] at y; cases y
          · obtain ⟨o', y'⟩ := g2.there ha'
            rw [y] at y'; cases y'
          · exact absurd y (out hm ha' T hT)
    · refine R1.emp j fun q hq => ?_
      by_cases hm : j ∈ ats rs
      · obtain ⟨kk, w, g1, g2, g3, g4⟩ := footL_at q1 hm
        obtain ⟨x, g5, g6⟩ := resL_get h2 g1
        have hl : j < ρ1.length := (List.getElem?_eq_some_iff.mp g6).1
        have hky : kk < ys.length := by rw [kp.1]; exact (List.getElem?_eq_some_iff.mp g5).1
        exact hj _ (putBack_eq nd hl g1 (List.getElem?_eq_getElem hky))
      · exact hj q (by rw [putBack_ne hm]; exact hq)
  refine k v G2 H2 A1 S ev R2 ⟨hr, fun j a ha' m => ?_⟩ fun a ha' => ?_
  · by_cases hm : j ∈ ats rs
    · obtain ⟨kk, w, g1, g2, g3, g4⟩ := footL_at q1 hm
      exact ap (A1 j) (List.mem_of_getElem? g4) a ha' m
    · rcases fr a ha' with z | ⟨T, hT, z⟩
      · obtain ⟨o, z'⟩ := R1.there m
        rw [z] at z'; cases z'
      · exact out hm m T hT z
  · rcases fr a ha' with z | ⟨T, hT, z⟩
    · exact e1.back z
    · exact inA hT z
theorem de_call {n : Nat} (Fn : FnD X.prog X.w X.K X.mg X.base k f fd ps F) (hr : Room k X.A) (hm : X.mg x = some (.ref f)) (hk : PySem.W.keepIn X.K (.ref f) = true) (hb : Binds X.K fd ps []) (ha : DA X (e :: es) fa) [hF : KpF F] (hg : Gl X x := by rfl) (hn : n = ps.length := by rfl) (hdb : (x == ("__debug__" : Str)) = false := by decide)
    (he : starEach (e :: es) X.env = (false, eval e X.env) :: starEach es X.env := by rfl) (hpl : (backTo pos (starEach es X.env)).any (·.1) = false := by rfl) : DE X (.Call (.Name x p) (e :: es) [] pos) (fFn n F fa) := by
  subst hn
  intro ρ rr ρ' hf
  obtain ⟨rs, ρ1, xs, r, ys, h1, nd, h2, hn, h3, rfl, rfl⟩ := fFn_inv hf
  exact PE.imp (pe_call Fn hr hg hm hk hb .nil pass0 (ha _ _ _ h1) hdb he hpl) fun σ H Q h => fn_ent nd h2 hn h3 (hF.kp _ _ _ h3) h
end
end L2.CF
namespace L2.CF
open PySem PySem.Spec PyProof.Rows
variable {K : PySem.W.Frag}
mutual
def toPy : D → PyData
  | .non => .none
  | .bl b => .bool b
  | .int i => .int i
  | .str x => .str x
  | .tup l => .tuple (toPys l)
  | .lst l => .list (toPys l)
  | .dct _ => .dict []
  | .exc _ => .dict []
  | .ptr _ => .dict []
  | .any => .dict []
  | .obj _ _ _ => .dict []
def toPys : List D → List PyData
  | [] => []
  | d :: ds => toPy d :: toPys ds
end
def okD (d : D) : Bool := (toPy d).canLay0 && decide ((toPy d).depth ≤ 60)
def eqD (d e : D) : Bool := PyData.eqv (toPy d) (toPy e)
def toD : RV → Option D
  | .p d => some d
  | .L l => some (.lst l)
  | .K _ => none
  | .S _ _ _ => none
mutual
theorem reads_of {X : Cx} {pins : List (Addr × Obj)} {σ : St} {G H : Hp} {s : Shared} (I : Inv X pins σ H s) (l : Le G H) : ∀ {v : V} {d : D} {u : Value}, Pu X.K G v d → (toPy d).canLay0 = true → RelV v u → ∃ as, Reads s.heap u (toPy d) as
  | _, _, _, .non, _, r => by cases r; exact ⟨_, .none⟩
  | _, _, _, .bl, _, r => by cases r; exact ⟨_, .bool _⟩
  | _, _, _, .int, _, r => by obtain ⟨t, rfl⟩ := r; exact ⟨_, .int _ _⟩
  | _, _, _, .str, _, r => by obtain ⟨t, rfl⟩ := r; exact ⟨_, .str _ _⟩
  | _, _, _, .tup sq z, c, r => by
    cases r
    obtain ⟨its, rv, p, _⟩ := I.tuple (sqT_mono l sq)
    obtain ⟨as, h⟩ := readss_of I l z (by simpa [toPy, PyData.canLay0] using c) rv
    obtain ⟨o, h1, h2, n, h3⟩ := p
    exact ⟨_, .tuple h1 h2 h3 (by simpa using h)⟩
  | _, _, _, .lst sq z, c, r => by
    cases r
    obtain ⟨its, rv, p, _⟩ := I.list (sqL_mono l sq)
    obtain ⟨as, h⟩ := readss_of I l z (by simpa [toPy, PyData.canLay0] using c) rv
    obtain ⟨o, h1, h2, n, h3⟩ := p.isList
    exact ⟨_, .list h1 h2 h3 (by simpa using h)⟩
  | _, _, _, .dct _ _, c, _ => by simp [toPy, PyData.canLay0] at c
  | _, _, _, .exc _ _, c, _ => by simp [toPy, PyData.canLay0] at c
  | _, _, _, .ptr, c, _ => by simp [toPy, PyData.canLay0] at c
  | _, _, _, .any, c, _ => by simp [toPy, PyData.canLay0] at c
  | _, _, _, .obj _ _ _ _, c, _ => by simp [toPy, PyData.canLay0] at c
theorem readss_of {X : Cx} {pins : List (Addr × Obj)} {σ : St} {G H : Hp} {s : Shared} (I : Inv X pins σ H s) (l : Le G H) : ∀ {vs : List V} {ds : List D} {us : List Value}, Pus X.K G vs ds → PyData.canLayAll0 (toPys ds) = true → Vals vs us → ∃ as, ReadsAll s.heap us (toPys ds) as
  | _, _, _, .nil, _, .nil => ⟨_, .nil⟩
  | _, _, _, .cons h1 h2, c, .cons r1 r2 => by
    simp only [toPys, PyData.canLayAll0, Bool.and_eq_true] at c
    obtain ⟨as, q1⟩ := reads_of I l h1 c.1 r1
    obtain ⟨bs, q2⟩ := readss_of I l h2 c.2 r2
    exact ⟨_, .cons q1 q2⟩
end
section
variable {X : Cx}
theorem reads_rv {pins : List (Addr × Obj)} {σ : St} {G H : Hp} {s : Shared} (I : Inv X pins σ H s) (l : Le G H) {v : V} {r : RV} {S : List Addr} {d : D} {u : Value} (h : RepV X.K G H v r S) (e : toD r = some d) (c : (toPy d).canLay0 = true) (rl : RelV v u) : ∃ as, Reads s.heap u (toPy d) as := by
  cases r with
  | p d' => cases e; exact reads_of I l h.2 c rl
  | L ds =>
    cases e
    obtain ⟨a, vs, rfl, _, h1, _, z⟩ := h
    cases rl
    obtain ⟨its, rv, p, _⟩ := I.list (SqL.of h1)
    obtain ⟨as, q⟩ := readss_of I l z (by simpa [toPy, PyData.canLay0] using c) rv
    obtain ⟨o, h1, h2, n, h3⟩ := p.isList
    exact ⟨_, .list h1 h2 h3 (by simpa using q)⟩
  | K ds => cases e
  | S ds b ms => cases e
def gEqN (neg : Bool) : G2 := fun x y => (toD x).bind fun d => (toD y).bind fun e => if okD d && okD e then some (.p (.bl (neg ^^ eqD d e))) else none
theorem gEqN_inv {neg : Bool} {x y r : RV} (h : gEqN neg x y = some r) : ∃ d e, toD x = some d ∧ toD y = some e ∧ okD d = true ∧ okD e = true ∧ r = .p (.bl (neg ^^ eqD d e)) := by
  unfold gEqN at h
  obtain ⟨d, h1, h⟩ := obi h
  obtain ⟨e, h2, h⟩ := obi h
  split at h
  · next c =>
    rw [Bool.and_eq_true] at c
    cases h
    exact ⟨d, e, h1, h2, c.1, c.2, rfl⟩
  · cases h
theorem okD_lay {d : D} (h : okD d = true) : (toPy d).canLay0 = true ∧ (toPy d).depth ≤ 60 := by
  unfold okD at h
  rw [Bool.and_eq_true] at h
  exact ⟨h.1, of_decide_eq_true h.2⟩
abbrev gEq : G2 := gEqN false
abbrev gNe : G2 := gEqN true
theorem gEqN_bl {neg : Bool} : ∀ x y r, gEqN neg x y = some r → ∃ k, r = .p (.bl k) := fun x y r h => by
  obtain ⟨_, _, _, _, _, _, rfl⟩ := gEqN_inv h
  exact ⟨_, rfl⟩
theorem o_eq (hu : X.A.units + 64 < cLine) : OpD X (compareOp .Eq) gEq := by
  intro x y r e pins s σ H vx vy ux uy Q I rx ry ⟨G, Sx, Sy, l, hx, hy, q⟩
  obtain ⟨d, e2, h1, h2, h3, h4, rfl⟩ := gEqN_inv e
  obtain ⟨as, qa⟩ := reads_rv I l hx h1 (okD_lay h3).1 rx
  obtain ⟨bs, qb⟩ := reads_rv I l hy h2 (okD_lay h4).1 ry
  have h5 := (okD_lay h3).2
  refine SeqAt.compareEq_reads qa qb (okD_lay h3).1 (okD_lay h4).1 (by omega) ⟨.bl _, H, I, rfl, ?_⟩
  have z := q (.bl (eqD d e2)) G H [] (Al.refl l) ⟨rfl, by simp only [Bool.false_xor]; exact .bl⟩ (by simp)
  exact z
theorem o_ne (hu : X.A.units + 64 < cLine) : OpD X (compareOp .NotEq) gNe := by
  intro x y r e pins s σ H vx vy ux uy Q I rx ry ⟨G, Sx, Sy, l, hx, hy, q⟩
  obtain ⟨d, e2, h1, h2, h3, h4, rfl⟩ := gEqN_inv e
  obtain ⟨as, qa⟩ := reads_rv I l hx h1 (okD_lay h3).1 rx
  obtain ⟨bs, qb⟩ := reads_rv I l hy h2 (okD_lay h4).1 ry
  have h5 := (okD_lay h3).2
  refine SeqAt.compareNe_reads qa qb (okD_lay h3).1 (okD_lay h4).1 (by omega) ⟨.bl _, H, I, rfl, ?_⟩
  have z := q (.bl (!eqD d e2)) G H [] (Al.refl l) ⟨rfl, by simp only [Bool.true_xor]; exact .bl⟩ (by simp)
  exact z
end
end L2.CF
namespace L2.CF
open PySem PySem.Spec PyProof.Rows
variable {K : PySem.W.Frag}
section
variable {X : Cx} {a b c e : Expr} {es : List Expr} {pos p : Pos} {fa fb fc fe : FE} {P : Nat}
def f1 (g : RV → Option RV) (f : FE) : FE := fun ρ => (f ρ).bind fun p => (res p.2 p.1).bind fun x => (g x).map fun r => (.own r, p.2)
theorem f1_inv {g : RV → Option RV} {f : FE} {ρ ρ' : DS} {rr : RR} (h : f1 g f ρ = some (rr, ρ')) : ∃ ra x r, f ρ = some (ra, ρ') ∧ res ρ' ra = some x ∧ g x = some r ∧ rr = .own r := by
  unfold f1 at h
  obtain ⟨⟨ra, ρ1⟩, h1, h⟩ := obi h
  obtain ⟨x, h3, h⟩ := obi h
  obtain ⟨r, h5, h⟩ := omi h
  cases h
  exact ⟨ra, x, r, h1, h3, h5, rfl⟩
instance {g : RV → Option RV} [h : KpE P fa] : KpE P (f1 g fa) := ⟨fun ρ rr ρ' hf => by
  obtain ⟨ra, x, r, h1, _⟩ := f1_inv hf
  exact h.kp _ _ _ h1⟩
def gNeg : RV → Option RV
  | .p (.int i) => some (.p (.int (-i)))
  | _ => none
def blOf : RR → Option Bool
  | .own (.p (.bl b)) => some b
  | _ => none
theorem blOf_inv {r : RR} {b : Bool} (h : blOf r = some b) : r = .own (.p (.bl b)) := by
  unfold blOf at h
  split at h
  · cases h; rfl
  · cases h
def fAndV (f g : FE) : FE := fun ρ => (f ρ).bind fun p => (blOf p.1).bind fun b => if b then g p.2 else some (.own (.p (.bl false)), p.2)
instance [h1 : KpE P fa] [h2 : KpE P fb] : KpE P (fAndV fa fb) := ⟨fun ρ rr ρ' hf => by
  unfold fAndV at hf
  obtain ⟨⟨ra, ρ1⟩, e1, hf⟩ := obi hf
  obtain ⟨b, e2, hf⟩ := obi hf
  cases b with
  | true => exact (h1.kp _ _ _ e1).trans (h2.kp _ _ _ hf)
  | false => cases hf; exact h1.kp _ _ _ e1⟩
theorem de_one {op} (h : DE X a fa) : DE X (.BoolOp op [a] pos) fa := fun ρ rr ρ' hf => pe_one (h ρ rr ρ' hf)
theorem pe_false {e : Expr} : PE X e (fun _ _ _ => False) := fun _ _ _ _ _ _ f => f.elim
theorem de_and {rest : List Expr} (ha : DE X a fa) (hb : DE X (.BoolOp .And (b :: rest) pos) fb) : DE X (.BoolOp .And (a :: b :: rest) pos) (fAndV fa fb) := by
  intro ρ rr ρ' hf
  unfold fAndV at hf
  obtain ⟨⟨ra, ρ1⟩, e1, hf⟩ := obi hf
  obtain ⟨bb, e2, hf⟩ := obi hf
  have e3 := blOf_inv e2
  subst e3
  cases bb with
  | true =>
    refine PE.imp (pe_and (ha _ _ _ e1) (hb _ _ _ hf)) fun σ H Q ⟨G, A, R, k⟩ => ⟨G, A, R, fun v G1 H1 A1 S v1 R1 q1 f1 => ?_⟩
    obtain ⟨⟨_, hv⟩, _⟩ := q1
    cases hv
    exact ⟨true, rfl, iteT (tD_trans k v1 R1)⟩
  | false =>
    cases hf
    refine PE.imp (pe_and (ha _ _ _ e1) pe_false) fun σ H Q ⟨G, A, R, k⟩ => ⟨G, A, R, fun v G1 H1 A1 S v1 R1 q1 f1 => ?_⟩
    obtain ⟨⟨_, hv⟩, _⟩ := q1
    cases hv
    exact ⟨false, rfl, iteF (k _ G1 H1 A1 [] v1 R1 ⟨⟨rfl, .bl⟩, by simp⟩ (by simp))⟩
def tAllT (K : PySem.W.Frag) (f : FT) : TT := fun σ H Q => ∃ ρ b ρ', f ρ = some (b, ρ') ∧ tDT K ρ b ρ' σ H Q
theorem DT.all {f : FT} (h : DT X a f) : PT X a (tAllT X.K f) := fun pins s σ H Q I ⟨ρ, b, ρ', e, q⟩ => h ρ b ρ' e pins s σ H Q I q
end
end L2.CF
namespace L2.CF
open PySem PySem.Spec PyProof.Rows
variable {K : PySem.W.Frag}
section
variable {X : Cx} {a b c e : Expr} {es : List Expr} {pos p p2 : Pos} {fa fb fc fe : FE} {P : Nat}
abbrev FO := DS → Option (Option Int × DS)
def tDO (K : PySem.W.Frag) (ρ : DS) (o : Option Int) (ρ' : DS) : TO := fun σ H Q => ∃ G A, Rep K G H σ ρ A ∧ ∀ G' H' A', Evo G H A G' H' A' → Rep K G' H' σ ρ' A' → Q o H'
def DO (X : Cx) (e : Option Expr) (f : FO) : Prop := ∀ ρ o ρ', f ρ = some (o, ρ') → PO X e (tDO X.K ρ o ρ')
theorem PO.imp {e : Option Expr} {t t' : TO} (h : PO X e t) (i : ∀ σ H Q, t' σ H Q → t σ H Q) : PO X e t' := fun pins s σ H Q I q => h pins s σ H Q I (i σ H Q q)
def foN : FO := fun ρ => some (none, ρ)
def foS (f : FE) : FO := fun ρ => (f ρ).bind fun p => match p.1 with
  | .own (.p (.int i)) => some (some i, p.2)
  | _ => none
theorem do_none : DO X none foN := by
  intro ρ o ρ' hf
  cases hf
  exact PO.imp po_none fun σ H Q ⟨G, A, R, k⟩ => k G H A (Evo.refl _ _ _) R
theorem do_some (he : DE X e fe) : DO X (some e) (foS fe) := by
  intro ρ o ρ' hf
  unfold foS at hf
  obtain ⟨⟨ra, ρ1⟩, e1, hf⟩ := obi hf
  match ra, e1, hf with
  | .own (.p (.int i)), e1, hf =>
    cases hf
    exact PO.imp (po_some (he _ _ _ e1)) fun σ H Q ⟨G, A, R, k⟩ => ⟨G, A, R, fun v G1 H1 A1 S v1 R1 q1 f1 => ⟨i, pu_int q1.1, k G1 H1 A1 v1 R1⟩⟩
class KpO (P : Nat) (f : FO) : Prop where kp : ∀ ρ o ρ', f ρ = some (o, ρ') → Kp P ρ ρ'
instance : KpO P foN := ⟨fun ρ o ρ' h => by cases h; exact Kp.refl _⟩
instance [h : KpE P fe] : KpO P (foS fe) := ⟨fun ρ o ρ' hf => by
  unfold foS at hf
  obtain ⟨⟨ra, ρ1⟩, e1, hf⟩ := obi hf
  split at hf
  · cases hf; exact h.kp _ _ _ e1
  · cases hf⟩
def rdSl (K : PySem.W.Frag) (x : RV) (lo hi : Option Int) (r : RV) : V → Option Int → Option Int → Hp → VK → Prop := fun vx lo' hi' H Q => lo' = lo ∧ hi' = hi ∧ ∃ G Sx, Le G H ∧ RepV K G H vx x Sx ∧ ∀ v G' H' S, Al G H G' H' → RepV K G' H' v r S → (∀ a ∈ S, H a = none) → Q v H'
def cutD (xs : List D) (lo hi : Option Int) : List D := (xs.drop (HT.sIx xs.length 0 lo)).take (HT.sIx xs.length xs.length hi - HT.sIx xs.length 0 lo)
def gSl (x : RV) (lo hi : Option Int) : Option RV := match x with
  | .p (.str z) => if z.length ≤ sizeLine then some (.p (.str (Txt.slice z lo hi))) else none
  | .p (.tup l) => if HT.sIx l.length 0 lo = 0 ∧ HT.sIx l.length l.length hi = l.length then some (.p (.tup l)) else some (.p (.tup (cutD l lo hi)))
  | x => (itemsL x).map fun l => .L (cutD l lo hi)
theorem cut_pus {G : Hp} {vs : List V} {ds : List D} (z : Pus K G vs ds) (lo hi : Option Int) : Pus K G (cutV vs lo hi) (cutD ds lo hi) := by
  unfold cutV cutD
  rw [z.length]
  exact (z.drop _).take _
theorem part_of {v : Value} {o : Option Int} (h : IsPart v o) : ∃ q : Option (Int × Tok), v = partValue q ∧ q.map (·.1) = o := by
  cases h with
  | none => exact ⟨none, rfl, rfl⟩
  | int i t => exact ⟨some (i, t), rfl, rfl⟩
theorem sl_str {x : Str} {lo hi : Option Int} (hz : x.length ≤ sizeLine) : SlR X (rdSl X.K (.p (.str x)) lo hi (.p (.str (Txt.slice x lo hi)))) := by
  intro pins s σ H vx v vl vu lo' hi' sl Q I rx hs pl pu ⟨e1, e2, G, Sx, l, hx, q⟩
  subst e1 e2
  cases pu_str hx
  obtain ⟨t, rfl⟩ := rx
  refine ⟨"str", _, PySem.F.slot_str_getitem.lookup, typeIs_str _ _ _, ?_⟩
  obtain ⟨q1, rfl, e1⟩ := part_of pl
  obtain ⟨q2, rfl, e2⟩ := part_of pu
  subst e1 e2
  obtain ⟨o, h1, h2, h3⟩ := hs
  refine wpAny_getItem_str_slice (l := q1) (u := q2) (st := none) ⟨o, h1, h2, h3⟩ rfl (post_val_or_str ⟨Nat.le_trans (Txt.slice_le x _ _) hz, fun t' k => ?_⟩)
  exact ⟨.str _, H, I.tok k, ⟨_, rfl⟩, q _ G H [] (Al.refl l) ⟨rfl, .str⟩ (by simp)⟩
theorem SlR.imp {r r' : V → Option Int → Option Int → Hp → VK → Prop} (h : SlR X r) (i : ∀ x lo hi H Q, r' x lo hi H Q → r x lo hi H Q) : SlR X r' := fun pins s σ H x v vl vu lo hi sl Q I rx hs pl pu q => h pins s σ H x v vl vu lo hi sl Q I rx hs pl pu (i x lo hi H Q q)
theorem s_sl {x : RV} {lo hi : Option Int} {r : RV} (h : gSl x lo hi = some r) (hw : ∀ l, x = .p (.tup l) → ¬ (HT.sIx l.length 0 lo = 0 ∧ HT.sIx l.length l.length hi = l.length)) : SlR X (rdSl X.K x lo hi r) := by
  unfold gSl at h
  split at h
  · next z =>
    split at h
    · next hz => cases h; exact sl_str hz
    · cases h
  · next l =>
    rw [if_neg (hw l rfl)] at h
    cases h
    refine SlR.imp sl_tup fun vx lo' hi' H Q ⟨e1, e2, G, Sx, le, hx, q⟩ => ?_
    subst e1 e2
    obtain ⟨a, vs, rfl, sq, z⟩ := itemsT_of le hx rfl
    refine ⟨a, vs, rfl, sq, by rw [z.length]; exact hw l rfl, fun p hp => ?_⟩
    exact q _ _ _ [] (Al.frozen le hp) (new_T le hp (cut_pus z _ _)) (by simp)
  · obtain ⟨l, h1, h2⟩ := omi h
    cases h2
    refine SlR.imp sl_list fun vx lo' hi' H Q ⟨e1, e2, G, Sx, le, hx, q⟩ => ?_
    subst e1 e2
    obtain ⟨a, vs, rfl, sq, z⟩ := itemsL_of le hx h1
    exact ⟨a, vs, rfl, sq, fun p hp => q _ G _ [p] (Al.own le hp) (new_L le hp (cut_pus z _ _)) (by simpa using hp)⟩
def gSl' (x : RV) (lo hi : Option Int) : Option RV := match x with
  | .p (.tup l) => if HT.sIx l.length 0 lo = 0 ∧ HT.sIx l.length l.length hi = l.length then none else gSl x lo hi
  | x => gSl x lo hi
def fSl (f : FE) (l h : FO) : FE := fun ρ => (f ρ).bind fun p => (l p.2).bind fun q => (h q.2).bind fun t => (res t.2 p.1).bind fun x => (gSl' x q.1 t.1).map fun r => (.own r, t.2)
theorem fSl_inv {f : FE} {l h : FO} {ρ ρ' : DS} {rr : RR} (hf : fSl f l h ρ = some (rr, ρ')) : ∃ ra ρ1 lo ρ2 hi x r, f ρ = some (ra, ρ1) ∧ l ρ1 = some (lo, ρ2) ∧ h ρ2 = some (hi, ρ') ∧ res ρ' ra = some x ∧ gSl' x lo hi = some r ∧ rr = .own r := by
  unfold fSl at hf
  obtain ⟨⟨ra, ρ1⟩, h1, hf⟩ := obi hf
  obtain ⟨⟨lo, ρ2⟩, h2, hf⟩ := obi hf
  obtain ⟨⟨hi, ρ3⟩, h3, hf⟩ := obi hf
  obtain ⟨x, h4, hf⟩ := obi hf
  obtain ⟨r, h5, hf⟩ := omi hf
  cases hf
  exact ⟨ra, ρ1, lo, ρ2, hi, x, r, h1, h2, h3, h4, h5, rfl⟩
instance {l h : FO} [k1 : KpE P fe] [k2 : KpO P l] [k3 : KpO P h] : KpE P (fSl fe l h) := ⟨fun ρ rr ρ' hf => by
  obtain ⟨ra, ρ1, lo, ρ2, hi, x, r, h1, h2, h3, _⟩ := fSl_inv hf
  exact ((k1.kp _ _ _ h1).trans (k2.kp _ _ _ h2)).trans (k3.kp _ _ _ h3)⟩
theorem de_slice {lo hi : Option Expr} {l h : FO} (he : DE X e fe) (hl : DO X lo l) (hh : DO X hi h) : DE X (.Subscript e (.Slice lo hi none p2) pos) (fSl fe l h) := by
  intro ρ rr ρ' hf
  obtain ⟨ra, ρ1, lo', ρ2, hi', x, r, h1, h2, h3, h4, h5, rfl⟩ := fSl_inv hf
  have h6 : gSl x lo' hi' = some r ∧ ∀ l, x = .p (.tup l) → ¬ (HT.sIx l.length 0 lo' = 0 ∧ HT.sIx l.length l.length hi' = l.length) := by
    unfold gSl' at h5
    split at h5
    · next ll =>
      split at h5
      · cases h5
      · next z => exact ⟨h5, fun l e => by cases e; exact z⟩
    · next z => exact ⟨h5, fun l e => absurd e (z l)⟩
  refine PE.imp (pe_slice (s_sl h6.1 h6.2) (he _ _ _ h1) (hl _ _ _ h2) (hh _ _ _ h3)) fun σ H Q ⟨G, A, R, k⟩ => ?_
  refine ⟨G, A, R, fun v G1 H1 A1 S v1 R1 q1 f1 => ⟨G1, A1, R1, fun G2 H2 A2 v2 R2 => ⟨G2, A2, R2, fun G3 H3 A3 v3 R3 => ?_⟩⟩⟩
  obtain ⟨S', hx⟩ := res_of R3 (q1.evo (v2.trans v3)) h4
  refine ⟨rfl, rfl, G3, S', R3.imm, hx, fun w G4 H4 T al hr fr => ?_⟩
  exact k w G4 H4 A3 T (((v1.trans v2).trans v3).trans al.evo) (al.rep R3) ⟨hr, evo_apart (G := G3) (H := H3) (A := A3) R3 fr⟩ fun a ha => ((v1.trans v2).trans v3).back (fr a ha)
end
end L2.CF
namespace L2.CF
open PySem PySem.Spec PyProof.Rows
variable {K : PySem.W.Frag}
section
variable {X : Cx} {P : Nat} {e : Expr} {es : List Expr} {fe : FE} {fa : FA} {pos p tp : Pos} {elts : List Expr} {x1 : Nat}
theorem Rep.frz {G H : Hp} {σ : St} {ρ : DS} {A : Ft} {a : Addr} {vs : List V} (R : Rep K G H σ ρ A) (h : H a = some (.lst vs)) (g : G a = none) (ap : ∀ i, a ∉ A i) : Rep K (upd G a (.lst vs)) H σ ρ A :=
  ⟨fun b o q => by
    by_cases e : b = a
    · subst e; rw [upd_same] at q; cases q; exact h
    · rw [upd_ne e] at q; exact R.imm b o q, R.len, fun i r e => by
    obtain ⟨v, h1, h2⟩ := R.slot i r e
    refine ⟨v, h1, h2.stay (le_upd g) (fun _ _ _ q => q) fun b hb => ?_⟩
    rw [upd_ne (fun e => by subst e; exact ap i hb)]
    exact h2.gfree hb, R.emp, R.disj⟩
theorem ResOf.frz {G H : Hp} {σ : St} {A A' : Ft} {v : V} {rr : RR} {S : List Addr} {a : Addr} {o : HO} (h : ResOf K G H σ A v rr S) (g : G a = none) (na : a ∉ S) (sub : ∀ i b, b ∈ A' i → b ∈ A i) : ResOf K (upd G a o) H σ A' v rr S := by
  cases rr with
  | own r => exact ⟨h.1.stay (le_upd g) (fun _ _ _ q => q) fun b hb => by rw [upd_ne (fun e => by subst e; exact na hb)]; exact h.1.gfree hb, fun i b hb z => h.2 i b hb (sub i b z)⟩
  | «at» i => exact h
theorem ResL.frz {G H : Hp} {σ : St} {A A' : Ft} {a : Addr} {o : HO} (g : G a = none) (sub : ∀ i b, b ∈ A' i → b ∈ A i) : ∀ {vs : List V} {rs : List RR} {Ss : List (List Addr)}, ResL K G H σ A vs rs Ss → (∀ S ∈ Ss, a ∉ S) → ResL K (upd G a o) H σ A' vs rs Ss
  | [], [], [], _, _ => trivial
  | _ :: _, _ :: _, S :: Ss, ⟨h1, h2, h3⟩, n => ⟨h1.frz g (n S (by simp)) sub, h2, h3.frz g sub fun T hT => n T (by simp [hT])⟩
  | [], [], _ :: _, h, _ => h.elim
  | [], _ :: _, _, h, _ => h.elim
  | _ :: _, [], _, h, _ => h.elim
  | _ :: _, _ :: _, [], h, _ => h.elim
end
end L2.CF
namespace L2.CF
open PySem PySem.Spec PyProof.Rows
structure Ce (K : PySem.W.Frag) (mg : Str → Option Value) (x : Str) (st : Stmt) (f : Addr) (fd : FuncData) (ps : List Str) : Prop where
  fn : Fun K x x st f fd
  mg : mg x = some (.ref f)
  bd : Binds K fd ps []
theorem pus_ints {K : PySem.W.Frag} {G : Hp} : ∀ ns : List Int, Pus K G (ns.map V.int) (ns.map D.int)
  | [] => .nil
  | _ :: ns => .cons .int (pus_ints ns)
theorem walkD {l : PySem.W.OpenLaw} {k : Nat} {q : Program} {loose : List Str} {XP : (Str → Option Value) → Heap → Prop} {YP : World → Heap → Prop} {d : DefRec} {K : Params → PySem.W.Frag} {F : FF} (hn : l.most = some 63) (hk : Room k callerA) (hdf : d.params.defaults = [])
    (hY : ∀ (w : World) (h : Heap), YP w h → (K w.params).In h)
    (Fh : ∀ (w : World) (mg : Str → Option Value) (fa : Addr) (h : Heap), (K w.params).In h → h.Ns mainGlobals mg → mg d.name = some (.ref fa) →
      ∃ fd : FuncData, (∀ (s : Shared) (u : Value), BindsTo s fd ⟨[u], []⟩ [("script", u)]) ∧ ∀ base : Heap, (K w.params).In base → base.Ns mainGlobals mg → FnD l.prog w (K w.params) mg base k fa fd ["script"] F)
    (hF : ∀ ns : List Int, ns.length ≤ 63 → ∃ ys, F [.p (.lst (ns.map D.int))] = some (.p (.bl true), ys)) :
    PySem.W.WalkO q loose XP YP l.row.toRowW d [] (fun f vs => PySem.call f vs) := by
  refine L2.walk_of (n := 63) (k := k) (x := "script") (CX := fun _ => CX0) (sp := fun w => fun vs H Q E => vs.length = 1 ∧ spD (K w.params) F vs H Q E) hn (by decide) hdf hk hY Fh (fun w H a ns hl _ hS => ⟨rfl, ?_⟩) fun _ _ _ _ _ z => z
  · obtain ⟨ys, hy⟩ := hF ns hl
    refine ⟨H, _, [[]], _, ys, hy, Le.refl H, ⟨⟨rfl, .lst hS (pus_ints ns)⟩, by simp, trivial⟩, fun v G' H' S _ _ _ _ _ hr _ _ => ?_⟩
    obtain ⟨_, hv⟩ := hr
    cases hv
    rfl
end L2.CF
namespace L2.CF
open PySem
theorem bt_len : bootBuiltins "len" = some (.builtin "len") := by decide +kernel
theorem bt_abs : bootBuiltins "abs" = some (.builtin "abs") := by decide +kernel
theorem bt_list : bootBuiltins "list" = some (.type "list") := by decide +kernel
theorem bt_str : bootBuiltins "str" = some (.type "str") := by decide +kernel
end L2.CF
namespace L2.CF
open PySem PySem.Spec PyProof.Rows
def Imp (X : Cx) (pins : List (Addr × Obj)) (H : Hp) (b : Addr) : Prop :=
  (∃ o, X.s₀.heap.get? b = some o) ∨ b = X.env.locals ∨ (∃ p ∈ X.pn ++ pins, p.1 = b) ∨ (∃ x, X.env.cells.lookup x = some b) ∨ ∃ o, H b = some o
section
variable {X : Cx} {pins : List (Addr × Obj)} {σ : St} {H : Hp} {s : Shared} {h' : Heap}
theorem _root_.L2.Inv.fsSub (I : Inv X pins σ H s) : ∀ b ∈ X.fs, b ∈ frs X.stack := fun b hb => by
  rcases I.ok.stk with e | ⟨e, hf⟩
  · rw [e]; exact hb
  · rw [e]; unfold frs; rw [List.filterMap_cons, hf]; exact List.mem_cons_of_mem _ hb
end
theorem objok_there {P : Program} {w : World} {H : Hp} {h : Heap} {a : Addr} {o : HO} (x : ObjOk P w H h a o) : ∃ ob, h.get? a = some ob := by
  cases o with
  | lst xs => obtain ⟨_, _, _, _, e⟩ := x; exact ⟨_, e⟩
  | tup xs => obtain ⟨_, _, _, ob, e, _⟩ := x; exact ⟨_, e⟩
  | dK kvs => obtain ⟨_, _, _, _, o, _, _, e, _⟩ := x; exact ⟨_, e⟩
  | dT kvs => obtain ⟨_, _, _, _, o, _, _, e, _⟩ := x; exact ⟨_, e⟩
  | set S n => obtain ⟨o, _, _, _, e, _⟩ := x; exact ⟨_, e⟩
  | ins C dx fs => obtain ⟨_, _, _, e, _⟩ := x; exact ⟨_, e⟩
  | own y => exact x
  | xd fs => obtain ⟨_, ⟨_, _, _, e, _⟩, _⟩ := x; exact ⟨_, e⟩
  | rng lo hi => obtain ⟨_, _, _, e⟩ := x; exact ⟨_, e⟩
  | frz ob u => obtain ⟨e, _⟩ := x; exact ⟨_, e⟩
  | tbl ps => exact ⟨_, x⟩
  | met f y => exact ⟨_, x⟩
  | ext φ => obtain ⟨_, z, _⟩ := x; exact z
def Full (imp : Addr → Prop) (l : List Env) (B h : Heap) : Prop := ∀ b o, h.get? b = some o → b ∉ frs l → imp b → B.get? b = some o
def Fly (imp : Addr → Prop) (l : List Env) (c : Value) (ea : Addr) (h : Heap) : Prop := ∃ B, Full imp l B h ∧
  ((∃ h0 args, B.StaysIn h0 ∧ h0.FunFrames B l ∧ Heap.MadeExcOf h0 h ea c args) ∨ (∃ a0, Heap.FlyingW B l ea c a0 h) ∨ ∃ a0 L env l', l = env :: l' ∧ env.frame = some L ∧ Heap.HeldW B l ea c a0 L h)
theorem fun_base {h b1 b2 : Heap} : ∀ {l : List Env}, h.FunFrames b1 l → (∀ a ∈ frs l, b2.get? a = none) → h.FunFrames b2 l
  | [], _, _ => trivial
  | env :: l, ⟨hk, ⟨L, o, hf, _, ho, hd⟩, hr⟩, n => by
    have hL : L ∈ frs (env :: l) := by unfold frs; rw [List.filterMap_cons, hf]; exact List.mem_cons_self
    refine ⟨hk, ⟨L, o, hf, n L hL, ho, hd⟩, fun_base hr fun a ha => n a ?_⟩
    unfold frs at ha ⊢
    rw [List.filterMap_cons, hf]
    exact List.mem_cons_of_mem _ ha
section
variable {M : Model} {A : Around} {E : Value → Shared → Prop} {s : Shared} {imp : Addr → Prop} {env : Env} {outer : List Env} {c : Value} {ea L : Addr}
theorem Fly.leave {Q : Unit → Shared → Prop} (hfr : A.frames = some (env :: outer)) (hf : env.frame = some L) (F : Fly imp (env :: outer) c ea s.heap)
    (hQ : ∀ B h' a0, Full imp (env :: outer) B s.heap → Heap.FlyingW B outer ea c a0 h' → s.heap.UpToSlots h' → Q () { s with heap := h' }) : wpAny M A (leaving env (.ref ea)) Q E s := by
  obtain ⟨B, fu, ⟨h0, args, st, ff, mk⟩ | ⟨a0, fl⟩ | ⟨a0, L', env', l', e, hf', hh⟩⟩ := F
  · exact wpAny_leaves_madeW hfr hf st ff mk fun h' t x1 _ _ x4 => hQ B h' _ fu x1 x4
  · exact wpAny_leaves_onW hfr hf fl fun h' x1 x4 => hQ B h' a0 fu x1 x4
  · obtain ⟨e1, e2⟩ := List.cons.inj e
    subst e1 e2
    rw [hf] at hf'
    cases hf'
    unfold leaving
    refine wpAny_bind (wpAny_noteFrame_againW hf hh.2.2.2 ?_)
    refine wpAny_landsW hh fun h' fl sl => ?_
    obtain ⟨k1, k2, ⟨_, _, k3⟩, k4⟩ := fl
    exact hQ B h' a0 fu ⟨k1, k2, k3, k4⟩ sl
theorem Fly.there {h : Heap} {l : List Env} (F : Fly imp l c ea h) : ∃ oe vs, h.get? ea = some oe ∧ oe.cls = c ∧ oe.data = .fields vs := by
  obtain ⟨B, _, ⟨h0, args, _, _, mk⟩ | ⟨a0, fl⟩ | ⟨a0, L', env', l', e, hf', hh⟩⟩ := F
  · obtain ⟨t, he, _⟩ := mk.there
    exact ⟨_, _, he, rfl, rfl⟩
  · obtain ⟨_, _, _, oe, vs, _, _, _, he, hc, hd, _⟩ := fl
    exact ⟨oe, vs, he, hc.1, hd⟩
  · obtain ⟨_, _, _, oe, vs, _, _, _, he, hc, hd, _⟩ := hh
    exact ⟨oe, vs, he, hc.1, hd⟩
end
def Up (X : Cx) (pins : List (Addr × Obj)) (σ : St) (H : Hp) (c e : Value) (s : Shared) : Prop := Inv X pins σ H s ∧ ∃ ea, e = .ref ea ∧ Fly (Imp X pins H) X.stack c ea s.heap
def CX1 (P : Program) (w : World) : CXT := fun outer H s E e s' => ∃ ea c H', e = .ref ea ∧ s'.os = s.os ∧ AllBare s'.gens ∧ Un (frs outer) [] H H' s.heap s'.heap ∧ HOk P w H' s'.heap ∧
  (∃ B a0, Heap.FlyingW B outer ea c a0 s'.heap ∧ Full (fun b => (∃ o, s.heap.get? b = some o) ∨ ∃ o, H' b = some o) outer B s'.heap) ∧ E c none H'
section
variable {X : Cx} {pins : List (Addr × Obj)} {σ : St} {H : Hp} {s s' : Shared} {E : XK} {e : Value}
theorem Up.out {P : Program} {w : World} {K : PySem.W.Frag} {mg : Str → Option Value} {base : Heap} {N : List Str} {qual : Str} {scope : Scope} {f : Addr} {cd : Value} {A : Around} {outer : List Env} {s0 : Shared} {H0 H' : Hp} {c : Value} {E : XK}
    (U : Up (cxOf (CX1 P w) P w K mg base N qual scope f cd A outer s0 H0 E) pins σ H' c e s) (hE : E c none H') : (cxOf (CX1 P w) P w K mg base N qual scope f cd A outer s0 H0 E).xe e s := by
  obtain ⟨I, ea, rfl, F⟩ := U
  show wpAny (model P w) (A.deeper (envOfC qual scope s0.heap.objs.size f cd)) (leaving (envOfC qual scope s0.heap.objs.size f cd) (.ref ea)) _ _ s
  refine Fly.leave (I.ok.frames) rfl F fun B h' a0 fu fl us => ?_
  have st : ∀ b, b ∈ frs outer → b ∈ frs (envOfC qual scope s0.heap.objs.size f cd :: outer) := fun b hb => I.fsSub b hb
  have nst : ∀ {b : Addr} {o : Obj}, s0.heap.get? b = some o → b ∉ frs outer → b ∉ frs (envOfC qual scope s0.heap.objs.size f cd :: outer) := fun {b o} q n z => by
    rcases List.mem_cons.mp (I.stkSub b z) with e | z
    · exact absurd (Heap.lt_size q) (by rw [e]; exact Nat.not_lt.mpr I.ok.above)
    · exact n z
  have noex : ∀ b : Addr, b ∉ (cxOf (CX1 P w) P w K mg base N qual scope f cd A outer s0 H0 E).ex := fun b z => absurd (show b ∈ ([] : List Addr) from z) (by simp)
  have keepB : ∀ b o, s.heap.get? b = some o → b ∉ frs (envOfC qual scope s0.heap.objs.size f cd :: outer) → ((∃ o, s0.heap.get? b = some o) ∨ ∃ o, H' b = some o) → B.get? b = some o := fun b o q n i => fu b o q n (i.elim .inl fun z => .inr (.inr (.inr (.inr z))))
  have slotF : ∀ b o, s.heap.get? b = some o → b ∈ frs (envOfC qual scope s0.heap.objs.size f cd :: outer) → ∃ sl, h'.get? b = some { o with slots := sl } := fun b o q z => by
    obtain ⟨_, o', ho', hd⟩ := I.stack.mem z
    rw [q] at ho'; cases ho'
    exact us b o q hd
  have nH : ∀ {b : Addr} {o : HO}, H' b = some o → b ∉ frs (envOfC qual scope s0.heap.objs.size f cd :: outer) := fun {b o} q z => by
    rw [I.stkFree b z] at q; cases q
  refine ⟨ea, c, H', rfl, I.os, I.bare, ⟨fun b o q n hb _ => ?_, fun b o q n hb _ => ?_, fun b o q n _ => I.base.free b o q n (noex b), fun b o q _ => ?_, I.base.tups, I.base.frzs, I.base.tbls⟩, fun a o q => ?_, ⟨B, a0, fl, fun b o q n i => ?_⟩, hE⟩
  · have z := I.base.keep b o q n hb (noex b)
    exact fl.1 b o (keepB b o z (nst q hb) (.inl ⟨o, q⟩))
  · obtain ⟨sl, z⟩ := I.base.slot b o q n hb (noex b)
    obtain ⟨sl', z'⟩ := slotF b _ z (st b hb)
    exact ⟨sl', z'⟩
  · obtain ⟨o', z⟩ := I.base.there b o q (noex b)
    by_cases hb : b ∈ frs (envOfC qual scope s0.heap.objs.size f cd :: outer)
    · obtain ⟨sl, z'⟩ := slotF b o' z hb
      exact ⟨_, z'⟩
    · exact ⟨o', fl.1 b o' (keepB b o' z hb (.inl ⟨o, q⟩))⟩
  · refine (I.hok a o q).stay (fun b u hb r => ?_) (fun _ z => z) fun _ _ z => z
    have hH : ∃ o, H' b = some o := by
      rcases hb with rfl | hb
      · exact ⟨_, q⟩
      · exact ⟨_, hb⟩
    obtain ⟨o', hH⟩ := hH
    exact fl.1 b u (keepB b u r (nH hH) (.inr ⟨o', hH⟩))
  · rcases i with ⟨o0, i⟩ | ⟨o0, i⟩
    · obtain ⟨o', z⟩ := I.base.there b o0 i (noex b)
      have zB := keepB b o' z (nst i n) (.inl ⟨o0, i⟩)
      have z2 := fl.1 b o' zB
      have q : h'.get? b = some o := q
      rw [z2] at q; cases q
      exact zB
    · have hl : ∃ o', s.heap.get? b = some o' := by
        have z := (I.hok b o0 i).lt
        exact objok_there (I.hok b o0 i)
      obtain ⟨o', z⟩ := hl
      have zB := keepB b o' z (nH i) (.inr ⟨o0, i⟩)
      have z2 := fl.1 b o' zB
      have q : h'.get? b = some o := q
      rw [z2] at q; cases q
      exact zB
end
end L2.CF
namespace L2.CF
open PySem PySem.Spec PyProof.Rows
inductive XR (α : Type) where
  | ok (a : α)
  | ex (c : Str)
abbrev FEX := DS → Option (XR RR × DS)
abbrev FSX := DS → Option (XR FL × DS)
abbrev FFX := List RV → Option (XR RV × List RV)
def okE (f : FEX) : FE := fun ρ => match f ρ with
  | some (.ok r, ρ') => some (r, ρ')
  | _ => none
def okS (f : FSX) : FS := fun ρ => match f ρ with
  | some (.ok r, ρ') => some (r, ρ')
  | _ => none
theorem okE_inv {f : FEX} {ρ ρ' : DS} {r : RR} (h : okE f ρ = some (r, ρ')) : f ρ = some (.ok r, ρ') := by
  unfold okE at h
  split at h
  · next e => cases h; exact e
  · cases h
section
variable {X : Cx} {P : Nat} {st : Stmt} {rest : List Stmt} {f g : FSX} {e c : Expr} {fe : FEX} {pos : Pos}
class KpX (P : Nat) (f : FEX) : Prop where
  kp : ∀ ρ rr ρ', f ρ = some (rr, ρ') → Kp P ρ ρ'
instance [h : KpX P fe] : KpE P (okE fe) := ⟨fun ρ rr ρ' q => h.kp _ _ _ (okE_inv q)⟩
end
section
variable {Pg : Program} {w : World} {K : PySem.W.Frag} {mg : Str → Option Value} {base : Heap}
end
end L2.CF
namespace L2.CF
open PySem PySem.Spec PyProof.Rows
class KpFX (F : FFX) : Prop where kp : ∀ xs r ys, F xs = some (r, ys) → ys.length = xs.length ∧ ∀ (i : Nat) x y, xs[i]? = some x → ys[i]? = some y → ownd y = ownd x
section
variable {X : Cx} {k : Nat} {f : Addr} {fd : FuncData} {ps : List Str} {F : FFX} {x : Str} {p pos : Pos} {e : Expr} {es : List Expr} {fa : FA}
end
end L2.CF
namespace L2.CF
open PySem PySem.Spec PyProof.Rows
abbrev vErr : List Value := [.type "ValueError", .type "Exception", .type "BaseException", .type "object"]
structure ECls (K : PySem.W.Frag) (mg : Str → Option Value) (x : Str) (C : Addr) : Prop where
  g : mg x = some (.ref C)
  q : PySem.W.excIn K C vErr "ValueError.__new__" = true
theorem ecls_obj {K : PySem.W.Frag} {h : Heap} {C : Addr} {bmB : List Value} {newId : String} (X : K.In h) (q : PySem.W.excIn K C bmB newId = true) :
    ∃ (bm : List Value) (N : Addr) (nm qn : Str) (bs : List Value) (hdct : Bool) (sn : List Str) (sub : List Value) (ab : Bool) (col : Option Bool) (dd : Option Addr) (k0 k1 k2 k3 k5 : Option Value) (mN : Str → Option Value) (cd : ClassData) (cl : Value) (sl : Array (Option Value)),
      h.get? C = some (excClassObj nm qn C N bs bm hdct sn sub ab col dd k0 k1 k2 k3 k5 newId) ∧ h.Ns N mN ∧ mN "__init__" = none ∧ OwnTail h bmB bm ∧ K.lookup C = some ⟨cl, dd, .cls cd, sl⟩ ∧ cd.mro = .ref C :: bm := by
  unfold PySem.W.excIn at q
  split at q
  · rename_i dd cd sl ho
    have hC := X _ _ ho
    split at q
    · rename_i C' bm k0 k1 k2 k3 n k5 hm hs
      obtain ⟨l⟩ := sl
      have hl : l = [k0, k1, k2, k3, some (.builtin n), k5] := hs
      subst hl
      simp only [Bool.and_eq_true, beq_iff_eq, Bool.not_eq_true'] at q
      obtain ⟨⟨⟨⟨⟨e1, e2⟩, e3⟩, e4⟩, e5⟩, e6⟩ := q
      subst e1 e2
      obtain ⟨nm, bs, mro, ns, qn, hd, sn, sub, ab, col, del⟩ := cd
      have hm : mro = _ := hm
      have e3 : del = false := e3
      subst hm e3
      refine ⟨bm, ns, nm, qn, bs, hd, sn, sub, ab, col, dd, k0, k1, k2, k3, k5, h.nsMap ns, _, _, _, hC, .of_isNs (PySem.W.isNs_of_in X e5), PySem.W.nsMap_none_of_in X e5 e6, PySem.W.tail_of_in X e4, ho, rfl⟩
    · cases q
  · cases q
theorem Imp.there {X : Cx} {pins : List (Addr × Obj)} {σ : St} {H : Hp} {s : Shared} {b : Addr} (I : Inv X pins σ H s) (hex : X.ex = []) (h : Imp X pins H b) : ∃ o, s.heap.get? b = some o := by
  rcases h with ⟨o', z⟩ | z | ⟨p, hp, z⟩ | ⟨x, z⟩ | ⟨o', z⟩
  · exact I.base.there b o' z (by rw [hex]; simp)
  · subst z
    obtain ⟨m, ⟨o2, _, _, ho, _⟩, _⟩ := I.loc
    exact ⟨o2, ho⟩
  · subst z
    exact ⟨_, (I.pin p hp).1⟩
  · obtain ⟨v, o2, ho, _⟩ := I.cell x b z
    exact ⟨o2, ho⟩
  · exact objok_there (I.hok b o' z)
theorem resL_vlen {K : PySem.W.Frag} {G H : Hp} {σ : St} {A : Ft} : ∀ {vs : List V} {rs : List RR} {Ss : List (List Addr)}, ResL K G H σ A vs rs Ss → vs.length = rs.length
  | [], [], [], _ => rfl
  | _ :: _, _ :: _, _ :: _, ⟨_, _, h⟩ => congrArg (· + 1) (resL_vlen h)
  | [], [], _ :: _, h => h.elim
  | [], _ :: _, _, h => h.elim
  | _ :: _, [], _, h => h.elim
  | _ :: _, _ :: _, [], h => h.elim
theorem Up.made {X : Cx} {pins : List (Addr × Obj)} {σ : St} {H : Hp} {s : Shared} {h' : Heap} {ea : Addr} {c : Value} {args : List Value} (I : Inv X pins σ H s) (hex : X.ex = []) (mk : Heap.MadeExcOf s.heap h' ea c args) : Up X pins σ H c (.ref ea) { s with heap := h' } := by
  refine ⟨I.kept (t' := s.toks) mk.keeps, ea, rfl, PySem.W.hideAll s.heap (frs X.stack), fun b o q n i => ?_, .inl ⟨s.heap, args, fun b o q => PySem.W.of_hideAll _ q, fun_base I.stack fun a ha => PySem.W.hideAll_none _ ha, mk⟩⟩
  obtain ⟨o', z⟩ := i.there I hex
  have z' := mk.keeps b o' z
  have q : h'.get? b = some o := q
  rw [z'] at q
  cases q
  exact PySem.W.hideAll_get _ z n
section
variable {X : Cx} {P : Nat} {x : Str} {C : Addr} {np cpos pos : Pos} {e : Expr} {es : List Expr} {fa : FA}
end
end L2.CF
namespace L2.CF
open PySem PySem.Spec PyProof.Rows
section
variable {M : Model} {A : Around} {E : Value → Shared → Prop} {h : Heap} {g : Array GenState} {d : Drawn} {t : Nat} {os : OsState}
variable {nm q nm' q' : Str} {C N D N' : Addr} {bs bm bs' bm' : List Value} {hdct hdct' : Bool} {sn sn' : List Str} {sub sub' : List Value} {ab ab' : Bool} {col col' : Option Bool} {dd dd' : Option Addr} {k0 k1 k2 k3 k5 j0 j1 j2 j3 j5 : Option Value} {newId newId' : String}
end
def subIn (K : PySem.W.Frag) (C D : Addr) : Bool := match K.lookup C with
  | some ⟨_, _, .cls cd, _⟩ => cd.mro.contains (.ref D)
  | _ => false
structure Catches (K : PySem.W.Frag) (mg : Str → Option Value) (c x : Str) : Prop where
  ex : ∃ C D, ECls K mg c C ∧ ECls K mg x D ∧ subIn K C D = true
theorem Catches.self {K : PySem.W.Frag} {mg : Str → Option Value} {c : Str} {C : Addr} (h : ECls K mg c C) : Catches K mg c c := by
  refine ⟨C, C, h, h, ?_⟩
  have q := h.q
  unfold PySem.W.excIn at q
  unfold subIn
  split at q
  · rename_i dd cd sl ho
    split at q
    · rename_i C' bm k0 k1 k2 k3 n k5 hm hs
      rw [ho]
      simp only [Bool.and_eq_true, beq_iff_eq, Bool.not_eq_true'] at q
      obtain ⟨⟨⟨⟨⟨e1, e2⟩, e3⟩, e4⟩, e5⟩, e6⟩ := q
      subst e1
      simp [hm]
    · cases q
  · cases q
section
variable {X : Cx} {pins : List (Addr × Obj)} {σ : St} {H : Hp} {s : Shared} {ev : Value}
end
section
variable {X : Cx} {P : Nat} {x : Str} {np hpos pos : Pos} {body suite : List Stmt} {b0 : Stmt} {fb : FSX} {fs : FS} {mt : Str → Bool}
end
end L2.CF
namespace L2.CF
open PySem PySem.Spec PyProof.Rows
variable {K : PySem.W.Frag}
def frzV : RV → D
  | .p d => d
  | .L l => .lst l
  | .K k => .dct k
  | .S l _ _ => .lst l
theorem RepV.frz {G H : Hp} {v : V} {r : RV} {S : List Addr} (l : Le G H) (h : RepV K G H v r S) : ∃ G', Le G G' ∧ Le G' H ∧ (∀ b o, G' b = some o → G b = some o ∨ b ∈ S) ∧ Pu K G' v (frzV r) := by
  have up : ∀ {a : Addr} {o : HO}, H a = some o → G a = none → Le G (upd G a o) ∧ Le (upd G a o) H ∧ (∀ b o', upd G a o b = some o' → G b = some o' ∨ b ∈ [a]) := fun {a o} h g => by
    refine ⟨le_upd g, fun b u q => ?_, fun b u q => ?_⟩
    · by_cases e : b = a
      · subst e; rw [upd_same] at q; cases q; exact h
      · rw [upd_ne e] at q; exact l b u q
    · by_cases e : b = a
      · subst e; exact .inr (by simp)
      · rw [upd_ne e] at q; exact .inl q
  cases r with
  | p d => exact ⟨G, Le.refl G, l, fun _ _ q => .inl q, h.2⟩
  | L ds =>
    obtain ⟨a, vs, rfl, rfl, h1, g, z⟩ := h
    obtain ⟨u1, u2, u3⟩ := up h1 g
    exact ⟨_, u1, u2, u3, .lst (SqL.of upd_same) (z.mono u1)⟩
  | K ds =>
    obtain ⟨a, vs, rfl, rfl, h1, g, z⟩ := h
    obtain ⟨u1, u2, u3⟩ := up h1 g
    exact ⟨_, u1, u2, u3, .dct upd_same (z.mono u1)⟩
  | S ds c ms =>
    obtain ⟨a, vs, ws, rfl, rfl, h1, g, z, _⟩ := h
    obtain ⟨u1, u2, u3⟩ := up h1 g
    exact ⟨_, u1, u2, fun b o q => (u3 b o q).imp_right fun m => by simp at m; simp [m], .lst (SqL.of upd_same) (z.mono u1)⟩
theorem Rep.frzG {G G' H : Hp} {σ : St} {ρ : DS} {A : Ft} {S : List Addr} (R : Rep K G H σ ρ A) (l1 : Le G G') (l2 : Le G' H) (n : ∀ b o, G' b = some o → G b = some o ∨ b ∈ S) (ap : ∀ i, ∀ a ∈ S, a ∉ A i) : Rep K G' H σ ρ A :=
  ⟨l2, R.len, fun i r e => by
    obtain ⟨v, h1, h2⟩ := R.slot i r e
    refine ⟨v, h1, h2.stay l1 (fun _ _ _ q => q) fun b hb => ?_⟩
    cases q : G' b with
    | none => rfl
    | some o =>
      rcases n b o q with z | z
      · rw [h2.gfree hb] at z; cases z
      · exact absurd hb (ap i b z), R.emp, R.disj⟩
section
variable {X : Cx} {P i : Nat} {e : Expr} {es : List Expr} {fe : FE} {fa : FA} {pos : Pos}
end
end L2.CF
namespace L2.CF
open PySem PySem.Spec PyProof.Rows
variable {K : PySem.W.Frag}
def valK (kvs : List (Key × D)) (k : Key) : Option D := (kvs.find? fun kv => decide (kv.1 = k)).map (·.2)
theorem PuK.val {G : Hp} {k : Key} : ∀ {vs : List (Key × V)} {ds : List (Key × D)}, PuK K G vs ds → (valK ds k = none ∧ valV vs k = none) ∨ ∃ v d, valK ds k = some d ∧ valV vs k = some v ∧ Pu K G v d
  | _, _, .nil => .inl ⟨rfl, rfl⟩
  | _, _, .cons (k := k') (v := v) (vs := vs) (d := d) (ds := ds) h t => by
    by_cases e : k' = k
    · refine .inr ⟨v, d, ?_, ?_, h⟩
      · simp [valK, List.find?_cons, e]
      · simp [valV, List.find?_cons, e]
    · have e1 : valK ((k', d) :: ds) k = valK ds k := by simp [valK, List.find?_cons, e]
      have e2 : valV ((k', v) :: vs) k = valV vs k := by simp [valV, List.find?_cons, e]
      rw [e1, e2]
      exact PuK.val t
theorem PuK.len {G : Hp} : ∀ {vs : List (Key × V)} {ds : List (Key × D)}, PuK K G vs ds → vs.length = ds.length
  | _, _, .nil => rfl
  | _, _, .cons _ t => congrArg (· + 1) (PuK.len t)
theorem PuK.any {G : Hp} {k : Key} : ∀ {vs : List (Key × V)} {ds : List (Key × D)}, PuK K G vs ds → (vs.any fun kv => decide (kv.1 = k)) = (ds.any fun kv => decide (kv.1 = k))
  | _, _, .nil => rfl
  | _, _, .cons _ t => by simp only [List.any_cons, PuK.any t]
section
variable {X : Cx} {P i : Nat} {o e f : Expr} {es : List Expr} {fo fe ff : FE} {fa : FA} {pos pos' apos cpos : Pos}
end
end L2.CF
namespace L2.CF
open PySem PySem.Spec PyProof.Rows
variable {K : PySem.W.Frag}
abbrev FJ := Str → DS → Option (Str × DS)
def tDJ (K : PySem.W.Frag) (ρ : DS) (out : Str) (ρ' : DS) : St → Hp → (Str → Hp → Prop) → Prop := fun σ H Q => ∃ G A, Rep K G H σ ρ A ∧ ∀ G' H' A', Evo G H A G' H' A' → Rep K G' H' σ ρ' A' → Q out H'
def DJ (X : Cx) (es : List Expr) (f : FJ) : Prop := ∀ acc ρ out ρ', f acc ρ = some (out, ρ') → ∀ (pins : List (Addr × Obj)) (s : Shared) (σ : St) (H : Hp) (Q : Str → Hp → Prop), Inv X pins σ H s → tDJ X.K ρ out ρ' σ H Q →
  Joins (model X.prog X.w) X.A X.xe (evalEach es X.env) acc (fun o s' => o.length ≤ sizeLine ∧ ∃ H', Inv X pins σ H' s' ∧ Q o H') s
section
variable {X : Cx} {P : Nat} {e : Expr} {es : List Expr} {fe : FE} {g : FJ} {pos : Pos}
def jNil : FJ := fun acc ρ => if acc.length ≤ 1000 then some (acc, ρ) else none
theorem dj_nil : DJ X [] jNil := by
  intro acc ρ out ρ' h pins s σ H Q I q
  unfold jNil at h
  split at h
  · next hz =>
    cases h
    obtain ⟨G, A, R, k⟩ := q
    show _ ∧ _
    exact ⟨Nat.le_trans hz (by decide), H, I, k G H A (Evo.refl _ _ _) R⟩
  · cases h
def strR : RV → Option Str
  | .p (.str x) => some x
  | _ => none
def jCons (fe : FE) (g : FJ) : FJ := fun acc ρ => (fe ρ).bind fun p => (res p.2 p.1).bind fun r => (strR r).bind fun y => if (acc ++ y).length ≤ 1000 then g (acc ++ y) p.2 else none
theorem dj_cons (he : DE X e fe) (hg : DJ X es g) (hs : evalEach (e :: es) X.env = eval e X.env :: evalEach es X.env := by rfl) : DJ X (e :: es) (jCons fe g) := by
  intro acc ρ out ρ' h pins s σ H Q I q
  unfold jCons at h
  obtain ⟨⟨rr, ρ1⟩, h1, h⟩ := obi h
  obtain ⟨r, h2, h⟩ := obi h
  obtain ⟨y, h3, h⟩ := obi h
  split at h
  · next hz =>
    rw [hs]
    obtain ⟨G, A, R, k⟩ := q
    refine wpAny_mono (he _ _ _ h1 pins s σ H (fun v H1 => ∃ G1 A1, Evo G H A G1 H1 A1 ∧ Rep X.K G1 H1 σ ρ1 A1 ∧ v = .str y) I ⟨G, A, R, fun v G1 H1 A1 S e1 R1 q1 f1 => ⟨G1, A1, e1, R1, ?_⟩⟩) (fun u s1 q => ?_) fun _ _ z => z
    · obtain ⟨S', hr⟩ := res_of R1 q1 h2
      cases r with
      | L l => cases h3
      | K l => cases h3
      | S l b ms => cases h3
      | p d => cases d <;> cases h3; exact pu_str hr
    · obtain ⟨v, H1, I1, ru, G1, A1, e1, R1, rfl⟩ := q
      obtain ⟨t, rfl⟩ := ru
      refine ⟨y, t, rfl, Nat.le_trans hz (by decide), hg _ _ _ _ h pins s1 σ H1 Q I1 ⟨G1, A1, R1, fun G' H' A' e' R' => k G' H' A' (e1.trans e') R'⟩⟩
  · cases h
def fJoin (g : FJ) : FE := fun ρ => (g Str.empty ρ).map fun p => (.own (.p (.str p.1)), p.2)
theorem de_join {e' : Expr} (hg : DJ X (e :: e' :: es) g) : DE X (.JoinedStr (e :: e' :: es) pos) (fJoin g) := by
  intro ρ rr ρ' h
  obtain ⟨⟨out, ρ1⟩, h1, h2⟩ := omi h
  cases h2
  intro pins s σ H Q I q
  obtain ⟨G, A, R, k⟩ := q
  have mono : ∀ {l : List (Sem Value)} {acc : Str} {Q1 Q2 : Str → Shared → Prop} {s : Shared}, (∀ o s, Q1 o s → Q2 o s) → Joins (model X.prog X.w) X.A X.xe l acc Q1 s → Joins (model X.prog X.w) X.A X.xe l acc Q2 s := by
    intro l
    induction l with
    | nil => intro acc Q1 Q2 s f h; exact f _ _ h
    | cons a l ih => intro acc Q1 Q2 s f h; exact wpAny_mono h (fun v s1 ⟨y, t, e1, e2, h⟩ => ⟨y, t, e1, e2, ih f h⟩) fun _ _ z => z
  refine wpAny_JoinedStr (mono (fun o s1 q => ?_) (hg _ _ _ _ h1 pins s σ H (fun o H1 => ∃ G1 A1, Evo G H A G1 H1 A1 ∧ Rep X.K G1 H1 σ ρ1 A1 ∧ o = out) I ⟨G, A, R, fun G1 H1 A1 e1 R1 => ⟨G1, A1, e1, R1, rfl⟩⟩))
  obtain ⟨hz, H1, I1, G1, A1, e1, R1, rfl⟩ := q
  exact ⟨hz, .str o, H1, I1.tok _, ⟨_, rfl⟩, k _ G1 H1 A1 [] e1 R1 ⟨⟨rfl, .str⟩, by simp⟩ (by simp)⟩
class KpJ (P : Nat) (f : FJ) : Prop where kp : ∀ acc ρ out ρ', f acc ρ = some (out, ρ') → Kp P ρ ρ'
instance : KpJ P jNil := ⟨fun acc ρ out ρ' h => by
  unfold jNil at h
  split at h
  · cases h; exact Kp.refl _
  · cases h⟩
instance [he : KpE P fe] [hg : KpJ P g] : KpJ P (jCons fe g) := ⟨fun acc ρ out ρ' h => by
  unfold jCons at h
  obtain ⟨⟨rr, ρ1⟩, h1, h⟩ := obi h
  obtain ⟨r, h2, h⟩ := obi h
  obtain ⟨y, h3, h⟩ := obi h
  split at h
  · exact (he.kp _ _ _ h1).trans (hg.kp _ _ _ _ h)
  · cases h⟩
instance [hg : KpJ P g] : KpE P (fJoin g) := ⟨fun ρ rr ρ' h => by
  obtain ⟨⟨out, ρ1⟩, h1, h2⟩ := omi h
  cases h2
  exact hg.kp _ _ _ _ h1⟩
def fmtR : RV → Option Str
  | .p (.str x) => if x.length ≤ 1000 then some x else none
  | .p (.int i) => if i.natAbs.log2 < 1920 then some (toString i) else none
  | _ => none
def fFmt (f : FE) : FE := fun ρ => (f ρ).bind fun p => (res p.2 p.1).bind fun r => (fmtR r).map fun y => (.own (.p (.str y)), p.2)
theorem fFmt_inv {ρ ρ' : DS} {rr : RR} (h : fFmt fe ρ = some (rr, ρ')) : ∃ ra r y, fe ρ = some (ra, ρ') ∧ res ρ' ra = some r ∧ fmtR r = some y ∧ rr = .own (.p (.str y)) := by
  unfold fFmt at h
  obtain ⟨⟨ra, ρ1⟩, h1, h⟩ := obi h
  obtain ⟨r, h2, h⟩ := obi h
  obtain ⟨y, h3, h⟩ := omi h
  cases h
  exact ⟨ra, r, y, h1, h2, h3, rfl⟩
theorem de_fmt (he : DE X e fe) : DE X (.FormattedValue e (-1) none pos) (fFmt fe) := by
  intro ρ rr ρ' h
  obtain ⟨ra, r, y, h1, h2, h3, rfl⟩ := fFmt_inv h
  intro pins s σ H Q I q
  obtain ⟨G, A, R, k⟩ := q
  refine wpAny_FormattedValue_plain (wpAny_mono (he _ _ _ h1 pins s σ H (fun v H1 => ∃ G1 A1 S, Evo G H A G1 H1 A1 ∧ Rep X.K G1 H1 σ ρ' A1 ∧ RepV X.K G1 H1 v r S) I ⟨G, A, R, fun v G1 H1 A1 S e1 R1 q1 f1 => ⟨G1, A1, (res_of R1 q1 h2).choose, e1, R1, (res_of R1 q1 h2).choose_spec⟩⟩) (fun u s1 q => ?_) fun _ _ z => z)
  obtain ⟨v, H1, I1, ru, G1, A1, S, e1, R1, hr⟩ := q
  have fin : ∀ t s2, Inv X pins σ H1 s2 → EP X pins σ Q (.str y t) s2 := fun t s2 I2 => ⟨.str y, H1, I2, ⟨t, rfl⟩, k _ G1 H1 A1 [] e1 R1 ⟨⟨rfl, .str⟩, by simp⟩ (by simp)⟩
  cases r with
  | L l => cases h3
  | K l => cases h3
  | S l b ms => cases h3
  | p d =>
    cases d with
    | str x =>
      simp only [fmtR] at h3
      split at h3
      · next hz =>
        cases h3
        obtain rfl := pu_str hr
        obtain ⟨t, rfl⟩ := ru
        exact wpAny_formatField_str (fin _ _ I1) (fin _ _ (I1.tok _)) (Nat.le_trans hz (by decide))
      · cases h3
    | int i =>
      simp only [fmtR] at h3
      split at h3
      · next hz =>
        cases h3
        obtain rfl := pu_int hr
        obtain ⟨t, rfl⟩ := ru
        exact wpAny_formatField_int hz (fin _ _ (I1.tok _))
      · cases h3
    | _ => cases h3
instance [he : KpE P fe] : KpE P (fFmt fe) := ⟨fun ρ rr ρ' h => by
  obtain ⟨ra, r, y, h1, _⟩ := fFmt_inv h
  exact he.kp _ _ _ h1⟩
end
section
variable {X : Cx}
end
end L2.CF
namespace L2.CF
open PySem PySem.Spec PyProof.Rows
section
variable {X : Cx}
end
end L2.CF
namespace L2.CF
open PySem PySem.Spec PyProof.Rows
structure EAttr (K : PySem.W.Frag) (C : Addr) : Prop where
  ga : PySem.W.findIn K (.ref C) "__getattribute__" = some (some (.builtin "BaseException.__getattribute__"))
  gt : PySem.W.findIn K (.ref C) "__getattr__" = some none
  gc : PySem.W.findIn K (.ref C) "__class__" = some (some (.builtin "object.__class__"))
section
variable {prog : Program} {w : World} {A : Around} {E : Value → Shared → Prop} {h : Heap} {g : Array GenState} {d : Drawn} {t : Nat} {os : OsState} {a : Addr} {o : Obj} {K : PySem.W.Frag}
  {nm q : Str} {C N : Addr} {bs bm : List Value} {hdct : Bool} {sn : List Str} {sub : List Value} {ab : Bool} {col : Option Bool} {dd : Option Addr} {k0 k1 k2 k3 k5 : Option Value} {newId : String}
theorem ecl_get {R : Result → Shared → Prop} (hC : h.get? C = some (excClassObj nm q C N bs bm hdct sn sub ab col dd k0 k1 k2 k3 k5 newId)) (hob : bm.contains (.type "object") = true)
    (hx : h.get? a = some o) (hc : o.cls = .ref C) (hq : R (.ok (.ret (.ref C))) ⟨h, g, d, t, os⟩) :
    codeAny (model prog w) A (.call (.builtin "getset_descriptor.__get__") ⟨[.builtin "object.__class__", .ref a, .ref C], []⟩) R ⟨h, g, d, t, os⟩ := by
  have ho : (Value.ref C :: bm).contains (.type (".".intercalate ("object.__class__".cutAt '.').dropLast)) = true := by
    rw [F.owner_object_class, List.contains_cons, hob, Bool.or_true]
  have hT5 : (⟨h, g, d, t, os⟩ : Shared).TypeIs (.builtin "object.__class__") "getset_descriptor" := by exact F.typeOf_object_class
  refine codeAny_call_builtin F.slot_gs_get.plain F.entry_gs_get (F.slot_gs_get.check _ _ _ _ _ _ _ _ hT5 (F.args_gs_get _ _ _) ?gg)
  case gg =>
    repeat (any_goals (first | (with_reducible refine wpAny_loadPart_at hx ?_; rw [hc]) | (with_reducible refine wpAny_isSubtype_exc hC ?_; rw [ho]) | assumption | wp_step))
    refine ⟨by exact Code.quiet_builtin _ (by decide +kernel), codeAny_builtin (by exact F.entry_object_class) ?_⟩
    repeat (any_goals (first | (with_reducible refine wpAny_loadPart_at hx ?_; rw [hc]) | assumption | wp_step))
theorem ecl_entry {tk : Tok} {Q : Fin → Shared → Prop} (X : K.In h) (F1 : EAttr K C) (hC : h.get? C = some (excClassObj nm q C N bs bm hdct sn sub ab col dd k0 k1 k2 k3 k5 newId)) (hob : bm.contains (.type "object") = true)
    (hx : h.get? a = some o) (hc : o.cls = .ref C) (hq : Q (.done (.ret (.ref C))) ⟨h, g, d, t, os⟩) :
    wpAny (model prog w) A (Builtin.«object.__getattribute__» ⟨[.ref a, .str "__class__" tk], []⟩) Q E ⟨h, g, d, t, os⟩ := by
  have hT5 : (⟨h, g, d, t, os⟩ : Shared).TypeIs (.builtin "object.__class__") "getset_descriptor" := by exact F.typeOf_object_class
  have f5 : typeOf (.builtin "object.__class__") = pure (.type "getset_descriptor") := by exact F.typeOf_object_class
  have f6 := by exact F.slot_gs_get.lookup
  have f7 := by exact F.slot_gs_set.lookup
  have lk := PySem.W.looks_findIn (M := model prog w) X F1.gc
  repeat (any_goals (first | (with_reducible refine wpAny_loadPart_at hx ?_; rw [hc]) | with_reducible refine lk.at ?_ | assumption | wp_step))
  refine ecl_get hC hob hx hc ?_
  repeat (any_goals (first | (with_reducible refine wpAny_loadPart_at hx ?_; rw [hc]) | assumption | wp_step))
theorem ecl_check {M : Model} {nameV : Value} {Q : Unit → Shared → Prop} (hC : h.get? C = some (excClassObj nm q C N bs bm hdct sn sub ab col dd k0 k1 k2 k3 k5 newId)) (hbe : bm.contains (.type "BaseException") = true)
    (hx : h.get? a = some o) (hc : o.cls = .ref C) (hq : Q () ⟨h, g, d, t, os⟩) : wpAny M A (checkBuiltinCall "BaseException.__getattribute__" ⟨[.ref a, nameV], []⟩) Q E ⟨h, g, d, t, os⟩ := by
  have hcB : (Value.ref C :: bm).contains (.type "BaseException") = true := by rw [List.contains_cons, hbe, Bool.or_true]
  have b1 : builtinKind "BaseException.__getattribute__" = some .slot := by decide +kernel
  have b2 : splitId "BaseException.__getattribute__" = some ("BaseException", "__getattribute__") := by decide +kernel
  have b3 := F.args_bexc_ga (.ref a) nameV
  simp only [checkBuiltinCall, b1, b2]
  refine wpAny_bind ?_
  unfold isInstance
  repeat (first | (with_reducible refine wpAny_isSubtype_exc hC ?_; rw [hcB]) | (with_reducible refine wpAny_loadPart_at hx ?_; rw [hc]) | wp_step)
  exact hq
theorem ecl_by {tk : Tok} {Q : Value → Shared → Prop} (X : K.In h) (F1 : EAttr K C) (hC : h.get? C = some (excClassObj nm q C N bs bm hdct sn sub ab col dd k0 k1 k2 k3 k5 newId)) (hob : bm.contains (.type "object") = true) (hbe : bm.contains (.type "BaseException") = true)
    (hx : h.get? a = some o) (hc : o.cls = .ref C) (hq : Q (.ref C) ⟨h, g, d, t, os⟩) : wpAny (model prog w) A (getAttrBy (.ref a) (.str "__class__" tk) false) Q E ⟨h, g, d, t, os⟩ := by
  have f3 := F.excAttr_ValueError.ga.bind (.ref a)
  have lg := PySem.W.looks_findIn (M := model prog w) X F1.ga
  have lt := PySem.W.looks_findIn (M := model prog w) X F1.gt
  have hx2 : (Value.builtin "BaseException.__getattribute__" == Value.builtin "object.__getattribute__") = false := by decide +kernel
  have hx1 : (onTheHeap (Value.ref C) && Value.builtin "BaseException.__getattribute__" == Value.builtin "object.__getattribute__") = false := by rw [hx2, Bool.and_false]
  repeat (any_goals (first | (with_reducible refine wpAny_loadPart_at hx ?_; rw [hc]) | with_reducible refine lg.at ?_ | with_reducible refine lt.at ?_ | assumption | wp_step))
  refine codeAny_call_builtin F.excAttr_ValueError.ga.plain F.entry_bexc_ga (ecl_check hC hbe hx hc (ecl_entry X F1 hC hob hx hc ?_))
  repeat (any_goals (first | assumption | (with_reducible refine wpAny_loadPart_at hx ?_; rw [hc]) | wp_step))
theorem ecl_attr {Q : Option Value → Shared → Prop} (X : K.In h) (F1 : EAttr K C) (hC : h.get? C = some (excClassObj nm q C N bs bm hdct sn sub ab col dd k0 k1 k2 k3 k5 newId)) (hob : bm.contains (.type "object") = true) (hbe : bm.contains (.type "BaseException") = true)
    (hx : h.get? a = some o) (hc : o.cls = .ref C) (hq : Q (some (.ref C)) ⟨h, g, d, t + 1, os⟩) : wpAny (model prog w) A (getAttr? (.ref a) "__class__") Q E ⟨h, g, d, t, os⟩ := by
  unfold getAttr? getAttrBy?
  repeat (any_goals (first | with_reducible apply ecl_by X F1 hC hob hbe hx hc | assumption | wp_step))
end
theorem kitx_exc {K : PySem.W.Frag} {a C : Addr} (q : PySem.W.excIn K C vErr "ValueError.__new__" = true) (F1 : EAttr K C) : PySem.W.KitX K (.ref a) (.ref C) (isX a C) where
  ty := fun M h X ⟨o, h1, h2⟩ => by exact h2 ▸ (PySem.W.Looks.ld h1).andThen .now
  it := fun M h X _ => by
    obtain ⟨bm, N, nm, qn, bs, hdct, sn, sub, ab, col, dd, k0, k1, k2, k3, k5, mN, cd, cl, sl, hC, _⟩ := ecls_obj X q
    intro A' Q' E' s' k q
    unfold isType loadHead
    exact wpAny_bind (wpAny_loadPart (k _ _ hC) (wpAny_pure q))
  ne := fun h tp dd its n sl X htp => by
    obtain ⟨bm, N, nm, qn, bs, hdct, sn, sub, ab, col, dd, k0, k1, k2, k3, k5, mN, cd, cl, sl, hC, _⟩ := ecls_obj X q
    refine Bool.eq_false_iff.mpr fun z => ?_
    have e : C = tp := Value.ref.inj (beq_iff_eq.mp z)
    subst e
    rw [hC] at htp
    have z2 : Value.type "type" = Value.type "tuple" := congrArg Obj.cls (Option.some.inj htp)
    injection z2 with z2
    exact absurd z2 (by decide)
  ca := fun {prog w A E Q s} X ⟨o, h1, h2⟩ k => by
    obtain ⟨bm, N, nm, qn, bs, hdct, sn, sub, ab, col, dd, k0, k1, k2, k3, k5, mN, cd, cl, sl, hC, _, _, T, _⟩ := ecls_obj X q
    obtain ⟨h, g, d, t, os⟩ := s
    exact ecl_attr X F1 hC (T.hasType (by decide)) (T.hasType (by decide)) h1 h2 k
end L2.CF
namespace L2.CF
open PySem PySem.Spec PyProof.Rows
structure EKit (K : PySem.W.Frag) (c : Str) (V : Value) (b : Bool) : Prop where
  ex : ∃ C, PySem.W.nsIn K mainGlobals c = some (some (.ref C)) ∧ PySem.W.excIn K C vErr "ValueError.__new__" = true ∧ EAttr K C ∧ PySem.W.kitOne K (.ref C) V = some b
section
variable {X : Cx} {P : Nat} {a : Expr} {fa : FE} {mt : Str → Option Bool} {x : Str} {p p2 pos : Pos}
end
abbrev _root_.L2.Cx.more (X : Cx) (x : Str) : Cx := { X with N := X.N ++ [x] }
section
variable {X : Cx} {pins : List (Addr × Obj)} {σ : St} {H : Hp} {s : Shared} {x : Str}
theorem Inv.more (I : Inv X pins σ H s) (x : Str) : Inv (X.more x) pins (σ ++ [none]) H s := by
  obtain ⟨m, hn, hl⟩ := I.loc
  refine ⟨⟨I.ok.mod, I.ok.kind, I.ok.glob, I.ok.blt, I.ok.above, I.ok.inj, I.ok.has, I.ok.cab, I.ok.hd, I.ok.frames, I.ok.stk, I.ok.exf, I.ok.bs, I.ok.bsz, I.ok.noex, I.ok.exfs, I.ok.funs, I.ok.frf⟩, I.os, I.bare, I.base, ⟨m, hn, fun i y v e1 e2 e3 => ?_⟩, I.cell, I.free, I.freeC, I.pin, I.hok, ?_⟩
  · have hi : i < σ.length := by
      rcases Nat.lt_or_ge i σ.length with z | z
      · exact z
      · rw [List.getElem?_append_right z] at e2
        cases q : i - σ.length with
        | zero => rw [q] at e2; simp at e2
        | succ j => rw [q] at e2; simp at e2
    rw [List.getElem?_append_left hi] at e2
    have e1 : (X.N ++ [x])[i]? = some y := e1
    rw [List.getElem?_append_left (by rw [← I.len]; exact hi)] at e1
    exact hl i y v e1 e2 e3
  · show (σ ++ [none]).length = (X.N ++ [x]).length
    simp [I.len]
theorem Inv.track {b : Addr} {o : HO} (I : Inv X pins σ H s) (ni : ¬ Imp X pins H b) (new : ObjOk X.prog X.w (upd H b o) s.heap b o) : Inv X pins σ (upd H b o) s := by
  have hb : H b = none := by
    cases q : H b with
    | none => rfl
    | some u => exact absurd (.inr (.inr (.inr (.inr ⟨u, q⟩)))) ni
  have nst : ∀ {c : Addr} {u : HO}, H c = some u → c ≠ b := fun {c u} q e => by subst e; rw [hb] at q; cases q
  refine ⟨I.ok, I.os, I.bare, ⟨I.base.keep, I.base.slot, fun c u q n hx => ?_, I.base.there, fun c xs q => ?_, fun c u xs q => ?_, fun c ps q => ?_⟩, I.loc, I.cell, ?_, fun y c e => ?_, fun p hp => ?_, fun c u q => ?_, I.len⟩
  · rw [upd_ne (fun e => ni (by subst e; exact .inl ⟨u, q⟩))]; exact I.base.free c u q n hx
  · have z := I.base.tups c xs q; rw [upd_ne (nst z)]; exact z
  · have z := I.base.frzs c u xs q; rw [upd_ne (nst z)]; exact z
  · obtain ⟨more, z⟩ := I.base.tbls c ps q
    exact ⟨more, by rw [upd_ne (nst z)]; exact z⟩
  · rw [upd_ne (fun e => ni (.inr (.inl e.symm)))]; exact I.free
  · rw [upd_ne (fun e => ni (.inr (.inr (.inr (.inl ⟨y, by rw [← e]; assumption⟩)))))]; exact I.freeC y c e
  · obtain ⟨e, n, ne, nf, d⟩ := I.pin p hp
    exact ⟨e, by rw [upd_ne (fun e => ni (.inr (.inr (.inl ⟨p, hp, e⟩))))]; exact n, ne, nf, d⟩
  · by_cases e : c = b
    · subst e; rw [upd_same] at q; cases q; exact new
    · rw [upd_ne e] at q
      exact (I.hok c u q).stay (fun _ _ _ r => r) (fun d r => by rw [upd_ne (nst r)]; exact r) fun d xs r => by rw [upd_ne (nst r)]; exact r
end
end L2.CF
namespace L2.CF
open PySem PySem.Spec PyProof.Rows
variable {K : PySem.W.Frag}
theorem Rep.more {G H : Hp} {σ : St} {ρ : DS} {A : Ft} {v : V} {d : D} (R : Rep K G H σ ρ A) (h : Pu K G v d) : Rep K G H (σ ++ [some v]) (ρ ++ [some (.p d)]) A := by
  refine ⟨R.imm, by simp [R.len], fun i r e => ?_, fun i e => ?_, R.disj⟩
  · rcases Nat.lt_or_ge i ρ.length with z | z
    · rw [List.getElem?_append_left z] at e
      obtain ⟨w, h1, h2⟩ := R.slot i r e
      exact ⟨w, by rw [List.getElem?_append_left (by rw [R.len]; exact z)]; exact h1, h2⟩
    · rw [List.getElem?_append_right z] at e
      cases q : i - ρ.length with
      | succ j => rw [q] at e; simp at e
      | zero =>
        rw [q] at e
        simp at e
        subst e
        have ei : i = ρ.length := by omega
        refine ⟨v, ?_, ?_, h⟩
        · rw [List.getElem?_append_right (by rw [R.len]; omega), R.len, q]; rfl
        · exact R.emp i fun r z => by rw [List.getElem?_eq_none_iff.mpr (by omega)] at z; cases z
  · refine R.emp i fun r z => e r ?_
    rw [List.getElem?_append_left (List.getElem?_eq_some_iff.mp z).1]
    exact z
def cutA (n : Nat) (A : Ft) : Ft := fun i => if i < n then A i else []
theorem take_get {α : Type} {l : List α} {n i : Nat} {a : α} (h : (l.take n)[i]? = some a) : i < n ∧ l[i]? = some a := by
  rw [List.getElem?_take] at h
  split at h
  · next z => exact ⟨z, h⟩
  · cases h
theorem Rep.less {G H : Hp} {σ : St} {ρ : DS} {A : Ft} (n : Nat) (R : Rep K G H σ ρ A) : Rep K G H (σ.take n) (ρ.take n) (cutA n A) := by
  refine ⟨R.imm, by rw [List.length_take, List.length_take, R.len], fun i r e => ?_, fun i e => ?_, fun i j a h1 h2 => ?_⟩
  · obtain ⟨hi, e⟩ := take_get e
    obtain ⟨w, h1, h2⟩ := R.slot i r e
    exact ⟨w, by rw [List.getElem?_take_of_lt hi]; exact h1, by unfold cutA; rw [if_pos hi]; exact h2⟩
  · unfold cutA
    split
    · next hi => exact R.emp i fun r z => e r (by rw [List.getElem?_take_of_lt hi]; exact z)
    · rfl
  · unfold cutA at h1 h2
    split at h1
    · split at h2
      · exact R.disj i j a h1 h2
      · simp at h2
    · simp at h1
theorem Evo.cut {G H G' H' : Hp} {A A' : Ft} (e : Evo G H A G' H' A') (n : Nat) : Evo G H A G' H' (cutA n A') := ⟨e.le, e.new, e.keep, fun i b hb => by
  unfold cutA at hb
  split at hb
  · exact e.foot i b hb
  · simp at hb⟩
section
variable {X : Cx} {P : Nat} {x n : Str} {np hpos pos : Pos} {body suite : List Stmt} {b0 : Stmt} {fb : FSX} {fs : FS} {mt : Str → Bool} {L : Nat}
end
end L2.CF
namespace L2.CF
open PySem PySem.Spec PyProof.Rows
variable {K : PySem.W.Frag}
abbrev FP := DS → Option (List (Key × D) × DS)
class KpP (P : Nat) (f : FP) : Prop where
  kp : ∀ ρ ds ρ', f ρ = some (ds, ρ') → Kp P ρ ρ'
section
variable {X : Cx} {P : Nat} {k v : Expr} {ks : List (Option Expr)} {vs : List Expr} {fk fv : FE} {g : FP} {pos : Pos}
end
section
variable {P : Nat} {fk fv : FE} {g : FP}
end
structure ENs (K : PySem.W.Frag) (mg : Str → Option Value) (c : Str) : Prop where
  ex : ∃ C, PySem.W.nsIn K mainGlobals c = some (some (.ref C)) ∧ mg c = some (.ref C) ∧ ECls K mg c C ∧ EAttr K C
structure IsO (K : PySem.W.Frag) (mg : Str → Option Value) (c x : Str) (b : Bool) : Prop where
  ex : ∃ D, mg x = some (.ref D) ∧ EKit K c (.ref D) b
structure IsT (K : PySem.W.Frag) (mg : Str → Option Value) (c x : Str) (T : String) (b : Bool) : Prop where
  mg : mg x = none
  boot : bootBuiltins x = some (.type T)
  ek : EKit K c (.type T) b
section
variable {X : Cx} {a : Expr} {fa : FE} {c0 x : Str} {b : Bool} {p p2 pos : Pos}
end
theorem bt_ValueError : bootBuiltins "ValueError" = some (.type "ValueError") := by decide +kernel
end L2.CF
namespace L2
open PySem PySem.Spec PyProof.Rows
theorem closure_ex {env : Env} : ∀ (names : List (Str × NameKind)) (cs : List (Str × Addr)), (∀ y ∈ names, y.2 = .free → ∃ c, env.cells.lookup y.1 = some c) → (∀ y c, cs.lookup y = some c → env.cells.lookup y = some c) →
    ∃ cl, (forIn (m := Sem) names cs fun (x : Str × NameKind) (r : List (Str × Addr)) => match x with
        | (name, kind) => if (kind == NameKind.free) = true then do
            let c ← cellOf env name
            pure (ForInStep.yield ((name, c) :: r))
          else pure (ForInStep.yield r)) = pure cl ∧ (∀ y c, cl.lookup y = some c → env.cells.lookup y = some c) ∧ (∀ y, (y, NameKind.free) ∈ names → ∃ c, cl.lookup y = some c) ∧ ∀ y c, cs.lookup y = some c → cl.lookup y = some c
  | [], cs, _, h => ⟨cs, rfl, h, fun _ z => by simp at z, fun _ _ z => z⟩
  | (n, k) :: names, cs, hn, h => by
    by_cases e : k = .free
    · subst e
      obtain ⟨c, hc⟩ := hn (n, .free) (by simp) rfl
      have h' : ∀ y c', ((n, c) :: cs).lookup y = some c' → env.cells.lookup y = some c' := fun y c' z => by
        rw [List.lookup_cons] at z
        split at z
        · next q => cases z; rw [beq_iff_eq.mp q]; exact hc
        · exact h y c' z
      obtain ⟨cl, e1, e2, e3, e4⟩ := closure_ex names ((n, c) :: cs) (fun y hy => hn y (by simp [hy])) h'
      refine ⟨cl, ?_, e2, fun y hy => ?_, fun y c' z => ?_⟩
      · rw [← e1, List.forIn_cons]
        have q : cellOf env n = pure c := by unfold cellOf; rw [hc]
        simp [q]
      · rcases List.mem_cons.mp hy with z | z
        · cases z
          exact ⟨c, e4 n c (by rw [List.lookup_cons]; simp)⟩
        · exact e3 y z
      · have q := h y c' z
        by_cases en : y = n
        · subst en
          rw [hc] at q; cases q
          exact e4 y c (by rw [List.lookup_cons]; simp)
        · have q2 : (y == n) = false := beq_eq_false_iff_ne.mpr en
          exact e4 y c' (by rw [List.lookup_cons, q2]; exact z)
    · obtain ⟨cl, e1, e2, e3, e4⟩ := closure_ex names cs (fun y hy => hn y (by simp [hy])) h
      refine ⟨cl, ?_, e2, fun y hy => ?_, e4⟩
      · rw [← e1, List.forIn_cons]
        have q : (k == NameKind.free) = false := beq_eq_false_iff_ne.mpr e
        simp [q]
      · rcases List.mem_cons.mp hy with z | z
        · cases z; exact absurd rfl e
        · exact e3 y z
theorem closure_of {env : Env} {sc : Scope} (h : ∀ y ∈ sc.names, y.2 = .free → ∃ c, env.cells.lookup y.1 = some c) :
    ∃ cl, closureFor sc env = pure cl ∧ (∀ y c, cl.lookup y = some c → env.cells.lookup y = some c) ∧ ∀ y, (y, NameKind.free) ∈ sc.names → ∃ c, cl.lookup y = some c := by
  obtain ⟨cl, e1, e2, e3, _⟩ := closure_ex (env := env) sc.names [] h (fun _ _ z => by simp at z)
  refine ⟨cl, ?_, e2, e3⟩
  unfold closureFor
  simp only
  rw [e1]
  rfl
def Cx.blk (X : Cx) (sc : Scope) (M : List Str) (x : Str) (cl : List (Str × Addr)) (C : Addr) (s : Shared) (H : Hp) (fp : List Addr) : Cx :=
  { X with N := M ++ [x], s₀ := s, H₀ := H, env := compEnvC sc cl C X.env, outer := X.stack, ex := fp, fn := fun _ => false, pn := [] }
structure BlkOk (X : Cx) (sc : Scope) (M : List Str) (x : Str) : Prop where
  kind : sc.kind = .function
  nocell : ∀ y ∈ sc.names, y.2 ≠ .cell
  own : ∀ y ∈ sc.names, y.2 = .local → sc.names.lookup y.1 = some .local
  free : ∀ y ∈ sc.names, y.2 = .free → X.env.kindOf y.1 = some .cell ∨ X.env.kindOf y.1 = some .free
  len : M.length = X.N.length
  mask : ∀ (i : Nat) (y : Str), M[i]? = some y → Vis (relabel sc X.env) y → X.N[i]? = some y ∧ (X.env.kindOf y = some .cell ∨ X.env.kindOf y = some .free) ∧ ((relabel sc X.env).names.lookup y = some .cell ∨ (relabel sc X.env).names.lookup y = some .free)
theorem lookup_mem {α : Type} {y : Str} {k : α} : ∀ {l : List (Str × α)}, l.lookup y = some k → (y, k) ∈ l
  | [], h => by simp at h
  | (n, a) :: l, h => by
    rw [List.lookup_cons] at h
    split at h
    · next q => cases h; rw [beq_iff_eq.mp q]; simp
    · exact List.mem_cons_of_mem _ (lookup_mem h)
theorem relabel_free {env : Env} {sc : Scope} (nc : ∀ y ∈ sc.names, y.2 ≠ .cell) {y : Str} (h : (relabel sc env).names.lookup y = some .cell ∨ (relabel sc env).names.lookup y = some .free) : (y, NameKind.free) ∈ sc.names := by
  have key : ∀ k, (y, k) ∈ (relabel sc env).names → (k = .cell ∨ k = .free) → (y, NameKind.free) ∈ sc.names := fun k hm hk => by
    obtain ⟨⟨n, k0⟩, h1, h2⟩ := List.mem_map.mp hm
    simp only at h2
    split at h2
    · next q =>
      cases h2
      simp only [Bool.and_eq_true, beq_iff_eq] at q
      rw [← q.1.1]; exact h1
    · cases h2
      rcases hk with rfl | rfl
      · exact absurd rfl (nc _ h1)
      · exact h1
  rcases h with h | h
  · exact key _ (lookup_mem h) (.inl rfl)
  · exact key _ (lookup_mem h) (.inr rfl)
section
variable {X : Cx} {sc : Scope} {M : List Str} {x : Str} {pins : List (Addr × Obj)} {σ : St} {H : Hp} {s : Shared} {cl : List (Str × Addr)} {fp : List Addr}
theorem blk_ok (B : BlkOk X sc M x) (I : Inv X pins σ H s) (hf : ∀ b ∈ fp, FpOk X pins H b) (ho : ∀ b ∈ fp, ∃ o, s.heap.get? b = some o ∧ ∀ v, o.data ≠ .cell v)
    (c1 : ∀ y c, cl.lookup y = some c → X.env.cells.lookup y = some c) (c2 : ∀ y, (y, NameKind.free) ∈ sc.names → ∃ c, cl.lookup y = some c) : (X.blk sc M x cl s.heap.objs.size s H fp).Ok where
  mod := I.ok.mod
  kind := B.kind
  glob := I.ok.glob
  blt := I.ok.blt
  above := Nat.le_refl _
  inj := fun a b c h1 h2 => I.ok.inj a b c (c1 _ _ h1) (c1 _ _ h2)
  has := fun y h => c2 y (relabel_free (env := X.env) B.nocell h)
  cab := fun y c h => by cases h
  hd := I.ok.hd
  frames := I.ok.frames
  stk := .inl rfl
  exf := fun b hb => by
    obtain ⟨o, e, _⟩ := ho b hb
    exact ⟨Nat.ne_of_lt (Heap.lt_size e), fun y c h => (hf b hb).2.2.2.2.1 y c (c1 _ _ h)⟩
  bs := fun b o e => I.bs b o e
  bsz := Nat.le_trans I.ok.bsz I.sz
  noex := fun b o e hb => by
    rcases (hf b hb).2.2.2.1 with z | z
    · exact I.ok.noex b o e z
    · exact absurd (Nat.lt_of_lt_of_le (Heap.lt_size e) (Nat.le_trans I.ok.bsz z)) (Nat.lt_irrefl _)
  exfs := fun b hb z => by
    rcases List.mem_cons.mp (I.stkSub b z) with e | e
    · exact (hf b hb).2.1 e
    · exact (hf b hb).2.2.1 e
  funs := I.stack
  frf := fun b hb => I.stkFree b hb
theorem blk_in {h' : Heap} (B : BlkOk X sc M x) (I : Inv X pins σ H s) (hf : ∀ b ∈ fp, FpOk X pins H b) (ho : ∀ b ∈ fp, ∃ o, s.heap.get? b = some o ∧ ∀ v, o.data ≠ .cell v)
    (c1 : ∀ y c, cl.lookup y = some c → X.env.cells.lookup y = some c) (c2 : ∀ y, (y, NameKind.free) ∈ sc.names → ∃ c, cl.lookup y = some c) {m : Str → Option Value} (hn : h'.Ns s.heap.objs.size m) (hk : ∀ b o, s.heap.get? b = some o → h'.get? b = some o) {t : Nat} :
    Inv (X.blk sc M x cl s.heap.objs.size s H fp) [] (σ ++ [none]) H { s with heap := h', toks := t } := by
  refine ⟨blk_ok B I hf ho c1 c2, rfl, I.bare, Un.kept hk, ⟨m, hn, fun i y v e1 e2 e3 => ?_⟩, fun y c e => ?_, I.hok.fresh (Nat.le_refl _), fun y c e => I.freeC y c (c1 y c e), fun p hp => by simp [Cx.blk] at hp, I.hok.kept hk, ?_⟩
  · have hi : i < σ.length := by
      rcases Nat.lt_or_ge i σ.length with z | z
      · exact z
      · rw [List.getElem?_append_right z] at e2
        cases q : i - σ.length with
        | zero => rw [q] at e2; simp at e2
        | succ j => rw [q] at e2; simp at e2
    rw [List.getElem?_append_left hi] at e2
    have e1 : (M ++ [x])[i]? = some y := e1
    rw [List.getElem?_append_left (by rw [B.len, ← I.len]; exact hi)] at e1
    obtain ⟨g1, g2, g3⟩ := B.mask i y e1 e3
    obtain ⟨m0, hn0, hl0⟩ := I.loc
    obtain ⟨u, ru, lu⟩ := hl0 i y v g1 e2 (.inr g2)
    refine ⟨u, ru, .inr ⟨g3, ?_⟩⟩
    rcases lu with ⟨k, _⟩ | ⟨_, c, hc, o, ho', hd⟩
    · rcases g2 with z | z <;> (rw [z] at k; cases k)
    · obtain ⟨c', hc'⟩ := c2 y (relabel_free (env := X.env) B.nocell g3)
      have := c1 y c' hc'
      rw [hc] at this
      cases this
      exact ⟨c, hc', o, hk c o ho', hd⟩
  · obtain ⟨v, o, e1, e2⟩ := I.cell y c (c1 y c e)
    exact ⟨v, o, hk c o e1, e2⟩
  · show (σ ++ [none]).length = (M ++ [x]).length
    simp [B.len, I.len]
theorem blk_out {σ' : St} {H' : Hp} {s' : Shared} {h' : Heap} (I : Inv X pins σ H s) (hf : ∀ b ∈ fp, FpOk X pins H b) (J : Inv (X.blk sc M x cl s.heap.objs.size s H fp) [] σ' H' s') (sb : Heap.SameBut s.heap.objs.size s'.heap h') : Inv X pins σ H' { s' with heap := h' } := by
  have I1 : Inv X pins σ H' s' := I.call' (ch := fp) J.os J.base J.hok J.bare fun b hb => ⟨(hf b hb).2.2.2.1, (hf b hb).2.1, (hf b hb).2.2.2.2.1, (hf b hb).2.2.2.2.2⟩
  refine I1.turned (it := s.heap.objs.size) (t' := s'.toks) (fun b o hb e => (sb.2 b hb).trans e) J.free (Nat.ne_of_gt I.lt) (.inr I.sz) (fun y c e z => ?_) fun p hp z => ?_
  · obtain ⟨v, q⟩ := I.cell y c e
    exact absurd q.lt (by rw [z]; exact Nat.lt_irrefl _)
  · exact absurd (Heap.lt_size (I.pin p hp).1) (by rw [z]; exact Nat.lt_irrefl _)
end
def PF (X : Cx) (ifs : List Expr) (t : TT) : Prop :=
  ∀ (pins : List (Addr × Obj)) (s : Shared) (σ : St) (H : Hp) (Q : Bool → Hp → Prop), Inv X pins σ H s → t σ H Q →
    wpAny (model X.prog X.w) X.A (forIn ifs true fun c r => if r = true then do
      let ok ← PySem.isTrue c X.env (eval c X.env)
      pure (ForInStep.yield ok) else pure (ForInStep.yield r)) (TP X pins σ Q) X.xe s
def tYes : TT := fun _ H Q => Q true H
theorem pf_nil {X : Cx} : PF X [] tYes := fun pins s σ H Q I h => by
  rw [List.forIn_nil]
  exact wpAny_pure ⟨H, I, h⟩
theorem pf_one {X : Cx} {c : Expr} {t : TT} (h : PT X c t) : PF X [c] t := fun pins s σ H Q I q => by
  rw [List.forIn_cons]
  simp only [if_true, List.forIn_nil, bind_assoc, pure_bind]
  exact wpAny_bind (thn (h pins s σ H Q I q) fun b s1 z => wpAny_pure z)
def tComp (wi : TI) (tt : TT) (te : TE) : TE := fun σ H Q => wi σ H fun J H1 => ∀ D, H1 D = none → ∃ W : Nat → Nat → Hp → Prop, (∃ m, W 0 m (upd H1 D (.lst []))) ∧ ∀ i m H, W i m H →
  (J.stop i H ∧ Q (.ref D) H) ∨ (J.go i H ∧ ∀ x H', J.yld i H x H' → tt (σ ++ [some x]) H' fun b H2 => if b = true then te (σ ++ [some x]) H2 fun y H3 => ∃ l, H3 D = some (.lst l) ∧ l.length < sizeLine ∧ ∃ m', m' < m ∧ W (i + 1) m' (upd H3 D (.lst (l ++ [y])))
    else ∃ m', m' < m ∧ W (i + 1) m' H2)
theorem comp_core {X : Cx} {use : Option (Value → Sem Unit)} {Qs : Value → Shared → Prop} {pins : List (Addr × Obj)} {s : Shared} {σ : St} {H : Hp} {Q : VK} {cpos : Pos} {elt iter : Expr} {ifs : List Expr} {x : Str} {px pos : Pos} {sc : Scope} {M : List Str} {wi : TI} {tt : TT} {te : TE} (hx : ∀ e s, X.xe e s → False) (hc : X.calm = true) (B : BlkOk X sc M x) (hnd : (M ++ [x]).Nodup) (hlx : sc.names.lookup x = some .local)
    (hlr : (relabel sc X.env).names.lookup x = some .local) (hi : PI X (.Name x px) iter wi) (ht : ∀ cl C s H fp, PF (X.blk sc M x cl C s H fp) ifs tt) (he : ∀ cl C s H fp, PE (X.blk sc M x cl C s H fp) elt te) (hs : ∀ v, foldedSetIterable iter X.env v = pure v) (I : Inv X pins σ H s) (h : tComp wi tt te σ H Q)
    (fin : ∀ (D : Addr) (s3 : Shared) (H3 H5 : Hp) (fp : List Addr) (cl : List (Str × Addr)) (o : Option V) (s6 : Shared), Inv X pins σ H3 s3 → (∀ b ∈ fp, FpOk X pins H3 b) → Inv (X.blk sc M x cl s3.heap.objs.size s3 H3 fp) [] (σ ++ [o]) H5 s6 → Q (.ref D) H5 → compPost (model X.prog X.w) X.A X.xe use Qs (.ref D) s3.heap.objs.size (.ok .next) s6) :
    wpAny (model X.prog X.w) X.A (comprehension (.ListComp elt [{ target := .Name x px, iter := iter, ifs := ifs, is_async := 0 }] sc pos) sc X.env cpos (newList []) false (eval iter X.env) use) Qs X.xe s := by
  obtain ⟨cl, hcl, c1, c2⟩ := closure_of (env := X.env) (sc := sc) fun y hy hk => I.ok.has y.1 (B.free y hy hk)
  refine wpAny_comprehension_free (cl := cl) rfl hs hcl B.kind B.own (thn (hi pins s σ H _ I h) fun v s1 h1 => thn h1 fun itv s2 h2 => ?_)
  obtain ⟨it, fp, tn, J, H2, e, I2, T, st2, f2, qD⟩ := h2
  subst e
  refine wpAny_newList ?_ (Nat.zero_le _)
  have hDn : H2 s2.heap.objs.size = none := I2.hok.fresh (Nat.le_refl _)
  have kp : ∀ b u, s2.heap.get? b = some u → (s2.heap.push { cls := Value.type "list", data := Data.seq [].toArray }).get? b = some u := fun b u e => Heap.get?_push_of_some _ e
  have I3 : Inv X pins σ (upd H2 s2.heap.objs.size (.lst [])) { s2 with heap := s2.heap.push { cls := Value.type "list", data := Data.seq [].toArray } } := I2.laid (t' := s2.toks) kp (Nat.le_refl _) ⟨Nat.zero_le _, [], 0, .nil, Heap.get?_push_size _ rfl⟩
  obtain ⟨W, ⟨m0, w0⟩, turn⟩ := qD _ hDn
  have ho2 := T.obj _ _ st2
  have f3 : ∀ b ∈ fp, FpOk X pins (upd H2 s2.heap.objs.size (.lst [])) b := fun b hb => by
    obtain ⟨o, e, _⟩ := ho2 b hb
    exact ⟨by rw [upd_ne (Nat.ne_of_lt (Heap.lt_size e))]; exact (f2 b hb).1, (f2 b hb).2⟩
  have ho3 : ∀ b ∈ fp, ∃ o, (s2.heap.push { cls := Value.type "list", data := Data.seq [].toArray }).get? b = some o ∧ ∀ v, o.data ≠ .cell v := fun b hb => by
    obtain ⟨o, e, d⟩ := ho2 b hb
    exact ⟨o, kp b o e, d⟩
  have st3 := T.keep _ _ _ st2 fun b _ o e => kp b o e
  generalize s2.heap.push { cls := Value.type "list", data := Data.seq [].toArray } = h3 at I3 ho3 st3 kp ⊢
  generalize hD : s2.heap.objs.size = D at I3 w0 turn f3 hDn ⊢
  clear hD kp ho2
  generalize upd H2 D (.lst []) = H3 at I3 w0 f3
  refine wpAny_newFunctionEnv B.nocell (by simp) (fun h4 ns4 sb4 => ?_) B.kind
  have kp4 : ∀ b u, h3.get? b = some u → h4.get? b = some u := fun b u e => (sb4.2 b (Nat.ne_of_lt (Heap.lt_size e))).trans (Heap.get?_push_of_some _ e)
  have I4 := blk_in (s := { s2 with heap := h3 }) (cl := cl) (t := s2.toks) B I3 f3 ho3 c1 c2 ns4 kp4
  have st4 := T.keep _ _ _ st3 fun b _ o e => kp4 b o e
  have stat : ∀ {H' : Hp}, (∀ b ∈ fp, H' b = none) → ∀ b ∈ fp, FpOk (X.blk sc M x cl h3.objs.size { s2 with heap := h3 } H3 fp) [] H' b := fun {H'} hn b hb => by
    obtain ⟨o, e, _⟩ := ho3 b hb
    refine ⟨hn b hb, Nat.ne_of_lt (Heap.lt_size e), fun z => ?_, .inl hb, fun y c q => (f3 b hb).2.2.2.2.1 y c (c1 _ _ q), fun p hp => by simp [Cx.blk] at hp⟩
    rcases List.mem_cons.mp (I3.stkSub b z) with e | e
    · exact (f3 b hb).2.1 e
    · exact (f3 b hb).2.2.1 e
  have hxi : (M ++ [x])[σ.length]? = some x := by rw [I.len, ← B.len]; simp
  have key : codeAny (model X.prog X.w) X.A (.compLoop (.ListComp elt [{ target := .Name x px, iter := iter, ifs := ifs, is_async := 0 }] sc pos) 0 (.ref it) (.ref D) (compEnvC sc cl h3.objs.size X.env))
      (compPost (model X.prog X.w) X.A X.xe use Qs (.ref D) h3.objs.size) { s2 with heap := h4 } := by
    refine codeAny_compLoop_tests (fun n s' => ∃ i o H', Inv (X.blk sc M x cl h3.objs.size { s2 with heap := h3 } H3 fp) [] (σ ++ [o]) H' s' ∧ tn i s'.heap ∧ (∀ b ∈ fp, H' b = none) ∧ W i n H') ?_ m0 ⟨0, none, H3, I4, st4, fun b hb => (f3 b hb).1, w0⟩
    rintro n s5 ⟨i, o, H5, I5, st5, fr5, w5⟩
    rcases turn i n H5 w5 with ⟨stop, q⟩ | ⟨go, step⟩
    · refine thn (T.done (X.blk sc M x cl h3.objs.size { s2 with heap := h3 } H3 fp) rfl rfl rfl hc i [] s5 _ H5 _ I5 (stat fr5) st5 stop) fun r s6 ⟨hr, I6⟩ => ?_
      subst hr
      exact fin D { s2 with heap := h3 } H3 H5 fp cl o s6 I3 f3 I6 q
    · refine thn (T.item (X.blk sc M x cl h3.objs.size { s2 with heap := h3 } H3 fp) rfl rfl rfl hc i [] s5 _ H5 _ I5 (stat fr5) st5 go) fun r s6 ⟨u, hr, h6⟩ => ?_
      subst hr
      have ea : assign (.Name x px) (compEnvC sc cl h3.objs.size X.env) u = (letOwnedTupleGo (.Name x px) (.ref it) u >>= fun _ => assign (.Name x px) (compEnvC sc cl h3.objs.size X.env) u) := by
        rw [show letOwnedTupleGo (.Name x px) (.ref it) u = pure () from rfl, pure_bind]
      show wpAny (model X.prog X.w) X.A (assign (.Name x px) (compEnvC sc cl h3.objs.size X.env) u) _ _ s6
      rw [ea]
      refine wpAny_bind (thn h6 fun _ s7 ⟨v, H7, I7, r7, y7, st7, fr7⟩ => ?_)
      have I7' := I7.pinned (stat fr7) (T.obj _ _ st7)
      have hset : (σ ++ [o]).set σ.length (some v) = σ ++ [some v] := by simp
      refine wpAny_mono (pg_name (X := X.blk sc M x cl h3.objs.size { s2 with heap := h3 } H3 fp) hnd hxi (.inl hlr) (.inr hlr) _ s7 _ H7 v u (fun σ' H' => σ' = σ ++ [some v] ∧ H' = H7) I7' r7 ⟨hset, rfl⟩) (fun _ s8 ⟨σ8, H8, I8, e1, e2⟩ => ?_) (fun e s z => (hx e s z).elim)
      subst e1 e2
      refine wpAny_mono (ht cl h3.objs.size { s2 with heap := h3 } H3 fp _ s8 _ H8 _ I8 (step v H8 y7)) (fun b s9 ⟨H9, I9, q9⟩ => ?_) (fun e s z => (hx e s z).elim)
      have again : ∀ {H' : Hp} {s' : Shared} {m' : Nat}, Inv (X.blk sc M x cl h3.objs.size { s2 with heap := h3 } H3 fp) ([] ++ pinsAt fp s7.heap) (σ ++ [some v]) H' s' → m' < n → W (i + 1) m' H' →
          ∃ m', m' < n ∧ ∃ i o H'', Inv (X.blk sc M x cl h3.objs.size { s2 with heap := h3 } H3 fp) [] (σ ++ [o]) H'' s' ∧ tn i s'.heap ∧ (∀ b ∈ fp, H'' b = none) ∧ W i m' H'' := fun {H' s' m'} J' hm w' => by
        refine ⟨m', hm, i + 1, some v, H', J'.unpinned, T.keep _ _ _ st7 fun b hb o e => (J'.pin (b, o) (List.mem_append_right _ (List.mem_append_right _ (mem_pinsAt hb e)))).1, fun b hb => ?_, w'⟩
        obtain ⟨o, e, d⟩ := T.obj _ _ st7 b hb
        exact (J'.pin (b, o) (List.mem_append_right _ (List.mem_append_right _ (mem_pinsAt hb e)))).2.1
      cases b with
      | false =>
        obtain ⟨m', hm, w'⟩ := q9
        exact again I9 hm w'
      | true =>
        refine wpAny_mono (he cl h3.objs.size { s2 with heap := h3 } H3 fp _ s9 _ H9 _ I9 q9) (fun y s10 ⟨vy, H10, I10, ry, l, hl, hz, m', hm, w'⟩ => ?_) (fun e s z => (hx e s z).elim)
        refine wpAny_mono (mt_append (X := X.blk sc M x cl h3.objs.size { s2 with heap := h3 } H3 fp) _ s10 _ H10 (.ref D) [vy] _ [y] (fun _ H' => H' = upd H10 D (.lst (l ++ [vy]))) I10 rfl (.cons ry .nil) ⟨D, l, vy, rfl, rfl, hl, hz, rfl⟩) (fun _ s11 ⟨_, H11, I11, _, e11⟩ => ?_) (fun e s z => (hx e s z).elim)
        subst e11
        exact again I11 hm w'
  exact codeAny_compStart_list key (T.self _ 0 _ _ _ st4 key)
theorem pe_comp {X : Cx} {elt iter : Expr} {ifs : List Expr} {x : Str} {px pos : Pos} {sc : Scope} {M : List Str} {wi : TI} {tt : TT} {te : TE} (hx : ∀ e s, X.xe e s → False) (hc : X.calm = true) (B : BlkOk X sc M x) (hnd : (M ++ [x]).Nodup) (hlx : sc.names.lookup x = some .local)
    (hlr : (relabel sc X.env).names.lookup x = some .local) (hi : PI X (.Name x px) iter wi) (ht : ∀ cl C s H fp, PF (X.blk sc M x cl C s H fp) ifs tt) (he : ∀ cl C s H fp, PE (X.blk sc M x cl C s H fp) elt te) (hs : ∀ v, foldedSetIterable iter X.env v = pure v) :
    PE X (.ListComp elt [{ target := .Name x px, iter := iter, ifs := ifs, is_async := 0 }] sc pos) (tComp wi tt te) := by
  intro pins s σ H Q I h
  rw [eval_ListComp]
  refine comp_core hx hc B hnd hlx hlr hi ht he hs I h fun D s3 H3 H5 fp cl o s6 I3 f3 I6 q => ?_
  obtain ⟨m6, hn6, _⟩ := id I6.loc
  exact ⟨m6, hn6, fun h' sb => ⟨.ref D, H5, blk_out I3 f3 I6 sb, rfl, q⟩⟩
theorem ps_comp {X : Cx} {elt iter : Expr} {ifs : List Expr} {x y : Str} {px py pos spos : Pos} {sc : Scope} {M : List Str} {wi : TI} {tt : TT} {te : TE} {i : Nat} (hx : ∀ e s, X.xe e s → False) (hc : X.calm = true) (B : BlkOk X sc M x) (hnd : (M ++ [x]).Nodup) (hlx : sc.names.lookup x = some .local)
    (hlr : (relabel sc X.env).names.lookup x = some .local) (hi : PI X (.Name x px) iter wi) (ht : ∀ cl C s H fp, PF (X.blk sc M x cl C s H fp) ifs tt) (he : ∀ cl C s H fp, PE (X.blk sc M x cl C s H fp) elt te) (hs : ∀ v, foldedSetIterable iter X.env v = pure v)
    (hN : X.N.Nodup) (hy : X.N[i]? = some y) (hl : X.env.scope.names.lookup y = some .local)
    (hsw : swapsWith (.ListComp elt [{ target := .Name x px, iter := iter, ifs := ifs, is_async := 0 }] sc pos) (some (.Name y py)) spos.line X.env = pure true) :
    PS X (.Assign [.Name y py] (.ListComp elt [{ target := .Name x px, iter := iter, ifs := ifs, is_async := 0 }] sc pos) spos) (tAsg (tComp wi tt te) (gName i)) := by
  intro pins s σ H D I h
  rw [arm_exec_Assign]
  refine wpAny_bind ?_
  refine wpAny_standAt ?_
  have e1 : swapsWithSole [.Name y py] (.ListComp elt [{ target := .Name x px, iter := iter, ifs := ifs, is_async := 0 }] sc pos) spos.line X.env = pure true := hsw
  rw [e1, pure_bind, if_pos rfl, arm_evalThenUse_ListComp]
  refine wpAny_bind (wpAny_bind (comp_core (Q := fun v H' => D.nx (σ.set i (some v)) H') hx hc B hnd hlx hlr hi ht he hs I h fun D0 s3 H3 H5 fp cl o s6 I3 f3 I6 q => ?_))
  show wpAny (model X.prog X.w) X.A (assignAll (.ref D0) [assign (.Name y py) X.env]) (fun _ s'' => ∃ m, s''.heap.Ns s3.heap.objs.size m ∧ ∀ h', Heap.SameBut s3.heap.objs.size s''.heap h' → wpAny _ _ _ _ _ _) X.xe s6
  have J6 : Inv X pins σ H5 s6 := by
    have z := blk_out (h' := s6.heap) I3 f3 I6 ⟨rfl, fun _ _ => rfl⟩
    exact z
  obtain ⟨m6, hn6, _⟩ := id I6.loc
  have hn6 : s6.heap.Ns s3.heap.objs.size m6 := hn6
  have hC : H5 s3.heap.objs.size = none := I6.free
  have neL : s3.heap.objs.size ≠ X.env.locals := Nat.ne_of_gt I3.lt
  have neC : ∀ x c, X.env.cells.lookup x = some c → c ≠ s3.heap.objs.size := fun x c e z => by
    obtain ⟨v, q⟩ := I3.cell x c e
    exact absurd q.lt (by rw [z]; exact Nat.lt_irrefl _)
  have neP : ∀ p ∈ X.pn ++ pins, p.1 ≠ s3.heap.objs.size := fun p hp z => absurd (Heap.lt_size (I3.pin p hp).1) (by rw [z]; exact Nat.lt_irrefl _)
  have st := store_ok2 (M := model X.prog X.w) (A := X.A) (E := X.xe) (Q := fun _ s'' => ∃ m, s''.heap.Ns s3.heap.objs.size m ∧ ∀ h', Heap.SameBut s3.heap.objs.size s''.heap h' → Inv X pins (σ.set i (some (.ref D0))) H5 { s'' with heap := h' }) J6 hN hy (.inl hl) (v := .ref D0) rfl (fun s7 I7 ⟨a, sb, ha⟩ => by
    have na : s3.heap.objs.size ≠ a := fun z => by
      rcases ha with e | e
      · exact neL (z.trans e)
      · exact neC _ _ e z.symm
    exact ⟨m6, hn6.sameBut sb na, fun h' sb' => I7.turned (it := s3.heap.objs.size) (t' := s7.toks) (fun b o hb e => (sb'.2 b hb).trans e) hC neL.symm.symm (.inr I3.sz) neC neP⟩) (.inr hl)
  rw [assignAll.eq_2]
  exact wpAny_assign_Name (thn st fun _ s7 ⟨m, hn, k⟩ => ⟨m, hn, fun h' sb => wpAny_pure (wpAny_pure ⟨_, H5, k h' sb, q⟩)⟩)
end L2
namespace L2.CF
open PySem PySem.Spec PyProof.Rows
variable {K : PySem.W.Frag}
theorem PF.imp {X : Cx} {ifs : List Expr} {t t' : TT} (h : PF X ifs t) (i : ∀ σ H Q, t' σ H Q → t σ H Q) : PF X ifs t' := fun pins s σ H Q I q => h pins s σ H Q I (i σ H Q q)
def DF (X : Cx) (ifs : List Expr) (f : FT) : Prop := ∀ ρ b ρ', f ρ = some (b, ρ') → PF X ifs (tDT X.K ρ b ρ')
def fYes : FT := fun ρ => some (true, ρ)
theorem df_nil {X : Cx} : DF X [] fYes := fun ρ b ρ' h => by
  cases h
  exact PF.imp pf_nil fun σ H Q ⟨G, A, R, k⟩ => k G H A (Evo.refl _ _ _) R
theorem df_one {X : Cx} {c : Expr} {f : FT} (h : DT X c f) : DF X [c] f := fun ρ b ρ' hf => pf_one (h ρ b ρ' hf)
instance {P : Nat} : KpT P fYes := ⟨fun ρ b ρ' h => by cases h; exact Kp.refl _⟩
def tAllF (K : PySem.W.Frag) (f : FT) : TT := fun σ H Q => ∃ ρ b ρ', f ρ = some (b, ρ') ∧ tDT K ρ b ρ' σ H Q
def tAllE (K : PySem.W.Frag) (f : FE) : TE := fun σ H Q => ∃ ρ rr ρ', f ρ = some (rr, ρ') ∧ tD K ρ rr ρ' σ H Q
theorem DF.all {X : Cx} {ifs : List Expr} {f : FT} (h : DF X ifs f) : PF X ifs (tAllF X.K f) := fun pins s σ H Q I ⟨ρ, b, ρ', e, q⟩ => h ρ b ρ' e pins s σ H Q I q
theorem DE.all {X : Cx} {e : Expr} {f : FE} (h : DE X e f) : PE X e (tAllE X.K f) := fun pins s σ H Q I ⟨ρ, rr, ρ', e, q⟩ => h ρ rr ρ' e pins s σ H Q I q
def compD (ft : FT) (fe : FE) (n : Nat) : List D → DS → Option (List D × DS)
  | [], ρ => some ([], ρ)
  | d :: ds, ρ => (ft (ρ ++ [some (.p d)])).bind fun p => if p.1 then (fe p.2).bind fun q => match q.1 with
      | .own r => (compD ft fe n ds (q.2.take n)).map fun z => (frzV r :: z.1, z.2)
      | .at _ => none
    else compD ft fe n ds (p.2.take n)
open Classical in
noncomputable def fComp (fi : FI) (ft : FT) (fe : FE) : FE := fun ρ => (fi ρ).bind fun p => (compD ft fe p.2.2.length p.1 p.2.2).bind fun q => if p.1.length ≤ sizeLine then match p.2.1 with
  | none => some (.own (.L q.1), q.2)
  | some (j, r) => if q.2[j]? = some none then some (.own (.L q.1), q.2.set j (some r)) else none
  else none
theorem Rep.aside {G H : Hp} {σ : St} {ρ : DS} {A : Ft} {p : Addr} {o : HO} (R : Rep K G H σ ρ A) (g : G p = none) (n : ∀ i, p ∉ A i) : Rep K G (upd H p o) σ ρ A :=
  ⟨fun b u q => by rw [upd_ne (fun e => by subst e; rw [g] at q; cases q)]; exact R.imm b u q, R.len, fun i r hi => by
    obtain ⟨w, g1, g2⟩ := R.slot i r hi
    refine ⟨w, g1, g2.stay (Le.refl _) (fun a ha u qa => ?_) fun a ha => g2.gfree ha⟩
    rw [upd_ne (fun e => by subst e; exact n i ha)]; exact qa, R.emp, R.disj⟩
theorem Evo.aside {G H G' H' : Hp} {A A' : Ft} {p : Addr} {o : HO} (e : Evo G H A G' H' A') (h : H p = none) : Evo G H A G' (upd H' p o) A' :=
  ⟨e.le, e.new, fun b u q n => by rw [upd_ne (fun z => by subst z; rw [h] at q; cases q)]; exact e.keep b u q n, e.foot⟩
theorem Src.aside {J : It} {ds : List D} {S : List Addr} {Sc : Hp → Hp → Prop} (src : Src K J ds S Sc) {G H : Hp} {p : Addr} {o : HO} (sc : Sc G H) (n : p ∉ S) : Sc G (upd H p o) := by
  refine src.evo G H (fun _ => [p]) G (upd H p o) (fun _ => [p]) ⟨Le.refl G, fun _ _ q => .inl q, fun b u q nb => ?_, fun i b hb => .inr ⟨i, hb⟩⟩ (fun i a ha z => ?_) sc
  · rw [upd_ne (fun e => by subst e; exact nb 0 (by simp))]; exact q
  · simp at z; subst z; exact n ha
section
variable {X : Cx} {elt iter : Expr} {ifs : List Expr} {x : Str} {px pos : Pos} {sc : Scope} {M : List Str} {fi : FI} {ft : FT} {fe : FE} {P : Nat}
theorem fComp_inv {ρ ρ' : DS} {rr : RR} (h : fComp fi ft fe ρ = some (rr, ρ')) : ∃ ds bk ρ1 es ρ2, fi ρ = some (ds, bk, ρ1) ∧ compD ft fe ρ1.length ds ρ1 = some (es, ρ2) ∧ ds.length ≤ sizeLine ∧ rr = .own (.L es) ∧ ((bk = none ∧ ρ' = ρ2) ∨ ∃ j r, bk = some (j, r) ∧ ρ2[j]? = some none ∧ ρ' = ρ2.set j (some r)) := by
  unfold fComp at h
  obtain ⟨⟨ds, bk, ρ1⟩, h1, h⟩ := obi h
  obtain ⟨⟨es, ρ2⟩, h2, h⟩ := obi h
  split at h
  · next hz =>
    cases bk with
    | none => cases h; exact ⟨ds, none, ρ1, es, ρ2, h1, h2, hz, rfl, .inl ⟨rfl, rfl⟩⟩
    | some jr =>
      obtain ⟨j, r⟩ := jr
      simp only at h
      split at h
      · next hj => cases h; exact ⟨ds, some (j, r), ρ1, es, ρ2, h1, h2, hz, rfl, .inr ⟨j, r, rfl, hj, rfl⟩⟩
      · cases h
  · cases h
theorem comp_ent {ρ ρ' : DS} {rr : RR} (hf : fComp fi ft fe ρ = some (rr, ρ')) : ∃ ds bk ρ1, fi ρ = some (ds, bk, ρ1) ∧ ∀ σ H Q, tD K ρ rr ρ' σ H Q → tComp (tDI K ρ ds bk ρ1) (tAllF K ft) (tAllE K fe) σ H Q := by
  obtain ⟨ds, bk, ρ1, es, ρ2, h1, h2, hz, rfl, hbk⟩ := fComp_inv hf
  refine ⟨ds, bk, ρ1, h1, fun σ H Q ⟨G, A, R, k⟩ => ⟨G, A, R, fun J G1 H1 A1 S Sc v1 R1 src sc ap fr ok D hD => ?_⟩⟩
  have nS : D ∉ S := fun z => by obtain ⟨o, q⟩ := src.there _ _ sc D z; rw [hD] at q; cases q
  have nA1 : ∀ i, D ∉ A1 i := fun i z => by obtain ⟨o, q⟩ := R1.there z; rw [hD] at q; cases q
  have hn : σ.length = ρ1.length := R1.len
  refine ⟨fun i m H' => m = ds.length - i ∧ i ≤ ds.length ∧ ∃ G' A' ρi dn rest, Evo G1 H1 A1 G' H' A' ∧ Rep K G' H' σ ρi A' ∧ Sc G' H' ∧ (∀ j, ∀ a ∈ S, a ∉ A' j) ∧ RepV K G' H' (.ref D) (.L dn) [D] ∧ (∀ j, D ∉ A' j) ∧ dn.length ≤ i ∧ compD ft fe ρ1.length (ds.drop i) ρi = some (rest, ρ2) ∧ es = dn ++ rest,
    ⟨ds.length, by simp, Nat.zero_le _, G1, A1, ρ1, [], es, (Al.own R1.imm hD).evo, (Al.own R1.imm hD).rep R1, src.aside sc nS, ap, new_L R1.imm hD .nil, nA1, Nat.zero_le _, by rw [List.drop_zero]; exact h2, rfl⟩, ?_⟩
  rintro i m H2 ⟨rfl, hi', G2, A2, ρi, dn, rest, e2, R2, sc2, ap2, hd2, nA2, hdn, hcd, rfl⟩
  by_cases hlt : i < ds.length
  · have hd : ds[i]? = some ds[i] := List.getElem?_eq_getElem hlt
    rw [List.drop_eq_getElem_cons hlt] at hcd
    unfold compD at hcd
    obtain ⟨⟨b, ρt⟩, ht1, hcd⟩ := obi hcd
    obtain ⟨go, yl⟩ := src.go i _ G2 H2 R2.imm sc2 hd
    refine .inr ⟨go, fun v H3 y => ?_⟩
    obtain ⟨G3, al, pv⟩ := yl v H3 y
    have e3 := e2.trans al.evo
    have R3 := al.rep R2
    have sc3 := src.evo _ _ A2 _ _ A2 al.evo ap2 sc2
    have hd3 := al.rv hd2
    have tk : (σ ++ [some v]).take ρ1.length = σ := by rw [← hn]; simp
    refine ⟨ρi ++ [some (.p ds[i])], b, ρt, ht1, G3, A2, R3.more pv, fun G4 H4 A4 e4 R4 => ?_⟩
    have sc4 := src.evo _ _ _ _ _ _ e4 ap2 sc3
    have ap4 := src.apart e4 sc3 ap2
    have hd4 := e4.held hd3 (fun j a ha => by simp at ha; subst ha; exact nA2 j)
    have nA4 : ∀ j, D ∉ A4 j := fun j => e4.heldApart hd3 (fun j a ha => by simp at ha; subst ha; exact nA2 j) j D (by simp)
    cases b with
    | false =>
      refine ⟨ds.length - (i + 1), by omega, rfl, hlt, G4, cutA ρ1.length A4, ρt.take ρ1.length, dn, rest, (e3.trans e4).cut _, ?_, sc4, fun j a ha z => ?_, hd4, fun j z => ?_, by omega, hcd, rfl⟩
      · have := R4.less ρ1.length
        rw [tk] at this
        exact this
      · unfold cutA at z
        split at z
        · exact ap4 j a ha z
        · simp at z
      · unfold cutA at z
        split at z
        · exact nA4 j z
        · simp at z
    | true =>
      obtain ⟨⟨rr, ρe⟩, hfe, hcd⟩ := obi hcd
      cases rr with
      | «at» q => cases hcd
      | own r =>
        obtain ⟨⟨rest', ρ3⟩, hcd', e0⟩ := omi hcd
        cases e0
        refine ⟨ρt, .own r, ρe, hfe, G4, A4, R4, fun y G5 H5 A5 Sy e5 R5 ⟨ry, apy⟩ fry => ?_⟩
        have sc5 := src.evo _ _ _ _ _ _ e5 ap4 sc4
        have ap5 := src.apart e5 sc4 ap4
        have hD4 : ∀ j, ∀ a ∈ [D], a ∉ A4 j := fun j a ha => by simp at ha; subst ha; exact nA4 j
        have hd5 := e5.held hd4 hD4
        have nA5 : ∀ j, D ∉ A5 j := fun j => e5.heldApart hd4 hD4 j D (by simp)
        have nSy : D ∉ Sy := fun z => by
          rcases fry D z with q | ⟨j, q⟩
          · obtain ⟨o, q'⟩ := hd4.there (a := D) (by simp)
            rw [q] at q'; cases q'
          · exact nA4 j q
        obtain ⟨G6, l1, l2, nw, pu⟩ := ry.frz R5.imm
        have R6 := R5.frzG l1 l2 nw apy
        have e6 : Evo G4 H4 A4 G6 H5 A5 := ⟨e5.le.trans l1, fun b o q => by
          rcases nw b o q with q | q
          · exact e5.new b o q
          · exact .inr (fry b q), e5.keep, e5.foot⟩
        have sc6 := src.evo _ _ _ _ _ _ e6 ap4 sc4
        have hd6 := e6.held hd4 hD4
        obtain ⟨D', vs, eD, _, hH, hG, zs⟩ := hd6
        cases eD
        have hl : vs.length = dn.length := zs.length
        refine ⟨vs, hH, by omega, ds.length - (i + 1), by omega, rfl, hlt, G6, cutA ρ1.length A5, ρe.take ρ1.length, dn ++ [frzV r], rest', ((e3.trans e4).trans e6).cut _ |>.aside hD, ?_, src.aside sc6 nS, fun j a ha z => ?_, ⟨D, vs ++ [y], rfl, rfl, upd_same, hG, zs.append (.cons pu .nil)⟩, fun j z => ?_, by simp; omega, hcd', by simp⟩
        · have := (R6.less ρ1.length).aside (p := D) (o := .lst (vs ++ [y])) hG fun j z => by
            unfold cutA at z
            split at z
            · exact nA5 j z
            · simp at z
          rw [tk] at this
          exact this
        · unfold cutA at z
          split at z
          · exact ap5 j a ha z
          · simp at z
        · unfold cutA at z
          split at z
          · exact nA5 j z
          · simp at z
  · have e : ds.drop i = [] := List.drop_eq_nil_of_le (by omega)
    rw [e] at hcd
    cases hcd
    refine .inl ⟨src.stop i G2 H2 R2.imm sc2 (by omega), ?_⟩
    rw [List.append_nil] at k
    rcases hbk with ⟨rfl, rfl⟩ | ⟨j, r, rfl, hj, rfl⟩
    · exact k _ G2 H2 A2 [D] (v1.trans e2) R2 ⟨hd2, fun j a ha => by simp at ha; subst ha; exact nA2 j⟩ fun a ha => by simp at ha; subst ha; exact v1.back hD
    · obtain ⟨v, hv, hr⟩ := ok
      refine k _ G2 H2 _ [D] ((v1.trans e2).storeA fr) (R2.back hj hv (hr _ _ sc2) ap2) ⟨hd2, fun q a ha z => ?_⟩ fun a ha => by simp at ha; subst ha; exact v1.back hD
      simp at ha
      subst ha
      by_cases eq : q = j
      · simp only [eq, if_true] at z; exact nS z
      · simp only [eq, if_false] at z; exact nA2 q z
theorem de_comp (hx : ∀ e s, X.xe e s → False) (hc : X.calm = true) (B : BlkOk X sc M x) (hnd : (M ++ [x]).Nodup) (hi : DI X (.Name x px) iter fi) (ht : ∀ cl C s H fp, DF (X.blk sc M x cl C s H fp) ifs ft) (he : ∀ cl C s H fp, DE (X.blk sc M x cl C s H fp) elt fe)
    (hlx : sc.names.lookup x = some .local := by rfl) (hlr : (relabel sc X.env).names.lookup x = some .local := by rfl) (hs : ∀ v, foldedSetIterable iter X.env v = pure v := by intro _; rfl) :
    DE X (.ListComp elt [{ target := .Name x px, iter := iter, ifs := ifs, is_async := 0 }] sc pos) (fComp fi ft fe) := by
  intro ρ rr ρ' hf
  obtain ⟨ds, bk, ρ1, h1, ent⟩ := comp_ent (K := X.K) hf
  exact PE.imp (pe_comp (tt := tAllF X.K ft) (te := tAllE X.K fe) hx hc B hnd hlx hlr (hi _ _ _ _ h1) (fun cl C s H fp => (ht cl C s H fp).all) (fun cl C s H fp => (he cl C s H fp).all) hs) ent
theorem Kp.cut {ρ ρ' : DS} {o : Option RV} (k : Kp P (ρ ++ [o]) ρ') : Kp P ρ (ρ'.take ρ.length) := by
  have hl : ρ'.length = ρ.length + 1 := by rw [k.1]; simp
  refine ⟨by rw [List.length_take, hl]; omega, fun i => ⟨fun r h => ?_, fun h => ?_⟩⟩
  · have hi : i < ρ.length := (List.getElem?_eq_some_iff.mp h).1
    obtain ⟨r', h1, h2⟩ := (k.2 i).1 r (by rw [List.getElem?_append_left hi]; exact h)
    exact ⟨r', by rw [List.getElem?_take_of_lt hi]; exact h1, h2⟩
  · have hi : i < ρ.length := (List.getElem?_eq_some_iff.mp h).1
    rw [List.getElem?_take_of_lt hi]
    exact (k.2 i).2 (by rw [List.getElem?_append_left hi]; exact h)
theorem compD_kp [kt : KpT P ft] [ke : KpE P fe] : ∀ {ds : List D} {ρ ρ2 : DS} {es : List D}, compD ft fe ρ.length ds ρ = some (es, ρ2) → Kp P ρ ρ2
  | [], ρ, ρ2, es, h => by cases h; exact Kp.refl _
  | d :: ds, ρ, ρ2, es, h => by
    unfold compD at h
    obtain ⟨⟨b, ρt⟩, h1, h⟩ := obi h
    have k1 := kt.kp _ _ _ h1
    cases b with
    | false =>
      have kc := k1.cut
      have h : compD ft fe ρ.length ds (ρt.take ρ.length) = some (es, ρ2) := h
      rw [← kc.1] at h
      exact kc.trans (compD_kp (ρ := ρt.take ρ.length) (by rw [← h, kc.1]))
    | true =>
      obtain ⟨⟨rr, ρe⟩, h2, h⟩ := obi h
      cases rr with
      | «at» i => cases h
      | own r =>
        obtain ⟨⟨es', ρ3⟩, h3, h4⟩ := omi h
        cases h4
        have kc := (k1.trans (ke.kp _ _ _ h2)).cut
        have h3 : compD ft fe ρ.length ds (ρe.take ρ.length) = some (es', ρ3) := h3
        rw [← kc.1] at h3
        exact kc.trans (compD_kp (ρ := ρe.take ρ.length) (by rw [← h3, kc.1]))
instance [ki : KpI P fi] [kt : KpT P ft] [ke : KpE P fe] : KpE P (fComp fi ft fe) := ⟨fun ρ rr ρ' h => by
  obtain ⟨ds, bk, ρ1, es, ρ2, h1, h2, hz, rfl, hbk⟩ := fComp_inv h
  have kp := ki.kp _ _ _ _ h1
  have k2 := compD_kp (P := P) h2
  rcases hbk with ⟨rfl, rfl⟩ | ⟨j, r, rfl, hj, rfl⟩
  · have kp : Kp P ρ ρ1 := kp
    exact kp.trans k2
  · obtain ⟨ρ0, k0, hj0, ho, rfl⟩ := kp
    have hl0 : j < ρ0.length := (List.getElem?_eq_some_iff.mp hj0).1
    have hl2 : j < ρ2.length := (List.getElem?_eq_some_iff.mp hj).1
    refine k0.trans ⟨by rw [List.length_set, k2.1, List.length_set], fun i => ⟨fun q hq => ?_, fun hq => ?_⟩⟩
    · by_cases e : j = i
      · subst e
        rw [hj0] at hq; cases hq
        exact ⟨_, List.getElem?_set_self hl2, fun _ => rfl⟩
      · obtain ⟨r', g1, g2⟩ := (k2.2 i).1 q (by rw [List.getElem?_set_ne e]; exact hq)
        exact ⟨r', by rw [List.getElem?_set_ne e]; exact g1, g2⟩
    · by_cases e : j = i
      · subst e; rw [hj0] at hq; cases hq
      · rw [List.getElem?_set_ne e]
        exact (k2.2 i).2 (by rw [List.getElem?_set_ne e]; exact hq)⟩
theorem ds_setC {i : Nat} {y : Str} {py spos : Pos} (hN : X.N.Nodup) (hy : X.N[i]? = some y) (hl : X.env.scope.names.lookup y = some .local) (hx : ∀ e s, X.xe e s → False) (hc : X.calm = true) (B : BlkOk X sc M x) (hnd : (M ++ [x]).Nodup) (hi : DI X (.Name x px) iter fi) (ht : ∀ cl C s H fp, DF (X.blk sc M x cl C s H fp) ifs ft) (he : ∀ cl C s H fp, DE (X.blk sc M x cl C s H fp) elt fe)
    [ki : KpI P fi] [kt : KpT P ft] [ke : KpE P fe] (hlx : sc.names.lookup x = some .local := by rfl) (hlr : (relabel sc X.env).names.lookup x = some .local := by rfl) (hs : ∀ v, foldedSetIterable iter X.env v = pure v := by intro _; rfl)
    (hsw : swapsWith (.ListComp elt [{ target := .Name x px, iter := iter, ifs := ifs, is_async := 0 }] sc pos) (some (.Name y py)) spos.line X.env = pure true := by rfl) :
    DSt P X (.Assign [.Name y py] (.ListComp elt [{ target := .Name x px, iter := iter, ifs := ifs, is_async := 0 }] sc pos) spos) (sSet P i (fComp fi ft fe)) := by
  intro ρ fl ρ' h
  unfold sSet at h
  obtain ⟨⟨rr, ρ1⟩, e1, h⟩ := obi h
  cases rr with
  | own r =>
    obtain ⟨ρ2, h1, h2⟩ := omi h
    cases h2
    obtain ⟨ds, bk, ρ3, g1, ent⟩ := comp_ent (K := X.K) e1
    have hk : KpE P (fComp fi ft fe) := inferInstance
    refine PS.imp (ps_comp (tt := tAllF X.K ft) (te := tAllE X.K fe) hx hc B hnd hlx hlr (hi _ _ _ _ g1) (fun cl C s H fp => (ht cl C s H fp).all) (fun cl C s H fp => (he cl C s H fp).all) hs hN hy hl hsw) fun D σ H ⟨G, A, R, k⟩ => ent σ H _ ⟨G, A, R, fun v G1 H1 A1 S e R1 q f1 => ?_⟩
    obtain ⟨R2, p2⟩ := R1.store (P := P) h1 q.1 q.2
    exact k _ G1 H1 _ (e.storeA f1) R2 ((hk.kp _ _ _ e1).pin.trans p2)
  | «at» j => cases h
end
end L2.CF
namespace L2
open PySem PySem.Spec PyProof.Rows
section
variable {X : Cx}
end
end L2
namespace L2.CF
open PySem PySem.Spec PyProof.Rows
variable {K : PySem.W.Frag}
section
variable {X : Cx} {a b c : Expr} {fa fb fc : FE} {pos : Pos} {P : Nat}
end
def blkChk (kf : Str → Option NameKind) (sc R : Scope) (N M : List Str) : Bool :=
  sc.kind == .function && sc.names.all (fun y => y.2 != .cell) && sc.names.all (fun y => y.2 != .local || sc.names.lookup y.1 == some .local) && sc.names.all (fun y => y.2 != .free || kf y.1 == some .cell || kf y.1 == some .free) && M.length == N.length
    && (M.zip N).all fun p => match R.names.lookup p.1 with
      | some .local => false
      | some .cell => p.1 == p.2 && (kf p.1 == some .cell || kf p.1 == some .free)
      | some .free => p.1 == p.2 && (kf p.1 == some .cell || kf p.1 == some .free)
      | _ => true
theorem blk_of {X : Cx} {sc : Scope} {M : List Str} {x : Str} (h : blkChk X.env.kindOf sc (relabel sc X.env) X.N M = true) : BlkOk X sc M x := by
  unfold blkChk at h
  simp only [Bool.and_eq_true, beq_iff_eq, List.all_eq_true, Bool.or_eq_true, bne_iff_ne, ne_eq] at h
  obtain ⟨⟨⟨⟨⟨h1, h2⟩, h3⟩, h4⟩, h5⟩, h6⟩ := h
  refine ⟨h1, h2, fun y hy e => (h3 y hy).resolve_left (fun z => z e), fun y hy e => ?_, h5, fun i y hi hv => ?_⟩
  · rcases h4 y hy with (z | z) | z
    · exact absurd e z
    · exact .inl z
    · exact .inr z
  · have hiM : i < M.length := (List.getElem?_eq_some_iff.mp hi).1
    have hN : X.N[i]? = some (X.N[i]'(by omega)) := List.getElem?_eq_getElem (by omega)
    have hm : (y, X.N[i]'(by omega)) ∈ M.zip X.N := by
      refine List.mem_of_getElem? (i := i) ?_
      rw [List.getElem?_zip_eq_some]
      exact ⟨hi, hN⟩
    have q := h6 _ hm
    rcases hv with z | z | z
    · rw [z] at q; cases q
    · rw [z] at q
      simp only [Bool.and_eq_true, beq_iff_eq, Bool.or_eq_true] at q
      exact ⟨by rw [hN]; exact congrArg some q.1.symm, q.2, .inl z⟩
    · rw [z] at q
      simp only [Bool.and_eq_true, beq_iff_eq, Bool.or_eq_true] at q
      exact ⟨by rw [hN]; exact congrArg some q.1.symm, q.2, .inr z⟩
end L2.CF
namespace L2.CF
open PySem PySem.Spec PyProof.Rows
variable {K : PySem.W.Frag}
abbrev GRm := RV → List RV → Option RV
section
variable {X : Cx} {o e : Expr} {es : List Expr} {fo fe fi : FE} {fa : FA} {name : Str} {apos cpos pos : Pos} {id T : String} {g : GRm} {P : Nat}
def strsD : List D → Option (List Str)
  | [] => some []
  | .str i :: ds => (strsD ds).map (i :: ·)
  | _ :: _ => none
def gJoin : GRm
  | .p (.str sep), [x] => (itemsL x).bind fun ds => (strsD ds).bind fun ys => if (ys.map Str.length).sum + ys.length * sep.length ≤ 16777216 then some (.p (.str (Txt.join sep ys))) else none
  | _, _ => none
end
section
variable {X : Cx} {o e : Expr} {es : List Expr} {fo fe fi : FE} {fa : FA} {name : Str} {apos cpos pos : Pos} {id T : String} {g : GRm} {P : Nat}
def gPopAt : GLm := fun ds xs => match xs with
  | [.p (.int i)] => if 0 ≤ i ∧ i < 100000 then (ds[i.toNat]?).map fun d => (ds.eraseIdx i.toNat, d) else none
  | _ => none
def gAbs : GL
  | [.p (.int i)] => some (.p (.int (if i < 0 then -i else i)))
  | _ => none
theorem c_abs : CallD X (.builtin "abs") gAbs := by
  intro xs r e
  unfold gAbs at e
  split at e
  · next i =>
    cases e
    refine CallR.imp call_abs fun vs H Q ⟨G, l, h, q⟩ => ?_
    obtain ⟨v, S, rfl, hv⟩ := h.one
    exact ⟨i, by rw [pu_int hv], q _ G H [] (Al.refl l) ⟨rfl, .int⟩ (by simp)⟩
  · cases e
end
end L2.CF
namespace L2.CF
open PySem PySem.Spec PyProof.Rows
variable {K : PySem.W.Frag}
structure TupC (K : PySem.W.Frag) (mg : Str → Option Value) (x : Str) (ys : List Str) : Prop where
  ex : ∃ a o its n, mg x = some (.ref a) ∧ K.lookup a = some o ∧ o.cls = .type "tuple" ∧ o.dict = none ∧ o.data = .seq its n ∧ its.size ≤ sizeLine ∧ StrsAre its.toList ys
section
variable {X : Cx} {e : Expr} {fe : FE} {x : Str} {ys : List Str} {apos cpos pos p : Pos} {P : Nat}
end
section
variable {X : Cx} {P : Nat} {a : Expr} {es : List Expr} {f : FG} {r : FGs} {pos : Pos}
end
end L2.CF
namespace L2.CF
open PySem PySem.Spec
def ownB (ρ : DS) (i : Nat) : Bool := match ρ[i]? with
  | some (some r) => ownd r
  | _ => false
section
variable {P i n : Nat} {f g : FS} {fa fb : FE} {ga gb : FA} {ta tb : FT} {ρ : DS} {d : D} {x y : RV} {g2 : G2} {gl : GL} {gm : GLm} {F : FF} {xs : List RV} {rs : List RR}
@[simp] theorem e_runBody : runBody n f xs = (f (xs.map some ++ List.replicate (n - xs.length) none)).bind fun q => match q.1 with
  | .rt r => (outAt q.2 0 xs).map fun ys => (r, ys)
  | .nx => (outAt q.2 0 xs).map fun ys => (.p .non, ys)
  | _ => none := rfl
@[simp] theorem e_outN : outAt ρ i [] = some [] := rfl
@[simp] theorem e_outC : outAt ρ i (x :: xs) = (match ownd x, ρ[i]? with
    | false, _ => some x
    | true, some (some r) => if ownd r ∧ sat r = sat x then some r else none
    | true, _ => none).bind fun y => (outAt ρ (i + 1) xs).map (y :: ·) := rfl
@[simp] theorem e_seq : sSeq f g ρ = (f ρ).bind fun p => match p.1 with
  | .nx => g p.2
  | fl => some (fl, p.2) := rfl
@[simp] theorem e_next : sNext ρ = some (.nx, ρ) := rfl
@[simp] theorem e_expr : sExpr fa ρ = (fa ρ).map fun p => (.nx, p.2) := rfl
@[simp] theorem e_ret : sRet P fa ρ = (fa ρ).bind fun p => match p.1 with
  | .own r => some (.rt r, p.2)
  | .at i => if i < P then none else (res p.2 (.at i)).map fun r => (.rt r, p.2.set i none) := rfl
@[simp] theorem e_sif : sIf ta f g ρ = (ta ρ).bind fun p => if p.1 then f p.2 else g p.2 := rfl
@[simp] theorem e_set : sSet P i fa ρ = (fa ρ).bind fun p => match p.1 with
  | .own r => (setAt P i r p.2).map fun ρ2 => (.nx, ρ2)
  | .at _ => none := rfl
theorem ownAt_iff : ownAt ρ i ↔ ownB ρ i = true := by
  unfold ownAt ownB
  constructor
  · rintro ⟨r, h1, h2⟩; rw [h1]; exact h2
  · intro h
    split at h
    · next r q => exact ⟨r, q, h⟩
    · cases h
@[simp] theorem e_setAt {r : RV} : setAt P i r ρ = if i < ρ.length ∧ ¬ (i < P ∧ ownB ρ i = true) then some (ρ.set i (some r)) else none := by
  unfold setAt
  by_cases h : i < ρ.length ∧ ¬ (i < P ∧ ownAt ρ i)
  · rw [if_pos h, if_pos (by rw [← ownAt_iff]; exact h)]
  · rw [if_neg h, if_neg (by rw [← ownAt_iff]; exact h)]
@[simp] theorem e_ownB : ownB ρ i = match ρ[i]? with
  | some (some r) => ownd r
  | _ => false := rfl
@[simp] theorem e_satL {l : List D} : sat (.L l) = none := rfl
@[simp] theorem e_satK {l : List (Key × D)} : sat (.K l) = none := rfl
@[simp] theorem e_satS {l m : List D} {a : Addr} : sat (.S l a m) = some a := rfl
@[simp] theorem e_ownS {l m : List D} {a : Addr} : ownd (.S l a m) = true := rfl
@[simp] theorem e_ownp : ownd (.p d) = false := rfl
@[simp] theorem e_ownL {l : List D} : ownd (.L l) = true := rfl
@[simp] theorem e_ownK {l : List (Key × D)} : ownd (.K l) = true := rfl
@[simp] theorem e_f2 : f2 g2 fa fb ρ = (fa ρ).bind fun p => (fb p.2).bind fun q => (res q.2 p.1).bind fun x => (res q.2 q.1).bind fun y => (g2 x y).map fun r => (.own r, q.2) := rfl
@[simp] theorem e_f1 {g : RV → Option RV} : f1 g fa ρ = (fa ρ).bind fun p => (res p.2 p.1).bind fun x => (g x).map fun r => (.own r, p.2) := rfl
@[simp] theorem e_var : fVar i ρ = match ρ[i]? with
  | some (some (.p d)) => some (.own (.p d), ρ)
  | some (some _) => some (.at i, ρ)
  | _ => none := rfl
@[simp] theorem e_c : fC d ρ = some (.own (.p d), ρ) := rfl
@[simp] theorem e_neg {i : Int} : gNeg (.p (.int i)) = some (.p (.int (-i))) := rfl
@[simp] theorem e_resO : res ρ (.own x) = some x := rfl
@[simp] theorem e_resA : res ρ (.at i) = ρ[i]?.join := rfl
@[simp] theorem e_gI {C : Int → Int → Bool} {g : Int → Int → D} {i j : Int} : gI C g (.p (.int i)) (.p (.int j)) = if C i j then some (.p (g i j)) else none := rfl
@[simp] theorem e_gMod {i j : Int} : gMod (.p (.int i)) (.p (.int j)) = if 0 < j then some (.p (.int (i % j))) else none := by simp [gMod]
@[simp] theorem e_gLt {i j : Int} : gLt (.p (.int i)) (.p (.int j)) = some (.p (.bl (decide (i < j)))) := rfl
@[simp] theorem e_addI {i j : Int} : gAdd (.p (.int i)) (.p (.int j)) = some (.p (.int (i + j))) := rfl
@[simp] theorem e_addS {i j : Str} : gAdd (.p (.str i)) (.p (.str j)) = if i.length + j.length ≤ sizeLine then some (.p (.str (i ++ j))) else none := rfl
@[simp] theorem e_addLL {l m : List D} : gAdd (.L l) (.L m) = if l.length + m.length ≤ sizeLine then some (.L (l ++ m)) else none := by simp [gAdd, itemsL]
@[simp] theorem e_addLp {l m : List D} : gAdd (.L l) (.p (.lst m)) = if l.length + m.length ≤ sizeLine then some (.L (l ++ m)) else none := by simp [gAdd, itemsL]
@[simp] theorem e_ixS {z : Str} {i : Int} : gIx (.p (.str z)) (.p (.int i)) = if z.length ≤ sizeLine then (atI z.cps.toList i).map fun c => .p (.str ⟨#[c]⟩) else none := rfl
@[simp] theorem e_ixT {l : List D} {i : Int} : gIx (.p (.tup l)) (.p (.int i)) = (atI l i).map .p := rfl
@[simp] theorem e_ixl {l : List D} {i : Int} : gIx (.p (.lst l)) (.p (.int i)) = (atI l i).map .p := rfl
@[simp] theorem e_ixL {l : List D} {i : Int} : gIx (.L l) (.p (.int i)) = (atI l i).map .p := rfl
@[simp] theorem e_slotL : slotL ρ i = match ρ[i]? with
  | some (some (.L ds)) => some ds
  | _ => none := rfl
@[simp] theorem e_lst : fLst ga ρ = (ga ρ).bind fun p => (resL p.2 p.1).bind fun xs => (pures xs).bind fun ds => if ds.length ≤ sizeLine then some (.own (.L ds), p.2) else none := rfl
@[simp] theorem e_puN : pures [] = some [] := rfl
@[simp] theorem e_puC : pures (.p d :: xs) = (pures xs).map (d :: ·) := rfl
@[simp] theorem e_nil : fNil ρ = some ([], ρ) := rfl
@[simp] theorem e_cons : fCons fa ga ρ = (fa ρ).bind fun p => (ga p.2).map fun q => (p.1 :: q.1, q.2) := rfl
@[simp] theorem e_resN : resL ρ [] = some [] := rfl
@[simp] theorem e_resC {r : RR} : resL ρ (r :: rs) = (res ρ r).bind fun x => (resL ρ rs).map (x :: ·) := rfl
@[simp] theorem e_call : fCall gl ga ρ = (ga ρ).bind fun p => (resL p.2 p.1).bind fun xs => (gl xs).map fun r => (.own r, p.2) := rfl
@[simp] theorem e_fn : fFn n F ga ρ = (ga ρ).bind fun p => if (ats p.1).Nodup then (resL p.2 p.1).bind fun xs => if xs.length = n then (F xs).map fun r => (.own r.1, putBack p.2 p.1 r.2) else none else none := rfl
@[simp] theorem e_atsN : ats [] = [] := rfl
@[simp] theorem e_atsA : ats (.at i :: rs) = i :: ats rs := rfl
@[simp] theorem e_atsO : ats (.own x :: rs) = ats rs := rfl
@[simp] theorem e_pbN {ys : List RV} : putBack ρ [] ys = ρ := by cases ys <;> rfl
@[simp] theorem e_pbA {y : RV} {ys : List RV} : putBack ρ (.at i :: rs) (y :: ys) = putBack (ρ.set i (some y)) rs ys := rfl
@[simp] theorem e_pbO {y : RV} {ys : List RV} : putBack ρ (.own x :: rs) (y :: ys) = putBack ρ rs ys := rfl
@[simp] theorem e_T : fT fa ρ = (fa ρ).bind fun p => (res p.2 p.1).bind fun x => (tru x).map fun k => (k, p.2) := rfl
@[simp] theorem e_or : fOr ta tb ρ = (ta ρ).bind fun p => if p.1 then some (true, p.2) else tb p.2 := rfl
@[simp] theorem e_not : fNot ta ρ = (ta ρ).map fun p => (!p.1, p.2) := rfl
@[simp] theorem e_truB {b : Bool} : tru (.p (.bl b)) = some b := rfl
@[simp] theorem e_truL {l : List D} : tru (.L l) = some (!l.isEmpty) := rfl
@[simp] theorem e_blOf {b : Bool} : blOf (.own (.p (.bl b))) = some b := rfl
@[simp] theorem e_andV : fAndV fa fb ρ = (fa ρ).bind fun p => (blOf p.1).bind fun b => if b then fb p.2 else some (.own (.p (.bl false)), p.2) := rfl
@[simp] theorem e_gEqN {neg : Bool} : gEqN neg x y = (toD x).bind fun d => (toD y).bind fun e => if okD d && okD e then some (.p (.bl (neg ^^ eqD d e))) else none := rfl
@[simp] theorem e_toDp : toD (.p d) = some d := rfl
@[simp] theorem e_toDL {l : List D} : toD (.L l) = some (.lst l) := rfl
@[simp] theorem e_okI {i : Int} : okD (.int i) = true := by simp [okD, toPy, PyData.canLay0, PyData.depth]
@[simp] theorem e_okN : okD .non = true := by simp [okD, toPy, PyData.canLay0, PyData.depth]
@[simp] theorem e_okB {i : Bool} : okD (.bl i) = true := by simp [okD, toPy, PyData.canLay0, PyData.depth]
@[simp] theorem e_okS {i : Str} : okD (.str i) = PyData.strOk i := by simp [okD, toPy, PyData.canLay0, PyData.depth]
@[simp] theorem e_eqI {i j : Int} : eqD (.int i) (.int j) = decide (i = j) := by simp [eqD, toPy, PyData.eqv, Bool.beq_eq_decide_eq]
@[simp] theorem e_eqS {i j : Str} : eqD (.str i) (.str j) = decide (i = j) := by simp [eqD, toPy, PyData.eqv, Bool.beq_eq_decide_eq]
@[simp] theorem e_len {l : List D} : gLen [.L l] = some (.p (.int l.length)) := rfl
@[simp] theorem e_lenl {l : List D} : gLen [.p (.lst l)] = some (.p (.int l.length)) := rfl
@[simp] theorem e_lenT {l : List D} : gLen [.p (.tup l)] = some (.p (.int l.length)) := rfl
@[simp] theorem e_list {l : List D} : gListOf [.L l] = some (.L l) := rfl
@[simp] theorem e_str {i : Int} : gStrOf [.p (.int i)] = if i.natAbs.log2 < 1920 then some (.p (.str (toString i))) else none := rfl
@[simp] theorem e_lm : fLm gm fa ga ρ = (fa ρ).bind fun p => match p.1 with
  | .at i => (slotL p.2 i).bind fun _ => (ga p.2).bind fun q => (slotL q.2 i).bind fun ds => (resL q.2 q.1).bind fun xs => (gm ds xs).map fun r => (.own (.p r.2), q.2.set i (some (.L r.1)))
  | _ => none := rfl
@[simp] theorem e_app {l : List D} : gAppend l [.p d] = if l.length < sizeLine then some (l ++ [d], .non) else none := rfl
@[simp] theorem e_gName : gName' P i d ρ = setAt P i (.p d) ρ := rfl
@[simp] theorem e_sl {l h : FO} : fSl fa l h ρ = (fa ρ).bind fun p => (l p.2).bind fun q => (h q.2).bind fun t => (res t.2 p.1).bind fun x => (gSl' x q.1 t.1).map fun r => (.own r, t.2) := rfl
@[simp] theorem e_foN : foN ρ = some (none, ρ) := rfl
@[simp] theorem e_foS : foS fa ρ = (fa ρ).bind fun p => match p.1 with
  | .own (.p (.int i)) => some (some i, p.2)
  | _ => none := rfl
@[simp] theorem e_slS {z : Str} {lo hi : Option Int} : gSl' (.p (.str z)) lo hi = if z.length ≤ sizeLine then some (.p (.str (Txt.slice z lo hi))) else none := rfl
@[simp] theorem e_lit : (2 : Nat) ≤ sizeLine := by decide
end
theorem forD_inv {asg : FG} {body : FS} (I : Nat → DS → Prop) : ∀ (ds : List D) (k : Nat) (ρ : DS), I k ρ →
    (∀ j d ρ, ds[j]? = some d → I (k + j) ρ → ∃ ρa ρb, asg d ρ = some ρa ∧ body ρa = some (.nx, ρb) ∧ I (k + j + 1) ρb) → ∃ ρ', forD asg body ds ρ = some (.nx, ρ') ∧ I (k + ds.length) ρ'
  | [], k, ρ, h, _ => ⟨ρ, rfl, h⟩
  | d :: ds, k, ρ, h, st => by
    obtain ⟨ρa, ρb, h1, h2, h3⟩ := st 0 d ρ rfl h
    obtain ⟨ρ', h4, h5⟩ := forD_inv I ds (k + 1) ρb h3 fun j d' ρ' hd hI => by
      obtain ⟨a, b, q1, q2, q3⟩ := st (j + 1) d' ρ' (by simpa using hd) (by rw [show k + (j + 1) = k + 1 + j by omega]; exact hI)
      exact ⟨a, b, q1, q2, by rw [show k + 1 + j + 1 = k + (j + 1) + 1 by omega]; exact q3⟩
    refine ⟨ρ', ?_, by rw [List.length_cons, show k + (ds.length + 1) = k + 1 + ds.length by omega]; exact h5⟩
    simp only [forD, h1, h2, Option.bind_some]
    exact h4
end L2.CF
namespace L2.CF
open PySem PySem.Spec
section
variable {P i n : Nat} {f g : FSX} {fs : FS} {fe ff fo : FE} {fx : FEX} {ga : FA} {ta : FT} {ρ : DS} {d : D} {x y : RV} {F : FFX} {xs : List RV} {rs : List RR} {c : Str} {kvs lvs : List (Key × D)} {j : FJ}
@[simp] theorem e_okSS : okS f ρ = match f ρ with
  | some (.ok r, ρ') => some (r, ρ')
  | _ => none := rfl
@[simp] theorem e_fzp : frzV (.p d) = d := rfl
@[simp] theorem e_fzL {l : List D} : frzV (.L l) = .lst l := rfl
@[simp] theorem e_fzK : frzV (.K kvs) = .dct kvs := rfl
@[simp] theorem e_join : fJoin j ρ = (j Str.empty ρ).map fun p => (.own (.p (.str p.1)), p.2) := rfl
@[simp] theorem e_jN {a : Str} : jNil a ρ = if a.length ≤ 1000 then some (a, ρ) else none := rfl
@[simp] theorem e_jC {a : Str} : jCons fe j a ρ = (fe ρ).bind fun p => (res p.2 p.1).bind fun r => (strR r).bind fun y => if (a ++ y).length ≤ 1000 then j (a ++ y) p.2 else none := rfl
@[simp] theorem e_strR {a : Str} : strR (.p (.str a)) = some a := rfl
@[simp] theorem e_fmt : fFmt fe ρ = (fe ρ).bind fun p => (res p.2 p.1).bind fun r => (fmtR r).map fun y => (.own (.p (.str y)), p.2) := rfl
@[simp] theorem e_fmtS {a : Str} : fmtR (.p (.str a)) = if a.length ≤ 1000 then some a else none := rfl
@[simp] theorem e_fmtI {k : Int} : fmtR (.p (.int k)) = if k.natAbs.log2 < 1920 then some (Str.ofString (toString k)) else none := rfl
end
@[simp] theorem ofs_inj {s t : String} : (Str.ofString s = Str.ofString t) ↔ (s = t) := by
  refine ⟨fun h => ?_, fun h => by rw [h]⟩
  rw [Str.ofString_eq_toList, Str.ofString_eq_toList] at h
  have h1 : (s.toList.map Char.toNat).toArray = (t.toList.map Char.toNat).toArray := congrArg Str.cps h
  have h2 : s.toList.map Char.toNat = t.toList.map Char.toNat := by simpa using h1
  have h3 : s.toList = t.toList := (List.map_inj_right (fun x y e => Char.ext (UInt32.toNat_inj.mp e))).mp h2
  exact String.toList_inj.mp h3
end L2.CF
namespace L2.CF
open PySem PySem.Spec
section
variable {P i n L : Nat} {f g : FSX} {fs : FS} {fe ff fo fk fv : FE} {ρ : DS} {d : D} {x y : RV} {c c0 : Str} {b : Bool} {kvs lvs : List (Key × D)} {mt : Str → Option Bool} {fp : FP}
@[simp] theorem e_yes : fYes ρ = some (true, ρ) := rfl
@[simp] theorem e_compN {ft : FT} : compD ft fe n [] ρ = some ([], ρ) := rfl
@[simp] theorem e_compC {ft : FT} {ds : List D} : compD ft fe n (d :: ds) ρ = (ft (ρ ++ [some (.p d)])).bind fun p => if p.1 then (fe p.2).bind fun q => match q.1 with
      | .own r => (compD ft fe n ds (q.2.take n)).map fun z => (frzV r :: z.1, z.2)
      | .at _ => none
    else compD ft fe n ds (p.2.take n) := rfl
end
end L2.CF
namespace L2.CF
open PySem PySem.Spec
section
variable {P i n : Nat} {fo fe : FE} {fa : FA} {ρ : DS} {d : D} {x y : RV} {T : String} {g : GRm} {ys : List Str} {ds : List D} {kvs : List (Key × D)} {f : FG} {r : FGs}
@[simp] theorem e_joinR {sep : Str} {l : List D} : gJoin (.p (.str sep)) [.L l] = (strsD l).bind fun ys => if (ys.map Str.length).sum + ys.length * sep.length ≤ 16777216 then some (.p (.str (Txt.join sep ys))) else none := rfl
@[simp] theorem e_strsN : strsD [] = some [] := rfl
@[simp] theorem e_strsC {z : Str} {l : List D} : strsD (.str z :: l) = (strsD l).map (z :: ·) := rfl
@[simp] theorem e_strsM : ∀ {l : List Str}, strsD (l.map D.str) = some l
  | [] => rfl
  | z :: l => by rw [List.map_cons, e_strsC, e_strsM]; rfl
@[simp] theorem e_popAt {k : Int} : gPopAt ds [.p (.int k)] = if 0 ≤ k ∧ k < 100000 then (ds[k.toNat]?).map fun d => (ds.eraseIdx k.toNat, d) else none := rfl
@[simp] theorem e_abs {k : Int} : gAbs [.p (.int k)] = some (.p (.int (if k < 0 then -k else k))) := rfl
end
end L2.CF
namespace L2.CF
open PySem PySem.Spec PyProof.Rows
variable {K : PySem.W.Frag}
section
variable {X : Cx} {o e : Expr} {es : List Expr} {fo fe fi fb : FE} {fa : FA} {name : Str} {apos cpos pos : Pos} {id : String} {g : GLm} {P : Nat}
end
end L2.CF
namespace L2.CF
open PySem PySem.Spec PyProof.Rows
variable {K : PySem.W.Frag}
section
variable {X : Cx} {P : Nat} {rest : List Stmt} {g : FS} {e0 : Expr} {f0 : FE} {pos : Pos}
end
end L2.CF
namespace L2.CF
open PySem PySem.Spec PyProof.Rows
section
variable {prog : Program} {w : World} {A : Around} {s : Shared}
end
end L2.CF
namespace L2.CF
open PySem PySem.Spec PyProof.Rows
section
variable {prog : Program} {w : World} {A : Around} {s : Shared} {E : Value → Shared → Prop}
end
end L2.CF
namespace L2.CF
open PySem PySem.Spec PyProof.Rows
variable {K : PySem.W.Frag}
section
variable {X : Cx} {P : Nat} {a b : Expr} {fa fb : FE} {pos : Pos}
end
end L2.CF
namespace L2.CF
open PySem PySem.Spec PyProof.Rows
variable {K : PySem.W.Frag}
section
variable {X : Cx} {P : Nat} {a b e k : Expr} {fa fb fe fk : FE} {pos p2 : Pos}
end
end L2.CF
namespace L2.CF
open PySem PySem.Spec PyProof.Rows HT
variable {K : PySem.W.Frag}
section
variable {prog : Program} {w : World} {A : Around} {E : Value → Shared → Prop} {s : Shared}
end
section
variable {X : Cx} {P : Nat} {a b e k : Expr} {fa fb fe fk : FE} {pos p2 : Pos}
end
end L2.CF
namespace L2.CF
open PySem PySem.Spec PyProof.Rows
variable {K : PySem.W.Frag}
@[elab_as_elim] theorem len0 {C : List Value → Prop} (us : List Value) (h : us.length = 0) (k : C []) : C us := by
  cases us with
  | nil => exact k
  | cons _ _ => cases h
@[elab_as_elim] theorem len1 {C : List Value → Prop} (us : List Value) (h : us.length = 1) (k : ∀ a, C [a]) : C us := by
  cases us with
  | nil => cases h
  | cons a t => cases t with | nil => exact k a | cons _ _ => simp at h
@[elab_as_elim] theorem len2 {C : List Value → Prop} (us : List Value) (h : us.length = 2) (k : ∀ a b, C [a, b]) : C us := by
  cases us with
  | nil => cases h
  | cons a t => exact len1 (C := fun t => C (a :: t)) t (by simpa using h) fun b => k a b
@[elab_as_elim] theorem len3 {C : List Value → Prop} (us : List Value) (h : us.length = 3) (k : ∀ a b c, C [a, b, c]) : C us := by
  cases us with
  | nil => cases h
  | cons a t => exact len2 (C := fun t => C (a :: t)) t (by simpa using h) fun b c => k a b c
@[elab_as_elim] theorem len4 {C : List Value → Prop} (us : List Value) (h : us.length = 4) (k : ∀ a b c d, C [a, b, c, d]) : C us := by
  cases us with
  | nil => cases h
  | cons a t => exact len3 (C := fun t => C (a :: t)) t (by simpa using h) fun b c d => k a b c d
section
variable {X : Cx}
end
end L2.CF
namespace L2.CF
open PySem PySem.Spec
section
variable {P i n j : Nat} {fo fe ff fi fb fk fa : FE} {ρ : DS} {d : D} {x y : RV} {g : GLm} {g2 : G2} {l m : List D} {a : Addr} {kvs : List (Key × D)}
@[simp] theorem e_ixSat {i : Int} : gIx (.S l a m) (.p (.int i)) = (atI l i).map .p := rfl
@[simp] theorem e_lenSat : gLen [.S l a m] = some (.p (.int l.length)) := rfl
end
end L2.CF
namespace L2.CF
open PySem PySem.Spec
section
variable {fx : FEX} {ρ : DS}
@[simp] theorem e_okE : okE fx ρ = match fx ρ with
  | some (.ok r, ρ') => some (r, ρ')
  | _ => none := rfl
end
end L2.CF
namespace L2.CF
open PySem PySem.Spec PyProof.Rows
section
variable {prog : Program} {w : World} {A : Around} {E : Value → Shared → Prop} {h : Heap} {g : Array GenState} {d : Drawn} {t : Nat} {os : OsState}
variable {nm q : Str} {C N : Addr} {bs bm bmB : List Value} {hdct : Bool} {sn : List Str} {sub : List Value} {ab : Bool} {col : Option Bool} {dd : Option Addr} {k0 k1 k2 k3 k5 : Option Value} {B newId initId : String}
abbrev excO (C t : Addr) : Obj := { cls := .ref C, data := .fields #[.ref t, .none, .none, .none, .bool false, .none] }
abbrev tupO (l : List Value) : Obj := { cls := .type "tuple", data := .seq l.toArray }
theorem xinit_type (F : ExcBaseFacts B newId initId bmB) (T : OwnTail h bmB bm) {mN : Str → Option Value} {us : List Value} {fI : Addr} {oI : Obj} {Q : Fin → Shared → Prop}
    (hC : h.get? C = some (excClassObj nm q C N bs bm hdct sn sub ab col dd k0 k1 k2 k3 k5 newId)) (hN : h.Ns N mN) (hi : mN "__init__" = some (.ref fI)) (hf : h.get? fI = some oI) (hfc : oI.cls = .type "function")
    (hk : wpAny (model prog w) A (call (.ref fI) (.ref (h.objs.size + 1) :: us)) (fun r s' => r = .none ∧ Q (.done (.ret (.ref (h.objs.size + 1)))) s') E ⟨(h.push (tupO us)).push (excO C h.objs.size), g, d, t, os⟩) (hl : us.length ≤ sizeLine) :
    wpAny (model prog w) A (Builtin.«type.__call__» ⟨.ref C :: us, []⟩) Q E ⟨h, g, d, t, os⟩ := by
  have up : ∀ b o, h.get? b = some o → ((h.push (tupO us)).push (excO C h.objs.size)).get? b = some o := fun b o z => Heap.get?_push_of_some _ (Heap.get?_push_of_some _ z)
  have C1 := up _ _ hC
  have f1 := up _ _ hf
  have T1 := T.keeps up
  have N1 : ((h.push (tupO us)).push (excO C h.objs.size)).Ns N mN := by
    obtain ⟨o, es, ep, z, r⟩ := hN
    exact ⟨o, es, ep, up _ _ z, r⟩
  have x1 : ((h.push (tupO us)).push (excO C h.objs.size)).get? (h.objs.size + 1) = some (excO C h.objs.size) := by heap_get
  have cc : (Value.ref C :: bm).contains (.ref C) = true := by simp
  repeat (first | with_reducible refine wpAny_madeBy_exc hC ?_ | with_reducible refine wpAny_loadPart_at hC ?_ | wp_step)
  refine codeAny_call_builtin_code (Code.quiet_builtin _ F.quiet) (wpAny_check_new_subT F T hC (codeAny_exc_new_subT F T hC ?_ hl))
  show wpAny _ _ _ _ _ _
  unfold isInstance
  repeat (first | (with_reducible refine wpAny_isSubtype_exc C1 ?_; rw [cc]) | with_reducible refine wpAny_loadPart_at x1 ?_ | wp_step)
  show wpAny _ _ (typeLookup (.ref C) _) _ _ _
  refine wpAny_typeLookup_tail C1 N1 T1 F.mroIs F.init.lookup ?_
  rw [hi]
  refine wpAny_holding (wpAny_bind ?_)
  unfold bindSpecial
  refine wpAny_bind (wpAny_typeOf (T := "function") ⟨_, f1, hfc⟩ ?_)
  rw [if_pos (by decide)]
  refine wpAny_pure (wpAny_bind (wpAny_mono hk (fun r s' z => ?_) fun _ _ z => z))
  obtain ⟨rfl, z⟩ := z
  wp_walk
  exact z
theorem xinit_call (F : ExcBaseFacts B newId initId bmB) (T : OwnTail h bmB bm) {mN : Str → Option Value} {us : List Value} {fI : Addr} {oI : Obj} {Q : Value → Shared → Prop}
    (hC : h.get? C = some (excClassObj nm q C N bs bm hdct sn sub ab col dd k0 k1 k2 k3 k5 newId)) (hN : h.Ns N mN) (hi : mN "__init__" = some (.ref fI)) (hf : h.get? fI = some oI) (hfc : oI.cls = .type "function")
    (hk : wpAny (model prog w) (A.under (.builtin "type.__call__" ⟨.ref C :: us, []⟩)) (call (.ref fI) (.ref (h.objs.size + 1) :: us)) (fun r s' => r = .none ∧ Q (.ref (h.objs.size + 1)) s') E ⟨(h.push (tupO us)).push (excO C h.objs.size), g, d, t, os⟩) (hl : us.length ≤ sizeLine) :
    wpAny (model prog w) A (call (.ref C) us) Q E ⟨h, g, d, t, os⟩ := by
  have ty : (⟨h, g, d, t, os⟩ : Shared).TypeIs (.ref C) "type" := ⟨_, hC, rfl⟩
  have a1 := tc_lookup
  have a2 := tc_bind (.ref C)
  refine wpAny_call (codeAny_of_tree ?_)
  show wpAny _ _ (callAny (.ref C) _) _ _ _
  repeat (any_goals (first | with_reducible refine wpAny_loadPart_at hC ?_ | assumption | wp_step))
  refine ⟨rfl, codeAny_call_builtin_at (Code.quiet_builtin _ (by decide +kernel)) entry_typeCall (wpAny_check_type_call_sub hC (xinit_type F T hC hN hi hf hfc ?_ hl))⟩
  exact hk
end
end L2.CF
namespace L2.CF
open PySem PySem.Spec PyProof.Rows
open Builtin Builtin.ObjectAttr
abbrev vEr : List Value := [.type "ValueError", .type "Exception", .type "BaseException", .type "object"]
section
variable {prog : Program} {w : World} {A : Around} {E : Value → Shared → Prop} {h : Heap} {g : Array GenState} {d : Drawn} {t : Nat} {os : OsState}
variable {nm q : Str} {C CF N x : Addr} {bs : List Value} {sn : List Str} {sub : List Value} {ab : Bool} {col : Option Bool} {dd : Option Addr} {k0 k1 k2 k3 k5 : Option Value} {newId : String} {name : Str} {v : Value} {o : Obj}
theorem xst_check {M : Model} {nameV : Value} {Q : Unit → Shared → Prop} (hC : h.get? C = some (excClassObj nm q C N bs (.ref CF :: vEr) true sn sub ab col dd k0 k1 k2 k3 k5 newId)) (hx : h.get? x = some o) (hc : o.cls = .ref C) (hq : Q () ⟨h, g, d, t, os⟩) :
    wpAny M A (checkBuiltinCall "object.__setattr__" ⟨[.ref x, nameV, v], []⟩) Q E ⟨h, g, d, t, os⟩ := by
  have SF := F.store_ValueError
  have ho : (Value.ref C :: .ref CF :: vEr).contains (.type "object") = true := by simp
  simp only [checkBuiltinCall, SF.kind, SF.split]
  refine wpAny_bind ?_
  unfold isInstance
  repeat (first | (with_reducible refine wpAny_isSubtype_exc hC ?_; rw [ho]) | (with_reducible refine wpAny_loadPart_at hx ?_; rw [hc]) | wp_step)
  exact hq
theorem xst_entry {tk : Tok} {Q : Fin → Shared → Prop} (hC : h.get? C = some (excClassObj nm q C N bs (.ref CF :: vEr) true sn sub ab col dd k0 k1 k2 k3 k5 newId)) (ln : PySem.W.Looks (model prog w) h (typeLookup (.ref C) name) none)
    (hx : h.get? x = some o) (hc : o.cls = .ref C) (hdn : o.dict = none) (hnc : ∀ c, o.data ≠ .cls c)
    (hq : ∀ h' tk', h'.get? x = some { cls := o.cls, dict := some h.objs.size, data := o.data, slots := o.slots } → h'.Ns1 h.objs.size (fun y => if y = name then some v else none) →
      (∀ b u, b ≠ x → h.get? b = some u → h'.get? b = some u) → Q (.done (.ret .none)) ⟨h', g, d, tk', os⟩) :
    wpAny (model prog w) A (Builtin.«object.__setattr__» ⟨[.ref x, .str name tk, v], []⟩) Q E ⟨h, g, d, t, os⟩ := by
  have pas := F.store_ValueError.passes (.ref x)
  unfold Builtin.«object.__setattr__»
  repeat (first | rw [refuse_eq] | (rw [refuseLoop_ref, refuseLoop_ref, pas]) | with_reducible refine ln.at ?_ | (with_reducible refine wpAny_loadPart_at hx ?_; rw [hc]) | with_reducible refine wpAny_mroOf_exc hC ?_ | wp_step)
  rw [hdn, if_neg (by simp [typeHasDict])]
  split
  · rename_i z; cases z
  split
  · rename_i c z; exact absurd z (hnc c)
  · have x1 : (h.push { cls := .type "dict", data := .dict #[] }).get? x = some o := Heap.get?_push_of_some _ hx
    have ne : x ≠ h.objs.size := Nat.ne_of_lt (Heap.lt_size hx)
    refine wpAny_bind (wpAny_alloc' (wpAny_bind (wpAny_update' x1 (wpAny_pure ?_))))
    have gd : ((h.push { cls := .type "dict", data := .dict #[] }).update x fun o => { cls := o.cls, dict := some h.objs.size, data := o.data, slots := o.slots }).get? h.objs.size = some { cls := .type "dict", data := .dict #[] } :=
      (Heap.get?_update_ne _ _ _ _ ne.symm).trans (Heap.get?_push_at rfl rfl)
    have nd : ((h.push { cls := .type "dict", data := .dict #[] }).update x fun o => { cls := o.cls, dict := some h.objs.size, data := o.data, slots := o.slots }).Ns h.objs.size (fun _ => none) :=
      ⟨_, #[], _, gd, rfl, fun e he => absurd he (by simp), fun _ => rfl⟩
    show wpAny _ _ (storeInDict h.objs.size (.str name tk) name v) _ _ _
    unfold storeInDict newKeyGuard
    refine wpAny_bind (wpAny_pure (wpAny_bind (wpAny_nsSet1 (Heap.Ns1.of_empty nd) fun h' n1 hs => ?_)))
    obtain ⟨oD, esD, epD, z1, z2, z3⟩ := n1.count (Within.cons name v Within.nil)
    refine wpAny_bind (wpAny_lookBehind z1 (by rw [z2]; exact pastItsLine_dict (Nat.le_trans z3 (by rw [List.length_cons, List.length_nil, sizeLine_eq]; omega))) ?_)
    wp_walk
    refine hq h' _ ?_ ?_ fun b u hb z => (hs.2 b (Nat.ne_of_lt (Heap.lt_size z))).trans ((Heap.get?_update_ne _ _ _ _ hb).trans (Heap.get?_push_of_some _ z))
    · refine (hs.2 x ne).trans (Heap.get?_update_self _ x1 ?_)
      have fr := (Heap.get?_some_iff.mp hx).2
      obtain ⟨oc, od, odt, osl⟩ := o
      cases odt <;> first | rfl | exact fr
    · obtain ⟨o', es, ep, e1, e2, e3, eu, e4⟩ := n1
      exact ⟨o', es, ep, e1, e2, e3, eu, fun y => by rw [e4 y]⟩
theorem xst_attr {Q : Unit → Shared → Prop} (hC : h.get? C = some (excClassObj nm q C N bs (.ref CF :: vEr) true sn sub ab col dd k0 k1 k2 k3 k5 newId)) (ls : PySem.W.Looks (model prog w) h (typeLookup (.ref C) "__setattr__") (some (.builtin "object.__setattr__"))) (ln : PySem.W.Looks (model prog w) h (typeLookup (.ref C) name) none)
    (hx : h.get? x = some o) (hc : o.cls = .ref C) (hdn : o.dict = none) (hnc : ∀ c, o.data ≠ .cls c)
    (hq : ∀ h' tk', h'.get? x = some { cls := o.cls, dict := some h.objs.size, data := o.data, slots := o.slots } → h'.Ns1 h.objs.size (fun y => if y = name then some v else none) →
      (∀ b u, b ≠ x → h.get? b = some u → h'.get? b = some u) → Q () ⟨h', g, d, tk', os⟩) :
    wpAny (model prog w) A (setAttr (.ref x) name v) Q E ⟨h, g, d, t, os⟩ := by
  have SF := F.store_ValueError
  have f3 := SF.slot.bind (.ref x)
  unfold setAttr callSpecial? specialOf
  repeat (any_goals (first | with_reducible refine ls.at ?_ | (with_reducible refine wpAny_loadPart_at hx ?_; rw [hc]) | assumption | wp_step))
  refine codeAny_call_builtin SF.slot.plain SF.entry (xst_check hC hx hc (xst_entry hC ln hx hc hdn hnc fun h' tk' z1 z2 z3 => ?_))
  repeat (any_goals (first | assumption | wp_step))
  exact hq h' tk' z1 z2 z3
end
end L2.CF
namespace L2.CF
open PySem PySem.Spec PyProof.Rows
open Builtin Builtin.ObjectAttr
section
variable {prog : Program} {w : World} {A : Around} {E : Value → Shared → Prop} {h : Heap} {g : Array GenState} {d : Drawn} {t : Nat} {os : OsState}
variable {nm q : Str} {C N x dx : Addr} {bs bm : List Value} {sn : List Str} {sub : List Value} {ab : Bool} {col : Option Bool} {dd : Option Addr} {k0 k1 k2 k3 k5 : Option Value} {newId : String} {name : Str} {v : Value} {o : Obj} {K : PySem.W.Frag} {mA : Str → Option Value}
theorem xld_entry {tk : Tok} {Q : Fin → Shared → Prop} (hC : h.get? C = some (excClassObj nm q C N bs bm true sn sub ab col dd k0 k1 k2 k3 k5 newId)) (ln : PySem.W.Looks (model prog w) h (typeLookup (.ref C) name) none)
    (hx : h.get? x = some o) (hc : o.cls = .ref C) (hd : o.dict = some dx) (hnc : ∀ c, o.data ≠ .cls c) (hns : h.Ns1 dx mA) (hv : mA name = some v) (hq : Q (.done (.ret v)) ⟨h, g, d, t, os⟩) :
    wpAny (model prog w) A (Builtin.«object.__getattribute__» ⟨[.ref x, .str name tk], []⟩) Q E ⟨h, g, d, t, os⟩ := by
  repeat (any_goals (first | with_reducible refine ln.at ?_ | (with_reducible refine wpAny_loadPart_at hx ?_; rw [hc]) | assumption | wp_step))
  split
  · rename_i c z; exact absurd z (hnc c)
  unfold instanceDict
  repeat (first | (with_reducible refine wpAny_loadPart_at hx ?_; rw [hc]) | with_reducible refine wpAny_loadPart_at hC ?_ | wp_step)
  rw [hd]
  repeat (first | (with_reducible refine wpAny_nsGet hns.ns ?_; rw [hv]) | wp_step)
  exact hq
theorem xld_by {tk : Tok} {fill expr : Bool} {Q : Value → Shared → Prop} (X : K.In h) (F1 : EAttr K C) (hC : h.get? C = some (excClassObj nm q C N bs bm true sn sub ab col dd k0 k1 k2 k3 k5 newId)) (hbe : bm.contains (.type "BaseException") = true) (hn : PySem.W.findIn K (.ref C) name = some none)
    (hx : h.get? x = some o) (hc : o.cls = .ref C) (hd : o.dict = some dx) (hnc : ∀ c, o.data ≠ .cls c) (hns : h.Ns1 dx mA) (hv : mA name = some v) (hh : handedOut v = pure v) (hq : Q v ⟨h, g, d, t, os⟩) :
    wpAny (model prog w) A (getAttrBy (.ref x) (.str name tk) fill expr) Q E ⟨h, g, d, t, os⟩ := by
  have f3 := F.excAttr_ValueError.ga.bind (.ref x)
  have lg := PySem.W.looks_findIn (M := model prog w) X F1.ga
  have lt := PySem.W.looks_findIn (M := model prog w) X F1.gt
  have ln := PySem.W.looks_findIn (M := model prog w) X hn
  have y0 : (expr && onTheHeap (Value.builtin "BaseException.__getattribute__")) = false := by cases expr <;> rfl
  have y2 : (Value.builtin "BaseException.__getattribute__" == Value.builtin "object.__getattribute__") = false := by decide +kernel
  have y1 : (onTheHeap (Value.ref C) && Value.builtin "BaseException.__getattribute__" == Value.builtin "object.__getattribute__") = false := by rw [y2, Bool.and_false]
  repeat (any_goals (first | with_reducible refine lg.at ?_ | with_reducible refine lt.at ?_ | (with_reducible refine wpAny_loadPart_at hx ?_; rw [hc]) | assumption | wp_step))
  refine codeAny_call_builtin F.excAttr_ValueError.ga.plain F.entry_bexc_ga (ecl_check hC hbe hx hc (xld_entry hC ln hx hc hd hnc hns hv ?_))
  repeat (any_goals (first | assumption | rw [hh] | wp_step))
theorem xld_attr {expr : Bool} {Q : Value → Shared → Prop} (X : K.In h) (F1 : EAttr K C) (hC : h.get? C = some (excClassObj nm q C N bs bm true sn sub ab col dd k0 k1 k2 k3 k5 newId)) (hbe : bm.contains (.type "BaseException") = true) (hn : PySem.W.findIn K (.ref C) name = some none)
    (hx : h.get? x = some o) (hc : o.cls = .ref C) (hd : o.dict = some dx) (hnc : ∀ c, o.data ≠ .cls c) (hns : h.Ns1 dx mA) (hv : mA name = some v) (hh : handedOut v = pure v) (hq : Q v ⟨h, g, d, t + 1, os⟩) :
    wpAny (model prog w) A (getAttr (.ref x) name expr) Q E ⟨h, g, d, t, os⟩ := by
  unfold getAttr
  repeat (any_goals (first | assumption | with_reducible apply xld_by X F1 hC hbe hn hx hc hd hnc hns hv hh | wp_step))
end
end L2.CF
namespace L2.CF
open PySem PySem.Spec PyProof.Rows
abbrev xnO (C : Addr) (vs : Array Value) : Obj := { cls := .ref C, dict := none, data := .fields vs, slots := #[] }
def isXN (x C : Addr) : Heap → Prop := fun h => ∃ vs t0, h.get? x = some (xnO C vs) ∧ vs[0]? = some (Value.ref t0)
section
variable {prog : Program} {w : World} {A : Around} {E : Value → Shared → Prop} {h : Heap} {g : Array GenState} {d : Drawn} {t : Nat} {os : OsState}
variable {nm q : Str} {C N x : Addr} {bs bm : List Value} {hdct : Bool} {sn : List Str} {sub : List Value} {ab : Bool} {col : Option Bool} {dd : Option Addr} {k0 k1 k2 k3 k5 : Option Value} {us : List Value}
theorem xbase_init {Q : Value → Shared → Prop} (T : OwnTail h vEr bm) (hC : h.get? C = some (excClassObj nm q C N bs bm hdct sn sub ab col dd k0 k1 k2 k3 k5 "ValueError.__new__"))
    (hx : isXN x C h) (hl : us.length ≤ sizeLine) (hq : ∀ h', isXN x C h' → (∀ b u, b ≠ x → h.get? b = some u → h'.get? b = some u) → Q .none ⟨h', g, d, t, os⟩) :
    wpAny (model prog w) A (call (.builtin "ValueError.__init__") (.ref x :: us)) Q E ⟨h, g, d, t, os⟩ := by
  have F := PySem.F.excBase_ValueError
  obtain ⟨vs, t0, hx, h0⟩ := hx
  have hz : 0 < vs.size := by
    rcases Nat.lt_or_ge 0 vs.size with z | z
    · exact z
    · rw [Array.getElem?_eq_none z] at h0; cases h0
  refine wpAny_call (codeAny_call_builtin F.init.plain F.initEntry (wpAny_check_init_subT F T hC hx rfl ?_))
  have hx1 : (h.push (tupO us)).get? x = some (xnO C vs) := Heap.get?_push_of_some _ hx
  repeat (any_goals (first | assumption | wp_step))
  rw [h0]
  refine wpAny_pure (wpAny_bind (wpAny_setField_rec hx1 hz fun h' z1 z2 => wpAny_letGo (wpAny_pure ?_)))
  refine hq h' ⟨_, h.objs.size, z1, ?_⟩ fun b u hb z => (z2.2 b hb).trans (Heap.get?_push_of_some _ z)
  rw [Array.getElem?_setIfInBounds_self]
  simp [hz]
end
end L2.CF
namespace L2.CF
open PySem PySem.Spec PyProof.Rows
def xIn (K : PySem.W.Frag) (C CF fI : Addr) : Bool := match K.lookup C with
  | some ⟨.type "type", _, .cls cd, sl⟩ => (match cd.mro, sl.toList with
    | .ref C' :: bm, [_, _, _, _, some (.builtin n), _] => C' == C && bm == (.ref CF :: vEr) && n == "ValueError.__new__" && !cd.hasDel && cd.hasDict && PySem.W.tailIn K vEr bm && PySem.W.nsOkIn K cd.ns && PySem.W.nsIn K cd.ns "__init__" == some (some (.ref fI))
    | _, _ => false)
  | _ => false
theorem ns_some_of {K : PySem.W.Frag} {h : Heap} {N : Addr} {mg : Str → Option Value} {n : Str} {v : Value} (X : K.In h) (G : h.Ns N mg) (e : PySem.W.nsIn K N n = some (some v)) : mg n = some v := by
  obtain ⟨o, es, ep, ho, hd, _, hf⟩ := G
  unfold PySem.W.nsIn at e
  split at e
  · rename_i c d es' n' sl q
    have z := X _ _ q
    rw [ho] at z
    cases z; cases hd
    split at e
    · rename_i en he
      cases e
      rw [← hf]
      unfold nsFind findBy
      rw [← Array.find?_toList, he]; rfl
    · split at e <;> cases e
  · cases e
theorem xcls_obj {K : PySem.W.Frag} {h : Heap} {C CF fI : Addr} (X : K.In h) (q : xIn K C CF fI = true) :
    ∃ (N : Addr) (nm qn : Str) (bs : List Value) (sn : List Str) (sub : List Value) (ab : Bool) (col : Option Bool) (dd : Option Addr) (k0 k1 k2 k3 k5 : Option Value) (mN : Str → Option Value),
      h.get? C = some (excClassObj nm qn C N bs (.ref CF :: vEr) true sn sub ab col dd k0 k1 k2 k3 k5 "ValueError.__new__") ∧ h.Ns N mN ∧ mN "__init__" = some (.ref fI) ∧ OwnTail h vEr (.ref CF :: vEr) := by
  unfold xIn at q
  split at q
  · rename_i dd cd sl ho
    have hC := X _ _ ho
    split at q
    · rename_i C' bm k0 k1 k2 k3 n k5 hm hs
      obtain ⟨l⟩ := sl
      have hl : l = [k0, k1, k2, k3, some (.builtin n), k5] := hs
      subst hl
      simp only [Bool.and_eq_true, beq_iff_eq, Bool.not_eq_true'] at q
      obtain ⟨⟨⟨⟨⟨⟨⟨e1, e2⟩, e3⟩, e4⟩, e5⟩, e6⟩, e7⟩, e8⟩ := q
      subst e1 e2 e3
      obtain ⟨nm, bs, mro, ns, qn, hd, sn, sub, ab, col, del⟩ := cd
      have hm : mro = _ := hm
      have e4 : del = false := e4
      have e5 : hd = true := e5
      subst hm e4 e5
      refine ⟨ns, nm, qn, bs, sn, sub, ab, col, dd, k0, k1, k2, k3, k5, h.nsMap ns, hC, .of_isNs (PySem.W.isNs_of_in X e7), ns_some_of X (.of_isNs (PySem.W.isNs_of_in X e7)) e8, PySem.W.tail_of_in X e6⟩
    · cases q
  · cases q
theorem isXN.stay {x C : Addr} {h1 h2 : Heap} (p : isXN x C h1) (k : ∀ o, h1.get? x = some o → h2.get? x = some o) : isXN x C h2 := by
  obtain ⟨vs, t0, z, z0⟩ := p
  exact ⟨vs, t0, k _ z, z0⟩
theorem isXF.stay {x C dx : Addr} {h1 h2 : Heap} (p : isXF x C dx h1) (k : ∀ o, h1.get? x = some o → h2.get? x = some o) : isXF x C dx h2 := by
  obtain ⟨o, z, r⟩ := p
  exact ⟨o, k _ z, r⟩
theorem xn_ok {P : Program} {w : World} {H : Hp} {h : Heap} {x C : Addr} (p : isXN x C h) : ObjOk P w H h x (.ext (isXN x C)) := ⟨p, (by obtain ⟨vs, t0, z, _⟩ := p; exact ⟨_, z⟩), fun h1 h2 q k => q.stay k⟩
theorem xf_ok {P : Program} {w : World} {H : Hp} {h : Heap} {x C dx : Addr} (p : isXF x C dx h) : ObjOk P w H h x (.ext (isXF x C dx)) := ⟨p, (by obtain ⟨o, z, _⟩ := p; exact ⟨_, z⟩), fun h1 h2 q k => q.stay k⟩
theorem upd_id {H : Hp} {x : Addr} {o : HO} (h : H x = some o) : upd H x o = H := by
  funext b
  unfold upd
  split
  · next e => rw [e, h]
  · rfl
structure XBase (K : PySem.W.Frag) (mg : Str → Option Value) (b : Str) (CF : Addr) : Prop where
  g : mg b = some (.ref CF)
  rd : PySem.W.readsIn K CF (.type "type") = true
  fi : PySem.W.findCls K (.ref CF) (.type "type") "__init__" = some (.val (.builtin "ValueError.__init__"))
  sp : PySem.W.specialIn K (.ref CF) "__getattribute__" = some (some (.builtin "type.__getattribute__"))
section
variable {X : Cx} {C CF fI : Addr} {b : Str} {p apos pos : Pos} {e : Expr} {es : List Expr} {t : TA}
def tXB (C : Addr) (t : TA) : TE := fun σ H Q => t σ H fun vs H1 => ∃ x ws, vs = V.ref x :: ws ∧ ws.length ≤ 100 ∧ H1 x = some (.ext (isXN x C)) ∧ Q .non H1
theorem pe_xbase {pl : Sem Bool} (hq : xIn X.K C CF fI = true) (B : XBase X.K X.mg b CF) (ha : PA X (e :: es) t) (hg : Gl X b := by rfl) (hdb : (b == ("__debug__" : Str)) = false := by decide)
    (hst : starEach (e :: es) X.env = (false, eval e X.env) :: starEach es X.env := by rfl) (hpl : (backTo pos (starEach es X.env)).any (·.1) = false := by rfl)
    (ht : eval (.Call (.Attribute (.Name b p) "__init__" apos) (e :: es) [] pos) X.env = (do
      let ov ← eval (.Name b p) X.env
      standAt apos.atName
      let (f, first) ← holding [ov] (getMethod ov "__init__" pl)
      callWith pos f first (backTo pos (starEach (e :: es) X.env)) (backToKw pos (keywordEach [] X.env))) := by rfl) :
    PE X (.Call (.Attribute (.Name b p) "__init__" apos) (e :: es) [] pos) (tXB C t) := by
  intro pins s σ H Q I h
  refine PySem.W.methodCall_KW (pl := pl) (ld_glob I hg B.g ?_ hdb) ht
  refine PySem.W.method_cls I.kIn B.sp (PySem.W.cls_value I.kIn B.rd B.fi (by decide +kernel) ?_)
  have hA := ha pos pins _ σ H _ (I.tok (s.toks + 1)) h
  rw [hst] at hA ⊢
  refine Calls.callWith_builtin (by show (false || (backTo pos (starEach es X.env)).any (·.1)) = false; rw [hpl] <;> rfl) (Calls.evalArgs_plain (thn hA fun us s2 ⟨vs, H2, I2, r2, x, ws, ev, hw, hx, q⟩ => ?_))
  subst ev
  obtain ⟨u, us, rfl, r1, r3⟩ : ∃ u us', us = u :: us' ∧ RelV (.ref x) u ∧ Vals ws us' := by
    cases r2 with
    | cons a b => exact ⟨_, _, rfl, a, b⟩
  · obtain rfl : u = Value.ref x := r1
    obtain ⟨N, nm, qn, bs, sn, sub, ab, col, dd, k0, k1, k2, k3, k5, mN, hC, hN, hi, T⟩ := xcls_obj I2.kIn hq
    obtain ⟨ph, _, _⟩ := (show ObjOk X.prog X.w H2 s2.heap x (.ext (isXN x C)) from I2.hok x _ hx)
    obtain ⟨hh, g, d, tk, os⟩ := s2
    refine xbase_init T hC ph (by rw [← r3.length]; exact Nat.le_trans hw (by decide)) fun h' z1 z2 => ⟨.non, H2, ?_, rfl, q⟩
    have I3 := I2.write (x := x) (e := x) (o := .ext (isXN x C)) (h' := h') (t' := tk) (by rw [hx]; exact True.intro) (.inl rfl) z2 (by obtain ⟨_, _, z, _⟩ := z1; exact ⟨_, z⟩) (xn_ok z1)
    rw [upd_id hx] at I3
    exact I3
end
end L2.CF
namespace L2.CF
open PySem PySem.Spec PyProof.Rows
section
variable {X : Cx} {C CF fI : Addr} {o value : Expr} {f : Str} {pos pos' : Pos} {ta tv : TE}
def sXF (C : Addr) (ta tv : TE) (f : Str) : TS := fun D σ H => tv σ H fun y H1 => ta σ H1 fun x H2 => ∃ a, x = .ref a ∧ H2 a = some (.ext (isXN a C)) ∧ ∀ dx, H2 dx = none → dx ≠ a → D.nx σ (upd (upd H2 a (.ext (isXF a C dx))) dx (.xd [(f, y)]))
theorem ps_xfld (hq : xIn X.K C CF fI = true) (sa : PySem.W.findIn X.K (.ref C) "__setattr__" = some (some (.builtin "object.__setattr__"))) (nf : PySem.W.findIn X.K (.ref C) f = some none) (ha : PE X o ta) (hv : PE X value tv) (hs : swapsWith value (some (.Attribute o f pos')) pos.line X.env = pure false) :
    PS X (.Assign [.Attribute o f pos'] value pos) (sXF C ta tv f) := by
  intro pins s σ H D I h
  refine plainObj_wpAny_Assign_Attribute (thn (hv pins s σ H _ I h) fun u s1 ⟨y, H1, I1, ry, q⟩ => thn (ha pins s1 σ H1 _ I1 q) fun ov s2 ⟨x, H2, I2, rx, a, ex, ea, q2⟩ => ?_) hs
  subst ex
  obtain rfl : ov = Value.ref a := rx
  obtain ⟨ph, _, _⟩ := (show ObjOk X.prog X.w H2 s2.heap a (.ext (isXN a C)) from I2.hok a _ ea)
  obtain ⟨N, nm, qn, bs, sn, sub, ab, col, dd, k0, k1, k2, k3, k5, mN, hC, hN, hi, T⟩ := xcls_obj I2.kIn hq
  have ls := PySem.W.looks_findIn (M := model X.prog X.w) I2.kIn sa
  have ln := PySem.W.looks_findIn (M := model X.prog X.w) I2.kIn nf
  obtain ⟨h, g, d, t, os⟩ := s2
  obtain ⟨vs, t0, hx, h0⟩ := ph
  refine xst_attr hC ls ln hx rfl rfl (fun c z => by cases z) fun h' tk' z1 z2 z3 => ?_
  have hx : h.get? a = some (xnO C vs) := hx
  have fr : H2 h.objs.size = none := I2.hok.fresh (Nat.le_refl _)
  have ne : h.objs.size ≠ a := (Nat.ne_of_lt (Heap.lt_size hx)).symm
  have um : (h.update a fun o => { o with dict := some h.objs.size }).get? a = some { xnO C vs with dict := some h.objs.size } := Heap.get?_update_self _ hx rfl
  have I3 := I2.write (x := a) (e := a) (o := .ext (isXF a C h.objs.size)) (h' := h.update a fun o => { o with dict := some h.objs.size }) (t' := t) (by rw [ea]; exact True.intro) (.inl rfl) (fun b u hb z => (Heap.get?_update_ne _ _ _ _ hb).trans z) ⟨_, um⟩
    (xf_ok ⟨_, um, rfl, rfl, fun c z => by cases z⟩)
  have sz : (h.update a fun o => { o with dict := some h.objs.size }).objs.size = h.objs.size := by simp
  have I4 := I3.laid (a := h.objs.size) (o := .xd [(f, y)]) (h' := h') (t' := tk') (fun b u z => ?_) (Nat.le_of_eq sz) ⟨_, z2, fun g' => ?_⟩
  · exact ⟨σ, _, I4, q2 _ fr ne⟩
  · by_cases hb : b = a
    · subst hb
      rw [um] at z
      cases z
      exact z1
    · rw [Heap.get?_update_ne _ _ _ _ hb] at z
      exact z3 b u hb z
  · by_cases hg : g' = f
    · subst hg; simp [List.lookup]; exact ry
    · have : (g' == f) = false := by simpa using hg
      simp [List.lookup, this, hg]; exact True.intro
end
end L2.CF
namespace L2.CF
open PySem PySem.Spec PyProof.Rows
section
variable {X : Cx} {C CF fI : Addr} {f b : Str} {p apos p1 pos1 p2 p3 pos2 : Pos} {e value : Expr} {es : List Expr} {fa : FA} {fv : FE} {rs : List RR} {rr : RR} {ρ : Addr → DS} {self : Str}
def tXI (K : PySem.W.Frag) (C : Addr) (f : Str) (rr : RR) (ρ : Addr → DS) : TS := fun D σ H => ∃ G A x, Rep K G H σ (ρ x) A ∧ σ[0]? = some (some (V.ref x)) ∧ H x = some (.ext (isXN x C)) ∧ (∀ i, x ∉ A i) ∧
  ∀ v G' H' A' S dx, Evo G H A G' H' A' → Rep K G' H' σ (ρ x) A' → ResOf K G' H' σ A' v rr S → (∀ a ∈ S, H a = none ∨ ∃ i, a ∈ A i) → H' x = some (.ext (isXN x C)) → H' dx = none → dx ≠ x →
    D.nx σ (upd (upd H' x (.ext (isXF x C dx))) dx (.xd [(f, v)]))
theorem pss_xinit {pl : Sem Bool} (hq : xIn X.K C CF fI = true) (B : XBase X.K X.mg b CF) (sa : PySem.W.findIn X.K (.ref C) "__setattr__" = some (some (.builtin "object.__setattr__"))) (nf : PySem.W.findIn X.K (.ref C) f = some none)
    (ha : DA X (e :: es) fa) (hfa : ∀ x, fa (ρ x) = some (.own (.p (.ptr x)) :: rs, ρ x)) (hl : rs.length ≤ 100) (hv : DE X value fv) (hfv : ∀ x, fv (ρ x) = some (rr, ρ x)) (hself : X.N[0]? = some self) (hvis : Vis X.env.scope self)
    (hd1 : (self == ("__debug__" : Str)) = false := by decide) (hd2 : (self == ("__classdict__" : Str)) = false := by decide)
    (hg : Gl X b := by rfl) (hdb : (b == ("__debug__" : Str)) = false := by decide)
    (hst : starEach (e :: es) X.env = (false, eval e X.env) :: starEach es X.env := by rfl) (hpl : (backTo pos1 (starEach es X.env)).any (·.1) = false := by rfl)
    (ht : eval (.Call (.Attribute (.Name b p) "__init__" apos) (e :: es) [] pos1) X.env = (do
      let ov ← eval (.Name b p) X.env
      standAt apos.atName
      let (f, first) ← holding [ov] (getMethod ov "__init__" pl)
      callWith pos1 f first (backTo pos1 (starEach (e :: es) X.env)) (backToKw pos1 (keywordEach [] X.env))) := by rfl)
    (hs1 : swapsWith (.Call (.Attribute (.Name b p) "__init__" apos) (e :: es) [] pos1) none p1.line X.env = pure false := by rfl)
    (hs2 : swapsWith value (some (.Attribute (.Name self p2) f p3)) pos2.line X.env = pure false := by rfl) :
    PSs X [.Expr (.Call (.Attribute (.Name b p) "__init__" apos) (e :: es) [] pos1) p1, .Assign [.Attribute (.Name self p2) f p3] value pos2] (tXI X.K C f rr ρ) := by
  intro pins s σ H D I ⟨G, A, x, R, e0, hx, hnx, k⟩
  have h1 := ps_expr (X := X) (pos := p1) (pe_xbase (pl := pl) hq B (ha _ _ _ (hfa x)) hg hdb hst hpl ht) hs1
  have h2 := ps_xfld (X := X) (pos := pos2) (pos' := p3) hq sa nf (pe_var (pos := p2) hself hvis hd1 hd2) (hv _ _ _ (hfv x)) hs2
  refine pss_cons h1 (pss_one h2) pins s σ H D I ?_
  refine ⟨G, A, R, fun vs G1 H1 A1 Ss v1 R1 q1 f1 => ?_⟩
  have hx1 : H1 x = some (.ext (isXN x C)) := v1.keep _ _ hx hnx
  have hn1 : ∀ i, x ∉ A1 i := fun i z => by
    rcases v1.foot i x z with z | ⟨j, z⟩
    · rw [hx] at z; cases z
    · exact hnx j z
  match vs, Ss, q1 with
  | v :: ws, S :: Ss, ⟨r1, _, r2⟩ =>
    obtain ⟨⟨_, r1⟩, _⟩ := r1
    cases r1
    refine ⟨x, ws, rfl, by rw [resL_vlen r2]; exact hl, hx1, ?_⟩
    refine ⟨G1, A1, R1, fun v G2 H2 A2 S2 v2 R2 q2 f2 => ?_⟩
    have hx2 : H2 x = some (.ext (isXN x C)) := v2.keep _ _ hx1 hn1
    refine ⟨V.ref x, e0, x, rfl, hx2, fun dx hd ne => k v G2 H2 A2 S2 dx (v1.trans v2) R2 q2 (fun a z => ?_) hx2 hd ne⟩
    rcases f2 a z with z | ⟨i, z⟩
    · rcases v1.back z with z | z
      · exact .inl z
      · exact .inr z
    · exact v1.foot i a z
end
end L2.CF
namespace L2.CF
open PySem PySem.Spec PyProof.Rows
section
variable {X : Cx} {P : Nat} {x : Str} {C : Addr} {p pos : Pos} {e : Expr} {es : List Expr} {fa : FA}
theorem Inv.madeX {pins : List (Addr × Obj)} {σ : St} {H : Hp} {s : Shared} {h' : Heap} {a : Addr} {us : List Value} (I : Inv X pins σ H s) (hex : X.ex = []) (mk : Heap.MadeExcOf s.heap h' a (.ref C) us) :
    H a = none ∧ Inv X pins σ (upd H a (.ext (isX a C))) { s with heap := h' } := by
  have I1 : Inv X pins σ H { s with heap := h' } := I.kept (t' := s.toks) mk.keeps
  have ni : ¬ Imp X pins H a := fun i => by
    obtain ⟨o, z⟩ := i.there I hex
    rw [mk.new] at z; cases z
  obtain ⟨t, z, _⟩ := mk.there
  refine ⟨?_, Inv.track I1 ni ⟨⟨_, z, rfl⟩, ⟨_, z⟩, fun h1 h2 ⟨o, z1, z2⟩ f => ⟨o, f o z1, z2⟩⟩⟩
  cases q : H a with
  | none => rfl
  | some u => exact absurd (.inr (.inr (.inr (.inr ⟨u, q⟩)))) ni
def fMk0 (x : Str) (f : FA) : FE := fun ρ => (f ρ).bind fun p => if p.1.length ≤ 100 then some (.own (.p (.exc x)), p.2) else none
theorem fMk0_inv {f : FA} {ρ ρ' : DS} {rr : RR} (h : fMk0 x f ρ = some (rr, ρ')) : ∃ rs, f ρ = some (rs, ρ') ∧ rs.length ≤ 100 ∧ rr = .own (.p (.exc x)) := by
  obtain ⟨⟨rs, ρ1⟩, h1, z⟩ := obi h
  split at z
  · next l => cases z; exact ⟨rs, h1, l, rfl⟩
  · cases z
instance [hk : KpA P fa] : KpE P (fMk0 x fa) := ⟨fun ρ rr ρ' h => by
  obtain ⟨rs, h1, _, _⟩ := fMk0_inv h
  exact hk.kp _ _ _ h1⟩
theorem de_mk0 (hex : X.ex = []) (c : ECls X.K X.mg x C) (hn : PySem.W.nsIn X.K mainGlobals x = some (some (.ref C))) (kp : PySem.W.keepIn X.K (.ref C) = true) (ha : DA X (e :: es) fa) (hg : Gl X x := by rfl) (hdb : (x == ("__debug__" : Str)) = false := by decide)
    (he : starEach (e :: es) X.env = (false, eval e X.env) :: starEach es X.env := by rfl) (hpl : (backTo pos (starEach es X.env)).any (·.1) = false := by rfl) :
    DE X (.Call (.Name x p) (e :: es) [] pos) (fMk0 x fa) := by
  intro ρ rr ρ' hf
  obtain ⟨rs, h1, hl, rfl⟩ := fMk0_inv hf
  intro pins s σ H Q I ⟨G, A, R, k⟩
  refine wpAny_Call_Name_kw (ld_glob I hg c.g ?_ hdb)
  refine PySem.W.callWith_K (h₀ := X.base) I.ok.mod.kin kp (thn (ha _ _ _ h1 pos pins s σ H (fun vs H1 => vs.length ≤ 100 ∧ ∃ G1 A1, Evo G H A G1 H1 A1 ∧ Rep X.K G1 H1 σ ρ' A1) I ⟨G, A, R, fun vs G1 H1 A1 Ss e1 R1 q1 f1 => ⟨by rw [resL_vlen q1]; exact hl, G1, A1, e1, R1⟩⟩)
    fun us s1 ⟨vs, H1, I1, r, lv, G1, A1, ev, R1⟩ => ⟨I1.kIn, ?_⟩) he hpl
  obtain ⟨bm, N, nm, qn, bs, hdct, sn, sub, ab, col, dd, k0, k1, k2, k3, k5, mN, cd, cl, sl, hC, hN, hni, T, _, _⟩ := ecls_obj I1.kIn c.q
  obtain ⟨h, g, d, t, os⟩ := s1
  show wpAny _ _ (call (Value.ref C) us) _ _ _
  refine wpAny_call_exc_subT PySem.F.excBase_ValueError T hC hN hni (fun h' a mk => ?_) (Nat.le_trans (by rw [← r.length]; exact lv) (by decide))
  obtain ⟨hn1, I2⟩ := Inv.madeX (C := C) I1 hex mk
  have al : Al G1 H1 (upd G1 a (.ext (isX a C))) (upd H1 a (.ext (isX a C))) := Al.frozen R1.imm hn1
  exact ⟨.ref a, _, I2, rfl, k _ _ _ A1 [] (ev.trans (al.evo (A := A1))) (al.rep R1) ⟨⟨rfl, .exc hn upd_same⟩, by simp⟩ (by simp)⟩
end
end L2.CF
namespace L2.CF
open PySem PySem.Spec PyProof.Rows
def frzR : RV → Option D
  | .p d => some d
  | .L ds => some (.lst ds)
  | _ => none
section
variable {K : PySem.W.Frag}
theorem RepV.foot {G H G' H' : Hp} {v : V} {r : RV} {S S' : List Addr} (h : RepV K G H v r S) (h' : RepV K G' H' v r S') : S' = S := by
  cases r with
  | p d => rw [h.1, h'.1]
  | L ds =>
    obtain ⟨a, _, e1, e2, _⟩ := h
    obtain ⟨a', _, e1', e2', _⟩ := h'
    rw [e1] at e1'; cases e1'; rw [e2, e2']
  | K ds =>
    obtain ⟨a, _, e1, e2, _⟩ := h
    obtain ⟨a', _, e1', e2', _⟩ := h'
    rw [e1] at e1'; cases e1'; rw [e2, e2']
  | S ds c ms =>
    obtain ⟨a, _, _, e1, e2, _⟩ := h
    obtain ⟨a', _, _, e1', e2', _⟩ := h'
    rw [e1] at e1'; cases e1'; rw [e2, e2']
def spI (K : PySem.W.Frag) (C : Addr) (f : Str) (gd : RV → Option D) : Sp := fun vs H Q _ => ∃ G x v0 r0 S0 d, vs = [V.ref x, v0] ∧ gd r0 = some d ∧ Le G H ∧ RepV K G H v0 r0 S0 ∧ H x = some (.ext (isXN x C)) ∧ G x = none ∧ x ∉ S0 ∧
  ∀ G' H' dx w, Le G G' → Le G' H' → (∀ b o, G' b = some o → G b = some o ∨ H b = none) → (∀ b o, H b = some o → b ∉ S0 → H' b = some o) → RepV K G' H' v0 r0 S0 → Pu K G' w d → H' dx = none → dx ≠ x →
    Q .non (upd (upd H' x (.ext (isXF x C dx))) dx (.xd [(f, w)]))
theorem xinit_ent {N : List Str} {C : Addr} {f : Str} {gd : RV → Option D} {rr : RR} {r0 : RV} {d : D} {Q : VK} {G H : Hp} {x : Addr} {v0 : V} {S0 : List Addr} (hN : N.length = 2)
    (hrr : ∃ r, rr = .own r ∧ frzR r = some d) (l : Le G H) (hv : RepV K G H v0 r0 S0) (hx : H x = some (.ext (isXN x C))) (gx : G x = none) (xs : x ∉ S0)
    (k : ∀ G' H' dx w, Le G G' → Le G' H' → (∀ b o, G' b = some o → G b = some o ∨ H b = none) → (∀ b o, H b = some o → b ∉ S0 → H' b = some o) → RepV K G' H' v0 r0 S0 → Pu K G' w d → H' dx = none → dx ≠ x →
      Q .non (upd (upd H' x (.ext (isXF x C dx))) dx (.xd [(f, w)]))) :
    tXI K C f rr (fun x => [some (.p (.ptr x)), some r0]) { nx := fun _ H' => Q .non H', rt := Q } (start N [V.ref x, v0]) H := by
  have st : start N [V.ref x, v0] = [some (V.ref x), some v0] := by unfold start; simp [hN]
  rw [st]
  refine ⟨G, fun i => if i = 1 then S0 else [], x, ⟨l, rfl, fun i r e => ?_, fun i e => ?_, fun i j a h1 h2 => ?_⟩, rfl, hx, fun i z => ?_, fun v G' H' A' S dx ev R q fr hx' hd ne => ?_⟩
  · match i, e with
    | 0, e => cases e; exact ⟨_, rfl, rfl, .ptr⟩
    | 1, e => cases e; exact ⟨_, rfl, hv⟩
    | i + 2, e => simp at e
  · have : i ≠ 1 := fun z => by subst z; exact e r0 rfl
    simp [this]
  · have h1 : a ∈ (if i = 1 then S0 else []) := h1
    have h2 : a ∈ (if j = 1 then S0 else []) := h2
    split at h1
    · split at h2
      · omega
      · simp at h2
    · simp at h1
  · have z : x ∈ (if i = 1 then S0 else []) := z
    split at z
    · exact xs z
    · simp at z
  · obtain ⟨v', e1, rv⟩ := R.slot 1 r0 rfl
    have e1 : some (some v0) = some (some v') := e1
    cases e1
    have fo : A' 1 = S0 := hv.foot rv
    rw [fo] at rv
    have nw : ∀ b o, G' b = some o → G b = some o ∨ H b = none := fun b o z => by
      rcases ev.new b o z with z' | z' | ⟨i, z'⟩
      · exact .inl z'
      · exact .inr z'
      · have z' : b ∈ (if i = 1 then S0 else []) := z'
        split at z'
        · rw [rv.gfree z'] at z; cases z
        · simp at z'
    have kp : ∀ b o, H b = some o → b ∉ S0 → H' b = some o := fun b o z n => ev.keep b o z fun i => by
      show b ∉ (if i = 1 then S0 else [])
      split
      · exact n
      · simp
    obtain ⟨r, rfl, hr⟩ := hrr
    · obtain ⟨hr', ha⟩ := q
      cases r with
      | p d' =>
        cases hr
        exact k G' H' dx v ev.le R.imm nw kp rv hr'.2 hd ne
      | L ds =>
        cases hr
        obtain ⟨a, vs, rfl, rfl, h1, h2, h3⟩ := hr'
        have na : a ∉ S0 := by rw [← fo]; exact ha 1 a (by simp)
        have hna : H a = none := by
          rcases fr a (by simp) with z | ⟨i, z⟩
          · exact z
          · have z : a ∈ (if i = 1 then S0 else []) := z
            split at z
            · exact absurd z na
            · simp at z
        have lg : Le G' (upd G' a (.lst vs)) := le_upd h2
        refine k (upd G' a (.lst vs)) H' dx (.ref a) (ev.le.trans lg) (fun b o z => ?_) (fun b o z => ?_) kp (rv.stay lg (fun _ _ _ z => z) fun b hb => ?_) (.lst (.inl (.inl upd_same)) (h3.mono lg)) hd ne
        · by_cases e : b = a
          · subst e; rw [upd_same] at z; cases z; exact h1
          · rw [upd_ne e] at z; exact R.imm b o z
        · by_cases e : b = a
          · subst e; exact .inr hna
          · rw [upd_ne e] at z; exact nw b o z
        · rw [upd_ne (fun e : b = a => na (e ▸ hb))]; exact rv.gfree hb
      | K ds => cases hr
      | S ds c ms => cases hr
theorem fn_xinit {Pg : Program} {w : World} {mg : Str → Option Value} {base : Heap} {x qual : Str} {st : Stmt} {fI C : Addr} {fd : FuncData} {self p f : Str} {k : Nat} {gd : RV → Option D} (F : Fun K x qual st fI fd) (S : FnScope [self, p] [self, p] (defScope st))
    (hb : ∀ (cdv : Value) (A : Around) (outer : List Env) (s : Shared) (H : Hp) (E : XK), Room k (A.deeper (envOfC qual (defScope st) s.heap.objs.size fI cdv)) → ∀ r0 d, gd r0 = some d →
      ∃ rr, (∃ r, rr = .own r ∧ frzR r = some d) ∧ PSs (cxOf CX0 Pg w K mg base [self, p] qual (defScope st) fI cdv A outer s H E).nox (defBody st) (tXI K C f rr fun x => [some (.p (.ptr x)), some r0])) :
    FnOk Pg w K mg base CX0 (k + 1) fI fd [self, p] (spI K C f gd) := by
  refine F.ok S (fun vs H Q E ⟨_, _, _, _, _, _, e, _⟩ => by rw [e]; rfl) (fun cdv A outer s H vs Q E hr ⟨G, y, v0, r0, S0, d, e, hg, l, hv, hx, gx, ys, kk⟩ => ?_)
  subst e
  obtain ⟨rr, hrr, hp⟩ := hb cdv A outer s H E hr r0 d hg
  exact ⟨_, hp, xinit_ent (gd := gd) rfl hrr l hv hx gx ys kk⟩
end
end L2.CF
namespace L2.CF
open PySem PySem.Spec PyProof.Rows
structure XMk (K : PySem.W.Frag) (mg : Str → Option Value) (x : Str) (C CF fI : Addr) : Prop where
  g : mg x = some (.ref C)
  ns : PySem.W.nsIn K mainGlobals x = some (some (.ref C))
  q : xIn K C CF fI = true
  fn : (K.lookup fI).map (·.cls) = some (.type "function")
  kp : PySem.W.keepIn K (.ref C) = true
section
variable {X : Cx} {P : Nat} {x fl : Str} {C CF fI : Addr} {p pos : Pos} {e : Expr} {fe : FE} {gd : RV → Option D}
def mkOf (x fl : Str) (gd : RV → Option D) : RV → Option RV := fun r => (gd r).map fun d => .p (.obj x fl d)
theorem de_mkI {k : Nat} {fd : FuncData} {self a : Str} (M : XMk X.K X.mg x C CF fI) (F : FnOk X.prog X.w X.K X.mg X.base CX0 k fI fd [self, a] (spI X.K C fl gd)) (hr : Room (k + 1) X.A) (hb : Binds X.K fd [self, a] []) (ha : DE X e fe)
    (hg : Gl X x := by rfl) (hdb : (x == ("__debug__" : Str)) = false := by decide)
    (he : starEach [e] X.env = (false, eval e X.env) :: starEach [] X.env := by rfl) (hpl : (backTo pos (starEach [] X.env)).any (·.1) = false := by rfl) :
    DE X (.Call (.Name x p) [e] [] pos) (f1 (mkOf x fl gd) fe) := by
  intro ρ rr ρ' hf
  obtain ⟨ra, r0, r, h1, h2, h3, rfl⟩ := f1_inv hf
  obtain ⟨d, hd, rfl⟩ := omi h3
  intro pins s σ H Q I ⟨G, A, R, kq⟩
  refine wpAny_Call_Name_kw (ld_glob I hg M.g ?_ hdb)
  have hA : PA X [e] (tCons (tD X.K ρ ra ρ') tNil) := pa_cons (ha _ _ _ h1) pa_nil he
  refine PySem.W.callWith_K (h₀ := X.base) I.ok.mod.kin M.kp (thn (hA pos pins s σ H (fun vs H1 => ∃ v0 G1 A1 S, vs = [v0] ∧ Evo G H A G1 H1 A1 ∧ Rep X.K G1 H1 σ ρ' A1 ∧ ResOf X.K G1 H1 σ A1 v0 ra S ∧ ∀ b ∈ S, H b = none ∨ ∃ i, b ∈ A i) I ⟨G, A, R, fun v G1 H1 A1 S e1 R1 q1 f1 => ⟨v, G1, A1, S, rfl, e1, R1, q1, f1⟩⟩)
    fun us s1 ⟨vs, H1, I1, r, v0, G1, A1, S, ev0, ev, R1, q1, fr⟩ => ⟨I1.kIn, ?_⟩) he hpl
  subst ev0
  obtain ⟨u0, rfl, ru⟩ : ∃ u, us = [u] ∧ RelV v0 u := by
    cases r with
    | cons a b => cases b; exact ⟨_, rfl, a⟩
  show wpAny _ _ (call (Value.ref C) [u0]) _ _ _
  obtain ⟨S0, rv, sp1, sp2⟩ : ∃ S0, RepV X.K G1 H1 v0 r0 S0 ∧ (∀ b ∈ S0, H b = none ∨ (∃ i, b ∈ A i)) ∧ ∀ j r', ρ'[j]? = some (some r') → (∀ b ∈ S0, b ∉ A1 j) ∨ (A1 j = S0 ∧ σ[j]? = some (some v0) ∧ r' = r0) := by
    cases ra with
    | own q => cases h2; exact ⟨S, q1.1, fr, fun j _ _ => .inl fun b hb => q1.2 j b hb⟩
    | «at» i =>
      obtain ⟨_, ei⟩ := q1
      have e2 : ρ'[i]? = some (some r0) := by
        cases z : ρ'[i]? with
        | none => simp [res, z] at h2
        | some o => simp [res, z] at h2; rw [h2]
      obtain ⟨v', e3, rv⟩ := R1.slot i r0 e2
      rw [ei] at e3; cases e3
      refine ⟨A1 i, rv, fun b hb => ev.foot i b hb, fun j r' ej => ?_⟩
      by_cases z : j = i
      · subst z; rw [e2] at ej; cases ej; exact .inr ⟨rfl, ei, rfl⟩
      · exact .inl fun b hb hb' => z (R1.disj j i b hb' hb)
  obtain ⟨N, nm, qn, bs, sn, sub, ab, col, dd, k0, k1, k2, k3, k5, mN, hC, hN, hi, T⟩ := xcls_obj I1.kIn M.q
  obtain ⟨oI, lk, hfc⟩ : ∃ oI, X.K.lookup fI = some oI ∧ oI.cls = .type "function" := omi M.fn
  have hf := I1.kIn _ _ lk
  obtain ⟨h, g, dr, t, os⟩ := s1
  have hfr : H1 (h.objs.size + 1) = none := I1.hok.fresh (Nat.le_succ _)
  have x1 : ((h.push (tupO [u0])).push (excO C h.objs.size)).get? (h.objs.size + 1) = some (excO C h.objs.size) := by heap_get
  have I2 : Inv X pins σ (upd H1 (h.objs.size + 1) (.ext (isXN (h.objs.size + 1) C))) ⟨(h.push (tupO [u0])).push (excO C h.objs.size), g, dr, t, os⟩ :=
    I1.laid (a := h.objs.size + 1) (t' := t) (h' := (h.push (tupO [u0])).push (excO C h.objs.size)) (fun b o z => Heap.get?_push_of_some _ (Heap.get?_push_of_some _ z)) (Nat.le_succ _) (xn_ok ⟨_, h.objs.size, x1, rfl⟩)
  refine xinit_call PySem.F.excBase_ValueError T hC hN hi hf hfc ?_ (by show 1 ≤ sizeLine; decide)
  have ix : ∀ b, H1 b ≠ none → b ≠ h.objs.size + 1 := fun b z e => z (by rw [e]; exact hfr)
  have xs : h.objs.size + 1 ∉ S0 := fun z => by
    obtain ⟨o, z'⟩ := rv.there z
    rw [hfr] at z'; cases z'
  have gx : G1 (h.objs.size + 1) = none := by
    cases z : G1 (h.objs.size + 1) with
    | none => rfl
    | some o => have := R1.imm _ _ z; rw [hfr] at this; cases this
  have lu : Le H1 (upd H1 (h.objs.size + 1) (.ext (isXN (h.objs.size + 1) C))) := le_upd hfr
  have r2 : Vals [V.ref (h.objs.size + 1), v0] [Value.ref (h.objs.size + 1), u0] := .cons rfl (.cons ru .nil)
  have spec : spI X.K C fl gd [V.ref (h.objs.size + 1), v0] (upd H1 (h.objs.size + 1) (.ext (isXN (h.objs.size + 1) C))) (fun v H3 => v = .non ∧ Q (.ref (h.objs.size + 1)) H3) E0 := by
    refine ⟨G1, h.objs.size + 1, v0, r0, S0, d, rfl, hd, R1.imm.trans lu, rv.stay (Le.refl _) (fun b _ o z => lu b o z) (fun b hb => rv.gfree hb), upd_same, gx, xs, fun G' H' dx w lg im nw kp rv' pw hdx ne => ⟨rfl, ?_⟩⟩
    have gx' : G' (h.objs.size + 1) = none := by
      cases z : G' (h.objs.size + 1) with
      | none => rfl
      | some o =>
        rcases nw _ _ z with z | z
        · rw [gx] at z; cases z
        · rw [upd_same] at z; cases z
    have gdx : G' dx = none := by
      cases z : G' dx with
      | none => rfl
      | some o => have := im _ _ z; rw [hdx] at this; cases this
    have dS : dx ∉ S0 := fun z => by
      obtain ⟨o, z'⟩ := rv'.there z
      rw [hdx] at z'; cases z'
    have kp1 : ∀ b o, H1 b = some o → b ∉ S0 → H' b = some o := fun b o z n => kp b o (lu b o z) n
    have hd1 : H1 dx = none := by
      cases z : H1 dx with
      | none => rfl
      | some o => have := kp1 _ _ z dS; rw [hdx] at this; cases this
    have l1 : Le G' (upd G' (h.objs.size + 1) (.ext (isXF (h.objs.size + 1) C dx))) := le_upd gx'
    have gdx' : upd G' (h.objs.size + 1) (.ext (isXF (h.objs.size + 1) C dx)) dx = none := by rw [upd_ne ne]; exact gdx
    have l2 : Le (upd G' (h.objs.size + 1) (.ext (isXF (h.objs.size + 1) C dx))) (upd (upd G' (h.objs.size + 1) (.ext (isXF (h.objs.size + 1) C dx))) dx (.xd [(fl, w)])) := le_upd gdx'
    have nw1 : ∀ b o, G' b = some o → G1 b = some o ∨ H1 b = none := fun b o z => by
      rcases nw b o z with z' | z'
      · exact .inl z'
      · by_cases e : b = h.objs.size + 1
        · rw [e]; exact .inr hfr
        · rw [upd_ne e] at z'; exact .inr z'
    have up3 : ∀ b, b ≠ h.objs.size + 1 → b ≠ dx → upd (upd H' (h.objs.size + 1) (.ext (isXF (h.objs.size + 1) C dx))) dx (.xd [(fl, w)]) b = H' b := fun b n1 n2 => by rw [upd_ne n2, upd_ne n1]
    have gp3 : ∀ b, b ≠ h.objs.size + 1 → b ≠ dx → upd (upd G' (h.objs.size + 1) (.ext (isXF (h.objs.size + 1) C dx))) dx (.xd [(fl, w)]) b = G' b := fun b n1 n2 => by rw [upd_ne n2, upd_ne n1]
    have some_ne : ∀ b o, H1 b = some o → b ≠ h.objs.size + 1 ∧ b ≠ dx := fun b o z => ⟨fun e => (by rw [e, hfr] at z; cases z), fun e => (by rw [e, hd1] at z; cases z)⟩
    refine kq (.ref (h.objs.size + 1)) (upd (upd G' (h.objs.size + 1) (.ext (isXF (h.objs.size + 1) C dx))) dx (.xd [(fl, w)])) (upd (upd H' (h.objs.size + 1) (.ext (isXF (h.objs.size + 1) C dx))) dx (.xd [(fl, w)])) A1 [] ?_ ?_ ⟨⟨rfl, ?_⟩, by simp⟩ (by simp)
    · refine ⟨ev.le.trans (lg.trans (l1.trans l2)), fun b o z => ?_, fun b o z n => ?_, ev.foot⟩
      · by_cases e1 : b = dx
        · subst e1
          exact .inr (ev.back hd1)
        · by_cases e2 : b = h.objs.size + 1
          · subst e2; exact .inr (ev.back hfr)
          · rw [gp3 b e2 e1] at z
            rcases nw1 b o z with z | z
            · exact ev.new b o z
            · exact .inr (ev.back z)
      · have z1 := ev.keep b o z n
        obtain ⟨n1, n2⟩ := some_ne b o z1
        rw [up3 b n1 n2]
        refine kp1 b o z1 fun hb => ?_
        rcases sp1 b hb with z' | ⟨i, z'⟩
        · rw [z] at z'; cases z'
        · exact n i z'
    · refine ⟨fun b o z => ?_, R1.len, fun j r' ej => ?_, R1.emp, R1.disj⟩
      · by_cases e1 : b = dx
        · subst e1; rw [upd_same] at z ⊢; exact z
        · by_cases e2 : b = h.objs.size + 1
          · rw [e2, upd_ne ne.symm, upd_same] at z ⊢; exact z
          · rw [gp3 b e2 e1] at z; rw [up3 b e2 e1]; exact im b o z
      · obtain ⟨vj, ejv, rj⟩ := R1.slot j r' ej
        rcases sp2 j r' ej with dis | ⟨eS, ev0, er⟩
        · refine ⟨vj, ejv, rj.stay (lg.trans (l1.trans l2)) (fun b hb o z => ?_) fun b hb => ?_⟩
          · obtain ⟨n1, n2⟩ := some_ne b o z
            rw [up3 b n1 n2]
            exact kp1 b o z fun hb' => dis b hb' hb
          · obtain ⟨o, z⟩ := rj.there hb
            obtain ⟨n1, n2⟩ := some_ne b o z
            rw [gp3 b n1 n2]
            cases q : G' b with
            | none => rfl
            | some o' =>
              rcases nw1 b o' q with q | q
              · rw [rj.gfree hb] at q; cases q
              · rw [z] at q; cases q
        · subst er
          rw [ejv] at ev0; cases ev0
          rw [eS]
          refine ⟨_, ejv, rv'.stay (l1.trans l2) (fun b hb o z => ?_) fun b hb => ?_⟩
          · rw [up3 b (fun e => xs (e ▸ hb)) (fun e => dS (e ▸ hb))]; exact z
          · rw [gp3 b (fun e => xs (e ▸ hb)) (fun e => dS (e ▸ hb))]; exact rv'.gfree hb
    · exact .obj M.ns (by rw [upd_ne ne.symm]; exact upd_same) upd_same (pw.mono (l1.trans l2))
  refine wpAny_call (codeAny_mono (F.run _ X.stack _ _ ⟨[Value.ref (h.objs.size + 1), u0], []⟩ [Value.ref (h.objs.size + 1), u0] _ _ E0 (hr.make C [u0] []) (I2.env0.make C [u0] []) (hb _ [Value.ref (h.objs.size + 1), u0] I2.kIn rfl) r2 spec) fun r s' hq' => ?_)
  cases r with
  | error e => exact hq'.elim
  | ok fl' =>
    cases fl' with
    | ret u =>
      obtain ⟨v, H', I3, rv3, ev3, q3⟩ := I2.after hq'
      subst ev3
      exact ⟨rv3, ⟨V.ref (h.objs.size + 1), H', I3, rfl, q3⟩⟩
    | next => exact False.elim hq'
    | brk => exact False.elim hq'
    | cont => exact False.elim hq'
end
end L2.CF
namespace L2.CF
open PySem PySem.Spec PyProof.Rows
theorem kitx_excI {K : PySem.W.Frag} {a C CF fI : Addr} (q : xIn K C CF fI = true) (F1 : EAttr K C) : PySem.W.KitX K (.ref a) (.ref C) (isX a C) where
  ty := fun M h X ⟨o, h1, h2⟩ => by exact h2 ▸ (PySem.W.Looks.ld h1).andThen .now
  it := fun M h X _ => by
    obtain ⟨N, nm, qn, bs, sn, sub, ab, col, dd, k0, k1, k2, k3, k5, mN, hC, _⟩ := xcls_obj X q
    intro A' Q' E' s' k q
    unfold isType loadHead
    exact wpAny_bind (wpAny_loadPart (k _ _ hC) (wpAny_pure q))
  ne := fun h tp dd its n sl X htp => by
    obtain ⟨N, nm, qn, bs, sn, sub, ab, col, dd, k0, k1, k2, k3, k5, mN, hC, _⟩ := xcls_obj X q
    refine Bool.eq_false_iff.mpr fun z => ?_
    have e : C = tp := Value.ref.inj (beq_iff_eq.mp z)
    subst e
    rw [hC] at htp
    have z2 : Value.type "type" = Value.type "tuple" := congrArg Obj.cls (Option.some.inj htp)
    injection z2 with z2
    exact absurd z2 (by decide)
  ca := fun {prog w A E Q s} X ⟨o, h1, h2⟩ k => by
    obtain ⟨N, nm, qn, bs, sn, sub, ab, col, dd, k0, k1, k2, k3, k5, mN, hC, _, _, T⟩ := xcls_obj X q
    obtain ⟨h, g, d, t, os⟩ := s
    exact ecl_attr X F1 hC (T.hasType (by decide)) (T.hasType (by decide)) h1 h2 k
def ErrC (K : PySem.W.Frag) (C : Addr) : Prop := PySem.W.excIn K C vErr "ValueError.__new__" = true ∨ ∃ CF fI, xIn K C CF fI = true
theorem kitx_err {K : PySem.W.Frag} {a C : Addr} (q : ErrC K C) (F1 : EAttr K C) : PySem.W.KitX K (.ref a) (.ref C) (isX a C) := by
  rcases q with q | ⟨CF, fI, q⟩
  · exact kitx_exc q F1
  · exact kitx_excI q F1
structure EKitX (K : PySem.W.Frag) (c : Str) (V : Value) (b : Bool) : Prop where
  ex : ∃ C, PySem.W.nsIn K mainGlobals c = some (some (.ref C)) ∧ ErrC K C ∧ EAttr K C ∧ PySem.W.kitOne K (.ref C) V = some b
def errOf (mt : Str → Option Bool) : RV → Option RV
  | .p (.exc c) => (mt c).map fun b => .p (.bl b)
  | .p (.obj c _ _) => (mt c).map fun b => .p (.bl b)
  | _ => none
def fIsE (mt : Str → Option Bool) (f : FE) : FE := f1 (errOf mt) f
instance {P : Nat} {mt : Str → Option Bool} {fa : FE} [h : KpE P fa] : KpE P (fIsE mt fa) := inferInstanceAs (KpE P (f1 _ fa))
section
variable {X : Cx} {P : Nat} {a : Expr} {fa : FE} {mt : Str → Option Bool} {x : Str} {p p2 pos : Pos}
def isErr (c : Str) (d : D) : Prop := d = .exc c ∨ ∃ f d', d = .obj c f d'
theorem ise_call {c : Str} {d : D} {W0 : Value} {vV : L2.V} {b : Bool} (ek : EKitX X.K c W0 b) (he : isErr c d) (rV : RelV vV W0) : CallR X (.builtin "isinstance") (fun vs H Q => ∃ G v S, Le G H ∧ vs = [v, vV] ∧ RepV X.K G H v (.p d) S ∧ (∀ u, RelV vV u → u = W0) ∧ Q (.bl b) H) := by
  intro pins s σ H xs us Q I r ⟨G, v, S, l, e, hv, un, q⟩
  subst e
  obtain ⟨u, w', rfl, ru, rw'⟩ := vals2 r
  obtain rfl := un w' rw'
  obtain ⟨_, hv⟩ := hv
  obtain ⟨C, e1, e2, e3, e4⟩ := ek.ex
  obtain ⟨a', rfl, ph⟩ : ∃ a', v = .ref a' ∧ isX a' C s.heap := by
    rcases he with rfl | ⟨f, d', rfl⟩
    · cases hv with
      | exc f1 f2 =>
        rename_i a' C'
        rw [e1] at f1; cases f1
        obtain ⟨ph, _, _⟩ := (show ObjOk X.prog X.w H s.heap a' (.ext (isX a' C)) from I.hok a' _ (l _ _ f2))
        exact ⟨a', rfl, ph⟩
    · cases hv with
      | obj f1 f2 f3 f4 =>
        rename_i a' C' dx v'
        rw [e1] at f1; cases f1
        obtain ⟨⟨o, z1, z2, _⟩, _, _⟩ := (show ObjOk X.prog X.w H s.heap a' (.ext (isXF a' C dx)) from I.hok a' _ (l _ _ f2))
        exact ⟨a', rfl, o, z1, z2⟩
  cases ru
  exact PySem.W.kia_one (kitx_err e2 e3) I.kIn ph e4 (fun z => nomatch z) fun tk => ⟨.bl b, H, I.tok tk, rfl, q⟩
theorem fIsE_inv {ρ ρ' : DS} {rr : RR} (h : fIsE mt fa ρ = some (rr, ρ')) : ∃ ra c d b, fa ρ = some (ra, ρ') ∧ res ρ' ra = some (.p d) ∧ isErr c d ∧ mt c = some b ∧ rr = .own (.p (.bl b)) := by
  obtain ⟨ra, y, r, h1, h2, h3, rfl⟩ := f1_inv h
  unfold errOf at h3
  split at h3
  · obtain ⟨b, h4, h5⟩ := omi h3
    cases h5
    exact ⟨ra, _, _, b, h1, h2, .inl rfl, h4, rfl⟩
  · obtain ⟨b, h4, h5⟩ := omi h3
    cases h5
    exact ⟨ra, _, _, b, h1, h2, .inr ⟨_, _, rfl⟩, h4, rfl⟩
  · cases h3
theorem de_iseO {D : Addr} (hg : Gl X "isinstance") (hm : X.mg "isinstance" = none) (hm2 : X.mg x = some (.ref D)) (hk : ∀ c b, mt c = some b → EKitX X.K c (.ref D) b) (ha : DE X a fa) (hg2 : Gl X x := by rfl)
    (hv : bootBuiltins "isinstance" = some (.builtin "isinstance") := by first | exact PySem.boot_isinstance | rfl) (hdb : (x == ("__debug__" : Str)) = false := by decide)
    (he : starEach [a, .Name x p2] X.env = (false, eval a X.env) :: starEach [.Name x p2] X.env := by rfl) (he2 : starEach [.Name x p2] X.env = (false, eval (.Name x p2) X.env) :: starEach [] X.env := by rfl) (hpl : (backTo pos (starEach [.Name x p2] X.env)).any (·.1) = false := by rfl) :
    DE X (.Call (.Name "isinstance" p) [a, .Name x p2] [] pos) (fIsE mt fa) := by
  intro ρ rr ρ' hf
  obtain ⟨ra, c, d, b, h1, h2, hi, h3, rfl⟩ := fIsE_inv hf
  refine PE.imp (pe_callB (ise_call (vV := .ref D) (hk c b h3) hi rfl) hg hm hv (pa_cons (ha _ _ _ h1) (pa_cons (pe_glob hg2 hm2 (v := .ref D) rfl hdb) pa_nil he2) he) (by decide) (by decide) he hpl) fun σ H Q ⟨G, A, R, k⟩ => ⟨G, A, R, fun v G1 H1 A1 S v1 R1 q1 f1 => ?_⟩
  obtain ⟨S', hx⟩ := res_of R1 q1 h2
  exact ⟨G1, v, S', R1.imm, rfl, hx, fun u r => r, k _ G1 H1 A1 [] v1 R1 ⟨⟨rfl, .bl⟩, by simp⟩ (by simp)⟩
theorem de_iseT {T : String} (hg : Gl X "isinstance") (hm : X.mg "isinstance" = none) (hm2 : X.mg x = none) (hv2 : bootBuiltins x = some (.type T)) (hk : ∀ c b, mt c = some b → EKitX X.K c (.type T) b) (ha : DE X a fa) (hg2 : Gl X x := by rfl)
    (hv : bootBuiltins "isinstance" = some (.builtin "isinstance") := by first | exact PySem.boot_isinstance | rfl) (hn : x ≠ "__name__" := by decide) (hdb : (x == ("__debug__" : Str)) = false := by decide)
    (he : starEach [a, .Name x p2] X.env = (false, eval a X.env) :: starEach [.Name x p2] X.env := by rfl) (he2 : starEach [.Name x p2] X.env = (false, eval (.Name x p2) X.env) :: starEach [] X.env := by rfl) (hpl : (backTo pos (starEach [.Name x p2] X.env)).any (·.1) = false := by rfl) :
    DE X (.Call (.Name "isinstance" p) [a, .Name x p2] [] pos) (fIsE mt fa) := by
  intro ρ rr ρ' hf
  obtain ⟨ra, c, d, b, h1, h2, hi, h3, rfl⟩ := fIsE_inv hf
  refine PE.imp (pe_callB (ise_call (vV := .ty T) (hk c b h3) hi rfl) hg hm hv (pa_cons (ha _ _ _ h1) (pa_cons (pe_bltn hg2 hm2 hv2 (v := .ty T) rfl hn hdb) pa_nil he2) he) (by decide) (by decide) he hpl) fun σ H Q ⟨G, A, R, k⟩ => ⟨G, A, R, fun v G1 H1 A1 S v1 R1 q1 f1 => ?_⟩
  obtain ⟨S', hx⟩ := res_of R1 q1 h2
  exact ⟨G1, v, S', R1.imm, rfl, hx, fun u r => r, k _ G1 H1 A1 [] v1 R1 ⟨⟨rfl, .bl⟩, by simp⟩ (by simp)⟩
structure XFld (K : PySem.W.Frag) (c f : Str) : Prop where
  ex : ∃ C CF fI, PySem.W.nsIn K mainGlobals c = some (some (.ref C)) ∧ xIn K C CF fI = true ∧ EAttr K C ∧ PySem.W.findIn K (.ref C) f = some none
def fldOf (c f : Str) : RV → Option RV
  | .p (.obj c' f' d) => if c' = c ∧ f' = f then some (.p d) else none
  | _ => none
def fFld (c f : Str) (fe : FE) : FE := f1 (fldOf c f) fe
instance {c f : Str} [h : KpE P fa] : KpE P (fFld c f fa) := inferInstanceAs (KpE P (f1 _ fa))
theorem fFld_inv {c f : Str} {ρ ρ' : DS} {rr : RR} (h : fFld c f fa ρ = some (rr, ρ')) : ∃ ra d, fa ρ = some (ra, ρ') ∧ res ρ' ra = some (.p (.obj c f d)) ∧ rr = .own (.p d) := by
  obtain ⟨ra, y, r, h1, h2, h3, rfl⟩ := f1_inv h
  unfold fldOf at h3
  split at h3
  · split at h3
    · next z => obtain ⟨rfl, rfl⟩ := z; cases h3; exact ⟨ra, _, h1, h2, rfl⟩
    · cases h3
  · cases h3
theorem de_fld {c f : Str} (F : XFld X.K c f) (ha : DE X a fa) (hb : attributeBase a f X.env (eval a X.env) = eval a X.env := by rfl) : DE X (.Attribute a f pos) (fFld c f fa) := by
  intro ρ rr ρ' hf
  obtain ⟨ra, d, h1, h2, rfl⟩ := fFld_inv hf
  intro pins s σ H Q I ⟨G, A, R, k⟩
  refine attr_of hb (thn (ha _ _ _ h1 pins s σ H (fun v H1 => ∃ G1 A1, Evo G H A G1 H1 A1 ∧ Rep X.K G1 H1 σ ρ' A1 ∧ Pu X.K G1 v (.obj c f d)) I ⟨G, A, R, fun v G1 H1 A1 S e1 R1 q1 f1 => ⟨G1, A1, e1, R1, ?_⟩⟩) fun u s1 ⟨v, H1, I1, rv, G1, A1, ev, R1, pu⟩ => ?_)
  · obtain ⟨S', hx⟩ := res_of R1 q1 h2
    exact hx.2
  · obtain ⟨C, CF, fI, e1, e2, e3, e4⟩ := F.ex
    cases pu with
    | obj f1 f2 f3 f4 =>
      rename_i x C' dx w
      rw [e1] at f1; cases f1
      cases rv
      obtain ⟨⟨o, z1, z2, z3, z4⟩, _, _⟩ := (show ObjOk X.prog X.w H1 s1.heap x (.ext (isXF x C dx)) from I1.hok x _ (R1.imm _ _ f2))
      obtain ⟨mA, n1, n2⟩ := (show ObjOk X.prog X.w H1 s1.heap dx (.xd [(f, w)]) from I1.hok dx _ (R1.imm _ _ f3))
      obtain ⟨u, hu, ru⟩ := RelO.some_of (v := w) (o := mA f) (by have := n2 f; simpa [List.lookup] using this)
      obtain ⟨N, nm, qn, bs, sn, sub, ab, col, dd, k0, k1, k2, k3, k5, mN, hC, _, _, T⟩ := xcls_obj I1.kIn e2
      obtain ⟨h, g, dr, t, os⟩ := s1
      exact xld_attr I1.kIn e3 hC (T.hasType (by decide)) e4 z1 z2 z3 z4 n1 hu (PySem.W.handedOut_of (handed_of ru)) ⟨w, H1, I1.tok (t + 1), ru, k w G1 H1 A1 [] ev R1 ⟨⟨rfl, f4⟩, by simp⟩ (by simp)⟩
end
end L2.CF
namespace L2.CF
open PySem PySem.Spec PyProof.Rows
def n14 : List Str := ["Twice", "NoDeed", "WrongCount", "TooDeep", "TooLong", "TooBig", "NoCall", "NoMark", "TooMany", "Called", "NoWay", "NoRow", "NoBack", "Broken"]
def n3 : List Str := ["Ringed", "BadRun", "NoText"]
def n17 : List Str := n14 ++ n3
def clA (K : PySem.W.Frag) (x : Str) : Addr := match PySem.W.nsIn K mainGlobals x with
  | some (some (.ref a)) => a
  | _ => 0
def iA (K : PySem.W.Frag) (x : Str) : Addr := match K.lookup (clA K x) with
  | some ⟨_, _, .cls cd, _⟩ => (match PySem.W.nsIn K cd.ns "__init__" with
    | some (some (.ref a)) => a
    | _ => 0)
  | _ => 0
def isA (K : PySem.W.Frag) (x : Str) : Bool := match PySem.W.nsIn K mainGlobals x with
  | some (some (.ref _)) => true
  | _ => false
def isSB (o : Option (Option Value)) (s : String) : Bool := match o with
  | some (some (.builtin t)) => t == s
  | _ => false
def isSN (o : Option (Option Value)) : Bool := match o with
  | some none => true
  | _ => false
def isOB (o : Option Bool) (b : Bool) : Bool := match o with
  | some c => c == b
  | _ => false
theorem isSB_of {o : Option (Option Value)} {s : String} (h : isSB o s = true) : o = some (some (.builtin s)) := by
  unfold isSB at h
  split at h
  · rw [beq_iff_eq.mp h]
  · cases h
theorem isSN_of {o : Option (Option Value)} (h : isSN o = true) : o = some none := by
  unfold isSN at h
  split at h
  · rfl
  · cases h
theorem isOB_of {o : Option Bool} {b : Bool} (h : isOB o b = true) : o = some b := by
  unfold isOB at h
  split at h
  · rw [beq_iff_eq.mp h]
  · cases h
def attrB (K : PySem.W.Frag) (C : Addr) : Bool := isSB (PySem.W.findIn K (.ref C) "__getattribute__") "BaseException.__getattribute__" && isSN (PySem.W.findIn K (.ref C) "__getattr__") && isSB (PySem.W.findIn K (.ref C) "__class__") "object.__class__"
theorem attrB_of {K : PySem.W.Frag} {C : Addr} (h : attrB K C = true) : EAttr K C := by
  simp only [attrB, Bool.and_eq_true] at h
  exact ⟨isSB_of h.1.1, isSN_of h.1.2, isSB_of h.2⟩
def okA (K : PySem.W.Frag) (x : Str) : Bool := isA K x && PySem.W.keepIn K (.ref (clA K x)) && attrB K (clA K x) && isOB (PySem.W.kitOne K (.ref (clA K x)) (.ref (clA K "FoldError"))) true && isOB (PySem.W.kitOne K (.ref (clA K x)) (.type "ValueError")) true
def okI (K : PySem.W.Frag) (x f : Str) : Bool := xIn K (clA K x) (clA K "FoldError") (iA K x) && isSB (PySem.W.findIn K (.ref (clA K x)) "__setattr__") "object.__setattr__" && isSN (PySem.W.findIn K (.ref (clA K x)) f) &&
  (match K.lookup (iA K x) with
    | some ⟨.type "function", _, _, _⟩ => true
    | _ => false)
def okKit (K : PySem.W.Frag) (x y : Str) : Bool := isOB (PySem.W.kitOne K (.ref (clA K x)) (.ref (clA K y))) (x == y)
structure Errs (K : PySem.W.Frag) (mg : Str → Option Value) : Prop where
  f : mg "FoldError" = some (.ref (clA K "FoldError"))
  g : ∀ x, n17.contains x = true → mg x = some (.ref (clA K x))
  n : ∀ x, n17.contains x = true → PySem.W.nsIn K mainGlobals x = some (some (.ref (clA K x)))
  e : ∀ x, n14.contains x = true → PySem.W.excIn K (clA K x) vErr "ValueError.__new__" = true
  a : ∀ x, n17.contains x = true → okA K x = true
  k : ∀ x y, n17.contains x = true → n17.contains y = true → okKit K x y = true
  iR : okI K "Ringed" "ring" = true
  iB : okI K "BadRun" "run" = true
  iN : okI K "NoText" "row" = true
theorem n_of {K : PySem.W.Frag} {x : Str} (h : isA K x = true) : PySem.W.nsIn K mainGlobals x = some (some (.ref (clA K x))) := by
  unfold isA at h
  unfold clA
  split at h
  · next e => rw [e]
  · cases h
theorem errs_mk {K : PySem.W.Frag} {h : Heap} {mg : Str → Option Value} (X : K.In h) (G : h.Ns mainGlobals mg) (hf : isA K "FoldError" = true) (he : (n14.all fun x => PySem.W.excIn K (clA K x) vErr "ValueError.__new__") = true) (ha : (n17.all fun x => okA K x) = true) (hk : (n17.all fun x => n17.all fun y => okKit K x y) = true)
    (h1 : okI K "Ringed" "ring" = true) (h2 : okI K "BadRun" "run" = true) (h3 : okI K "NoText" "row" = true) : Errs K mg := by
  have n : ∀ x, n17.contains x = true → PySem.W.nsIn K mainGlobals x = some (some (.ref (clA K x))) := fun x hx => by
    have z := List.all_eq_true.mp ha x (by simpa using hx)
    simp only [okA, Bool.and_eq_true] at z
    exact n_of z.1.1.1.1
  exact ⟨PySem.W.mg_of X G (n_of hf), fun x hx => PySem.W.mg_of X G (n x hx), n, fun x hx => List.all_eq_true.mp he x (by simpa using hx), fun x hx => List.all_eq_true.mp ha x (by simpa using hx),
    fun x y hx hy => List.all_eq_true.mp (List.all_eq_true.mp hk x (by simpa using hx)) y (by simpa using hy), h1, h2, h3⟩
section
variable {K : PySem.W.Frag} {mg : Str → Option Value}
def mtO (y c : Str) : Option Bool := if n17.contains c then some (c == y) else none
def mtF (c : Str) : Option Bool := if n17.contains c then some true else none
theorem okI_of {x f : Str} (h : okI K x f = true) : xIn K (clA K x) (clA K "FoldError") (iA K x) = true ∧ PySem.W.findIn K (.ref (clA K x)) "__setattr__" = some (some (.builtin "object.__setattr__")) ∧ PySem.W.findIn K (.ref (clA K x)) f = some none ∧ (K.lookup (iA K x)).map (·.cls) = some (.type "function") := by
  simp only [okI, Bool.and_eq_true] at h
  obtain ⟨⟨⟨a, b⟩, c⟩, d⟩ := h
  refine ⟨a, isSB_of b, isSN_of c, ?_⟩
  split at d
  · next e => rw [e]; rfl
  · cases d
theorem Errs.ec (E : Errs K mg) (x : Str) (h : n17.contains x = true) : ErrC K (clA K x) := by
  have z : x ∈ n14 ∨ x ∈ n3 := by simpa [n17] using h
  rcases z with z | z
  · exact .inl (E.e x (by simpa using z))
  · right
    simp only [n3, List.mem_cons, List.not_mem_nil, or_false] at z
    rcases z with rfl | rfl | rfl
    · exact ⟨_, _, (okI_of E.iR).1⟩
    · exact ⟨_, _, (okI_of E.iB).1⟩
    · exact ⟨_, _, (okI_of E.iN).1⟩
theorem okA_of {x : Str} (z : okA K x = true) : PySem.W.keepIn K (.ref (clA K x)) = true ∧ EAttr K (clA K x) ∧ PySem.W.kitOne K (.ref (clA K x)) (.ref (clA K "FoldError")) = some true ∧ PySem.W.kitOne K (.ref (clA K x)) (.type "ValueError") = some true := by
  simp only [okA, Bool.and_eq_true] at z
  exact ⟨z.1.1.1.2, attrB_of z.1.1.2, isOB_of z.1.2, isOB_of z.2⟩
theorem Errs.kO (E : Errs K mg) (y : Str) (hy : n17.contains y = true) : ∀ c b, mtO y c = some b → EKitX K c (.ref (clA K y)) b := fun c b h => by
  unfold mtO at h
  split at h
  · next hc => cases h; exact ⟨_, E.n c hc, E.ec c hc, (okA_of (E.a c hc)).2.1, isOB_of (E.k c y hc hy)⟩
  · cases h
theorem Errs.kF (E : Errs K mg) : ∀ c b, mtF c = some b → EKitX K c (.ref (clA K "FoldError")) b := fun c b h => by
  unfold mtF at h
  split at h
  · next hc => cases h; exact ⟨_, E.n c hc, E.ec c hc, (okA_of (E.a c hc)).2.1, (okA_of (E.a c hc)).2.2.1⟩
  · cases h
theorem Errs.kV (E : Errs K mg) : ∀ c b, mtF c = some b → EKitX K c (.type "ValueError") b := fun c b h => by
  unfold mtF at h
  split at h
  · next hc => cases h; exact ⟨_, E.n c hc, E.ec c hc, (okA_of (E.a c hc)).2.1, (okA_of (E.a c hc)).2.2.2⟩
  · cases h
theorem Errs.ecl (E : Errs K mg) (x : Str) (h : n14.contains x = true) (h' : n17.contains x = true) : ECls K mg x (clA K x) := ⟨E.g x h', E.e x h⟩
theorem Errs.kp (E : Errs K mg) (x : Str) (h : n17.contains x = true) : PySem.W.keepIn K (.ref (clA K x)) = true := (okA_of (E.a x h)).1
theorem Errs.xmk (E : Errs K mg) (x f : Str) (h : n17.contains x = true) (i : okI K x f = true) : XMk K mg x (clA K x) (clA K "FoldError") (iA K x) := ⟨E.g x h, E.n x h, (okI_of i).1, (okI_of i).2.2.2, E.kp x h⟩
theorem Errs.fld (E : Errs K mg) (x f : Str) (h : n17.contains x = true) (i : okI K x f = true) : XFld K x f := ⟨_, _, _, E.n x h, (okI_of i).1, (okA_of (E.a x h)).2.1, (okI_of i).2.2.1⟩
end
end L2.CF
namespace L2.CF
open PySem PySem.Spec PyProof.Rows
def isCV (o : Option PySem.W.CFound) (s : String) : Bool := match o with
  | some (.val (.builtin t)) => t == s
  | _ => false
theorem isCV_of {o : Option PySem.W.CFound} {s : String} (h : isCV o s = true) : o = some (.val (.builtin s)) := by
  unfold isCV at h
  split at h
  · rw [beq_iff_eq.mp h]
  · cases h
def xbB (K : PySem.W.Frag) : Bool := PySem.W.readsIn K (clA K "FoldError") (.type "type") && isCV (PySem.W.findCls K (.ref (clA K "FoldError")) (.type "type") "__init__") "ValueError.__init__" && isSB (PySem.W.specialIn K (.ref (clA K "FoldError")) "__getattribute__") "type.__getattribute__"
theorem xb_of {K : PySem.W.Frag} {mg : Str → Option Value} (g : mg "FoldError" = some (.ref (clA K "FoldError"))) (h : xbB K = true) : XBase K mg "FoldError" (clA K "FoldError") := by
  simp only [xbB, Bool.and_eq_true] at h
  exact ⟨g, h.1.1, isCV_of h.1.2, isSB_of h.2⟩
end L2.CF
namespace L2.CF
open PySem PySem.Spec PyProof.Rows
def okT (a b : Str) (i : Int) : Bool := match fmtR (.p (.int i)) with
  | some y => decide ((Str.empty ++ a).length ≤ 1000) && decide ((Str.empty ++ a ++ y).length ≤ 1000) && decide ((Str.empty ++ a ++ y ++ b).length ≤ 1000)
  | none => false
def txT (a b : Str) (i : Int) : Str := match fmtR (.p (.int i)) with
  | some y => Str.empty ++ a ++ y ++ b
  | none => a
theorem jc {fe : FE} {g : FJ} {acc y : Str} {ρ : DS} (h : fe ρ = some (.own (.p (.str y)), ρ)) (hl : (acc ++ y).length ≤ 1000) : jCons fe g acc ρ = g (acc ++ y) ρ := by
  unfold jCons
  rw [h]
  show (if (acc ++ y).length ≤ 1000 then g (acc ++ y) ρ else none) = _
  rw [if_pos hl]
theorem j3 {a b : Str} {i : Int} {ρ : DS} (h : fVar 1 ρ = some (.own (.p (.int i)), ρ)) (ok : okT a b i = true) :
    fJoin (jCons (fC (.str a)) (jCons (fFmt (fVar 1)) (jCons (fC (.str b)) jNil))) ρ = some (.own (.p (.str (txT a b i))), ρ) := by
  unfold okT at ok
  unfold txT
  split at ok
  · next y hy =>
    have ok := Bool.and_eq_true_iff.mp ok
    obtain ⟨ok, h3⟩ := ok
    obtain ⟨h1, h2⟩ := Bool.and_eq_true_iff.mp ok
    have h1 := of_decide_eq_true h1
    have h2 := of_decide_eq_true h2
    have h3 := of_decide_eq_true h3
    have hf : fFmt (fVar 1) ρ = some (.own (.p (.str y)), ρ) := by
      unfold fFmt
      rw [h]
      show (fmtR (.p (.int i))).map _ = _
      rw [hy]; rfl
    unfold fJoin
    rw [jc (y := a) rfl h1, jc hf h2, jc (y := b) rfl h3]
    show ((if (Str.empty ++ a ++ y ++ b).length ≤ 1000 then some (Str.empty ++ a ++ y ++ b, ρ) else none).map _) = _
    rw [if_pos h3]; rfl
  · cases ok
theorem okT_all {a b : Str} (h : ∀ k : Fin 700, okT a b k.val = true) {i : Int} (h0 : 0 ≤ i) (h1 : i < 700) : okT a b i = true := by
  have z := h ⟨i.toNat, by omega⟩
  simpa [Int.toNat_of_nonneg h0] using z
theorem okT_run : ∀ k : Fin 700, okT "run " " is not told as done" k.val = true := by decide +kernel
theorem okT_row : ∀ k : Fin 700, okT "row " " can not stand, or is lacking" k.val = true := by decide +kernel
theorem fa2 {fe : FE} {r : RR} {ρ : DS} {x : Addr} (h0 : fVar 0 ρ = some (.own (.p (.ptr x)), ρ)) (h : fe ρ = some (r, ρ)) : fCons (fVar 0) (fCons fe fNil) ρ = some ([.own (.p (.ptr x)), r], ρ) := by
  have z : fCons fe fNil ρ = some ([r], ρ) := by
    unfold fCons
    rw [h]; rfl
  unfold fCons
  rw [h0]
  show (fCons fe fNil ρ).map _ = _
  rw [z]; rfl
end L2.CF
namespace K01
open PySem PySem.Spec L2 L2.CF
variable {K : PySem.W.Frag} {Pg : Program} {w : World} {mg : Str → Option Value} {base : Heap}
def top (i : Nat) : Stmt := PySem.Challenge.pw_callfold_k01_refusals_stand_alone.main.body.getD i (.Pass ⟨0, 0, 0, 0⟩)
structure Txt (K : PySem.W.Frag) (mg : Str → Option Value) : Prop where
  b_ValueError : mg "ValueError" = none
  b_abs : mg "abs" = none
  b_isinstance : mg "isinstance" = none
  b_len : mg "len" = none
  b_list : mg "list" = none
  b_range : mg "range" = none
  b_str : mg "str" = none
abbrev s_Lat : Stmt := top 20
theorem sc_Lat : FnScope ["script", "k"] ["script", "k"] (defScope s_Lat) := ⟨rfl, rfl, rfl, by decide +kernel, rfl, by decide +kernel, by decide +kernel⟩
noncomputable def m_Lat : FS := sSeq (sIf (fT (f2 gLt (fVar 1) (fCall gLen (fCons (fVar 0) (fNil))))) (sRet 2 (f2 gIx (fVar 0) (fVar 1))) (sNext)) (sRet 2 (fC (.int 0)))
noncomputable def FF_Lat : FF := runBody 2 m_Lat
instance : KpF FF_Lat := inferInstanceAs (KpF (runBody _ _))
set_option maxHeartbeats 2000000 in
theorem ok_Lat (T : Txt K mg) {f_Lat : Addr} {fd_Lat : FuncData} (C_Lat : Ce K mg "_law_at" s_Lat f_Lat fd_Lat ["script", "k"])  : FnD Pg w K mg base 1 f_Lat fd_Lat ["script", "k"] FF_Lat := by
  have z := fun hb => fn_data (Pg := Pg) (w := w) (mg := mg) (base := base) (k := 0) (m := m_Lat) C_Lat.fn sc_Lat hb
  refine z (fun cdv A outer s H E hr => ?_)
  have hu := hr.units
  unfold m_Lat
  refine ds_cons ?_ ?_
  · refine ds_if ?_ ?_ ds_nil
    · refine dt_cmp o_lt gI_bl (dv 1) ?_
      refine de_callB c_len rfl T.b_len bt_len ?_
      exact da_cons (dv 0) da_nil
    · refine ds_one ?_
      refine ds_ret ?_
      exact de_ix o_ix (dv 0) (dv 1)
  refine ds_one ?_
  exact ds_ret de_int
def inC : Stmt → Stmt
  | .ClassDef _ _ _ b _ _ _ _ _ _ _ => b.getD 0 (.Pass ⟨0, 0, 0, 0⟩)
  | s => s
def gdL : RV → Option D
  | .L ds => some (.lst ds)
  | _ => none
def gdI : RV → Option D
  | .p (.int i) => if 0 ≤ i ∧ i < 700 then some (.int i) else none
  | _ => none
abbrev s_Ringed : Stmt := inC (top 16)
theorem sc_Ringed : FnScope ["self", "ring"] ["self", "ring"] (defScope s_Ringed) := ⟨rfl, rfl, rfl, by decide +kernel, rfl, by decide +kernel, by decide +kernel⟩
set_option maxHeartbeats 2000000 in
theorem ok_iRinged (T : Txt K mg) (EE : Errs K mg) (B : XBase K mg "FoldError" (clA K "FoldError")) {fd : FuncData} (F : Fun K "__init__" "Ringed.__init__" s_Ringed (iA K "Ringed") fd) : FnOk Pg w K mg base CX0 1 (iA K "Ringed") fd ["self", "ring"] (spI K (clA K "Ringed") "ring" gdL) := by
  have I := okI_of EE.iR
  refine fn_xinit (k := 0) F sc_Ringed fun cdv A outer s H E hr r0 d hd => ?_
  have hu := hr.units
  unfold gdL at hd; split at hd <;> cases hd
  rename_i ds
  refine ⟨.own (.L ds), ⟨_, rfl, rfl⟩, ?_⟩
  refine pss_xinit (rs := [.own (.p (.str "the marks close a ring"))]) (fa := fCons (fVar 0) (fCons (fC (.str "the marks close a ring")) fNil)) (fv := fCall gListOf (fCons (fVar 1) fNil)) I.1 B I.2.1 I.2.2.1 ?da ?fa ?len ?de ?fv rfl (Or.inl rfl)
  case da =>
      refine da_cons (dv 0) (da_cons de_str da_nil)
  case fa => exact fun x => rfl
  case len => exact Nat.le_of_ble_eq_true rfl
  case de =>
      refine de_callTy c_list rfl T.b_list bt_list ?_
      exact da_cons (dv 1) da_nil
  case fv => exact fun x => rfl
abbrev s_BadRun : Stmt := inC (top 17)
theorem sc_BadRun : FnScope ["self", "run"] ["self", "run"] (defScope s_BadRun) := ⟨rfl, rfl, rfl, by decide +kernel, rfl, by decide +kernel, by decide +kernel⟩
set_option maxHeartbeats 2000000 in
theorem ok_iBadRun (T : Txt K mg) (EE : Errs K mg) (B : XBase K mg "FoldError" (clA K "FoldError")) {fd : FuncData} (F : Fun K "__init__" "BadRun.__init__" s_BadRun (iA K "BadRun") fd) : FnOk Pg w K mg base CX0 1 (iA K "BadRun") fd ["self", "run"] (spI K (clA K "BadRun") "run" gdI) := by
  have I := okI_of EE.iB
  refine fn_xinit (k := 0) F sc_BadRun fun cdv A outer s H E hr r0 d hd => ?_
  have hu := hr.units
  obtain ⟨i, rfl, rfl, h0, h1⟩ : ∃ i, r0 = .p (.int i) ∧ d = .int i ∧ 0 ≤ i ∧ i < 700 := by
    unfold gdI at hd; split at hd
    · split at hd
      · next z => cases hd; exact ⟨_, rfl, rfl, z.1, z.2⟩
      · cases hd
    · cases hd
  refine ⟨.own (.p (.int i)), ⟨_, rfl, rfl⟩, ?_⟩
  refine pss_xinit (rs := [.own (.p (.str (txT "run " " is not told as done" i)))]) (fa := fCons (fVar 0) (fCons (fJoin (jCons (fC (.str "run ")) (jCons (fFmt (fVar 1)) (jCons (fC (.str " is not told as done")) jNil)))) fNil)) (fv := fVar 1) I.1 B I.2.1 I.2.2.1 ?da ?fa ?len ?de ?fv rfl (Or.inl rfl)
  case da =>
      refine da_cons (dv 0) (da_cons ?_ da_nil)
      refine de_join ?_
      refine dj_cons de_str ?_
      refine dj_cons (de_fmt (dv 1)) ?_
      exact dj_cons de_str dj_nil
  case fa => exact fun x => fa2 rfl (j3 rfl (okT_all okT_run h0 h1))
  case len => exact Nat.le_of_ble_eq_true rfl
  case de =>
      exact dv 1
  case fv => exact fun x => rfl
abbrev s_NoText : Stmt := inC (top 18)
theorem sc_NoText : FnScope ["self", "row"] ["self", "row"] (defScope s_NoText) := ⟨rfl, rfl, rfl, by decide +kernel, rfl, by decide +kernel, by decide +kernel⟩
set_option maxHeartbeats 2000000 in
theorem ok_iNoText (T : Txt K mg) (EE : Errs K mg) (B : XBase K mg "FoldError" (clA K "FoldError")) {fd : FuncData} (F : Fun K "__init__" "NoText.__init__" s_NoText (iA K "NoText") fd) : FnOk Pg w K mg base CX0 1 (iA K "NoText") fd ["self", "row"] (spI K (clA K "NoText") "row" gdI) := by
  have I := okI_of EE.iN
  refine fn_xinit (k := 0) F sc_NoText fun cdv A outer s H E hr r0 d hd => ?_
  have hu := hr.units
  obtain ⟨i, rfl, rfl, h0, h1⟩ : ∃ i, r0 = .p (.int i) ∧ d = .int i ∧ 0 ≤ i ∧ i < 700 := by
    unfold gdI at hd; split at hd
    · split at hd
      · next z => cases hd; exact ⟨_, rfl, rfl, z.1, z.2⟩
      · cases hd
    · cases hd
  refine ⟨.own (.p (.int i)), ⟨_, rfl, rfl⟩, ?_⟩
  refine pss_xinit (rs := [.own (.p (.str (txT "row " " can not stand, or is lacking" i)))]) (fa := fCons (fVar 0) (fCons (fJoin (jCons (fC (.str "row ")) (jCons (fFmt (fVar 1)) (jCons (fC (.str " can not stand, or is lacking")) jNil)))) fNil)) (fv := fVar 1) I.1 B I.2.1 I.2.2.1 ?da ?fa ?len ?de ?fv rfl (Or.inl rfl)
  case da =>
      refine da_cons (dv 0) (da_cons ?_ da_nil)
      refine de_join ?_
      refine dj_cons de_str ?_
      refine dj_cons (de_fmt (dv 1)) ?_
      exact dj_cons de_str dj_nil
  case fa => exact fun x => fa2 rfl (j3 rfl (okT_all okT_row h0 h1))
  case len => exact Nat.le_of_ble_eq_true rfl
  case de =>
      exact dv 1
  case fv => exact fun x => rfl
abbrev s_Lall : Stmt := top 21
theorem sc_Lall : FnScope ["text", "number", "ring", "found"] ["text", "number", "ring"] (defScope s_Lall) := ⟨rfl, rfl, rfl, by decide +kernel, rfl, by decide +kernel, by decide +kernel⟩
noncomputable def m_Lall : FS := sSeq (sSet 3 3 (fLst (fCons (fMk0 "Twice" (fCons (fVar 0) (fNil))) (fCons (fMk0 "NoDeed" (fCons (fVar 0) (fNil))) (fCons (fMk0 "WrongCount" (fCons (fVar 0) (fNil))) (fCons (fMk0 "TooDeep" (fCons (fVar 0) (fNil))) (fCons (fMk0 "TooLong" (fCons (fVar 0) (fNil))) (fNil)))))))) (sSeq (sSet 3 3 (f2 gAdd (fVar 3) (fLst (fCons (fMk0 "TooBig" (fCons (fVar 0) (fNil))) (fCons (fMk0 "NoCall" (fCons (fVar 0) (fNil))) (fCons (fMk0 "NoMark" (fCons (fVar 0) (fNil))) (fCons (fMk0 "TooMany" (fCons (fVar 0) (fNil))) (fCons (fMk0 "Called" (fCons (fVar 0) (fNil))) (fNil))))))))) (sSeq (sSet 3 3 (f2 gAdd (fVar 3) (fLst (fCons (fMk0 "NoWay" (fCons (fVar 0) (fNil))) (fCons (fMk0 "NoRow" (fCons (fVar 0) (fNil))) (fCons (fMk0 "NoBack" (fCons (fVar 0) (fNil))) (fCons (fMk0 "Broken" (fCons (fVar 0) (fNil))) (fNil)))))))) (sRet 3 (f2 gAdd (fVar 3) (fLst (fCons (f1 (mkOf "Ringed" "ring" gdL) (fVar 2)) (fCons (f1 (mkOf "BadRun" "run" gdI) (fVar 1)) (fCons (f1 (mkOf "NoText" "row" gdI) (fVar 1)) (fNil)))))))))
noncomputable def FF_Lall : FF := runBody 4 m_Lall
instance : KpF FF_Lall := inferInstanceAs (KpF (runBody _ _))
set_option maxHeartbeats 2000000 in
theorem ok_Lall (T : Txt K mg) {f_Lall : Addr} {fd_Lall : FuncData} (C_Lall : Ce K mg "_law_all" s_Lall f_Lall fd_Lall ["text", "number", "ring"]) (EE : Errs K mg) {fi_BadRun : FuncData} (FI_BadRun : FnOk Pg w K mg base CX0 1 (iA K "BadRun") fi_BadRun ["self", "run"] (spI K (clA K "BadRun") "run" gdI)) (BI_BadRun : Binds K fi_BadRun ["self", "run"] []) {fi_NoText : FuncData} (FI_NoText : FnOk Pg w K mg base CX0 1 (iA K "NoText") fi_NoText ["self", "row"] (spI K (clA K "NoText") "row" gdI)) (BI_NoText : Binds K fi_NoText ["self", "row"] []) {fi_Ringed : FuncData} (FI_Ringed : FnOk Pg w K mg base CX0 1 (iA K "Ringed") fi_Ringed ["self", "ring"] (spI K (clA K "Ringed") "ring" gdL)) (BI_Ringed : Binds K fi_Ringed ["self", "ring"] []) : FnD Pg w K mg base 3 f_Lall fd_Lall ["text", "number", "ring"] FF_Lall := by
  have z := fun hb => fn_data (Pg := Pg) (w := w) (mg := mg) (base := base) (k := 2) (m := m_Lall) C_Lall.fn sc_Lall hb
  refine z (fun cdv A outer s H E hr => ?_)
  have hu := hr.units
  have hr_I : Room 2 _ := hr.mono (by omega)
  unfold m_Lall
  refine ds_cons ?_ ?_
  · refine @ds_set _ _ _ _ _ 3 _ _ sc_Lall.nd rfl (Or.inl rfl) ?_ inferInstance rfl (.inl rfl)
    refine de_lst ?_
    refine da_cons ?_ ?_
    · refine de_mk0 rfl (EE.ecl "Twice" (by decide) (by decide)) (EE.n "Twice" (by decide)) (EE.kp "Twice" (by decide)) ?_
      exact da_cons (dv 0) da_nil
    · refine da_cons ?_ ?_
      · refine de_mk0 rfl (EE.ecl "NoDeed" (by decide) (by decide)) (EE.n "NoDeed" (by decide)) (EE.kp "NoDeed" (by decide)) ?_
        exact da_cons (dv 0) da_nil
      · refine da_cons ?_ ?_
        · refine de_mk0 rfl (EE.ecl "WrongCount" (by decide) (by decide)) (EE.n "WrongCount" (by decide)) (EE.kp "WrongCount" (by decide)) ?_
          exact da_cons (dv 0) da_nil
        · refine da_cons ?_ ?_
          · refine de_mk0 rfl (EE.ecl "TooDeep" (by decide) (by decide)) (EE.n "TooDeep" (by decide)) (EE.kp "TooDeep" (by decide)) ?_
            exact da_cons (dv 0) da_nil
          · refine da_cons ?_ da_nil
            refine de_mk0 rfl (EE.ecl "TooLong" (by decide) (by decide)) (EE.n "TooLong" (by decide)) (EE.kp "TooLong" (by decide)) ?_
            exact da_cons (dv 0) da_nil
  refine ds_cons ?_ ?_
  · refine @ds_set _ _ _ _ _ 3 _ _ sc_Lall.nd rfl (Or.inl rfl) ?_ inferInstance rfl (.inl rfl)
    refine de_op o_add (dv 3) ?_
    refine de_lst ?_
    refine da_cons ?_ ?_
    · refine de_mk0 rfl (EE.ecl "TooBig" (by decide) (by decide)) (EE.n "TooBig" (by decide)) (EE.kp "TooBig" (by decide)) ?_
      exact da_cons (dv 0) da_nil
    · refine da_cons ?_ ?_
      · refine de_mk0 rfl (EE.ecl "NoCall" (by decide) (by decide)) (EE.n "NoCall" (by decide)) (EE.kp "NoCall" (by decide)) ?_
        exact da_cons (dv 0) da_nil
      · refine da_cons ?_ ?_
        · refine de_mk0 rfl (EE.ecl "NoMark" (by decide) (by decide)) (EE.n "NoMark" (by decide)) (EE.kp "NoMark" (by decide)) ?_
          exact da_cons (dv 0) da_nil
        · refine da_cons ?_ ?_
          · refine de_mk0 rfl (EE.ecl "TooMany" (by decide) (by decide)) (EE.n "TooMany" (by decide)) (EE.kp "TooMany" (by decide)) ?_
            exact da_cons (dv 0) da_nil
          · refine da_cons ?_ da_nil
            refine de_mk0 rfl (EE.ecl "Called" (by decide) (by decide)) (EE.n "Called" (by decide)) (EE.kp "Called" (by decide)) ?_
            exact da_cons (dv 0) da_nil
  refine ds_cons ?_ ?_
  · refine @ds_set _ _ _ _ _ 3 _ _ sc_Lall.nd rfl (Or.inl rfl) ?_ inferInstance rfl (.inl rfl)
    refine de_op o_add (dv 3) ?_
    refine de_lst ?_
    refine da_cons ?_ ?_
    · refine de_mk0 rfl (EE.ecl "NoWay" (by decide) (by decide)) (EE.n "NoWay" (by decide)) (EE.kp "NoWay" (by decide)) ?_
      exact da_cons (dv 0) da_nil
    · refine da_cons ?_ ?_
      · refine de_mk0 rfl (EE.ecl "NoRow" (by decide) (by decide)) (EE.n "NoRow" (by decide)) (EE.kp "NoRow" (by decide)) ?_
        exact da_cons (dv 0) da_nil
      · refine da_cons ?_ ?_
        · refine de_mk0 rfl (EE.ecl "NoBack" (by decide) (by decide)) (EE.n "NoBack" (by decide)) (EE.kp "NoBack" (by decide)) ?_
          exact da_cons (dv 0) da_nil
        · refine da_cons ?_ da_nil
          refine de_mk0 rfl (EE.ecl "Broken" (by decide) (by decide)) (EE.n "Broken" (by decide)) (EE.kp "Broken" (by decide)) ?_
          exact da_cons (dv 0) da_nil
  refine ds_one ?_
  refine ds_ret ?_
  refine de_op o_add (dv 3) ?_
  refine de_lst ?_
  refine da_cons ?_ ?_
  · exact de_mkI (EE.xmk "Ringed" "ring" (by decide) EE.iR) FI_Ringed hr_I BI_Ringed (dv 2)
  · refine da_cons ?_ ?_
    · exact de_mkI (EE.xmk "BadRun" "run" (by decide) EE.iB) FI_BadRun hr_I BI_BadRun (dv 1)
    · refine da_cons ?_ da_nil
      exact de_mkI (EE.xmk "NoText" "row" (by decide) EE.iN) FI_NoText hr_I BI_NoText (dv 1)
abbrev s_Lkinds : Stmt := top 22
theorem sc_Lkinds : FnScope ["one"] ["one"] (defScope s_Lkinds) := ⟨rfl, rfl, rfl, by decide +kernel, rfl, by decide +kernel, by decide +kernel⟩
noncomputable def m_Lkinds : FS := sRet 1 (fLst (fCons (fIsE (mtO "Twice") (fVar 0)) (fCons (fIsE (mtO "NoDeed") (fVar 0)) (fCons (fIsE (mtO "WrongCount") (fVar 0)) (fCons (fIsE (mtO "TooDeep") (fVar 0)) (fCons (fIsE (mtO "TooLong") (fVar 0)) (fCons (fIsE (mtO "TooBig") (fVar 0)) (fCons (fIsE (mtO "NoCall") (fVar 0)) (fCons (fIsE (mtO "NoMark") (fVar 0)) (fCons (fIsE (mtO "TooMany") (fVar 0)) (fCons (fIsE (mtO "Called") (fVar 0)) (fCons (fIsE (mtO "NoWay") (fVar 0)) (fCons (fIsE (mtO "NoRow") (fVar 0)) (fCons (fIsE (mtO "NoBack") (fVar 0)) (fCons (fIsE (mtO "Broken") (fVar 0)) (fCons (fIsE (mtO "Ringed") (fVar 0)) (fCons (fIsE (mtO "BadRun") (fVar 0)) (fCons (fIsE (mtO "NoText") (fVar 0)) (fNil)))))))))))))))))))
noncomputable def FF_Lkinds : FF := runBody 1 m_Lkinds
instance : KpF FF_Lkinds := inferInstanceAs (KpF (runBody _ _))
set_option maxHeartbeats 2000000 in
theorem ok_Lkinds (T : Txt K mg) {f_Lkinds : Addr} {fd_Lkinds : FuncData} (C_Lkinds : Ce K mg "_law_kinds" s_Lkinds f_Lkinds fd_Lkinds ["one"]) (EE : Errs K mg) : FnD Pg w K mg base 1 f_Lkinds fd_Lkinds ["one"] FF_Lkinds := by
  have z := fun hb => fn_data (Pg := Pg) (w := w) (mg := mg) (base := base) (k := 0) (m := m_Lkinds) C_Lkinds.fn sc_Lkinds hb
  refine z (fun cdv A outer s H E hr => ?_)
  have hu := hr.units
  unfold m_Lkinds
  refine ds_one ?_
  refine ds_ret ?_
  refine de_lst ?_
  refine da_cons ?_ ?_
  · exact de_iseO rfl T.b_isinstance (EE.g "Twice" (by decide)) (EE.kO "Twice" (by decide)) (dv 0)
  · refine da_cons ?_ ?_
    · exact de_iseO rfl T.b_isinstance (EE.g "NoDeed" (by decide)) (EE.kO "NoDeed" (by decide)) (dv 0)
    · refine da_cons ?_ ?_
      · exact de_iseO rfl T.b_isinstance (EE.g "WrongCount" (by decide)) (EE.kO "WrongCount" (by decide)) (dv 0)
      · refine da_cons ?_ ?_
        · exact de_iseO rfl T.b_isinstance (EE.g "TooDeep" (by decide)) (EE.kO "TooDeep" (by decide)) (dv 0)
        · refine da_cons ?_ ?_
          · exact de_iseO rfl T.b_isinstance (EE.g "TooLong" (by decide)) (EE.kO "TooLong" (by decide)) (dv 0)
          · refine da_cons ?_ ?_
            · exact de_iseO rfl T.b_isinstance (EE.g "TooBig" (by decide)) (EE.kO "TooBig" (by decide)) (dv 0)
            · refine da_cons ?_ ?_
              · exact de_iseO rfl T.b_isinstance (EE.g "NoCall" (by decide)) (EE.kO "NoCall" (by decide)) (dv 0)
              · refine da_cons ?_ ?_
                · exact de_iseO rfl T.b_isinstance (EE.g "NoMark" (by decide)) (EE.kO "NoMark" (by decide)) (dv 0)
                · refine da_cons ?_ ?_
                  · exact de_iseO rfl T.b_isinstance (EE.g "TooMany" (by decide)) (EE.kO "TooMany" (by decide)) (dv 0)
                  · refine da_cons ?_ ?_
                    · exact de_iseO rfl T.b_isinstance (EE.g "Called" (by decide)) (EE.kO "Called" (by decide)) (dv 0)
                    · refine da_cons ?_ ?_
                      · exact de_iseO rfl T.b_isinstance (EE.g "NoWay" (by decide)) (EE.kO "NoWay" (by decide)) (dv 0)
                      · refine da_cons ?_ ?_
                        · exact de_iseO rfl T.b_isinstance (EE.g "NoRow" (by decide)) (EE.kO "NoRow" (by decide)) (dv 0)
                        · refine da_cons ?_ ?_
                          · exact de_iseO rfl T.b_isinstance (EE.g "NoBack" (by decide)) (EE.kO "NoBack" (by decide)) (dv 0)
                          · refine da_cons ?_ ?_
                            · exact de_iseO rfl T.b_isinstance (EE.g "Broken" (by decide)) (EE.kO "Broken" (by decide)) (dv 0)
                            · refine da_cons ?_ ?_
                              · exact de_iseO rfl T.b_isinstance (EE.g "Ringed" (by decide)) (EE.kO "Ringed" (by decide)) (dv 0)
                              · refine da_cons ?_ ?_
                                · exact de_iseO rfl T.b_isinstance (EE.g "BadRun" (by decide)) (EE.kO "BadRun" (by decide)) (dv 0)
                                · refine da_cons ?_ da_nil
                                  exact de_iseO rfl T.b_isinstance (EE.g "NoText" (by decide)) (EE.kO "NoText" (by decide)) (dv 0)
abbrev s_law : Stmt := top 23
theorem sc_law : FnScope ["script", "number", "ring", "handed", "all_of", "k", "kinds"] ["script"] (defScope s_law) := ⟨rfl, rfl, rfl, by decide +kernel, rfl, by decide +kernel, by decide +kernel⟩
theorem nc_law_0 : ((["script", "number", "ring", "handed", "all_of", "k", "kinds"] : List Str) ++ (["cell"] : List Str)).Nodup := by decide +kernel
theorem nc_law_1 : ((["script", "number", "ring", "handed", "all_of", "k", "kinds"] : List Str) ++ (["place"] : List Str)).Nodup := by decide +kernel
noncomputable def m_law : FS := sSeq (sSet 1 1 (f2 gMod (fCall gAbs (fCons (fFn 2 FF_Lat (fCons (fVar 0) (fCons (fC (.int 0)) (fNil)))) (fNil))) (fC (.int 700)))) (sSeq (sSet 1 2 (fComp (fiSeq (fSl (fVar 0) foN (foS (fC (.int 10))))) (fYes) (f2 gMod (fVar 7) (fC (.int 100))))) (sSeq (sSet 1 3 (fCall gListOf (fCons (fVar 2) (fNil)))) (sSeq (sSet 1 4 (fFn 3 FF_Lall (fCons (f2 gAdd (fC (.str "a text ")) (fCall gStrOf (fCons (fVar 1) (fNil)))) (fCons (fVar 1) (fCons (fVar 3) (fNil)))))) (sSeq (sExpr (fLm gAppend (fVar 3) (fCons (fC (.int 100)) (fNil)))) (sSeq (sFor 1 (fiRange1 (fCons (fC (.int 17)) (fNil))) (gName' 1 5) (sSeq (sSet 1 6 (fFn 1 FF_Lkinds (fCons (f2 gIx (fVar 4) (fVar 5)) (fNil)))) (sSeq (sIf (fT (f2 gNe (fComp (fiRange1 (fCons (fC (.int 17)) (fNil))) (fT (f2 gIx (fVar 6) (fVar 7))) (fVar 7)) (fLst (fCons (fVar 5) (fNil))))) (sRet 1 (fC (.bl false))) (sNext)) (sIf (fOr (fNot (fT (fIsE mtF (f2 gIx (fVar 4) (fVar 5))))) (fNot (fT (fIsE mtF (f2 gIx (fVar 4) (fVar 5)))))) (sRet 1 (fC (.bl false))) (sNext))))) (sRet 1 (fAndV (f2 gEq (fFld "Ringed" "ring" (f2 gIx (fVar 4) (fC (.int 14)))) (fVar 2)) (fAndV (f2 gEq (fFld "BadRun" "run" (f2 gIx (fVar 4) (fC (.int 15)))) (fVar 1)) (f2 gEq (fFld "NoText" "row" (f2 gIx (fVar 4) (fC (.int 16)))) (fVar 1))))))))))
noncomputable def FF_law : FF := runBody 7 m_law
instance : KpF FF_law := inferInstanceAs (KpF (runBody _ _))
set_option maxHeartbeats 2000000 in
theorem ok_law (T : Txt K mg) {f_law : Addr} {fd_law : FuncData} (C_law : Ce K mg "law" s_law f_law fd_law ["script"]) {f_Lat : Addr} {fd_Lat : FuncData} (C_Lat : Ce K mg "_law_at" s_Lat f_Lat fd_Lat ["script", "k"]) (G_Lat : FnD Pg w K mg base 1 f_Lat fd_Lat ["script", "k"] FF_Lat) {f_Lall : Addr} {fd_Lall : FuncData} (C_Lall : Ce K mg "_law_all" s_Lall f_Lall fd_Lall ["text", "number", "ring"]) (G_Lall : FnD Pg w K mg base 3 f_Lall fd_Lall ["text", "number", "ring"] FF_Lall) {f_Lkinds : Addr} {fd_Lkinds : FuncData} (C_Lkinds : Ce K mg "_law_kinds" s_Lkinds f_Lkinds fd_Lkinds ["one"]) (G_Lkinds : FnD Pg w K mg base 1 f_Lkinds fd_Lkinds ["one"] FF_Lkinds) (EE : Errs K mg) : FnD Pg w K mg base 4 f_law fd_law ["script"] FF_law := by
  have z := fun hb => fn_data (Pg := Pg) (w := w) (mg := mg) (base := base) (k := 3) (m := m_law) C_law.fn sc_law hb
  refine z (fun cdv A outer s H E hr => ?_)
  have hu := hr.units
  have hr_Lat : Room 1 _ := hr.mono (by omega)
  have hr_Lall : Room 3 _ := hr.mono (by omega)
  have hr_Lkinds : Room 1 _ := hr.mono (by omega)
  unfold m_law
  refine ds_cons ?_ ?_
  · refine @ds_set _ _ _ _ _ 1 _ _ sc_law.nd rfl (Or.inl rfl) ?_ inferInstance rfl (.inl rfl)
    refine de_op o_mod ?_ de_int
    refine de_callB c_abs rfl T.b_abs bt_abs ?_
    refine da_cons ?_ da_nil
    refine de_call G_Lat hr_Lat C_Lat.mg C_Lat.fn.kp C_Lat.bd ?_
    refine da_cons (dv 0) ?_
    exact da_cons de_int da_nil
  refine ds_cons ?_ ?_
  · refine ds_setC (i := 2) sc_law.nd rfl rfl (fun _ _ h => h) rfl (blk_of (M := ["script", "number", "ring", "handed", "all_of", "k", "kinds"]) rfl) nc_law_0 ?_ (fun cl C s0 H0 fp => ?_) (fun cl C s0 H0 fp => ?_)
    · refine di_seq ?_
      refine de_slice (dv 0) do_none ?_
      exact do_some de_int
    · exact df_nil
    · exact de_op o_mod (dv 7) de_int
  refine ds_cons ?_ ?_
  · refine @ds_set _ _ _ _ _ 3 _ _ sc_law.nd rfl (Or.inl rfl) ?_ inferInstance rfl (.inl rfl)
    refine de_callTy c_list rfl T.b_list bt_list ?_
    exact da_cons (dv 2) da_nil
  refine ds_cons ?_ ?_
  · refine @ds_set _ _ _ _ _ 4 _ _ sc_law.nd rfl (Or.inl rfl) ?_ inferInstance rfl (.inl rfl)
    refine de_call G_Lall hr_Lall C_Lall.mg C_Lall.fn.kp C_Lall.bd ?_
    refine da_cons ?_ ?_
    · refine de_op o_add de_str ?_
      refine de_callTy c_str rfl T.b_str bt_str ?_
      exact da_cons (dv 1) da_nil
    · refine da_cons (dv 1) ?_
      exact da_cons (dv 3) da_nil
  refine ds_cons ?_ ?_
  · refine ds_expr ?_
    refine de_lm PySem.F.slot_list_append PySem.F.type_list_append m_append (dv 3) ?_
    exact da_cons de_int da_nil
  refine ds_cons ?_ ?_
  · refine ds_for PassesOwn.never rfl ?_ ?_ ?_
    · refine di_range1 rfl T.b_range ?_
      exact da_cons de_int da_nil
    · exact dg_name (i := 5) sc_law.nd
    · refine ds_cons ?_ ?_
      · refine @ds_set _ _ _ _ _ 6 _ _ sc_law.nd rfl (Or.inr rfl) ?_ inferInstance rfl (.inl rfl)
        refine de_call G_Lkinds hr_Lkinds C_Lkinds.mg C_Lkinds.fn.kp C_Lkinds.bd ?_
        refine da_cons ?_ da_nil
        exact de_ix o_ix (dv 4) (dv 5)
      refine ds_cons ?_ ?_
      · refine ds_if ?_ ?_ ds_nil
        · refine dt_cmp (o_ne hu) gEqN_bl ?_ ?_
          · refine de_comp (fun _ _ h => h) rfl (blk_of (M := ["script", "number", "ring", "handed", "all_of", "k", "kinds"]) rfl) nc_law_1 ?_ (fun cl C s0 H0 fp => ?_) (fun cl C s0 H0 fp => ?_)
            · refine di_range1 rfl T.b_range ?_
              exact da_cons de_int da_nil
            · refine df_one ?_
              refine dt_truth ?_
              exact de_ix o_ix (dv 6) (dv 7)
            · exact dv 7
          · refine de_lst ?_
            exact da_cons (dv 5) da_nil
        · refine ds_one ?_
          exact ds_ret de_bl
      refine ds_one ?_
      refine ds_if ?_ ?_ ds_nil
      · refine DW.dt ?_
        refine dw_or ?_ ?_
        · refine dt_not ?_
          refine dt_truth ?_
          refine de_iseO rfl T.b_isinstance EE.f EE.kF ?_
          exact de_ix o_ix (dv 4) (dv 5)
        · refine dw_or1 ?_
          refine dt_not ?_
          refine dt_truth ?_
          refine de_iseT rfl T.b_isinstance T.b_ValueError bt_ValueError EE.kV ?_
          exact de_ix o_ix (dv 4) (dv 5)
      · refine ds_one ?_
        exact ds_ret de_bl
  refine ds_one ?_
  refine ds_ret ?_
  refine de_and ?_ ?_
  · refine de_cmp (o_eq hu) ?_ (dv 2)
    refine de_fld (EE.fld "Ringed" "ring" (by decide) EE.iR) ?_
    exact de_ix o_ix (dv 4) de_int
  · refine de_and ?_ ?_
    · refine de_cmp (o_eq hu) ?_ (dv 1)
      refine de_fld (EE.fld "BadRun" "run" (by decide) EE.iB) ?_
      exact de_ix o_ix (dv 4) de_int
    · refine de_one ?_
      refine de_cmp (o_eq hu) ?_ (dv 1)
      refine de_fld (EE.fld "NoText" "row" (by decide) EE.iN) ?_
      exact de_ix o_ix (dv 4) de_int
set_option maxHeartbeats 0 in
theorem all_mk {l : PySem.W.OpenLaw} {w : World} {K : PySem.W.Frag} {h : Heap} {mg : Str → Option Value} {fa f1 f2 f3 f4 : Addr} (X : K.In h) (G : h.Ns mainGlobals mg) (hfa : mg "law" = some (.ref fa))
    {od1 an1 od2 an2 od3 an3 od4 an4 : Option Addr} {sl1 sl2 sl3 sl4 : Array (Option Value)} {oc1 kV1 dc1 pm1 cd1 ct1 oc2 kV2 dc2 pm2 cd2 ct2 oc3 kV3 dc3 pm3 cd3 ct3 oc4 kV4 dc4 pm4 cd4 ct4 : Value}
    (a1 : PySem.W.nsIn K mainGlobals "_law_at" = some (some (.ref f1))) (l1 : K.lookup f1 = some ⟨oc1, od1, .func (PySem.W.fnOf "_law_at" "_law_at" (defArgs s_Lat) (defBody s_Lat) (defScope s_Lat) .none kV1 dc1 pm1 an1 cd1 ct1), sl1⟩) (c1 : PySem.W.codeIn K cd1 "_law_at" = true) (k1 : PySem.W.keepIn K (.ref f1) = true)
    (a2 : PySem.W.nsIn K mainGlobals "_law_all" = some (some (.ref f2))) (l2 : K.lookup f2 = some ⟨oc2, od2, .func (PySem.W.fnOf "_law_all" "_law_all" (defArgs s_Lall) (defBody s_Lall) (defScope s_Lall) .none kV2 dc2 pm2 an2 cd2 ct2), sl2⟩) (c2 : PySem.W.codeIn K cd2 "_law_all" = true) (k2 : PySem.W.keepIn K (.ref f2) = true)
    (a3 : PySem.W.nsIn K mainGlobals "_law_kinds" = some (some (.ref f3))) (l3 : K.lookup f3 = some ⟨oc3, od3, .func (PySem.W.fnOf "_law_kinds" "_law_kinds" (defArgs s_Lkinds) (defBody s_Lkinds) (defScope s_Lkinds) .none kV3 dc3 pm3 an3 cd3 ct3), sl3⟩) (c3 : PySem.W.codeIn K cd3 "_law_kinds" = true) (k3 : PySem.W.keepIn K (.ref f3) = true)
    (a4 : PySem.W.nsIn K mainGlobals "law" = some (some (.ref f4))) (l4 : K.lookup f4 = some ⟨oc4, od4, .func (PySem.W.fnOf "law" "law" (defArgs s_law) (defBody s_law) (defScope s_law) .none kV4 dc4 pm4 an4 cd4 ct4), sl4⟩) (c4 : PySem.W.codeIn K cd4 "law" = true) (k4 : PySem.W.keepIn K (.ref f4) = true)
    (z0 : PySem.W.nsIn K mainGlobals "ValueError" = some none) (z1 : PySem.W.nsIn K mainGlobals "abs" = some none) (z2 : PySem.W.nsIn K mainGlobals "isinstance" = some none) (z3 : PySem.W.nsIn K mainGlobals "len" = some none) (z4 : PySem.W.nsIn K mainGlobals "list" = some none) (z5 : PySem.W.nsIn K mainGlobals "range" = some none) (z6 : PySem.W.nsIn K mainGlobals "str" = some none)
    {C_Ringed fi_Ringed : Addr} {xo_Ringed xq_Ringed xa_Ringed : Option Addr} {xe_Ringed : ClassData} {xs_Ringed xt_Ringed : Array (Option Value)} {xp_Ringed xr_Ringed xV_Ringed xd_Ringed xm_Ringed xg_Ringed xh_Ringed : Value}
    (xx_Ringed : PySem.W.nsIn K mainGlobals "Ringed" = some (some (.ref C_Ringed))) (xl_Ringed : K.lookup C_Ringed = some ⟨xp_Ringed, xo_Ringed, .cls xe_Ringed, xs_Ringed⟩) (xn_Ringed : PySem.W.nsIn K xe_Ringed.ns "__init__" = some (some (.ref fi_Ringed))) (xf_Ringed : K.lookup fi_Ringed = some ⟨xr_Ringed, xq_Ringed, .func (PySem.W.fnOf "__init__" "Ringed.__init__" (defArgs s_Ringed) (defBody s_Ringed) (defScope s_Ringed) .none xV_Ringed xd_Ringed xm_Ringed xa_Ringed xg_Ringed xh_Ringed), xt_Ringed⟩) (xc_Ringed : PySem.W.codeIn K xg_Ringed "Ringed.__init__" = true) (xk_Ringed : PySem.W.keepIn K (.ref fi_Ringed) = true)
    {C_BadRun fi_BadRun : Addr} {xo_BadRun xq_BadRun xa_BadRun : Option Addr} {xe_BadRun : ClassData} {xs_BadRun xt_BadRun : Array (Option Value)} {xp_BadRun xr_BadRun xV_BadRun xd_BadRun xm_BadRun xg_BadRun xh_BadRun : Value}
    (xx_BadRun : PySem.W.nsIn K mainGlobals "BadRun" = some (some (.ref C_BadRun))) (xl_BadRun : K.lookup C_BadRun = some ⟨xp_BadRun, xo_BadRun, .cls xe_BadRun, xs_BadRun⟩) (xn_BadRun : PySem.W.nsIn K xe_BadRun.ns "__init__" = some (some (.ref fi_BadRun))) (xf_BadRun : K.lookup fi_BadRun = some ⟨xr_BadRun, xq_BadRun, .func (PySem.W.fnOf "__init__" "BadRun.__init__" (defArgs s_BadRun) (defBody s_BadRun) (defScope s_BadRun) .none xV_BadRun xd_BadRun xm_BadRun xa_BadRun xg_BadRun xh_BadRun), xt_BadRun⟩) (xc_BadRun : PySem.W.codeIn K xg_BadRun "BadRun.__init__" = true) (xk_BadRun : PySem.W.keepIn K (.ref fi_BadRun) = true)
    {C_NoText fi_NoText : Addr} {xo_NoText xq_NoText xa_NoText : Option Addr} {xe_NoText : ClassData} {xs_NoText xt_NoText : Array (Option Value)} {xp_NoText xr_NoText xV_NoText xd_NoText xm_NoText xg_NoText xh_NoText : Value}
    (xx_NoText : PySem.W.nsIn K mainGlobals "NoText" = some (some (.ref C_NoText))) (xl_NoText : K.lookup C_NoText = some ⟨xp_NoText, xo_NoText, .cls xe_NoText, xs_NoText⟩) (xn_NoText : PySem.W.nsIn K xe_NoText.ns "__init__" = some (some (.ref fi_NoText))) (xf_NoText : K.lookup fi_NoText = some ⟨xr_NoText, xq_NoText, .func (PySem.W.fnOf "__init__" "NoText.__init__" (defArgs s_NoText) (defBody s_NoText) (defScope s_NoText) .none xV_NoText xd_NoText xm_NoText xa_NoText xg_NoText xh_NoText), xt_NoText⟩) (xc_NoText : PySem.W.codeIn K xg_NoText "NoText.__init__" = true) (xk_NoText : PySem.W.keepIn K (.ref fi_NoText) = true)
    (ef : isA K "FoldError" = true) (ee : (n14.all fun x => PySem.W.excIn K (clA K x) vErr "ValueError.__new__") = true) (ea : (n17.all fun x => okA K x) = true) (ek : (n17.all fun x => n17.all fun y => okKit K x y) = true) (eR : okI K "Ringed" "ring" = true) (eB : okI K "BadRun" "run" = true) (eN : okI K "NoText" "row" = true) (eX : xbB K = true)
      :
    ∃ fd : FuncData, (∀ (s : Shared) (v : Value), BindsTo s fd ⟨[v], []⟩ [("script", v)]) ∧ ∀ base : Heap, K.In base → base.Ns mainGlobals mg → FnD l.prog w K mg base 4 fa fd ["script"] FF_law := by
  have e := hfa.symm.trans (PySem.W.mg_of X G a4)
  cases e
  have T : Txt K mg := ⟨PySem.W.mg_none_of X G z0, PySem.W.mg_none_of X G z1, PySem.W.mg_none_of X G z2, PySem.W.mg_none_of X G z3, PySem.W.mg_none_of X G z4, PySem.W.mg_none_of X G z5, PySem.W.mg_none_of X G z6⟩
  have C_Lat : Ce K mg "_law_at" s_Lat _ _ ["script", "k"] := ⟨fun_mk (st := s_Lat) l1 c1 k1, PySem.W.mg_of X G a1, (fun_mk (st := s_Lat) l1 c1 k1).binds (ps := ["script", "k"]) fun _ _ _ _ _ _ us hl => len2 us hl fun _ _ => rfl⟩
  have C_Lall : Ce K mg "_law_all" s_Lall _ _ ["text", "number", "ring"] := ⟨fun_mk (st := s_Lall) l2 c2 k2, PySem.W.mg_of X G a2, (fun_mk (st := s_Lall) l2 c2 k2).binds (ps := ["text", "number", "ring"]) fun _ _ _ _ _ _ us hl => len3 us hl fun _ _ _ => rfl⟩
  have C_Lkinds : Ce K mg "_law_kinds" s_Lkinds _ _ ["one"] := ⟨fun_mk (st := s_Lkinds) l3 c3 k3, PySem.W.mg_of X G a3, (fun_mk (st := s_Lkinds) l3 c3 k3).binds (ps := ["one"]) fun _ _ _ _ _ _ us hl => len1 us hl fun _ => rfl⟩
  have C_law : Ce K mg "law" s_law _ _ ["script"] := ⟨fun_mk (st := s_law) l4 c4 k4, PySem.W.mg_of X G a4, (fun_mk (st := s_law) l4 c4 k4).binds (ps := ["script"]) fun _ _ _ _ _ _ us hl => len1 us hl fun _ => rfl⟩
  have EE : Errs K mg := errs_mk X G ef ee ea ek eR eB eN
  have BB : XBase K mg "FoldError" (clA K "FoldError") := xb_of EE.f eX
  have ei_Ringed : iA K "Ringed" = fi_Ringed := by unfold iA clA; rw [xx_Ringed]; simp only []; rw [xl_Ringed]; simp only []; rw [xn_Ringed]
  have F_Ringed := fun_mk (st := s_Ringed) xf_Ringed xc_Ringed xk_Ringed
  rw [← ei_Ringed] at F_Ringed
  have BI_Ringed := F_Ringed.binds (ps := ["self", "ring"]) fun _ _ _ _ _ _ us hl => len2 us hl fun _ _ => rfl
  have ei_BadRun : iA K "BadRun" = fi_BadRun := by unfold iA clA; rw [xx_BadRun]; simp only []; rw [xl_BadRun]; simp only []; rw [xn_BadRun]
  have F_BadRun := fun_mk (st := s_BadRun) xf_BadRun xc_BadRun xk_BadRun
  rw [← ei_BadRun] at F_BadRun
  have BI_BadRun := F_BadRun.binds (ps := ["self", "run"]) fun _ _ _ _ _ _ us hl => len2 us hl fun _ _ => rfl
  have ei_NoText : iA K "NoText" = fi_NoText := by unfold iA clA; rw [xx_NoText]; simp only []; rw [xl_NoText]; simp only []; rw [xn_NoText]
  have F_NoText := fun_mk (st := s_NoText) xf_NoText xc_NoText xk_NoText
  rw [← ei_NoText] at F_NoText
  have BI_NoText := F_NoText.binds (ps := ["self", "row"]) fun _ _ _ _ _ _ us hl => len2 us hl fun _ _ => rfl
  refine ⟨PySem.W.fnOf "law" "law" (defArgs s_law) (defBody s_law) (defScope s_law) .none kV4 dc4 pm4 an4 cd4 ct4, fun s v => .of_eq rfl, fun base _ _ => ?_⟩
  have G_Lat := ok_Lat (Pg := l.prog) (w := w) (base := base) T C_Lat
  have FI_Ringed := ok_iRinged (Pg := l.prog) (w := w) (base := base) T EE BB F_Ringed
  have FI_BadRun := ok_iBadRun (Pg := l.prog) (w := w) (base := base) T EE BB F_BadRun
  have FI_NoText := ok_iNoText (Pg := l.prog) (w := w) (base := base) T EE BB F_NoText
  have G_Lall := ok_Lall (Pg := l.prog) (w := w) (base := base) T C_Lall EE FI_BadRun BI_BadRun FI_NoText BI_NoText FI_Ringed BI_Ringed
  have G_Lkinds := ok_Lkinds (Pg := l.prog) (w := w) (base := base) T C_Lkinds EE
  exact ok_law T C_law C_Lat G_Lat C_Lall G_Lall C_Lkinds G_Lkinds EE
end K01
namespace K01
open PySem PySem.Spec L2 L2.CF
theorem z1 : (1 : Nat) ≤ sizeLine := by decide
theorem z17 : (17 : Nat) ≤ sizeLine := by decide
theorem at_ok {ns : List Int} (hn : ns.length ≤ 63) : FF_Lat [.p (.lst (ns.map D.int)), .p (.int 0)] = some (.p (.int (ns.headD 0)), [.p (.lst (ns.map D.int)), .p (.int 0)]) := by
  have hls := sizeLine_eq
  have hz : ns.length ≤ sizeLine := by omega
  cases ns with
  | nil => simp [FF_Lat, m_Lat]
  | cons a r =>
    have e : atI (D.int a :: r.map D.int) 0 = some (D.int a) := by simp [atI, ixN]
    simp [FF_Lat, m_Lat, show r.length + 1 ≤ sizeLine from hz, e]
theorem kind_ok {c : Str} {d : D} (hc : n17.contains c = true) (he : isErr c d) (y : Str) : errOf (mtO y) (.p d) = some (.p (.bl (c == y))) := by
  have e : mtO y c = some (c == y) := by unfold mtO; rw [if_pos hc]
  rcases he with rfl | ⟨f, d', rfl⟩
  · simp only [errOf, e]; rfl
  · simp only [errOf, e]; rfl
theorem kindF_ok {c : Str} {d : D} (hc : n17.contains c = true) (he : isErr c d) : errOf mtF (.p d) = some (.p (.bl true)) := by
  have e : mtF c = some true := by unfold mtF; rw [if_pos hc]
  rcases he with rfl | ⟨f, d', rfl⟩
  · simp only [errOf, e]; rfl
  · simp only [errOf, e]; rfl
theorem kinds_ok {c : Str} {d : D} (hc : n17.contains c = true) (he : isErr c d) : FF_Lkinds [.p d] = some (.L (n17.map fun y => .bl (c == y)), [.p d]) := by
  have k := fun y => kind_ok hc he y
  simp [FF_Lkinds, m_Lkinds, fIsE, f1, k, z17, n17, n14, n3]
theorem all_ok {t : Str} {n : Int} {ds : List D} (h0 : 0 ≤ n) (h1 : n < 700) (hd : ds.length ≤ 10) : FF_Lall [.p (.str t), .p (.int n), .L ds] =
    some (.L (n14.map D.exc ++ [.obj "Ringed" "ring" (.lst ds), .obj "BadRun" "run" (.int n), .obj "NoText" "row" (.int n)]), [.p (.str t), .p (.int n), .L ds]) := by
  have g : gdI (.p (.int n)) = some (.int n) := by show (if 0 ≤ n ∧ n < 700 then _ else _) = _; rw [if_pos ⟨h0, h1⟩]
  have gl : gdL (.L ds) = some (.lst ds) := rfl
  have z5 : (5 : Nat) ≤ sizeLine := by decide
  have z4 : (4 : Nat) ≤ sizeLine := by decide
  have z3 : (3 : Nat) ≤ sizeLine := by decide
  have z10 : (10 : Nat) ≤ sizeLine := by decide
  have z14 : (14 : Nat) ≤ sizeLine := by decide
  have e0 : ∀ (x : Str) (ρ : DS) (s : Str), ρ[0]? = some (some (.p (.str s))) → fMk0 x (fCons (fVar 0) fNil) ρ = some (.own (.p (.exc x)), ρ) := fun x ρ s h => by simp [fMk0, h]
  simp [FF_Lall, m_Lall, e0, mkOf, g, gl, n14, z5, z4, z3, z10, z14, z17]
abbrev E17 (n : Int) (ds : List D) : List D := n14.map D.exc ++ [.obj "Ringed" "ring" (.lst ds), .obj "BadRun" "run" (.int n), .obj "NoText" "row" (.int n)]
theorem e17_get {n : Int} {ds : List D} : ∀ k, k < 17 → ∃ d c, (E17 n ds)[k]? = some d ∧ isErr c d ∧ n17.contains c = true ∧ n17[k]? = some c := by
  intro k hk
  have cases17 : k = 0 ∨ k = 1 ∨ k = 2 ∨ k = 3 ∨ k = 4 ∨ k = 5 ∨ k = 6 ∨ k = 7 ∨ k = 8 ∨ k = 9 ∨ k = 10 ∨ k = 11 ∨ k = 12 ∨ k = 13 ∨ k = 14 ∨ k = 15 ∨ k = 16 := by omega
  rcases cases17 with rfl | rfl | rfl | rfl | rfl | rfl | rfl | rfl | rfl | rfl | rfl | rfl | rfl | rfl | rfl | rfl | rfl
  all_goals first | exact ⟨_, _, rfl, .inl rfl, by decide, rfl⟩ | exact ⟨_, _, rfl, .inr ⟨_, _, rfl⟩, by decide, rfl⟩
theorem fil_ok : ∀ k : Fin 17, ((List.range 17).filter fun j => (n17.map fun y => (n17[k.val]?.getD "") == y).getD j false) = [k.val] := by decide +kernel
theorem comp_ok {bs : List Bool} {x0 x1 x2 x3 x4 x5 : Option RV} : ∀ js : List Nat, (∀ j ∈ js, j < bs.length) → compD (fT (f2 gIx (fVar 6) (fVar 7))) (fVar 7) 7 (js.map fun j : Nat => D.int (j : Int)) [x0, x1, x2, x3, x4, x5, some (.L (bs.map D.bl))] =
    some ((js.filter fun j => bs.getD j false).map (fun j : Nat => D.int (j : Int)), [x0, x1, x2, x3, x4, x5, some (.L (bs.map D.bl))])
  | [], _ => by simp
  | j :: js, h => by
    have ih := comp_ok (x0 := x0) (x1 := x1) (x2 := x2) (x3 := x3) (x4 := x4) (x5 := x5) js fun i hi => h i (by simp [hi])
    have hj : j < bs.length := h j (by simp)
    have e : atI (bs.map D.bl) (j : Int) = some (D.bl (bs.getD j false)) := by simp [atI, ixN, hj]
    cases q : bs.getD j false with
    | true =>
      have q' : bs[j]?.getD false = true := by rw [← List.getD_eq_getElem?_getD]; exact q
      simp [e, q', ih, List.filter_cons]
    | false =>
      have q' : bs[j]?.getD false = false := by rw [← List.getD_eq_getElem?_getD]; exact q
      simp [e, q', ih, List.filter_cons]
theorem toPys_ints : ∀ ns : List Int, toPys (ns.map D.int) = ns.map PyData.int
  | [] => rfl
  | n :: ns => by simp [toPys, toPy, toPys_ints ns]
theorem lay_ints : ∀ ns : List Int, PyData.canLayAll0 (ns.map PyData.int) = true
  | [] => by simp [PyData.canLayAll0]
  | n :: ns => by simp [PyData.canLayAll0, PyData.canLay0, lay_ints ns]
theorem dep_ints : ∀ ns : List Int, PyData.depthAll (ns.map PyData.int) = 0
  | [] => by simp [PyData.depthAll]
  | n :: ns => by simp [PyData.depthAll, PyData.depth, dep_ints ns]
theorem ok_ints (ns : List Int) : okD (.lst (ns.map D.int)) = true := by
  unfold okD
  simp only [toPy, toPys_ints, PyData.canLay0, PyData.depth, dep_ints, lay_ints ns]
  decide
theorem eqv_ints : ∀ ns : List Int, PyData.eqvAll (ns.map PyData.int) (ns.map PyData.int) = true
  | [] => by simp [PyData.eqvAll]
  | n :: ns => by simp [PyData.eqvAll, PyData.eqv, eqv_ints ns]
theorem eq_ints (ns : List Int) : eqD (.lst (ns.map D.int)) (.lst (ns.map D.int)) = true := by
  unfold eqD
  simp only [toPy, toPys_ints, PyData.eqv, eqv_ints]
noncomputable def lawB : FS := sSeq (sSet 1 6 (fFn 1 FF_Lkinds (fCons (f2 gIx (fVar 4) (fVar 5)) (fNil)))) (sSeq (sIf (fT (f2 gNe (fComp (fiRange1 (fCons (fC (.int 17)) (fNil))) (fT (f2 gIx (fVar 6) (fVar 7))) (fVar 7)) (fLst (fCons (fVar 5) (fNil))))) (sRet 1 (fC (.bl false))) (sNext)) (sIf (fOr (fNot (fT (fIsE mtF (f2 gIx (fVar 4) (fVar 5))))) (fNot (fT (fIsE mtF (f2 gIx (fVar 4) (fVar 5)))))) (sRet 1 (fC (.bl false))) (sNext)))
theorem law_step {x0 x1 x2 x3 x6 : Option RV} {n : Int} {ds : List D} (k : Nat) (hk : k < 17) : ∃ y6, lawB [x0, x1, x2, x3, some (.L (E17 n ds)), some (.p (.int k)), x6] = some (.nx, [x0, x1, x2, x3, some (.L (E17 n ds)), some (.p (.int k)), y6]) := by
  obtain ⟨d, c, e1, e2, e3, e4⟩ := e17_get (n := n) (ds := ds) k hk
  have ea : atI (E17 n ds) (k : Int) = some d := by
    have : (E17 n ds).length = 17 := by simp [E17, n14]
    unfold atI ixN
    rw [this]
    have h17 : (k : Int) < 17 := by omega
    simp [h17]
    exact e1
  have ek := kinds_ok e3 e2
  have em : (n17.map fun y => D.bl (c == y)) = (n17.map fun y => (c == y)).map D.bl := by simp
  rw [em] at ek
  have eb : (n17.map fun y => (c == y)).length = 17 := by simp [n17, n14, n3]
  have ec := comp_ok (bs := n17.map fun y => (c == y)) (x0 := x0) (x1 := x1) (x2 := x2) (x3 := x3) (x4 := some (.L (E17 n ds))) (x5 := some (.p (.int k))) (List.range 17) (fun j hj => by rw [eb]; simpa using hj)
  have ef := fil_ok ⟨k, hk⟩
  simp only [e4, Option.getD_some] at ef
  rw [ef] at ec
  have eF := kindF_ok e3 e2
  have ok := ok_ints [(k : Int)]
  have eq := eq_ints [(k : Int)]
  simp only [List.map_cons, List.map_nil] at ok eq ec
  generalize hE : E17 n ds = EE at *
  generalize hB : (n17.map fun y => (c == y)) = B at *
  refine ⟨some (.L (B.map D.bl)), ?_⟩
  simp [lawB, ea, ek, ec, eF, ok, eq, fComp, fiRange1, fIsE, z1, z17]
def okS (i : Int) : Bool := decide (i.natAbs.log2 < 1920) && decide ((toString i : Str).length ≤ 100)
theorem okS_all : ∀ k : Fin 700, okS (k.val : Int) = true := by decide +kernel
theorem okS_of {i : Int} (h0 : 0 ≤ i) (h1 : i < 700) : i.natAbs.log2 < 1920 ∧ (toString i : Str).length ≤ 100 := by
  have z := okS_all ⟨i.toNat, by omega⟩
  have e : ((i.toNat : Nat) : Int) = i := Int.toNat_of_nonneg h0
  simp only [e] at z
  simpa [okS] using z
theorem cmp_ring {x0 x1 x2 x3 x4 x5 x6 : Option RV} : ∀ js : List Int, compD fYes (f2 gMod (fVar 7) (fC (.int 100))) 7 (js.map D.int) [x0, x1, x2, x3, x4, x5, x6] = some ((js.map fun j => j % 100).map D.int, [x0, x1, x2, x3, x4, x5, x6])
  | [] => by simp
  | j :: js => by
    have ih := cmp_ring (x0 := x0) (x1 := x1) (x2 := x2) (x3 := x3) (x4 := x4) (x5 := x5) (x6 := x6) js
    simp [ih, fYes]
theorem cut10 (ns : List Int) : cutD (ns.map D.int) none (some 10) = (ns.take 10).map D.int := by
  unfold cutD HT.sIx
  simp
theorem el : m_law = sSeq (sSet 1 1 (f2 gMod (fCall gAbs (fCons (fFn 2 FF_Lat (fCons (fVar 0) (fCons (fC (.int 0)) (fNil)))) (fNil))) (fC (.int 700)))) (sSeq (sSet 1 2 (fComp (fiSeq (fSl (fVar 0) foN (foS (fC (.int 10))))) (fYes) (f2 gMod (fVar 7) (fC (.int 100))))) (sSeq (sSet 1 3 (fCall gListOf (fCons (fVar 2) (fNil)))) (sSeq (sSet 1 4 (fFn 3 FF_Lall (fCons (f2 gAdd (fC (.str "a text ")) (fCall gStrOf (fCons (fVar 1) (fNil)))) (fCons (fVar 1) (fCons (fVar 3) (fNil)))))) (sSeq (sExpr (fLm gAppend (fVar 3) (fCons (fC (.int 100)) (fNil)))) (sSeq (sFor 1 (fiRange1 (fCons (fC (.int 17)) (fNil))) (gName' 1 5) lawB) (sRet 1 (fAndV (f2 gEq (fFld "Ringed" "ring" (f2 gIx (fVar 4) (fC (.int 14)))) (fVar 2)) (fAndV (f2 gEq (fFld "BadRun" "run" (f2 gIx (fVar 4) (fC (.int 15)))) (fVar 1)) (f2 gEq (fFld "NoText" "row" (f2 gIx (fVar 4) (fC (.int 16)))) (fVar 1)))))))))) := rfl
set_option maxHeartbeats 4000000 in
theorem law_true : ∀ ns : List Int, ns.length ≤ 63 → ∃ ys, FF_law [.p (.lst (ns.map D.int))] = some (.p (.bl true), ys) := by
  intro ns hn
  have hat := at_ok hn
  generalize hm : (if ns.headD 0 < 0 then -(ns.headD 0) else ns.headD 0) % 700 = m
  have h0 : 0 ≤ m := by omega
  have h1 : m < 700 := by omega
  obtain ⟨s1, s2⟩ := okS_of h0 h1
  have hls := sizeLine_eq
  have hz : ns.length ≤ sizeLine := by omega
  generalize hr : ((ns.take 10).map fun j => j % 100) = ring
  have lr : ring.length ≤ 10 := by rw [← hr]; simp; omega
  have hall := fun t => all_ok (t := t) (n := m) (ds := ring.map D.int) h0 h1 (by simpa using lr)
  have hc := fun x1 x2 x3 x4 x5 x6 => cmp_ring (x0 := some (.p (.lst (ns.map D.int)))) (x1 := x1) (x2 := x2) (x3 := x3) (x4 := x4) (x5 := x5) (x6 := x6) (ns.take 10)
  rw [hr] at hc
  obtain ⟨ρ', h, y5, y6, e⟩ := forD_inv (asg := gName' 1 5) (body := lawB) (fun _ ρ => ∃ y5 y6, ρ = [some (.p (.lst (ns.map D.int))), some (.p (.int m)), some (.L (ring.map D.int)), some (.L (ring.map D.int ++ [.int 100])), some (.L (E17 m (ring.map D.int))), y5, y6])
    ((List.range 17).map fun (i : Nat) => D.int i) 0 [some (.p (.lst (ns.map D.int))), some (.p (.int m)), some (.L (ring.map D.int)), some (.L (ring.map D.int ++ [.int 100])), some (.L (E17 m (ring.map D.int))), none, none] ⟨_, _, rfl⟩ (fun j d ρ hd ⟨y5, y6, e⟩ => by
      subst e
      have hj : j < 17 := by
        have := (List.getElem?_eq_some_iff.mp hd).1
        simpa using this
      obtain rfl : d = .int (j : Int) := by simpa [hj] using hd.symm
      obtain ⟨z6, hz⟩ := law_step (x0 := some (.p (.lst (ns.map D.int)))) (x1 := some (.p (.int m))) (x2 := some (.L (ring.map D.int))) (x3 := some (.L (ring.map D.int ++ [.int 100]))) (x6 := y6) (n := m) (ds := ring.map D.int) j hj
      exact ⟨[some (.p (.lst (ns.map D.int))), some (.p (.int m)), some (.L (ring.map D.int)), some (.L (ring.map D.int ++ [.int 100])), some (.L (E17 m (ring.map D.int))), some (.p (.int j)), y6], _, by simp [gName'], hz, _, _, rfl⟩)
  subst e
  refine ⟨[.p (.lst (ns.map D.int))], ?_⟩
  have a14 : atI (E17 m (ring.map D.int)) 14 = some (.obj "Ringed" "ring" (.lst (ring.map D.int))) := by simp [atI, ixN, E17, n14]
  have a15 : atI (E17 m (ring.map D.int)) 15 = some (.obj "BadRun" "run" (.int m)) := by simp [atI, ixN, E17, n14]
  have a16 : atI (E17 m (ring.map D.int)) 16 = some (.obj "NoText" "row" (.int m)) := by simp [atI, ixN, E17, n14]
  have ok := ok_ints ring
  have eq := eq_ints ring
  generalize hE : E17 m (ring.map D.int) = EE at *
  let SC : Option RV := some (.p (.lst (ns.map D.int)))
  let R : Option RV := some (.L (ring.map D.int))
  have t1 : sSet 1 1 (f2 gMod (fCall gAbs (fCons (fFn 2 FF_Lat (fCons (fVar 0) (fCons (fC (.int 0)) (fNil)))) (fNil))) (fC (.int 700))) [SC, none, none, none, none, none, none] = some (.nx, [SC, some (.p (.int m)), none, none, none, none, none]) := by
    simp [SC, hat, gAbs]
    simpa using hm
  have t2 : sSet 1 2 (fComp (fiSeq (fSl (fVar 0) foN (foS (fC (.int 10))))) (fYes) (f2 gMod (fVar 7) (fC (.int 100)))) [SC, some (.p (.int m)), none, none, none, none, none] = some (.nx, [SC, some (.p (.int m)), R, none, none, none, none]) := by
    have ts : fiSeq (fSl (fVar 0) foN (foS (fC (.int 10)))) [SC, some (.p (.int m)), none, none, none, none, none] = some ((ns.take 10).map D.int, none, [SC, some (.p (.int m)), none, none, none, none, none]) := by
      simp [SC, fiSeq, foN, foS, gSl', gSl, itemsL, items, cut10]
    have l10 : ((ns.take 10).map D.int).length ≤ sizeLine := by simp; omega
    simp only [e_set, fComp, ts, Option.bind_some]
    simp only [SC, List.length_cons, List.length_nil, Nat.zero_add, hc, Option.bind_some, l10, if_true]
    simp [R]
  have t3 : sSet 1 3 (fCall gListOf (fCons (fVar 2) (fNil))) [SC, some (.p (.int m)), R, none, none, none, none] = some (.nx, [SC, some (.p (.int m)), R, R, none, none, none]) := by
    simp [SC, R, gListOf, items, itemsL]
  have t4 : sSet 1 4 (fFn 3 FF_Lall (fCons (f2 gAdd (fC (.str "a text ")) (fCall gStrOf (fCons (fVar 1) (fNil)))) (fCons (fVar 1) (fCons (fVar 3) (fNil))))) [SC, some (.p (.int m)), R, R, none, none, none] = some (.nx, [SC, some (.p (.int m)), R, R, some (.L (E17 m (ring.map D.int))), none, none]) := by
    have la : ("a text " : Str).length = 7 := by decide
    have s3 : 7 + (toString m : Str).length ≤ sizeLine := by omega
    have s3 : 7 + (Str.ofString m.repr).length ≤ sizeLine := s3
    simp [SC, R, gStrOf, s1, la, s3, hall]
  have t5 : sExpr (fLm gAppend (fVar 3) (fCons (fC (.int 100)) (fNil))) [SC, some (.p (.int m)), R, R, some (.L (E17 m (ring.map D.int))), none, none] = some (.nx, [SC, some (.p (.int m)), R, some (.L (ring.map D.int ++ [.int 100])), some (.L (E17 m (ring.map D.int))), none, none]) := by
    simp [SC, R, gAppend]
    omega
  have t6 : sFor 1 (fiRange1 (fCons (fC (.int 17)) (fNil))) (gName' 1 5) lawB [SC, some (.p (.int m)), R, some (.L (ring.map D.int ++ [.int 100])), some (.L (E17 m (ring.map D.int))), none, none] = some (.nx, [SC, some (.p (.int m)), R, some (.L (ring.map D.int ++ [.int 100])), some (.L (E17 m (ring.map D.int))), y5, y6]) := by
    rw [hE]
    simp [sFor, fiRange1, SC, R, h, z17]
  have t7 : sRet 1 (fAndV (f2 gEq (fFld "Ringed" "ring" (f2 gIx (fVar 4) (fC (.int 14)))) (fVar 2)) (fAndV (f2 gEq (fFld "BadRun" "run" (f2 gIx (fVar 4) (fC (.int 15)))) (fVar 1)) (f2 gEq (fFld "NoText" "row" (f2 gIx (fVar 4) (fC (.int 16)))) (fVar 1)))) [SC, some (.p (.int m)), R, some (.L (ring.map D.int ++ [.int 100])), some (.L (E17 m (ring.map D.int))), y5, y6] = some (.rt (.p (.bl true)), [SC, some (.p (.int m)), R, some (.L (ring.map D.int ++ [.int 100])), some (.L (E17 m (ring.map D.int))), y5, y6]) := by
    rw [hE]
    simp [SC, R, fFld, fldOf, a14, a15, a16, ok, eq]
  have nx : ∀ {f g : FS} {ρ ρ1 : DS}, f ρ = some (.nx, ρ1) → sSeq f g ρ = g ρ1 := fun {f g ρ ρ1} e => by unfold sSeq; rw [e]; rfl
  have whole : m_law [SC, none, none, none, none, none, none] = some (.rt (.p (.bl true)), [SC, some (.p (.int m)), R, some (.L (ring.map D.int ++ [.int 100])), some (.L (E17 m (ring.map D.int))), y5, y6]) := by
    rw [el, nx t1, nx t2, nx t3, nx t4, nx t5, nx t6, t7]
  simp [FF_law, SC] at whole ⊢
  simp [whole]
end K01
open PySem PySem.W PyProof.Rows
set_option maxRecDepth 100000 in
set_option maxHeartbeats 0 in
theorem PySem.Challenge.cw_callfold_k01_refusals_stand_alone_holds : PySem.Challenge.rw_callfold_k01_refusals_stand_alone.Holds := by
  w_on; o_law; k_head; (case hw => w_witness2)
  k_fill
  refine L2.CF.walkD (l := PySem.Challenge.rw_callfold_k01_refusals_stand_alone) (k := 4) (F := K01.FF_law) rfl ⟨rfl, by decide, by decide⟩ rfl (fun w h Y => PySem.W.kIn_of Y) ?F K01.law_true
  case F =>
    intro w mg fa h KX G hmg
    refine' K01.all_mk KX G hmg ?a1 ?l1 ?c1 ?k1 ?a2 ?l2 ?c2 ?k2 ?a3 ?l3 ?c3 ?k3 ?a4 ?l4 ?c4 ?k4 ?z0 ?z1 ?z2 ?z3 ?z4 ?z5 ?z6 ?xx_Ringed ?xl_Ringed ?xn_Ringed ?xf_Ringed ?xc_Ringed ?xk_Ringed ?xx_BadRun ?xl_BadRun ?xn_BadRun ?xf_BadRun ?xc_BadRun ?xk_BadRun ?xx_NoText ?xl_NoText ?xn_NoText ?xf_NoText ?xc_NoText ?xk_NoText ?ef ?ee ?ea ?ek ?eR ?eB ?eN ?eX
    (case a1 => k_is); (case l1 => k_is); (case c1 => k_is); (case k1 => k_is)
    (case a2 => k_is); (case l2 => k_is); (case c2 => k_is); (case k2 => k_is)
    (case a3 => k_is); (case l3 => k_is); (case c3 => k_is); (case k3 => k_is)
    (case a4 => k_is); (case l4 => k_is); (case c4 => k_is); (case k4 => k_is)
    (case z0 => k_is)
    (case z1 => k_is)
    (case z2 => k_is)
    (case z3 => k_is)
    (case z4 => k_is)
    (case z5 => k_is)
    (case z6 => k_is)
    (case xx_Ringed => k_is); (case xl_Ringed => k_is); (case xn_Ringed => k_is); (case xf_Ringed => k_is); (case xc_Ringed => k_is); (case xk_Ringed => k_is)
    (case xx_BadRun => k_is); (case xl_BadRun => k_is); (case xn_BadRun => k_is); (case xf_BadRun => k_is); (case xc_BadRun => k_is); (case xk_BadRun => k_is)
    (case xx_NoText => k_is); (case xl_NoText => k_is); (case xn_NoText => k_is); (case xf_NoText => k_is); (case xc_NoText => k_is); (case xk_NoText => k_is)
    all_goals kernel_rfl
