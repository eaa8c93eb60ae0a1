import PyProof.Rows.All
import Wide.All
import OpenK.AllK
import Wide.FinOn
import Lean
import PyProof.EqAt
import PyProof.EqKinds
import PyProof.TupleCall
import PySem.Challenge.RW_dialyard_k34_told_in_order
set_option Elab.async false
set_option linter.all false
set_option maxRecDepth 100000
namespace L2
open PySem PySem.Spec PyProof.Rows
abbrev Key := Sum Int Str
def keyIs : Key → Value → Bool
  | .inl k, v => Value.isInt k v
  | .inr x, v => Value.isStrOf x v
def keyH (w : World) : Key → Int
  | .inl k => hashInt k
  | .inr x => hashStr w x
theorem keyIs_shape : ∀ {k : Key} {v : Value}, keyIs k v = true → (∃ i t, k = Sum.inl i ∧ v = Value.int i t) ∨ (∃ x t, k = Sum.inr x ∧ v = Value.str x t)
  | .inl i, v, h => by
    obtain ⟨t, e⟩ := Value.isInt_shape (k := i) (v := v) h
    exact .inl ⟨i, t, rfl, e⟩
  | .inr x, v, h => by
    obtain ⟨t, e⟩ := Value.isStrOf_shape (x := x) (v := v) h
    exact .inr ⟨x, t, rfl, e⟩
theorem key_ll (a b : Int) : decide ((Sum.inl a : Key) = Sum.inl b) = (a == b) := by
  by_cases e : a = b
  · subst e; simp
  · have h : ¬ (Sum.inl a : Key) = Sum.inl b := fun q => e (Sum.inl.inj q)
    rw [decide_eq_false h]
    exact (beq_eq_false_iff_ne.mpr e).symm
theorem key_rr (a b : Str) : decide ((Sum.inr a : Key) = Sum.inr b) = decide (a = b) := by
  by_cases e : a = b
  · subst e; simp
  · have h : ¬ (Sum.inr a : Key) = Sum.inr b := fun q => e (Sum.inr.inj q)
    rw [decide_eq_false h, decide_eq_false e]
theorem key_lr (a : Int) (b : Str) : decide ((Sum.inl a : Key) = Sum.inr b) = false := decide_eq_false (fun q => nomatch q)
theorem key_rl (a : Str) (b : Int) : decide ((Sum.inr a : Key) = Sum.inl b) = false := decide_eq_false (fun q => nomatch q)
def mixKind (prog : Program) (w : World) : PySem.KeyKind prog w Key where
  is := keyIs
  hash := keyH w
  inj := fun v a b ha hb => by
    rcases keyIs_shape ha with ⟨i, t, rfl, rfl⟩ | ⟨x, t, rfl, rfl⟩
    · rcases keyIs_shape hb with ⟨j, u, rfl, e⟩ | ⟨y, u, rfl, e⟩
      · injection e with e1 _; rw [e1]
      · exact nomatch e
    · rcases keyIs_shape hb with ⟨j, u, rfl, e⟩ | ⟨y, u, rfl, e⟩
      · exact nomatch e
      · injection e with e1 _; rw [e1]
  byValue := fun k v h => by
    rcases keyIs_shape h with ⟨i, t, rfl, rfl⟩ | ⟨x, t, rfl, rfl⟩ <;> rfl
  pyHash := fun hv h => by
    rcases keyIs_shape hv with ⟨i, t, rfl, rfl⟩ | ⟨x, t, rfl, rfl⟩
    · exact wpAny_pyHash_int h
    · exact wpAny_pyHash_str h
  eqBool := fun hu hv h => by
    rcases keyIs_shape hu with ⟨i, t, rfl, rfl⟩ | ⟨x, t, rfl, rfl⟩
    · rcases keyIs_shape hv with ⟨j, u, rfl, rfl⟩ | ⟨y, u, rfl, rfl⟩
      · rw [key_ll] at h; exact wpAny_eqBool_int h
      · rw [key_lr] at h; exact SeqAt.EqAt.int_str i t y u _ _ _ _ h
    · rcases keyIs_shape hv with ⟨j, u, rfl, rfl⟩ | ⟨y, u, rfl, rfl⟩
      · rw [key_rl] at h; exact SeqAt.EqAt.str_int x t j u _ _ _ _ h
      · rw [key_rr] at h; exact wpAny_eqBool_str h
  «strs» := fun k x t v h => by
    rcases keyIs_shape h with ⟨i, u, rfl, e⟩ | ⟨y, u, rfl, e⟩
    · exact nomatch e
    · injection e with e1 _
      subst e1
      cases v <;> rfl
end L2
namespace L2
open PySem PySem.Spec PyProof.Rows
inductive V where
  | non | bl (b : Bool) | int (i : Int) | str (x : Str) | byt (b : Array UInt8) | flt (b : UInt64) | ref (a : Addr) | ty (n : String)
  deriving DecidableEq
def RelV : V → Value → Prop
  | .non, u => u = Value.none
  | .bl b, u => u = Value.bool b
  | .int i, u => ∃ t, u = Value.int i t
  | .str x, u => ∃ t, u = Value.str x t
  | .byt b, u => ∃ t, u = Value.bytes b t
  | .flt b, u => ∃ t, u = Value.float b t
  | .ref a, u => u = Value.ref a
  | .ty n, u => u = Value.type n
abbrev Vals : List V → List Value → Prop := Paired RelV
theorem Vals.length {xs : List V} {us : List Value} (r : Vals xs us) : xs.length = us.length := Paired.length r
theorem Vals.get : ∀ {xs : List V} {us : List Value} {i : Nat} {x : V}, Vals xs us → xs[i]? = some x → ∃ u, us[i]? = some u ∧ RelV x u
  | _, _, _, _, .nil, e => by simp at e
  | _, _, 0, _, .cons r _, e => by simp at e; subst e; exact ⟨_, rfl, r⟩
  | _, _, i + 1, x, .cons _ t, e => by
    obtain ⟨u, h1, h2⟩ := Vals.get (i := i) (x := x) t (by simpa using e)
    exact ⟨u, by simpa using h1, h2⟩
theorem Vals.set {x : V} {u : Value} (r : RelV x u) : ∀ {xs : List V} {us : List Value} (i : Nat), Vals xs us → Vals (xs.set i x) (us.set i u)
  | _, _, _, .nil => .nil
  | _, _, 0, .cons _ t => .cons r t
  | _, _, i + 1, .cons q t => .cons q (Vals.set r i t)
theorem Vals.append : ∀ {xs ys : List V} {us ws : List Value}, Vals xs us → Vals ys ws → Vals (xs ++ ys) (us ++ ws)
  | _, _, _, _, .nil, s => s
  | _, _, _, _, .cons r t, s => .cons r (Vals.append t s)
theorem Vals.take : ∀ {xs : List V} {us : List Value} (n : Nat), Vals xs us → Vals (xs.take n) (us.take n)
  | _, _, 0, _ => .nil
  | _, _, _ + 1, .nil => .nil
  | _, _, n + 1, .cons r t => .cons r (Vals.take n t)
theorem Vals.drop : ∀ {xs : List V} {us : List Value} (n : Nat), Vals xs us → Vals (xs.drop n) (us.drop n)
  | _, _, 0, r => r
  | _, _, _ + 1, .nil => .nil
  | _, _, n + 1, .cons _ t => Vals.drop n t
def RelO : Option V → Option Value → Prop
  | some v, some u => RelV v u
  | none, none => True
  | _, _ => False
def KV {κ : Type} : List (κ × V) → List (κ × Value) → Prop := Paired fun (p : κ × V) (q : κ × Value) => p.1 = q.1 ∧ RelV p.2 q.2
def kV : Key → V
  | .inl i => .int i
  | .inr x => .str x
inductive HO where
  | lst (xs : List V)
  | tup (xs : List V)
  | dK (kvs : List (Key × V)) | dT (kvs : List (List Key × V))
  | set (S : Int → Bool) (n : Nat)
  | ins (C dx : Addr) (fs : List (Str × V))
  | own (x : Addr)
  | xd (fs : List (Str × V))
  | met (f x : Addr)
  | rng (lo hi : Int)
  | frz (o : Obj) (u : HO)
  | tbl (ps : Array Value)
  | ext (φ : Heap → Prop)
abbrev Hp := Addr → Option HO
def upd (H : Hp) (a : Addr) (o : HO) : Hp := fun b => if b = a then some o else H b
theorem upd_same {H : Hp} {a : Addr} {o : HO} : upd H a o a = some o := by unfold upd; rw [if_pos rfl]
theorem upd_ne {H : Hp} {a b : Addr} {o : HO} (h : b ≠ a) : upd H a o b = H b := by unfold upd; rw [if_neg h]
theorem upd_upd {H : Hp} {a : Addr} {o u : HO} : upd (upd H a o) a u = upd H a u := by
  funext b; unfold upd; split <;> rfl
theorem ne_of_none {H : Hp} {a b : Addr} {o : HO} (h : H a = some o) (h' : H b = none) : a ≠ b := by
  intro e; subst e; rw [h] at h'; cases h'
section
variable (P : Program) (w : World)
def ObjOk (H : Hp) (h : Heap) (a : Addr) : HO → Prop
  | .lst xs => xs.length ≤ sizeLine ∧ ∃ (its : List Value) (n : Nat), Vals xs its ∧ h.get? a = some { cls := .type "list", data := .seq its.toArray n }
  | .tup xs => xs.length ≤ sizeLine ∧ ∃ its : List Value, Vals xs its ∧ IsTup h a its.toArray
  | .dK kvs => kvs.length ≤ sizeLine ∧ (a == sysModules) = false ∧ ∃ vs, KV kvs vs ∧ h.DictOf (mixKind P w) a vs
  | .dT kvs => kvs.length ≤ sizeLine ∧ (a == sysModules) = false ∧ ∃ xs : List (List Key × Addr × Value),
      Paired (fun (p : List Key × V) (q : List Key × Addr × Value) => p.1 = q.1 ∧ H q.2.1 = some (.tup (p.1.map kV)) ∧ RelV p.2 q.2.2) kvs xs ∧
      ∃ o es ep, h.get? a = some o ∧ o.ExactDict ∧ o.data = .dict es ep ∧ es.toList = xs.map (entryOfKey (tupleKind (mixKind P w))) ∧ (xs.map (·.1)).Nodup
  | .set S n => h.SetOf (intKind P w) a S n
  | .ins C dx fs => H dx = some (.own a) ∧ fs.length ≤ 1000 ∧ dx ≠ a ∧ h.get? a = some (PySem.W.instObj C dx) ∧
      ∃ mA, h.Ns1 dx mA ∧ (∀ f, RelO (fs.lookup f) (mA f)) ∧ PySem.Within mA (fs.map (·.1))
  | .own _ => ∃ o, h.get? a = some o
  | .xd fs => ∃ mA, h.Ns1 a mA ∧ ∀ f, RelO (fs.lookup f) (mA f)
  | .rng lo hi => ∃ t u v, h.get? a = some { cls := .type "range", data := .fields #[.int lo t, .int hi u, .int 1 v] }
  | .frz o u => h.get? a = some o ∧ ObjOk H h a u
  | .tbl ps => h.get? a = some { cls := .none, data := .fields ps }
  | .met f x => h.get? a = some (PySem.W.methodObj (.ref f) (.ref x))
  | .ext φ => φ h ∧ (∃ o, h.get? a = some o) ∧ ∀ h1 h2 : Heap, φ h1 → (∀ o, h1.get? a = some o → h2.get? a = some o) → φ h2
def HOk (H : Hp) (h : Heap) : Prop := ∀ a o, H a = some o → ObjOk P w H h a o
end
section
variable {P : Program} {w : World} {H H' : Hp} {h h' : Heap} {a : Addr} {o : HO}
theorem ObjOk.lt (x : ObjOk P w H h a o) : a < h.objs.size := by
  cases o with
  | lst xs => obtain ⟨_, _, _, _, e⟩ := x; exact Heap.lt_size e
  | tup xs => obtain ⟨_, _, _, p⟩ := x; exact p.lt
  | dK kvs => obtain ⟨_, _, _, _, o, _, _, e, _⟩ := x; exact Heap.lt_size e
  | dT kvs => obtain ⟨_, _, _, _, o, _, _, e, _⟩ := x; exact Heap.lt_size e
  | set S n => obtain ⟨o, _, _, _, e, _⟩ := x; exact Heap.lt_size e
  | ins C dx fs => obtain ⟨_, _, _, e, _⟩ := x; exact Heap.lt_size e
  | own y => obtain ⟨_, e⟩ := x; exact Heap.lt_size e
  | xd fs => obtain ⟨_, ⟨_, _, _, e, _⟩, _⟩ := x; exact Heap.lt_size e
  | rng lo hi => obtain ⟨_, _, _, e⟩ := x; exact Heap.lt_size e
  | frz ob u => obtain ⟨e, _⟩ := x; exact Heap.lt_size e
  | tbl ps => exact Heap.lt_size (show h.get? a = some _ from x)
  | met f y => exact Heap.lt_size (show h.get? a = some _ from x)
  | ext φ => obtain ⟨_, ⟨_, e⟩, _⟩ := x; exact Heap.lt_size e
theorem Paired.mapP {α β : Type} {F G : α → β → Prop} : ∀ {l₁ : List α} {l₂ : List β}, Paired F l₁ l₂ → (∀ a b, F a b → G a b) → Paired G l₁ l₂
  | _, _, .nil, _ => .nil
  | _, _, .cons r t, f => .cons (f _ _ r) (Paired.mapP t f)
theorem ObjOk.stay (x : ObjOk P w H h a o) (k : ∀ b u, (b = a ∨ H b = some (.own a)) → h.get? b = some u → h'.get? b = some u)
    (ho : ∀ b, H b = some (.own a) → H' b = some (.own a)) (ht : ∀ b xs, H b = some (.tup xs) → H' b = some (.tup xs)) : ObjOk P w H' h' a o := by
  induction o with
  | lst xs => obtain ⟨z, its, n, r, e⟩ := x; exact ⟨z, its, n, r, k _ _ (.inl rfl) e⟩
  | tup xs => obtain ⟨z, its, r, ob, e, c⟩ := x; exact ⟨z, its, r, ob, k _ _ (.inl rfl) e, c⟩
  | dK kvs => obtain ⟨z, y, vs, r, ob, es, ep, e, c⟩ := x; exact ⟨z, y, vs, r, ob, es, ep, k _ _ (.inl rfl) e, c⟩
  | dT kvs =>
    obtain ⟨z, y, xs, r, ob, es, ep, e, c⟩ := x
    exact ⟨z, y, xs, Paired.mapP r fun p q z => ⟨z.1, ht _ _ z.2.1, z.2.2⟩, ob, es, ep, k _ _ (.inl rfl) e, c⟩
  | set S n => obtain ⟨ob, es, ep, t, e, c⟩ := x; exact ⟨ob, es, ep, t, k _ _ (.inl rfl) e, c⟩
  | ins C dx fs =>
    obtain ⟨d, z, ne, e, mA, ⟨od, es, ep, e2, c⟩, r⟩ := x
    exact ⟨ho _ d, z, ne, k _ _ (.inl rfl) e, mA, ⟨od, es, ep, k _ _ (.inr d) e2, c⟩, r⟩
  | own y => obtain ⟨ob, e⟩ := x; exact ⟨ob, k _ _ (.inl rfl) e⟩
  | xd fs => obtain ⟨mA, ⟨od, es, ep, e, c⟩, r⟩ := x; exact ⟨mA, ⟨od, es, ep, k _ _ (.inl rfl) e, c⟩, r⟩
  | rng lo hi => obtain ⟨t, u, v, e⟩ := x; exact ⟨t, u, v, k _ _ (.inl rfl) e⟩
  | frz ob u ih => obtain ⟨e, q⟩ := x; exact ⟨k _ _ (.inl rfl) e, ih q⟩
  | tbl ps =>
    have e : h.get? a = some { cls := .none, data := .fields ps } := x
    show h'.get? a = some { cls := .none, data := .fields ps }
    exact k a _ (.inl rfl) e
  | met f y =>
    have e : h.get? a = some (PySem.W.methodObj (.ref f) (.ref y)) := x
    show h'.get? a = some (PySem.W.methodObj (.ref f) (.ref y))
    exact k a _ (.inl rfl) e
  | ext φ => obtain ⟨p, ⟨o, e⟩, st⟩ := x; exact ⟨st _ _ p fun o q => k _ _ (.inl rfl) q, ⟨o, k _ _ (.inl rfl) e⟩, st⟩
theorem HOk.lt (x : HOk P w H h) (e : H a = some o) : a < h.objs.size := (x a o e).lt
theorem HOk.fresh (x : HOk P w H h) (e : h.objs.size ≤ a) : H a = none := by
  cases q : H a with
  | none => rfl
  | some u => exact absurd (Nat.lt_of_lt_of_le (x.lt q) e) (Nat.lt_irrefl _)
theorem HOk.kept (x : HOk P w H h) (k : ∀ b u, h.get? b = some u → h'.get? b = some u) : HOk P w H h' := fun a o e =>
  (x a o e).stay (fun b u _ q => k b u q) (fun _ q => q) fun _ _ q => q
theorem HOk.laid (x : HOk P w H h) (k : ∀ b u, h.get? b = some u → h'.get? b = some u) (hp : h.objs.size ≤ a) (new : ObjOk P w (upd H a o) h' a o) : HOk P w (upd H a o) h' := fun b u e => by
  have hn := x.fresh hp
  by_cases hb : b = a
  · subst hb; rw [upd_same] at e; cases e; exact new
  · rw [upd_ne hb] at e
    exact (x b u e).stay (fun c v _ q => k c v q) (fun c q => by rw [upd_ne (ne_of_none q hn)]; exact q) fun c xs q => by rw [upd_ne (ne_of_none q hn)]; exact q
end
def Rd (H : Hp) (a : Addr) (u : HO) : Prop := H a = some u ∨ ∃ o, H a = some (.frz o u)
theorem Rd.of {H : Hp} {a : Addr} {u : HO} (h : H a = some u) : Rd H a u := .inl h
theorem Rd.ok {P : Program} {w : World} {H : Hp} {h : Heap} {a : Addr} {u : HO} (r : Rd H a u) (x : HOk P w H h) : ObjOk P w H h a u := by
  rcases r with r | ⟨o, r⟩
  · exact x a u r
  · obtain ⟨_, q⟩ := x a _ r
    exact q
def Mut : Option HO → Prop
  | some (.lst _) => True
  | some (.dK _) => True
  | some (.dT _) => True
  | some (.set _ _) => True
  | some (.ins _ _ _) => True
  | some (.ext _) => True
  | _ => False
section
variable {P : Program} {w : World} {H : Hp} {h h' : Heap} {x e : Addr} {o' : HO}
theorem HOk.write (ok : HOk P w H h) (mu : Mut (H x)) (he : e = x ∨ H e = some (.own x)) (k : ∀ b u, b ≠ e → h.get? b = some u → h'.get? b = some u) (heo : ∃ u, h'.get? e = some u)
    (new : ObjOk P w (upd H x o') h' x o') : HOk P w (upd H x o') h' := fun b u q => by
  have nown : ∀ c y, H c = some (.own y) → c ≠ x := fun c y r z => by subst z; rw [r] at mu; exact mu
  have ntup : ∀ c xs, H c = some (.tup xs) → c ≠ x := fun c xs r z => by subst z; rw [r] at mu; exact mu
  by_cases hb : b = x
  · subst hb; rw [upd_same] at q; cases q; exact new
  · rw [upd_ne hb] at q
    by_cases hbe : b = e
    · have q' : H b = some (.own x) := by
        rcases he with z | z
        · exact absurd (hbe.trans z) hb
        · rw [hbe]; exact z
      rw [q] at q'; cases q'
      obtain ⟨v, hv⟩ := heo
      exact ⟨v, by rw [hbe]; exact hv⟩
    · refine (ok b u q).stay (fun c v hc r => k c v ?_ r) (fun c r => by rw [upd_ne (nown c b r)]; exact r) fun c xs r => by rw [upd_ne (ntup c xs r)]; exact r
      rcases hc with rfl | hc
      · exact hbe
      · rintro rfl
        rcases he with z | z
        · exact nown c b hc z
        · rw [hc] at z; cases z; exact hb rfl
end
structure Un (fs ex : List Addr) (H H' : Hp) (h h' : Heap) : Prop where
  keep : ∀ b o, h.get? b = some o → H b = none → b ∉ fs → b ∉ ex → h'.get? b = some o
  slot : ∀ b o, h.get? b = some o → H b = none → b ∈ fs → b ∉ ex → ∃ sl, h'.get? b = some { o with slots := sl }
  free : ∀ b o, h.get? b = some o → H b = none → b ∉ ex → H' b = none
  there : ∀ b o, h.get? b = some o → b ∉ ex → ∃ o', h'.get? b = some o'
  tups : ∀ b xs, H b = some (.tup xs) → H' b = some (.tup xs)
  frzs : ∀ b o u, H b = some (.frz o u) → H' b = some (.frz o u)
  tbls : ∀ b ps, H b = some (.tbl ps) → ∃ more, H' b = some (.tbl (ps ++ more))
section
variable {fs fs' ex ex' : List Addr} {H H1 H2 : Hp} {h h1 h2 h' : Heap} {a x e : Addr} {o : HO}
theorem Un.any (u : Un fs ex H H1 h h1) {b : Addr} {ob : Obj} (q : h.get? b = some ob) (n : H b = none) (hx : b ∉ ex) : ∃ sl, h1.get? b = some { ob with slots := sl } := by
  by_cases hb : b ∈ fs
  · exact u.slot b ob q n hb hx
  · exact ⟨ob.slots, u.keep b ob q n hb hx⟩
theorem Un.trans (a : Un fs ex H H1 h h1) (b : Un fs ex H1 H2 h1 h2) : Un fs ex H H2 h h2 where
  keep := fun c ob q n hc hx => b.keep c ob (a.keep c ob q n hc hx) (a.free c ob q n hx) hc hx
  slot := fun c ob q n hc hx => by
    obtain ⟨sl, e1⟩ := a.slot c ob q n hc hx
    obtain ⟨sl', e2⟩ := b.slot c _ e1 (a.free c ob q n hx) hc hx
    exact ⟨sl', e2⟩
  free := fun c ob q n hx => by
    obtain ⟨o', e1⟩ := a.there c ob q hx
    exact b.free c o' e1 (a.free c ob q n hx) hx
  there := fun c ob q hx => by
    obtain ⟨o', e1⟩ := a.there c ob q hx
    exact b.there c o' e1 hx
  tups := fun c xs q => b.tups c xs (a.tups c xs q)
  frzs := fun c ob xs q => b.frzs c ob xs (a.frzs c ob xs q)
  tbls := fun c ps q => by
    obtain ⟨m1, e1⟩ := a.tbls c ps q
    obtain ⟨m2, e2⟩ := b.tbls c _ e1
    exact ⟨m1 ++ m2, by rw [e2, Array.append_assoc]⟩
theorem Un.kept (k : ∀ b u, h.get? b = some u → h'.get? b = some u) : Un fs ex H H h h' :=
  ⟨fun b ob q _ _ _ => k b ob q, fun b ob q _ _ _ => ⟨ob.slots, k b ob q⟩, fun _ _ _ n _ => n, fun b ob q _ => ⟨ob, k b ob q⟩, fun _ _ q => q, fun _ _ _ q => q, fun _ ps q => ⟨#[], by rw [q]; simp⟩⟩
theorem Un.refl : Un fs ex H H h h := Un.kept fun _ _ q => q
theorem Un.laid (k : ∀ b u, h.get? b = some u → h'.get? b = some u) (hp : h.objs.size ≤ a) (hn : H a = none) : Un fs ex H (upd H a o) h h' where
  keep := fun b u q _ _ _ => k b u q
  slot := fun b u q _ _ _ => ⟨u.slots, k b u q⟩
  free := fun b u q n _ => by rw [upd_ne (Nat.ne_of_lt (Nat.lt_of_lt_of_le (Heap.lt_size q) hp))]; exact n
  there := fun b u q _ => ⟨u, k b u q⟩
  tups := fun b xs q => by rw [upd_ne (ne_of_none q hn)]; exact q
  frzs := fun b u xs q => by rw [upd_ne (ne_of_none q hn)]; exact q
  tbls := fun b ps q => ⟨#[], by rw [upd_ne (ne_of_none q hn), q]; simp⟩
theorem Un.write (mu : Mut (H x)) (he : e = x ∨ H e = some (.own x)) (k : ∀ b u, b ≠ e → h.get? b = some u → h'.get? b = some u) (heo : ∃ u, h'.get? e = some u) : Un fs ex H (upd H x o) h h' := by
  have hx : ∀ b, H b = none → b ≠ x := fun b n z => by subst z; rw [n] at mu; exact mu
  have hb : ∀ b, H b = none → b ≠ e := fun b n z => by
    subst z
    rcases he with r | r
    · exact hx b n r
    · rw [n] at r; cases r
  have hm : ∀ b u, H b = some u → ¬ Mut (some u) → b ≠ x := fun b u q nm z => by subst z; rw [q] at mu; exact nm mu
  refine ⟨fun b u q n _ _ => k b u (hb b n) q, fun b u q n _ _ => ⟨u.slots, k b u (hb b n) q⟩, fun b u q n _ => by rw [upd_ne (hx b n)]; exact n, fun b u q _ => ?_,
    fun b xs q => by rw [upd_ne (hm b _ q fun z => z)]; exact q, fun b u xs q => by rw [upd_ne (hm b _ q fun z => z)]; exact q, fun b ps q => ⟨#[], by rw [upd_ne (hm b _ q fun z => z), q]; simp⟩⟩
  by_cases hbe : b = e
  · subst hbe; exact heo
  · exact ⟨u, k b u hbe q⟩
theorem Un.mono (u : Un fs ex H H1 h h1) (hs : ∀ b ∈ fs, b ∈ fs') (hx : ∀ b ∈ ex, b ∈ ex') : Un fs' ex' H H1 h h1 :=
  ⟨fun b ob q n hb he => u.keep b ob q n (fun z => hb (hs b z)) fun z => he (hx b z), fun _ _ q n _ he => u.any q n fun z => he (hx _ z), fun b ob q n he => u.free b ob q n fun z => he (hx b z), fun b ob q he => u.there b ob q fun z => he (hx b z), u.tups, u.frzs, u.tbls⟩
end
def trk (h : Heap) (H : Hp) : List Addr := (List.range h.objs.size).filter fun a => (H a).isSome
def hidT (h : Heap) (H : Hp) : Heap := PySem.W.hideAll h (trk h H)
theorem hidT_size (h : Heap) (H : Hp) : (hidT h H).objs.size = h.objs.size := PySem.W.hideAll_size _ _
theorem hidT_get {h : Heap} {H : Hp} {b : Addr} {o : Obj} (e : h.get? b = some o) (n : H b = none) : (hidT h H).get? b = some o :=
  PySem.W.hideAll_get _ e fun hm => by
    have q : (H b).isSome = true := (List.mem_filter.mp hm).2
    rw [n] at q; simp at q
theorem of_hidT {h : Heap} {H : Hp} {b : Addr} {o : Obj} (e : (hidT h H).get? b = some o) : h.get? b = some o ∧ H b = none := by
  have e' : h.get? b = some o := PySem.W.of_hideAll (trk h H) e
  refine ⟨e', ?_⟩
  cases q : H b with
  | none => rfl
  | some x =>
    have hm : b ∈ trk h H := List.mem_filter.mpr ⟨List.mem_range.mpr (Heap.lt_size e'), by simp [q]⟩
    have z : (hidT h H).get? b = none := PySem.W.hideAll_none (trk h H) hm
    rw [z] at e; cases e
def allNews (g h : Heap) (L : Addr) : List (Addr × Obj) := (List.range h.objs.size).filterMap fun a => if a = L ∨ (g.get? a).isSome = true then none else (h.get? a).map fun o => (a, o)
def rest (g h : Heap) (L d : Addr) : List (Addr × Obj) := (allNews g h L).filter fun p => decide (p.1 ≠ d)
end L2
namespace L2
open PySem PySem.Spec PyProof.Rows
structure Mod (K : PySem.W.Frag) (mg : Str → Option Value) (base : Heap) : Prop where
  kin : K.In base
  glob : base.Ns mainGlobals mg
  blt : ∃ mb, base.Ns builtinsNs mb ∧ ∀ x : Str, x ≠ "__name__" → mb x = bootBuiltins x
  nolimit : base.NoLimit
structure Cx where
  prog : Program
  w : World
  K : PySem.W.Frag
  mg : Str → Option Value
  base : Heap
  A : Around
  N : List Str
  s₀ : Shared
  H₀ : Hp
  env : Env
  outer : List Env
  stack : List Env
  ex : List Addr
  fn : Str → Bool
  calm : Bool
  pn : List (Addr × Obj)
  xe : Value → Shared → Prop
def frs (l : List Env) : List Addr := l.filterMap (·.frame)
abbrev Cx.fs (X : Cx) : List Addr := frs X.outer
def Vis (sc : Scope) (x : Str) : Prop := sc.names.lookup x = some .local ∨ sc.names.lookup x = some .cell ∨ sc.names.lookup x = some .free
def Loc (sc : Scope) (x : Str) : Prop := sc.names.lookup x = some .local ∨ sc.names.lookup x = some .cell
def Look (env : Env) (h : Heap) (m : Str → Option Value) (x : Str) (u : Value) : Prop :=
  (env.kindOf x = some .local ∧ m x = some u) ∨ ((env.kindOf x = some .cell ∨ env.kindOf x = some .free) ∧ ∃ c, env.cells.lookup x = some c ∧ h.IsCell c (some u))
structure Cx.Ok (X : Cx) : Prop where
  mod : Mod X.K X.mg X.base
  kind : X.env.scope.kind = .function
  glob : X.env.globals = mainGlobals
  blt : X.env.builtins = builtinsNs
  above : X.s₀.heap.objs.size ≤ X.env.locals
  inj : ∀ x y c, X.env.cells.lookup x = some c → X.env.cells.lookup y = some c → x = y
  has : ∀ x, (X.env.kindOf x = some .cell ∨ X.env.kindOf x = some .free) → ∃ c, X.env.cells.lookup x = some c
  cab : ∀ x c, X.fn x = true → X.env.cells.lookup x = some c → X.s₀.heap.objs.size ≤ c
  hd : X.calm = true → X.A.handled = none
  frames : X.A.frames = some X.stack
  stk : X.stack = X.outer ∨ (X.stack = X.env :: X.outer ∧ X.env.frame = some X.env.locals)
  exf : ∀ b ∈ X.ex, b ≠ X.env.locals ∧ ∀ x c, X.env.cells.lookup x = some c → c ≠ b
  bs : ∀ b o, X.base.get? b = some o → X.s₀.heap.get? b = some o ∧ X.H₀ b = none
  bsz : X.base.objs.size ≤ X.s₀.heap.objs.size
  noex : ∀ b o, X.base.get? b = some o → b ∉ X.ex
  exfs : ∀ b ∈ X.ex, b ∉ X.fs
  funs : X.s₀.heap.FunFrames X.base X.outer
  frf : ∀ b ∈ X.fs, X.H₀ b = none
structure Inv (X : Cx) (pins : List (Addr × Obj)) (σ : List (Option V)) (H : Hp) (s : Shared) : Prop where
  ok : X.Ok
  os : s.os = X.s₀.os
  bare : AllBare s.gens
  base : Un X.fs X.ex X.H₀ H X.s₀.heap s.heap
  loc : ∃ m, s.heap.Ns X.env.locals m ∧ ∀ (i : Nat) (x : Str) (v : V), X.N[i]? = some x → σ[i]? = some (some v) → Vis X.env.scope x → ∃ u, RelV v u ∧ Look X.env s.heap m x u
  cell : ∀ x c, X.env.cells.lookup x = some c → ∃ v, s.heap.IsCell c v
  free : H X.env.locals = none
  freeC : ∀ x c, X.env.cells.lookup x = some c → H c = none
  pin : ∀ p ∈ X.pn ++ pins, s.heap.get? p.1 = some p.2 ∧ H p.1 = none ∧ p.1 ≠ X.env.locals ∧ p.1 ∉ X.fs ∧ ∀ v, p.2.data ≠ .cell v
  hok : HOk X.prog X.w H s.heap
  len : σ.length = X.N.length
section
variable {X : Cx} {pins : List (Addr × Obj)} {σ : List (Option V)} {H H' : Hp} {s : Shared} {h' : Heap}
theorem Cx.Ok.nofr (ok : X.Ok) {b : Addr} {o : Obj} (e : X.base.get? b = some o) : b ∉ X.fs := fun hb => by
  have := (ok.funs.mem hb).1
  rw [e] at this; cases this
theorem Inv.bs (I : Inv X pins σ H s) : ∀ b o, X.base.get? b = some o → s.heap.get? b = some o ∧ H b = none := fun b o e =>
  ⟨I.base.keep b o (I.ok.bs b o e).1 (I.ok.bs b o e).2 (I.ok.nofr e) (I.ok.noex b o e), I.base.free b o (I.ok.bs b o e).1 (I.ok.bs b o e).2 (I.ok.noex b o e)⟩
theorem Inv.bk (I : Inv X pins σ H s) : ∀ b o, X.base.get? b = some o → s.heap.get? b = some o := fun b o e => (I.bs b o e).1
theorem Inv.mod (I : Inv X pins σ H s) : Mod X.K X.mg X.base := I.ok.mod
theorem Inv.kIn (I : Inv X pins σ H s) : X.K.In s.heap := I.ok.mod.kin.keeps I.bk
theorem Inv.nolimit (I : Inv X pins σ H s) : s.heap.NoLimit := I.ok.mod.nolimit.keeps I.bk
theorem Inv.lt (I : Inv X pins σ H s) : X.env.locals < s.heap.objs.size := let ⟨_, hn, _⟩ := I.loc; hn.lt
theorem Inv.sz (I : Inv X pins σ H s) : X.s₀.heap.objs.size ≤ s.heap.objs.size := Nat.le_trans I.ok.above (Nat.le_of_lt I.lt)
theorem Inv.nofs (I : Inv X pins σ H s) {a : Addr} (h : s.heap.objs.size ≤ a) : a ∉ X.fs := fun hb => by
  obtain ⟨_, o, ho, _⟩ := I.ok.funs.mem hb
  exact absurd (Nat.lt_of_lt_of_le (Heap.lt_size ho) (Nat.le_trans I.sz h)) (Nat.lt_irrefl _)
theorem Inv.cne (I : Inv X pins σ H s) : ∀ x c, X.env.cells.lookup x = some c → c ≠ X.env.locals := fun x c e z => by
  obtain ⟨v, o, ho, hd⟩ := I.cell x c e
  obtain ⟨m, ⟨o', es, ep, ho', hd', _⟩, _⟩ := I.loc
  rw [z, ho'] at ho; cases ho; rw [hd'] at hd; cases hd
theorem Inv.funs (I : Inv X pins σ H s) : s.heap.FunFrames X.base X.outer := by
  have all : ∀ (l : List Env), (∀ b ∈ frs l, b ∈ X.fs) → X.s₀.heap.FunFrames X.base l → s.heap.FunFrames X.base l := by
    intro l
    induction l with
    | nil => intro _ _; trivial
    | cons env r ih =>
      intro hs hl
      obtain ⟨hk, ⟨L, o, hf, hn, ho, hd⟩, hr⟩ := hl
      have hL : L ∈ X.fs := hs L (by unfold frs; rw [List.filterMap_cons, hf]; exact List.mem_cons_self)
      obtain ⟨sl, e⟩ := I.base.slot L o ho (I.ok.frf L hL) hL fun z => I.ok.exfs L z hL
      exact ⟨hk, ⟨L, _, hf, hn, e, hd⟩, ih (fun b hb => hs b (by unfold frs; rw [List.filterMap_cons, hf]; exact List.mem_cons_of_mem _ hb)) hr⟩
  exact all X.outer (fun _ hb => hb) I.ok.funs
theorem Inv.stack (I : Inv X pins σ H s) : s.heap.FunFrames X.base X.stack := by
  rcases I.ok.stk with e | ⟨e, hf⟩
  · rw [e]; exact I.funs
  · rw [e]
    obtain ⟨m, hn, _⟩ := I.loc
    refine .cons (by rw [I.ok.kind]; decide) hf hn ?_ I.funs
    exact Heap.get?_none_of_le (Nat.le_trans I.ok.bsz I.ok.above)
theorem Inv.stkSub (I : Inv X pins σ H s) : ∀ b ∈ frs X.stack, b ∈ X.env.locals :: X.fs := fun b hb => by
  rcases I.ok.stk with e | ⟨e, hf⟩
  · rw [e] at hb; exact List.mem_cons_of_mem _ hb
  · rw [e] at hb
    unfold frs at hb
    rw [List.filterMap_cons, hf] at hb
    exact hb
theorem Inv.stkFree (I : Inv X pins σ H s) : ∀ b ∈ frs X.stack, H b = none := fun b hb => by
  rcases List.mem_cons.mp (I.stkSub b hb) with e | hb
  · rw [e]; exact I.free
  · obtain ⟨_, o, ho, _⟩ := I.ok.funs.mem hb
    exact I.base.free b o ho (I.ok.frf b hb) fun z => I.ok.exfs b z hb
theorem Inv.step {g' : Array GenState} {t' : Nat} {d' : Drawn} {ch : List Addr} (I : Inv X pins σ H s)
    (hch : ∀ b ∈ ch, (b ∈ X.ex ∨ X.s₀.heap.objs.size ≤ b) ∧ b ≠ X.env.locals ∧ (∀ x c, X.env.cells.lookup x = some c → c ≠ b) ∧ ∀ p ∈ X.pn ++ pins, p.1 ≠ b)
    (keep : ∀ b o, b ≠ X.env.locals → b ∉ X.fs → b ∉ ch → s.heap.get? b = some o → H b = none → h'.get? b = some o)
    (slot : ∀ b o, b ≠ X.env.locals → b ∈ X.fs → b ∉ ch → s.heap.get? b = some o → H b = none → ∃ sl, h'.get? b = some { o with slots := sl }) (free : ∀ b o, b ∉ ch → s.heap.get? b = some o → H b = none → H' b = none)
    (there : ∀ b o, b ∉ ch → s.heap.get? b = some o → ∃ o', h'.get? b = some o')
    (tups : ∀ b xs, H b = some (.tup xs) → H' b = some (.tup xs)) (frzs : ∀ b o u, H b = some (.frz o u) → H' b = some (.frz o u)) (tbls : ∀ b ps, H b = some (.tbl ps) → ∃ more, H' b = some (.tbl (ps ++ more)))
    (ns : ∀ m, s.heap.Ns X.env.locals m → h'.Ns X.env.locals m) (hok : HOk X.prog X.w H' h') (hg : AllBare g') :
    Inv X pins σ H' { s with heap := h', gens := g', drawn := d', toks := t' } := by
  have neL : ∀ b o, X.s₀.heap.get? b = some o → b ≠ X.env.locals := fun b o e => Nat.ne_of_lt (Nat.lt_of_lt_of_le (Heap.lt_size e) I.ok.above)
  have neC : ∀ b o, X.s₀.heap.get? b = some o → b ∉ X.ex → b ∉ ch := fun b o e hx hb => by
    rcases (hch b hb).1 with z | z
    · exact hx z
    · exact absurd (Nat.lt_of_lt_of_le (Heap.lt_size e) z) (Nat.lt_irrefl _)
  have cellK : ∀ x c, X.env.cells.lookup x = some c → ∀ v, s.heap.IsCell c v → h'.IsCell c v := fun x c e v ⟨o, ho, hd⟩ => by
    have nch : c ∉ ch := fun z => (hch c z).2.2.1 x c e rfl
    by_cases hc : c ∈ X.fs
    · obtain ⟨sl, q⟩ := slot c o (I.cne x c e) hc nch ho (I.freeC x c e)
      exact ⟨_, q, hd⟩
    · exact ⟨o, keep c o (I.cne x c e) hc nch ho (I.freeC x c e), hd⟩
  refine ⟨I.ok, I.os, hg, ⟨fun b o e n hb hx => ?_, fun b o e n hb hx => ?_, fun b o e n hx => ?_, fun b o e hx => ?_, fun b xs e => tups b xs (I.base.tups b xs e), fun b o xs e => frzs b o xs (I.base.frzs b o xs e), fun b ps e => ?_⟩, ?_, fun x c e => ?_, ?_, fun x c e => ?_, fun p hp => ?_, hok, I.len⟩
  · exact keep b o (neL b o e) hb (neC b o e hx) (I.base.keep b o e n hb hx) (I.base.free b o e n hx)
  · obtain ⟨sl, e1⟩ := I.base.slot b o e n hb hx
    obtain ⟨sl', e2⟩ := slot b _ (neL b o e) hb (neC b o e hx) e1 (I.base.free b o e n hx)
    exact ⟨sl', e2⟩
  · obtain ⟨o', e1⟩ := I.base.there b o e hx
    exact free b o' (neC b o e hx) e1 (I.base.free b o e n hx)
  · obtain ⟨o', e1⟩ := I.base.there b o e hx
    exact there b o' (neC b o e hx) e1
  · obtain ⟨m1, e1⟩ := I.base.tbls b ps e
    obtain ⟨m2, e2⟩ := tbls b _ e1
    exact ⟨m1 ++ m2, by rw [e2, Array.append_assoc]⟩
  · obtain ⟨m, hn, hl⟩ := I.loc
    refine ⟨m, ns m hn, fun i x v e1 e2 e3 => ?_⟩
    obtain ⟨u, r, l⟩ := hl i x v e1 e2 e3
    refine ⟨u, r, ?_⟩
    rcases l with l | ⟨k, c, e, z⟩
    · exact .inl l
    · exact .inr ⟨k, c, e, cellK x c e _ z⟩
  · obtain ⟨v, z⟩ := I.cell x c e
    exact ⟨v, cellK x c e v z⟩
  · obtain ⟨m, ⟨o, _, _, ho, _⟩, _⟩ := I.loc
    exact free _ o (fun z => (hch _ z).2.1 rfl) ho I.free
  · obtain ⟨v, o, ho, hd⟩ := I.cell x c e
    exact free c o (fun z => (hch c z).2.2.1 x c e rfl) ho (I.freeC x c e)
  · obtain ⟨e, n, ne, nf, d⟩ := I.pin p hp
    have nch : p.1 ∉ ch := fun z => (hch p.1 z).2.2.2 p hp rfl
    exact ⟨keep p.1 p.2 ne nf nch e n, free p.1 p.2 nch e n, ne, nf, d⟩
theorem Inv.un {t' : Nat} (I : Inv X pins σ H s) (u : Un X.fs [] H H' s.heap h') (hok : HOk X.prog X.w H' h') : Inv X pins σ H' { s with heap := h', toks := t' } := by
  obtain ⟨m, ⟨o, es, ep, ho, r⟩, _⟩ := id I.loc
  obtain ⟨sl, hL⟩ := u.any ho I.free (by simp)
  exact I.step (g' := s.gens) (d' := s.drawn) (ch := []) (fun _ z => nomatch z) (fun b o _ hb _ e n => u.keep b o e n hb (by simp)) (fun b o _ hb _ e n => u.slot b o e n hb (by simp)) (fun b o _ e n => u.free b o e n (by simp)) (fun b o _ e => u.there b o e (by simp)) u.tups u.frzs u.tbls (fun m' hm => by
    obtain ⟨o', es', ep', ho', r'⟩ := hm
    rw [ho] at ho'; cases ho'
    exact ⟨_, es', ep', hL, r'⟩) hok I.bare
theorem Inv.call {g' : Array GenState} {t' : Nat} {d' : Drawn} {ch : List Addr} (I : Inv X pins σ H s) (u : Un (frs X.stack) ch H H' s.heap h') (hok : HOk X.prog X.w H' h') (hg : AllBare g')
    (hch : ∀ b ∈ ch, (b ∈ X.ex ∨ X.s₀.heap.objs.size ≤ b) ∧ b ≠ X.env.locals ∧ (∀ x c, X.env.cells.lookup x = some c → c ≠ b) ∧ ∀ p ∈ X.pn ++ pins, p.1 ≠ b) :
    Inv X pins σ H' { s with heap := h', gens := g', drawn := d', toks := t' } := by
  obtain ⟨m, ⟨o, es, ep, ho, r⟩, _⟩ := id I.loc
  obtain ⟨sl, hL⟩ := u.any ho I.free fun z => (hch _ z).2.1 rfl
  exact I.step (ch := ch) hch (fun b o hL hb hc e n => u.keep b o e n (fun z => (List.mem_cons.mp (I.stkSub b z)).elim hL hb) hc) (fun b o _ _ hc e n => u.any e n hc) (fun b o hc e n => u.free b o e n hc) (fun b o hc e => u.there b o e hc) u.tups u.frzs u.tbls (fun m' hm => by
    obtain ⟨o', es', ep', ho', r'⟩ := hm
    rw [ho] at ho'; cases ho'
    exact ⟨_, es', ep', hL, r'⟩) hok hg
theorem Inv.turned {t' : Nat} {it : Addr} (I : Inv X pins σ H s) (k : ∀ b o, b ≠ it → s.heap.get? b = some o → h'.get? b = some o) (hn : H it = none) (hL : it ≠ X.env.locals)
    (h1 : it ∈ X.ex ∨ X.s₀.heap.objs.size ≤ it) (h2 : ∀ x c, X.env.cells.lookup x = some c → c ≠ it) (h3 : ∀ p ∈ X.pn ++ pins, p.1 ≠ it) : Inv X pins σ H { s with heap := h', toks := t' } := by
  have nit : ∀ b u, H b = some u → b ≠ it := fun b u e z => by rw [z, hn] at e; cases e
  refine I.step (g' := s.gens) (d' := s.drawn) (ch := [it]) (fun b hb => ?_) (fun b o _ _ hc e _ => k b o (fun z => hc (by simp [z])) e) (fun b o _ _ hc e _ => ⟨o.slots, k b o (fun z => hc (by simp [z])) e⟩) (fun _ _ _ _ n => n)
    (fun b o hc e => ⟨o, k b o (fun z => hc (by simp [z])) e⟩) (fun _ _ e => e) (fun _ _ _ e => e) (fun b ps e => ⟨#[], by rw [e]; simp⟩) (fun m hm => ?_) (fun b u e => ?_) I.bare
  · have e : b = it := by simpa using hb
    subst e
    exact ⟨h1, hL, h2, h3⟩
  · obtain ⟨o, es, ep, ho, r⟩ := hm
    exact ⟨o, es, ep, k _ o (Ne.symm hL) ho, r⟩
  · refine (I.hok b u e).stay (fun c v hc q => k c v ?_ q) (fun _ q => q) fun _ _ q => q
    rcases hc with z | z
    · rw [z]; exact nit b u e
    · exact nit c _ z
theorem Inv.tok (I : Inv X pins σ H s) (t : Nat) : Inv X pins σ H { s with toks := t } := I.un (h' := s.heap) (t' := t) Un.refl I.hok
theorem Inv.kept {t' : Nat} (I : Inv X pins σ H s) (k : ∀ b u, s.heap.get? b = some u → h'.get? b = some u) : Inv X pins σ H { s with heap := h', toks := t' } := I.un (Un.kept k) (I.hok.kept k)
theorem Inv.laid {a : Addr} {o : HO} {t' : Nat} (I : Inv X pins σ H s) (k : ∀ b u, s.heap.get? b = some u → h'.get? b = some u) (hp : s.heap.objs.size ≤ a) (new : ObjOk X.prog X.w (upd H a o) h' a o) :
    Inv X pins σ (upd H a o) { s with heap := h', toks := t' } := I.un (Un.laid k hp (I.hok.fresh hp)) (I.hok.laid k hp new)
theorem Inv.write {x e : Addr} {o : HO} {t' : Nat} (I : Inv X pins σ H s) (mu : Mut (H x)) (he : e = x ∨ H e = some (.own x)) (k : ∀ b u, b ≠ e → s.heap.get? b = some u → h'.get? b = some u) (heo : ∃ u, h'.get? e = some u)
    (new : ObjOk X.prog X.w (upd H x o) h' x o) : Inv X pins σ (upd H x o) { s with heap := h', toks := t' } := I.un (Un.write mu he k heo) (I.hok.write mu he k heo new)
theorem Inv.weak {σ' : List (Option V)} (I : Inv X pins σ H s) (hl : σ'.length = σ.length) (w : ∀ (i : Nat) v, σ'[i]? = some (some v) → σ[i]? = some (some v)) : Inv X pins σ' H s :=
  ⟨I.ok, I.os, I.bare, I.base, let ⟨m, hn, hl'⟩ := I.loc; ⟨m, hn, fun i x v e1 e2 e3 => hl' i x v e1 (w i v e2) e3⟩, I.cell, I.free, I.freeC, I.pin, I.hok, hl.trans I.len⟩
theorem Inv.pins_of {pins' : List (Addr × Obj)} (I : Inv X pins σ H s) (h : ∀ p ∈ pins', s.heap.get? p.1 = some p.2 ∧ H p.1 = none ∧ p.1 ≠ X.env.locals ∧ p.1 ∉ X.fs ∧ ∀ v, p.2.data ≠ .cell v) : Inv X pins' σ H s :=
  ⟨I.ok, I.os, I.bare, I.base, I.loc, I.cell, I.free, I.freeC, fun p hp => (List.mem_append.mp hp).elim (fun z => I.pin p (List.mem_append_left _ z)) (h p), I.hok, I.len⟩
theorem nodup_ix {N : List Str} (hN : N.Nodup) {i j : Nat} {x : Str} (a : N[i]? = some x) (b : N[j]? = some x) : i = j := by
  obtain ⟨h1, e1⟩ := List.getElem?_eq_some_iff.mp a
  obtain ⟨h2, e2⟩ := List.getElem?_eq_some_iff.mp b
  exact (List.getElem_inj hN).mp (e1.trans e2.symm)
theorem store_ok2 {M : Model} {A : Around} {E : Value → Shared → Prop} {i : Nat} {x : Str} {v : V} {u : Value} {Q : Unit → Shared → Prop} (I : Inv X pins σ H s) (hN : X.N.Nodup) (hi : X.N[i]? = some x) (hx : Loc X.env.scope x) (r : RelV v u)
    (h : ∀ s', Inv X pins (σ.set i (some v)) H s' → (∃ a, Heap.SameBut a s.heap s'.heap ∧ (a = X.env.locals ∨ X.env.cells.lookup x = some a)) → Q () s') (hf : X.fn x = true ∨ X.env.scope.names.lookup x = some .local := by first | exact .inl rfl | exact .inr rfl | assumption) : wpAny M A (storeName X.env x u) Q E s := by
  obtain ⟨m, hn, hl⟩ := id I.loc
  have hcls : (X.env.scope.kind == .class || (X.env.scope.kind == .module && X.env.locals != X.env.globals)) = false := by rw [I.ok.kind]; rfl
  have hiσ : i < σ.length := by rw [I.len]; exact (List.getElem?_eq_some_iff.mp hi).1
  have cne := I.cne
  have tracked : ∀ {a : Addr} {h' : Heap}, (∃ o, s.heap.get? a = some o ∧ H a = none) → Heap.SameBut a s.heap h' → HOk X.prog X.w H h' := fun {a h'} ha hs b ob e => by
    obtain ⟨_, _, hfree⟩ := ha
    refine (I.hok b ob e).stay (fun c w' hc q => (hs.2 c ?_).trans q) (fun _ q => q) fun _ _ q => q
    rintro rfl
    rcases hc with rfl | hc
    · rw [hfree] at e; cases e
    · rw [hfree] at hc; cases hc
  rcases hx with hk | hk
  · refine wpAny_storeName_local hk hn (fun h' hn' hs => ?_) hcls
    obtain ⟨oL, _, _, hoL, _⟩ := id hn
    refine h _ ⟨I.ok, I.os, I.bare, ⟨fun b o e n hb hx => ?_, fun b o e n hb hx => ?_, I.base.free, fun b o e hx => ?_, I.base.tups, I.base.frzs, I.base.tbls⟩, ⟨_, hn', fun j y v' e1 e2 e3 => ?_⟩, fun y c e => ?_, I.free, I.freeC, fun p hp => ?_, tracked ⟨oL, hoL, I.free⟩ hs, by simpa using I.len⟩ ⟨_, hs, .inl rfl⟩
    · exact (hs.2 b (Nat.ne_of_lt (Nat.lt_of_lt_of_le (Heap.lt_size e) I.ok.above))).trans (I.base.keep b o e n hb hx)
    · obtain ⟨sl, e1⟩ := I.base.slot b o e n hb hx
      exact ⟨sl, (hs.2 b (Nat.ne_of_lt (Nat.lt_of_lt_of_le (Heap.lt_size e) I.ok.above))).trans e1⟩
    · obtain ⟨o', e1⟩ := I.base.there b o e hx
      exact ⟨o', (hs.2 b (Nat.ne_of_lt (Nat.lt_of_lt_of_le (Heap.lt_size e) I.ok.above))).trans e1⟩
    · by_cases hj : j = i
      · subst hj
        rw [hi] at e1; cases e1
        rw [List.getElem?_set_self hiσ] at e2
        cases e2
        exact ⟨u, r, .inl ⟨hk, by simp⟩⟩
      · rw [List.getElem?_set_ne (Ne.symm hj)] at e2
        obtain ⟨u', r', q⟩ := hl j y v' e1 e2 e3
        refine ⟨u', r', ?_⟩
        rcases q with ⟨k, e⟩ | ⟨k, c, e, z⟩
        · refine .inl ⟨k, ?_⟩
          have : y ≠ x := fun e => hj (nodup_ix hN e1 (e ▸ hi))
          simp [this, e]
        · exact .inr ⟨k, c, e, z.sameBut hs (cne y c e)⟩
    · obtain ⟨w', z⟩ := I.cell y c e
      exact ⟨w', z.sameBut hs (cne y c e)⟩
    · obtain ⟨e, n, ne, nf, d⟩ := I.pin p hp
      exact ⟨(hs.2 p.1 ne).trans e, n, ne, nf, d⟩
  · have hfn : X.fn x = true := by
      rcases hf with z | z
      · exact z
      · rw [z] at hk; cases hk
    obtain ⟨c, hc⟩ := I.ok.has x (.inl hk)
    obtain ⟨w', z⟩ := I.cell x c hc
    refine wpAny_storeName_cell I.ok.kind hk hc z (fun h' hc' hs => ?_)
    obtain ⟨oc, hoc, hocd⟩ := id z
    refine h { s with heap := h' } ⟨I.ok, I.os, I.bare, ⟨fun b o e n hb hx => ?_, fun b o e n hb hx => ?_, I.base.free, fun b o e hx => ?_, I.base.tups, I.base.frzs, I.base.tbls⟩, ⟨m, hn.sameBut hs (Ne.symm (cne x c hc)), fun j y v' e1 e2 e3 => ?_⟩, fun y c' e => ?_, I.free, I.freeC, fun p hp => ?_, tracked ⟨oc, hoc, I.freeC x c hc⟩ hs, by simpa using I.len⟩ ⟨c, hs, .inr hc⟩
    · exact (hs.2 b (Nat.ne_of_lt (Nat.lt_of_lt_of_le (Heap.lt_size e) (I.ok.cab x c hfn hc)))).trans (I.base.keep b o e n hb hx)
    · obtain ⟨sl, e1⟩ := I.base.slot b o e n hb hx
      exact ⟨sl, (hs.2 b (Nat.ne_of_lt (Nat.lt_of_lt_of_le (Heap.lt_size e) (I.ok.cab x c hfn hc)))).trans e1⟩
    · obtain ⟨o', e1⟩ := I.base.there b o e hx
      exact ⟨o', (hs.2 b (Nat.ne_of_lt (Nat.lt_of_lt_of_le (Heap.lt_size e) (I.ok.cab x c hfn hc)))).trans e1⟩
    · by_cases hj : j = i
      · subst hj
        rw [hi] at e1; cases e1
        rw [List.getElem?_set_self hiσ] at e2
        cases e2
        exact ⟨u, r, .inr ⟨.inl hk, c, hc, hc'⟩⟩
      · rw [List.getElem?_set_ne (Ne.symm hj)] at e2
        obtain ⟨u', r', q⟩ := hl j y v' e1 e2 e3
        refine ⟨u', r', ?_⟩
        rcases q with q | ⟨k, c', e, z'⟩
        · exact .inl q
        · refine .inr ⟨k, c', e, z'.sameBut hs ?_⟩
          rintro rfl
          exact hj (nodup_ix hN e1 (I.ok.inj _ _ _ e hc ▸ hi))
    · by_cases hcc : c' = c
      · subst hcc; exact ⟨_, hc'⟩
      · obtain ⟨w2, z2⟩ := I.cell y c' e
        exact ⟨w2, z2.sameBut hs hcc⟩
    · obtain ⟨e, n, ne, nf, d⟩ := I.pin p hp
      refine ⟨(hs.2 p.1 ?_).trans e, n, ne, nf, d⟩
      intro q
      rw [q, hoc] at e
      have q' : oc = p.2 := Option.some.inj e
      exact d w' (by rw [← q']; exact hocd)
theorem store_ok {M : Model} {A : Around} {E : Value → Shared → Prop} {i : Nat} {x : Str} {v : V} {u : Value} {Q : Unit → Shared → Prop} (I : Inv X pins σ H s) (hN : X.N.Nodup) (hi : X.N[i]? = some x) (hx : Loc X.env.scope x) (r : RelV v u)
    (h : ∀ s', Inv X pins (σ.set i (some v)) H s' → Q () s') (hf : X.fn x = true ∨ X.env.scope.names.lookup x = some .local := by first | exact .inl rfl | exact .inr rfl | assumption) : wpAny M A (storeName X.env x u) Q E s :=
  store_ok2 I hN hi hx r (fun s' I' _ => h s' I') hf
theorem Inv.call' {s' : Shared} {ch : List Addr} (I : Inv X pins σ H s) (ho : s'.os = s.os) (u : Un (frs X.stack) ch H H' s.heap s'.heap) (hok : HOk X.prog X.w H' s'.heap) (hg : AllBare s'.gens)
    (hch : ∀ b ∈ ch, (b ∈ X.ex ∨ X.s₀.heap.objs.size ≤ b) ∧ b ≠ X.env.locals ∧ (∀ x c, X.env.cells.lookup x = some c → c ≠ b) ∧ ∀ p ∈ X.pn ++ pins, p.1 ≠ b) : Inv X pins σ H' s' := by
  obtain ⟨h', g', d', t', o'⟩ := s'
  have e : o' = s.os := ho
  subst e
  exact I.call (g' := g') (t' := t') (d' := d') u hok hg hch
end
abbrev XK := Value → Option Addr → Hp → Prop
abbrev St := List (Option V)
abbrev VK := V → Hp → Prop
abbrev TE := St → Hp → VK → Prop
abbrev TT := St → Hp → (Bool → Hp → Prop) → Prop
abbrev TA := St → Hp → (List V → Hp → Prop) → Prop
structure Ends where
  nx : St → Hp → Prop
  rt : VK
  bk : St → Hp → Prop := fun _ _ => False
  ct : St → Hp → Prop := fun _ _ => False
abbrev TS := Ends → St → Hp → Prop
def EP (X : Cx) (pins : List (Addr × Obj)) (σ : St) (Q : VK) (u : Value) (s' : Shared) : Prop := ∃ v H', Inv X pins σ H' s' ∧ RelV v u ∧ Q v H'
def TP (X : Cx) (pins : List (Addr × Obj)) (σ : St) (Q : Bool → Hp → Prop) (b : Bool) (s' : Shared) : Prop := ∃ H', Inv X pins σ H' s' ∧ Q b H'
def AP (X : Cx) (pins : List (Addr × Obj)) (σ : St) (Q : List V → Hp → Prop) (us : List Value) (s' : Shared) : Prop := ∃ vs H', Inv X pins σ H' s' ∧ Vals vs us ∧ Q vs H'
def SP (X : Cx) (pins : List (Addr × Obj)) (D : Ends) (f : Flow) (s' : Shared) : Prop :=
  match f with
  | .next => ∃ σ' H', Inv X pins σ' H' s' ∧ D.nx σ' H'
  | .brk => ∃ σ' H', Inv X pins σ' H' s' ∧ D.bk σ' H'
  | .cont => ∃ σ' H', Inv X pins σ' H' s' ∧ D.ct σ' H'
  | .ret u => ∃ v σ' H', Inv X pins σ' H' s' ∧ RelV v u ∧ D.rt v H'
def PE (X : Cx) (e : Expr) (t : TE) : Prop :=
  ∀ (pins : List (Addr × Obj)) (s : Shared) (σ : St) (H : Hp) (Q : VK), Inv X pins σ H s → t σ H Q → wpAny (model X.prog X.w) X.A (eval e X.env) (EP X pins σ Q) X.xe s
def PT (X : Cx) (e : Expr) (t : TT) : Prop :=
  ∀ (pins : List (Addr × Obj)) (s : Shared) (σ : St) (H : Hp) (Q : Bool → Hp → Prop), Inv X pins σ H s → t σ H Q → wpAny (model X.prog X.w) X.A (isTrue e X.env (eval e X.env)) (TP X pins σ Q) X.xe s
def PW (X : Cx) (e : Expr) (t : TT) : Prop :=
  ∀ (whole : Sem Value) (pins : List (Addr × Obj)) (s : Shared) (σ : St) (H : Hp) (Q : Bool → Hp → Prop), Inv X pins σ H s → t σ H Q → wpAny (model X.prog X.w) X.A (isTrue e X.env whole) (TP X pins σ Q) X.xe s
theorem PW.pt {X : Cx} {e : Expr} {t : TT} (h : PW X e t) : PT X e t := h _
def PA (X : Cx) (es : List Expr) (t : TA) : Prop :=
  ∀ (pos : Pos) (pins : List (Addr × Obj)) (s : Shared) (σ : St) (H : Hp) (Q : List V → Hp → Prop), Inv X pins σ H s → t σ H Q → wpAny (model X.prog X.w) X.A (spliced (backTo pos (starEach es X.env))) (AP X pins σ Q) X.xe s
def PS (X : Cx) (st : Stmt) (t : TS) : Prop :=
  ∀ (pins : List (Addr × Obj)) (s : Shared) (σ : St) (H : Hp) (D : Ends), Inv X pins σ H s → t D σ H → wpAny (model X.prog X.w) X.A (exec st X.env) (SP X pins D) X.xe s
def PSs (X : Cx) (st : List Stmt) (t : TS) : Prop :=
  ∀ (pins : List (Addr × Obj)) (s : Shared) (σ : St) (H : Hp) (D : Ends), Inv X pins σ H s → t D σ H → wpAny (model X.prog X.w) X.A (execs st X.env) (SP X pins D) X.xe s
theorem thn {α : Type} {t : Sem α} {Q Q' : α → Shared → Prop} {M : Model} {A : Around} {E : Value → Shared → Prop} {s : Shared} (h : wpAny M A t Q E s) (hQ : ∀ a s, Q a s → Q' a s) : wpAny M A t Q' E s := wpAny_mono h hQ fun _ _ x => x
end L2
namespace L2
open PySem PySem.Spec PyProof.Rows
section
variable {X : Cx}
def tVar (i : Nat) : TE := fun σ H Q => ∃ v, σ[i]? = some (some v) ∧ Q v H
def tC (v : V) : TE := fun _ H Q => Q v H
theorem pe_var {i : Nat} {x : Str} {pos : Pos} (hN : X.N[i]? = some x) (hv : Vis X.env.scope x) (hd : (x == ("__debug__" : Str)) = false := by decide) (hcd : (x == ("__classdict__" : Str)) = false := by decide) : PE X (.Name x pos) (tVar i) := by
  intro pins s σ H Q I h
  obtain ⟨v, e, h⟩ := h
  obtain ⟨m, hn, hl⟩ := I.loc
  obtain ⟨u, r, l⟩ := hl i x v hN e hv
  have fin : EP X pins σ Q u s := ⟨v, H, I, r, h⟩
  rcases l with ⟨hk, hm⟩ | ⟨hk, c, hc, hcell⟩
  · exact wpAny_Name (wpAny_loadName_local I.ok.kind hk hn hm fin) hd
  · rcases hk with hk | hk
    · exact wpAny_Name (wpAny_loadName_cell I.ok.kind hk hc hcell fin) hd
    · exact wpAny_Name (wpAny_loadName_free I.ok.kind hk hc hcell fin hcd) hd
theorem pe_int {i j pos} : PE X (.Constant (.int i) j pos) (tC (.int i)) := fun _ _ _ H _ I h => wpAny_Constant_int ⟨.int i, H, I.tok _, ⟨_, rfl⟩, h⟩
theorem pe_bl {b j pos} : PE X (.Constant (.bool b) j pos) (tC (.bl b)) := fun _ _ _ H _ I h => Constant_bool ⟨.bl b, H, I, rfl, h⟩
theorem pe_non {j pos} : PE X (.Constant .none j pos) (tC .non) := fun _ _ _ H _ I h => Constant_none ⟨.non, H, I, rfl, h⟩
theorem pe_str {x j pos} : PE X (.Constant (.str x) j pos) (tC (.str x)) := fun _ _ _ H _ I h => Calls.Constant_str ⟨.str x, H, I.tok _, ⟨_, rfl⟩, h⟩
def Gl (X : Cx) (x : Str) : Prop := X.env.kindOf x = some .globalImplicit
theorem ld_glob {E : Value → Shared → Prop} {pins : List (Addr × Obj)} {s : Shared} {σ : St} {H : Hp} {x : Str} {u : Value} {pos : Pos} {Q : Value → Shared → Prop} (I : Inv X pins σ H s) (hg : Gl X x) (hm : X.mg x = some u) (h : Q u s)
    (hd : (x == ("__debug__" : Str)) = false := by decide) : wpAny (model X.prog X.w) X.A (eval (.Name x pos) X.env) Q E s :=
  Calls.Name_function_global I.ok.kind hg (Calls.loadGlobal_global (by rw [I.ok.glob]; exact I.mod.glob.keeps I.bk) hm h) hd
theorem ld_blt {E : Value → Shared → Prop} {pins : List (Addr × Obj)} {s : Shared} {σ : St} {H : Hp} {x : Str} {u : Value} {pos : Pos} {Q : Value → Shared → Prop} (I : Inv X pins σ H s) (hg : Gl X x) (hm : X.mg x = none) (hv : bootBuiltins x = some u) (h : Q u s)
    (hn : x ≠ "__name__" := by decide) (hd : (x == ("__debug__" : Str)) = false := by decide) : wpAny (model X.prog X.w) X.A (eval (.Name x pos) X.env) Q E s := by
  obtain ⟨mb, h1, h2⟩ := I.mod.blt
  exact Calls.Name_function_global I.ok.kind hg (Calls.loadGlobal_builtin (by rw [I.ok.glob]; exact I.mod.glob.keeps I.bk) hm (by rw [I.ok.blt]; exact h1.keeps I.bk) ((h2 x hn).trans hv) h) hd
theorem pe_bltn {x : Str} {v : V} {u : Value} {pos : Pos} (hg : Gl X x) (hm : X.mg x = none) (hv : bootBuiltins x = some u) (r : RelV v u) (hn : x ≠ "__name__" := by decide) (hd : (x == ("__debug__" : Str)) = false := by decide) : PE X (.Name x pos) (tC v) :=
  fun _ _ _ H _ I h => ld_blt I hg hm hv ⟨v, H, I, r, h⟩ hn hd
variable {a b : Expr} {ta tb : TE} {pos : Pos}
def tB (t : TE) : TT := fun σ H Q => t σ H fun x H1 => ∃ c, x = .bl c ∧ Q c H1
theorem pt_val {e : Expr} {t : TE} (h : PE X e t) (he : ∀ whole, isTrue e X.env whole = (do let v ← whole; standAt e.pos; holding [v] (truthy v)) := by intro _; rfl) : PT X e (tB t) := by
  intro pins s σ H Q I hw
  refine isTrue_plain (thn (h pins s σ H _ I hw) fun v s1 ⟨x, H1, I1, r1, q1⟩ => ?_) (he _)
  obtain ⟨d, rfl, q⟩ := q1
  cases r1
  exact wpAny_truthy_bool ⟨H1, I1, q⟩
variable {tA tB' : TT} {rest : List Expr}
def tAnd (t u : TT) : TT := fun σ H Q => t σ H fun c H1 => if c = true then u σ H1 Q else Q false H1
def tOr (t u : TT) : TT := fun σ H Q => t σ H fun c H1 => if c = true then Q true H1 else u σ H1 Q
def tNot (t : TT) : TT := fun σ H Q => t σ H fun c H1 => Q (!c) H1
theorem pw_and1 (ha : PT X a tA) : PW X (.BoolOp .And [a] pos) tA := by
  intro wh pins s σ H Q I h
  refine isTrue_and (thn (ha pins s σ H Q I h) fun c s1 e => ?_)
  cases c with
  | true => exact isTrue_and_nil e
  | false => exact e
theorem pw_or1 (ha : PT X a tA) : PW X (.BoolOp .Or [a] pos) tA := by
  intro wh pins s σ H Q I h
  refine isTrue_or (thn (ha pins s σ H Q I h) fun c s1 e => ?_)
  cases c with
  | false => exact isTrue_or_nil e
  | true => exact e
theorem pw_and (ha : PT X a tA) (hb : PW X (.BoolOp .And (b :: rest) pos) tB') : PW X (.BoolOp .And (a :: b :: rest) pos) (tAnd tA tB') := by
  intro wh pins s σ H Q I h
  refine isTrue_and (thn (ha pins s σ H _ I h) fun c s1 ⟨H1, I1, q1⟩ => ?_)
  cases c with
  | true => exact hb wh pins s1 σ H1 Q I1 q1
  | false => exact ⟨H1, I1, q1⟩
theorem pw_or (ha : PT X a tA) (hb : PW X (.BoolOp .Or (b :: rest) pos) tB') : PW X (.BoolOp .Or (a :: b :: rest) pos) (tOr tA tB') := by
  intro wh pins s σ H Q I h
  refine isTrue_or (thn (ha pins s σ H _ I h) fun c s1 ⟨H1, I1, q1⟩ => ?_)
  cases c with
  | true => exact ⟨H1, I1, q1⟩
  | false => exact hb wh pins s1 σ H1 Q I1 q1
theorem pt_not (ha : PT X a tA) : PT X (.UnaryOp .Not a pos) (tNot tA) := by
  intro pins s σ H Q I h
  exact isTrue_not (ha pins s σ H (fun c H1 => Q (!c) H1) I h)
def tAndV (ta tb : TE) : TE := fun σ H Q => ta σ H fun x H1 => ∃ c, x = .bl c ∧ if c = true then tb σ H1 Q else Q (.bl false) H1
def tNotV (ta : TE) : TE := fun σ H Q => ta σ H fun x H1 => ∃ c, x = .bl c ∧ Q (.bl (!c)) H1
theorem pe_one {op} {t : TE} (h : PE X a t) : PE X (.BoolOp op [a] pos) t := fun pins s σ H Q I hw => BoolOp_one (h pins s σ H Q I hw)
theorem pe_and (ha : PE X a ta) (hb : PE X (.BoolOp .And (b :: rest) pos) tb) : PE X (.BoolOp .And (a :: b :: rest) pos) (tAndV ta tb) := by
  intro pins s σ H Q I h
  refine BoolOp_and (thn (ha pins s σ H _ I h) fun v s1 ⟨x, H1, I1, r1, q1⟩ => ?_)
  obtain ⟨c, rfl, q1⟩ := q1
  cases r1
  refine wpAny_truthy_bool ?_
  cases c with
  | true => exact hb pins s1 σ H1 Q I1 q1
  | false => exact ⟨.bl false, H1, I1, rfl, q1⟩
theorem pe_not (ha : PE X a ta) : PE X (.UnaryOp .Not a pos) (tNotV ta) := by
  intro pins s σ H Q I h
  refine UnaryOp_ (thn (ha pins s σ H _ I h) fun v s1 ⟨x, H1, I1, r1, q1⟩ => ?_)
  obtain ⟨c, rfl, q1⟩ := q1
  cases r1
  exact not_of (wpAny_truthy_bool ⟨.bl (!c), H1, I1, rfl, q1⟩)
end
end L2
namespace L2
open PySem PySem.Spec PyProof.Rows
def SqL (K : PySem.W.Frag) (H : Hp) (a : Addr) (xs : List V) : Prop :=
  Rd H a (.lst xs) ∨
    ∃ (o : Obj) (its : Array Value) (n : Nat), K.lookup a = some o ∧ o.cls = .type "list" ∧ o.dict = none ∧ o.data = .seq its n ∧ its.size ≤ sizeLine ∧ Vals xs its.toList
def SqT (K : PySem.W.Frag) (H : Hp) (a : Addr) (xs : List V) : Prop :=
  Rd H a (.tup xs) ∨
    ∃ (o : Obj) (its : Array Value) (n : Nat), K.lookup a = some o ∧ o.cls = .type "tuple" ∧ o.data = .seq its n ∧ its.size ≤ sizeLine ∧ Vals xs its.toList
def absV : Value → Option V
  | .none => some .non
  | .bool b => some (.bl b)
  | .int i _ => some (.int i)
  | .str x _ => some (.str x)
  | .bytes b _ => some (.byt b)
  | .float b _ => some (.flt b)
  | .ref a => some (.ref a)
  | .type n => some (.ty n)
  | _ => none
theorem RelV.abs {x : V} {u : Value} (r : RelV x u) : absV u = some x := by
  cases x with
  | non => cases r; rfl
  | bl _ => cases r; rfl
  | int _ => obtain ⟨t, rfl⟩ := r; rfl
  | str _ => obtain ⟨t, rfl⟩ := r; rfl
  | byt _ => obtain ⟨t, rfl⟩ := r; rfl
  | flt _ => obtain ⟨t, rfl⟩ := r; rfl
  | ref _ => cases r; rfl
  | ty _ => cases r; rfl
theorem RelV.inj {x y : V} {u : Value} (r : RelV x u) (q : RelV y u) : x = y := Option.some.inj (r.abs.symm.trans q.abs)
theorem Vals.inj : ∀ {xs ys : List V} {us : List Value}, Vals xs us → Vals ys us → xs = ys
  | _, _, _, .nil, .nil => rfl
  | _, _, _, .cons r t, .cons r' t' => by rw [r.inj r', Vals.inj t t']
section
variable {X : Cx} {pins : List (Addr × Obj)} {σ : St} {H : Hp} {s : Shared} {a : Addr} {xs ys : List V}
theorem SqL.of {K : PySem.W.Frag} (h : H a = some (.lst xs)) : SqL K H a xs := .inl (.inl h)
theorem SqT.of {K : PySem.W.Frag} (h : H a = some (.tup xs)) : SqT K H a xs := .inl (.inl h)
theorem Inv.list (I : Inv X pins σ H s) (h : SqL X.K H a xs) : ∃ its : List Value, Vals xs its ∧ PlainL s.heap a its.toArray ∧ xs.length ≤ sizeLine := by
  rcases h with h | ⟨o, its, n, hk, hc, hd, hs, hz, r⟩
  · obtain ⟨z, its, n, r, e⟩ := h.ok I.hok
    exact ⟨its, r, ⟨_, n, e, rfl, rfl, rfl⟩, z⟩
  · refine ⟨its.toList, r, ⟨o, n, I.kIn a o hk, hc, hd, by simpa using hs⟩, ?_⟩
    have e := r.length
    simp only [Array.length_toList] at e
    omega
theorem Inv.tuple (I : Inv X pins σ H s) (h : SqT X.K H a xs) : ∃ its : List Value, Vals xs its ∧ IsTup s.heap a its.toArray ∧ xs.length ≤ sizeLine := by
  rcases h with h | ⟨o, its, n, hk, hc, hs, hz, r⟩
  · obtain ⟨z, its, r, p⟩ := h.ok I.hok
    exact ⟨its, r, p, z⟩
  · refine ⟨its.toList, r, ⟨o, I.kIn a o hk, hc, n, by simpa using hs⟩, ?_⟩
    have e := r.length
    simp only [Array.length_toList] at e
    omega
theorem Inv.list_inj (I : Inv X pins σ H s) (h : SqL X.K H a xs) (h' : SqL X.K H a ys) : xs = ys := by
  obtain ⟨its, r, ⟨o, n, e, _, _, d⟩, _⟩ := I.list h
  obtain ⟨its', r', ⟨o', n', e', _, _, d'⟩, _⟩ := I.list h'
  rw [e] at e'; cases e'
  rw [d] at d'
  injection d' with d1 _
  have : its = its' := by simpa using congrArg Array.toList d1
  subst this
  exact r.inj r'
theorem Inv.tuple_inj (I : Inv X pins σ H s) (h : SqT X.K H a xs) (h' : SqT X.K H a ys) : xs = ys := by
  obtain ⟨its, r, ⟨o, e, _, n, d⟩, _⟩ := I.tuple h
  obtain ⟨its', r', ⟨o', e', _, n', d'⟩, _⟩ := I.tuple h'
  rw [e] at e'; cases e'
  rw [d] at d'
  injection d' with d1 _
  have : its = its' := by simpa using congrArg Array.toList d1
  subst this
  exact r.inj r'
end
abbrev Cx.wish (X : Cx) (E : Value → Shared → Prop) : Cx := { X with xe := E }
abbrev Cx.nox (X : Cx) : Cx := X.wish fun _ _ => False
theorem Cx.Ok.wish {X : Cx} (ok : X.Ok) (E : Value → Shared → Prop) : (X.wish E).Ok :=
  ⟨ok.mod, ok.kind, ok.glob, ok.blt, ok.above, ok.inj, ok.has, ok.cab, ok.hd, ok.frames, ok.stk, ok.exf, ok.bs, ok.bsz, ok.noex, ok.exfs, ok.funs, ok.frf⟩
theorem Cx.Ok.unwish {X : Cx} {E : Value → Shared → Prop} (ok : (X.wish E).Ok) : X.Ok :=
  ⟨ok.mod, ok.kind, ok.glob, ok.blt, ok.above, ok.inj, ok.has, ok.cab, ok.hd, ok.frames, ok.stk, ok.exf, ok.bs, ok.bsz, ok.noex, ok.exfs, ok.funs, ok.frf⟩
section
variable {X : Cx} {pins : List (Addr × Obj)} {σ : St} {H : Hp} {s : Shared} {E : Value → Shared → Prop}
theorem Inv.wish (I : Inv X pins σ H s) (E : Value → Shared → Prop) : Inv (X.wish E) pins σ H s := ⟨I.ok.wish E, I.os, I.bare, I.base, I.loc, I.cell, I.free, I.freeC, I.pin, I.hok, I.len⟩
theorem Inv.unwish (I : Inv (X.wish E) pins σ H s) : Inv X pins σ H s := ⟨I.ok.unwish, I.os, I.bare, I.base, I.loc, I.cell, I.free, I.freeC, I.pin, I.hok, I.len⟩
theorem SP.unwish {D : Ends} {f : Flow} {s' : Shared} (h : SP (X.wish E) pins D f s') : SP X pins D f s' := by
  cases f with
  | next => obtain ⟨σ', H', I, q⟩ := h; exact ⟨σ', H', I.unwish, q⟩
  | brk => obtain ⟨σ', H', I, q⟩ := h; exact ⟨σ', H', I.unwish, q⟩
  | cont => obtain ⟨σ', H', I, q⟩ := h; exact ⟨σ', H', I.unwish, q⟩
  | ret u => obtain ⟨v, σ', H', I, r, q⟩ := h; exact ⟨v, σ', H', I.unwish, r, q⟩
theorem PE.nox {e : Expr} {t : TE} (h : PE X.nox e t) : PE X e t := fun pins s σ H Q I hw =>
  wpAny_mono (h pins s σ H Q (I.wish _) hw) (fun _ _ ⟨v, H', I', r, q⟩ => ⟨v, H', I'.unwish, r, q⟩) fun _ _ z => False.elim z
theorem PT.nox {e : Expr} {t : TT} (h : PT X.nox e t) : PT X e t := fun pins s σ H Q I hw =>
  wpAny_mono (h pins s σ H Q (I.wish _) hw) (fun _ _ ⟨H', I', q⟩ => ⟨H', I'.unwish, q⟩) fun _ _ z => False.elim z
theorem PSs.nox {st : List Stmt} {t : TS} (h : PSs X.nox st t) : PSs X st t := fun pins s σ H D I hw =>
  wpAny_mono (h pins s σ H D (I.wish _) hw) (fun _ _ q => q.unwish) fun _ _ z => False.elim z
end
section
variable {X : Cx} {st : Stmt} {rest : List Stmt} {t u : TS} {e : Expr} {te : TE} {pos : Pos}
def tNext : TS := fun D σ H => D.nx σ H
def tSeq (t u : TS) : TS := fun D σ H => t { D with nx := u D } σ H
theorem pss_nil : PSs X [] tNext := fun _ _ σ H _ I h => wpAny_execs_nil ⟨σ, H, I, h⟩
theorem pss_cons (h1 : PS X st t) (h2 : PSs X rest u) : PSs X (st :: rest) (tSeq t u) := by
  intro pins s σ H D I h
  refine wpAny_execs_cons (thn (h1 pins s σ H { D with nx := u D } I h) fun f s1 q => ?_)
  cases f with
  | next =>
    obtain ⟨σ', H', I', q⟩ := q
    exact h2 pins s1 σ' H' D I' q
  | ret v => exact q
  | brk => exact q
  | cont => exact q
theorem pss_one (h1 : PS X st t) : PSs X [st] t := by
  intro pins s σ H D I h
  refine wpAny_execs_cons (thn (h1 pins s σ H D I h) fun f s1 q => ?_)
  cases f with
  | next => exact wpAny_execs_nil q
  | ret v => exact q
  | brk => exact q
  | cont => exact q
theorem Inv.quiet {pins : List (Addr × Obj)} {σ : St} {H : Hp} {s : Shared} (I : Inv X pins σ H s) : interactive X.env = false := by simp [interactive, I.ok.kind]
def tDrop (te : TE) : TS := fun D σ H => te σ H fun _ H1 => D.nx σ H1
theorem ps_expr (he : PE X e te) (hs : swapsWith e none pos.line X.env = pure false := by rfl) : PS X (.Expr e pos) (tDrop te) := by
  intro pins s σ H D I h
  exact wpAny_Expr_any (thn (he pins s σ H _ I h) fun v s1 ⟨x, H1, I1, r1, q1⟩ => ⟨σ, H1, I1, q1⟩) I.quiet hs
def tRet (te : TE) : TS := fun D σ H => te σ H D.rt
theorem ps_ret (he : PE X e te) : PS X (.Return (some e) pos) (tRet te) := by
  intro pins s σ H D I h
  exact wpAny_Return_some (thn (he pins s σ H _ I h) fun v s1 ⟨x, H1, I1, r1, q1⟩ => ⟨x, σ, H1, I1, r1, q1⟩)
def tIfS (c : TT) (t u : TS) : TS := fun D σ H => c σ H fun b H1 => if b = true then t D σ H1 else u D σ H1
theorem ps_if {c : Expr} {a b : List Stmt} {tc : TT} (hc : PT X c tc) (ha : PSs X a t) (hb : PSs X b u) : PS X (.If c a b pos) (tIfS tc t u) := by
  intro pins s σ H D I h
  refine wpAny_If (thn (hc pins s σ H _ I h) fun d s1 ⟨H1, I1, q1⟩ => ?_)
  cases d with
  | true => exact ha pins s1 σ H1 D I1 q1
  | false => exact hb pins s1 σ H1 D I1 q1
def tNever : TS := fun _ _ _ => False
theorem ps_never : PS X st tNever := fun _ _ _ _ _ _ h => h.elim
end
abbrev TG := V → St → Hp → (St → Hp → Prop) → Prop
abbrev TGs := List V → St → Hp → (St → Hp → Prop) → Prop
def PG (X : Cx) (target : Expr) (t : TG) : Prop :=
  ∀ (pins : List (Addr × Obj)) (s : Shared) (σ : St) (H : Hp) (v : V) (u : Value) (Q : St → Hp → Prop), Inv X pins σ H s → RelV v u → t v σ H Q →
    wpAny (model X.prog X.w) X.A (assign target X.env u) (fun _ s' => ∃ σ' H', Inv X pins σ' H' s' ∧ Q σ' H') X.xe s
def PGs (X : Cx) (ts : List Expr) (t : TGs) : Prop :=
  ∀ (pins : List (Addr × Obj)) (s : Shared) (σ : St) (H : Hp) (vs : List V) (us : List Value) (Q : St → Hp → Prop), Inv X pins σ H s → Vals vs us → t vs σ H Q →
    wpAny (model X.prog X.w) X.A (assignInOrder ((assignEach ts X.env).map (·.2)) us) (fun _ s' => ∃ σ' H', Inv X pins σ' H' s' ∧ Q σ' H') X.xe s
section
variable {X : Cx} {pos : Pos}
def gName (i : Nat) : TG := fun v σ H Q => Q (σ.set i (some v)) H
theorem pg_name {i : Nat} {x : Str} (hN : X.N.Nodup) (hi : X.N[i]? = some x) (hx : Loc X.env.scope x) (hf : X.fn x = true ∨ X.env.scope.names.lookup x = some .local := by first | exact .inl rfl | exact .inr rfl | assumption) : PG X (.Name x pos) (gName i) := by
  intro pins s σ H v u Q I r h
  exact wpAny_assign_Name (store_ok I hN hi hx r (fun s' I' => ⟨_, H, I', h⟩) hf)
def gNil : TGs := fun vs σ H Q => vs = [] ∧ Q σ H
def gCons (t : TG) (u : TGs) : TGs := fun vs σ H Q => ∃ v r, vs = v :: r ∧ t v σ H fun σ' H' => u r σ' H' Q
theorem pgs_nil : PGs X [] gNil := by
  intro pins s σ H vs us Q I r h
  obtain ⟨e, h⟩ := h
  subst e
  cases r
  exact assignInOrder_nil ⟨σ, H, I, h⟩
theorem pgs_cons {e : Expr} {es : List Expr} {t : TG} {u : TGs} (h1 : PG X e t) (h2 : PGs X es u)
    (hs : (assignEach (e :: es) X.env).map (·.2) = assign e X.env :: (assignEach es X.env).map (·.2) := by rfl) : PGs X (e :: es) (gCons t u) := by
  intro pins s σ H vs us Q I r h
  obtain ⟨v, vr, e1, h⟩ := h
  subst e1
  cases r with
  | cons r rr =>
    rw [hs]
    refine assignInOrder_cons (thn (h1 pins s σ H _ _ _ I r h) fun _ s1 ⟨σ1, H1, I1, q1⟩ => ?_)
    exact h2 pins s1 σ1 H1 _ _ Q I1 rr q1
def tAsg (te : TE) (g : TG) : TS := fun D σ H => te σ H fun x H1 => g x σ H1 D.nx
theorem ps_asg {tg e : Expr} {te : TE} {g : TG} (he : PE X e te) (hg : PG X tg g) (hs : swapsWithSole [tg] e pos.line X.env = pure false := by rfl) (hw : swappedStores [tg] e X.env = pure none := by rfl)
    (h1 : (assignEach [tg] X.env).map (·.2) = [assign tg X.env] := by rfl) : PS X (.Assign [tg] e pos) (tAsg te g) := by
  intro pins s σ H D I h
  refine wpAny_Assign_stores (thn (he pins s σ H _ I h) fun v s1 ⟨x, H1, I1, r1, q1⟩ => ?_) hs hw
  rw [h1]
  exact thn (hg pins s1 σ H1 x v _ I1 r1 q1) fun _ s2 q => q
theorem ps_set {i : Nat} {x : Str} {e : Expr} {te : TE} {pos' : Pos} (hN : X.N.Nodup) (hi : X.N[i]? = some x) (hx : Loc X.env.scope x) (he : PE X e te) (hs : swapsWith e (some (.Name x pos')) pos.line X.env = pure false := by rfl) (hf : X.fn x = true ∨ X.env.scope.names.lookup x = some .local := by first | exact .inl rfl | exact .inr rfl | assumption) :
    PS X (.Assign [.Name x pos'] e pos) (tAsg te (gName i)) := by
  intro pins s σ H D I h
  refine wpAny_Assign_Name (thn (he pins s σ H _ I h) fun v s1 ⟨y, H1, I1, r1, q1⟩ => ?_) hs
  exact store_ok I1 hN hi hx r1 (fun s2 I2 => ⟨_, H1, I2, q1⟩) hf
def tPar (i j : Nat) (ta : TA) : TS := fun D σ H => ta σ H fun vs H1 => ∃ v w, vs = [v, w] ∧ D.nx ((σ.set i (some v)).set j (some w)) H1
theorem ps_par {i j : Nat} {x y : Str} {a b : Expr} {ta : TA} {px py pt : Pos} {kt k2 pt2} (hc : X.calm = true) (hN : X.N.Nodup) (hi : X.N[i]? = some x) (hj : X.N[j]? = some y) (hij : i ≠ j)
    (hx : X.env.scope.names.lookup x = some .local) (hy : X.env.scope.names.lookup y = some .local) (ha : PA X [a, b] ta)
    (hw : swappedStores [.Tuple [.Name x px, .Name y py] kt pt] (.Tuple [a, b] k2 pt2) X.env = pure (some [x, y]))
    (hs : swapsWithSole [.Tuple [.Name x px, .Name y py] kt pt] (.Tuple [a, b] k2 pt2) pos.line X.env = pure false := by rfl) :
    PS X (.Assign [.Tuple [.Name x px, .Name y py] kt pt] (.Tuple [a, b] k2 pt2) pos) (tPar i j ta) := by
  intro pins s σ H D I h
  rw [exec_Assign_arm]
  refine wpAny_bind (wpAny_standAt ?_)
  rw [hs]
  refine wpAny_bind (wpAny_pure ?_)
  rw [if_neg (by decide)]
  refine wpAny_bind (Tuple_ (thn (ha _ pins s σ H _ I h) fun us s1 ⟨vs, H1, I1, r1, q1⟩ => ?_))
  obtain ⟨v, w, e1, q1⟩ := q1
  subst e1
  obtain ⟨u1, u2, rfl, rv, rw'⟩ : ∃ u1 u2, us = [u1, u2] ∧ RelV v u1 ∧ RelV w u2 := by
    cases r1 with
    | cons p q =>
      cases q with
      | cons p' q' =>
        cases q'
        exact ⟨_, _, rfl, p, p'⟩
  refine wpAny_newObj_type ?_ (by show 2 ≤ sizeLine; decide)
  have I2 : Inv X pins σ H1 { s1 with heap := s1.heap.push { cls := .type "tuple", data := .seq [u1, u2].toArray } } := I1.kept (t' := s1.toks) fun b o e => Heap.get?_push_of_some _ e
  rw [hw]
  refine wpAny_bind (wpAny_pure ?_)
  show wpAny (model X.prog X.w) X.A (do rule "assign.swapped-stores"; let items ← unpackItems (.ref s1.heap.objs.size) 2 none; assignInOrder [fun v => bindName X.env y v, fun v => bindName X.env x v] items.reverse; pure Flow.next) _ _ _
  refine wpAny_bind (wpAny_rule (wpAny_bind (unpackItems_tuple (items := #[u1, u2]) (I.ok.hd hc) (IsTup.new s1.heap _) fun h' hx' => ?_)))
  have I3 := I2.kept (h' := h') (t' := s1.toks) fun b o e => hx' b o (Nat.ne_of_lt (Heap.lt_size e)) e
  show wpAny _ _ (assignInOrder [fun v => bindName X.env y v, fun v => bindName X.env x v] [u2, u1] >>= fun _ => pure Flow.next) _ _ _
  refine wpAny_bind (assignInOrder_cons (wpAny_bindName (store_ok I3 hN hj (.inl hy) rw' (fun s2 I4 => ?_) (.inr hy))))
  refine assignInOrder_cons (wpAny_bindName (store_ok I4 hN hi (.inl hx) rv (fun s3 I5 => assignInOrder_nil (wpAny_pure ?_)) (.inr hx)))
  rw [List.set_comm _ _ (Ne.symm hij)] at I5
  exact ⟨_, H1, I5, q1⟩
end
section
variable {X : Cx} {pos : Pos}
def tWhile (c : TT) (tb : TS) : TS := fun D σ H => ∃ W : Nat → St → Hp → Prop, (∃ m, W m σ H) ∧ ∀ m σ H, W m σ H →
  c σ H fun b H1 => if b = true then ∃ N : St → Hp → Prop, (∀ σ' H', N σ' H' → ∃ m', m' < m ∧ W m' σ' H') ∧ tb { D with nx := N, ct := N, bk := D.nx } σ H1 else D.nx σ H1
theorem ps_while {c : Expr} {body : List Stmt} {tc : TT} {tb : TS} (hp : PassesOwn (model X.prog X.w) X.A X.env X.xe) (hc : PT X c tc) (hb : PSs X body tb) : PS X (.While c body [] pos) (tWhile tc tb) := by
  intro pins s σ H D I h
  obtain ⟨W, ⟨m0, w0⟩, turn⟩ := h
  refine wpAny_While (codeAny_whileLoop (fun n s' => ∃ σ' H', Inv X pins σ' H' s' ∧ W n σ' H') ?_ m0 ⟨σ, H, I, w0⟩)
  rintro n s1 ⟨σ1, H1, I1, w1⟩
  refine wpAny_passesOwn hp (thn (hc pins s1 σ1 H1 _ I1 (turn n σ1 H1 w1)) fun b s2 ⟨H2, I2, q2⟩ => ?_)
  cases b with
  | true =>
    obtain ⟨N, hN, q2⟩ := q2
    rw [if_pos rfl]
    refine wpAny_passesOwn hp (thn (hb pins s2 σ1 H2 _ I2 q2) fun f s3 q3 => ?_)
    cases f with
    | next =>
      obtain ⟨σ3, H3, I3, n3⟩ := q3
      obtain ⟨m', hm, w3⟩ := hN σ3 H3 n3
      exact ⟨m', hm, σ3, H3, I3, w3⟩
    | cont =>
      obtain ⟨σ3, H3, I3, n3⟩ := q3
      obtain ⟨m', hm, w3⟩ := hN σ3 H3 n3
      exact ⟨m', hm, σ3, H3, I3, w3⟩
    | brk => exact q3
    | ret v => exact q3
  | false =>
    rw [if_neg Bool.false_ne_true]
    exact wpAny_execs_nil ⟨σ1, H2, I2, q2⟩
end
structure It where
  go : Nat → Hp → Prop
  yld : Nat → Hp → V → Hp → Prop
  stop : Nat → Hp → Prop
def FpOk (X : Cx) (pins : List (Addr × Obj)) (H : Hp) (b : Addr) : Prop :=
  H b = none ∧ b ≠ X.env.locals ∧ b ∉ X.fs ∧ (b ∈ X.ex ∨ X.s₀.heap.objs.size ≤ b) ∧ (∀ x c, X.env.cells.lookup x = some c → c ≠ b) ∧ ∀ p ∈ X.pn ++ pins, p.1 ≠ b
theorem Inv.fpOk {X : Cx} {pins : List (Addr × Obj)} {σ : St} {H H' : Hp} {s : Shared} {b : Addr} (I : Inv X pins σ H s) (hb : s.heap.objs.size ≤ b) (hn : H' b = none) : FpOk X pins H' b := by
  refine ⟨hn, Nat.ne_of_gt (Nat.lt_of_lt_of_le I.lt hb), I.nofs hb, .inr (Nat.le_trans I.sz hb), fun x c e z => ?_, fun p hp z => ?_⟩
  · obtain ⟨v, q⟩ := I.cell x c e
    exact absurd (Nat.lt_of_lt_of_le q.lt (by rw [z]; exact hb)) (Nat.lt_irrefl _)
  · exact absurd (Nat.lt_of_lt_of_le (Heap.lt_size (I.pin p hp).1) (by rw [z]; exact hb)) (Nat.lt_irrefl _)
structure Turn (P : Program) (w : World) (K : PySem.W.Frag) (tg : Expr) (J : It) (fp : List Addr) (it : Addr) (tn : Nat → Heap → Prop) : Prop where
  mem : it ∈ fp
  obj : ∀ i h, tn i h → ∀ b ∈ fp, ∃ o, h.get? b = some o ∧ ∀ v, o.data ≠ .cell v
  keep : ∀ i h h', tn i h → (∀ b ∈ fp, ∀ o, h.get? b = some o → h'.get? b = some o) → tn i h'
  item : ∀ (X : Cx), X.prog = P → X.w = w → X.K = K → X.calm = true → ∀ (i : Nat) (pins : List (Addr × Obj)) (s : Shared) (σ : St) (H : Hp) (E : Value → Shared → Prop), Inv X pins σ H s → (∀ b ∈ fp, FpOk X pins H b) → tn i s.heap → J.go i H →
    wpAny (model P w) X.A (pyNext (.ref it)) (fun r s1 => ∃ u, r = some u ∧
      wpAny (model P w) X.A (letOwnedTupleGo tg (.ref it) u) (fun _ s2 => ∃ x H', Inv X pins σ H' s2 ∧ RelV x u ∧ J.yld i H x H' ∧ tn (i + 1) s2.heap ∧ ∀ b ∈ fp, H' b = none) E s1) E s
  done : ∀ (X : Cx), X.prog = P → X.w = w → X.K = K → X.calm = true → ∀ (i : Nat) (pins : List (Addr × Obj)) (s : Shared) (σ : St) (H : Hp) (E : Value → Shared → Prop), Inv X pins σ H s → (∀ b ∈ fp, FpOk X pins H b) → tn i s.heap → J.stop i H →
    wpAny (model P w) X.A (pyNext (.ref it)) (fun r s1 => r = none ∧ Inv X pins σ H s1) E s
  self : ∀ (A : Around) (i : Nat) (s : Shared) (Q : Value → Shared → Prop) (E : Value → Shared → Prop), tn i s.heap → Q (.ref it) s → wpAny (model P w) A (pyIter (.ref it)) Q E s
abbrev TI := St → Hp → (It → Hp → Prop) → Prop
def PIE (X : Cx) (pins : List (Addr × Obj)) (σ : St) (tg : Expr) (R : It → Hp → Prop) (itv : Value) (s2 : Shared) : Prop :=
  ∃ (it : Addr) (fp : List Addr) (tn : Nat → Heap → Prop) (J : It) (H' : Hp), itv = .ref it ∧ Inv X pins σ H' s2 ∧ Turn X.prog X.w X.K tg J fp it tn ∧ tn 0 s2.heap ∧ (∀ b ∈ fp, FpOk X pins H' b) ∧ R J H'
def PI (X : Cx) (tg iter : Expr) (wi : TI) : Prop :=
  ∀ (pins : List (Addr × Obj)) (s : Shared) (σ : St) (H : Hp) (R : It → Hp → Prop), Inv X pins σ H s → wi σ H R →
    wpAny (model X.prog X.w) X.A (eval iter X.env) (fun v s1 => wpAny (model X.prog X.w) X.A (pyIter v) (PIE X pins σ tg R) X.xe s1) X.xe s
theorem go_of {M : Model} {A : Around} {E : Value → Shared → Prop} {s : Shared} {tg : Expr} {it : Addr} {u : Value} {o : Obj} {n : String} {vs : Array Value} {Q : Unit → Shared → Prop} (ho : s.heap.get? it = some o) (hc : o.cls = .type n) (hd : o.data = .fields vs)
    (hn : ["enumerate", "zip", "dict_itemiterator", "dict_reverseitemiterator", "odict_iterator", "itertools.zip_longest", "itertools.pairwise"].contains n = false) (hQ : Q () s) : wpAny M A (letOwnedTupleGo tg (.ref it) u) Q E s := by
  unfold letOwnedTupleGo
  cases tg <;> first
    | exact wpAny_pure hQ
    | (cases u <;> first
        | exact wpAny_pure hQ
        | (refine wpAny_bind (wpAny_load ho ?_)
           rw [hc, hd]
           show wpAny M A (if (["enumerate", "zip", "dict_itemiterator", "dict_reverseitemiterator", "odict_iterator", "itertools.zip_longest", "itertools.pairwise"].contains n && vs[0]? == some (rawInt _)) = true then _ else _) Q E s
           rw [if_neg (by intro h; rw [hn, Bool.false_and] at h; cases h)]
           exact wpAny_pure hQ))
def Itl (K : PySem.W.Frag) (a : Addr) : It :=
  ⟨fun i H => ∃ xs x, SqL K H a xs ∧ xs[i]? = some x, fun i H x H' => H' = H ∧ ∀ xs, SqL K H a xs → xs[i]? = some x, fun i H => ∃ xs, SqL K H a xs ∧ xs.length ≤ i⟩
def Itt (K : PySem.W.Frag) (a : Addr) : It :=
  ⟨fun i H => ∃ xs x, SqT K H a xs ∧ xs[i]? = some x, fun i H x H' => H' = H ∧ ∀ xs, SqT K H a xs → xs[i]? = some x, fun i H => ∃ xs, SqT K H a xs ∧ xs.length ≤ i⟩
def Itr (lo : Int) (n : Nat) : It := ⟨fun i _ => i < n, fun i H x H' => H' = H ∧ x = .int (lo + i), fun i _ => n ≤ i⟩
theorem turn_list {P : Program} {w : World} {K : PySem.W.Frag} {tg : Expr} (a it : Addr) : Turn P w K tg (Itl K a) [it] it (fun i h => h.IsListIter it a i) where
  mem := by simp
  obj := fun i h st b hb => by
    have e : b = it := by simpa using hb
    subst e
    obtain ⟨o, e, c, d⟩ := st
    exact ⟨o, e, fun v z => by rw [d] at z; cases z⟩
  keep := fun i h h' st k => st.at fun o e => k it (by simp) o e
  item := by
    intro X hP hw hK hc i pins s σ H E I hf st hg
    subst hP hw hK
    obtain ⟨xs, x, hq, hx⟩ := hg
    obtain ⟨its, rv, p, hz⟩ := I.list hq
    obtain ⟨u, hu, ru⟩ := rv.get hx
    obtain ⟨f0, f1, f2, f3, f4, f5⟩ := hf it (by simp)
    refine wpAny_pyNext_list_item st p.isList (x := u) (by simpa using hu) fun h' st' sb => ?_
    have I1 : Inv X pins σ H { s with heap := h' } := I.turned (t' := s.toks) (fun b o hb e => (sb.2 b hb).trans e) f0 f1 f3 f4 f5
    obtain ⟨o, e, c, d⟩ := id st'
    exact ⟨u, rfl, go_of (s := { s with heap := h' }) e c d (by decide) ⟨x, H, I1, ru, ⟨rfl, fun ys hy => by rw [I.list_inj hy hq]; exact hx⟩, st', fun b hb => (hf b hb).1⟩⟩
  done := by
    intro X hP hw hK hc i pins s σ H E I hf st hg
    subst hP hw hK
    obtain ⟨xs, hq, hx⟩ := hg
    obtain ⟨its, rv, p, hz⟩ := I.list hq
    obtain ⟨f0, f1, f2, f3, f4, f5⟩ := hf it (by simp)
    have hl := rv.length
    exact wpAny_pyNext_list_end (I.ok.hd hc) st p.isList (by simp; omega) fun h' eb => ⟨rfl, I.turned (t' := s.toks) (fun b o hb e => eb b o hb e) f0 f1 f3 f4 f5⟩
  self := fun _ _ _ _ _ st h => wpAny_pyIter_listiter st h
theorem turn_tuple {P : Program} {w : World} {K : PySem.W.Frag} {tg : Expr} (a it : Addr) : Turn P w K tg (Itt K a) [it] it (fun i h => h.IsTupleIter it a i) where
  mem := by simp
  obj := fun i h st b hb => by
    have e : b = it := by simpa using hb
    subst e
    obtain ⟨o, e, c, d⟩ := st
    exact ⟨o, e, fun v z => by rw [d] at z; cases z⟩
  keep := fun i h h' st k => st.at fun o e => k it (by simp) o e
  item := by
    intro X hP hw hK hc i pins s σ H E I hf st hg
    subst hP hw hK
    obtain ⟨xs, x, hq, hx⟩ := hg
    obtain ⟨its, rv, p, hz⟩ := I.tuple hq
    obtain ⟨u, hu, ru⟩ := rv.get hx
    obtain ⟨f0, f1, f2, f3, f4, f5⟩ := hf it (by simp)
    refine wpAny_pyNext_tuple_item st (show s.heap.IsTuple a its.toArray from p) (x := u) (by simpa using hu) fun h' st' sb => ?_
    have I1 : Inv X pins σ H { s with heap := h' } := I.turned (t' := s.toks) (fun b o hb e => (sb.2 b hb).trans e) f0 f1 f3 f4 f5
    obtain ⟨o, e, c, d⟩ := id st'
    exact ⟨u, rfl, go_of (s := { s with heap := h' }) e c d (by decide) ⟨x, H, I1, ru, ⟨rfl, fun ys hy => by rw [I.tuple_inj hy hq]; exact hx⟩, st', fun b hb => (hf b hb).1⟩⟩
  done := by
    intro X hP hw hK hc i pins s σ H E I hf st hg
    subst hP hw hK
    obtain ⟨xs, hq, hx⟩ := hg
    obtain ⟨its, rv, p, hz⟩ := I.tuple hq
    obtain ⟨f0, f1, f2, f3, f4, f5⟩ := hf it (by simp)
    have hl := rv.length
    exact wpAny_pyNext_tuple_end (I.ok.hd hc) st (show s.heap.IsTuple a its.toArray from p) (by simp; omega) fun h' eb => ⟨rfl, I.turned (t' := s.toks) (fun b o hb e => eb b o hb e) f0 f1 f3 f4 f5⟩
  self := fun _ _ _ _ _ st h => wpAny_pyIter_tupleiter st h
theorem turn_range {P : Program} {w : World} {K : PySem.W.Frag} {tg : Expr} (it : Addr) (lo : Int) (n : Nat) : Turn P w K tg (Itr lo n) [it] it (fun i h => IsRangeIter h it (lo + (i : Nat) * 1) ((n : Int) - (i : Nat)) 1) where
  mem := by simp
  obj := fun i h st b hb => by
    have e : b = it := by simpa using hb
    subst e
    exact ⟨_, st, fun v z => by
      have z' : Data.fields _ = Data.cell v := z
      cases z'⟩
  keep := fun i h h' st k => k it (by simp) _ st
  item := by
    intro X hP hw hK hc i pins s σ H E I hf st hg
    subst hP hw hK
    obtain ⟨f0, f1, f2, f3, f4, f5⟩ := hf it (by simp)
    have W := Walks.range (prog := X.prog) (w := X.w) (I.ok.hd hc) it lo 1 n
    refine W.item i s _ _ hg st fun v h' tk hv st' kk => ?_
    obtain ⟨t, rfl⟩ := hv
    have I1 : Inv X pins σ H { s with heap := h', toks := tk } := I.turned (fun b o hb e => kk b o (by simpa using hb) e) f0 f1 f3 f4 f5
    refine ⟨_, rfl, go_of (s := { s with heap := h', toks := tk }) (n := "range_iterator") st' rfl rfl (by decide) ⟨.int (lo + i), H, I1, ⟨t, ?_⟩, ⟨rfl, rfl⟩, st', fun b hb => (hf b hb).1⟩⟩
    rw [Int.mul_one]
  done := by
    intro X hP hw hK hc i pins s σ H E I hf st hg
    subst hP hw hK
    obtain ⟨f0, f1, f2, f3, f4, f5⟩ := hf it (by simp)
    exact wpAny_pyNext_range_end (I.ok.hd hc) st (by have : n ≤ i := hg; omega) fun h' eb => ⟨rfl, I.turned (t' := s.toks) (fun b o hb e => eb b o hb e) f0 f1 f3 f4 f5⟩
  self := fun _ _ _ _ _ st h => wpAny_pyIter_rangeiter st h
end L2
namespace L2
open PySem PySem.Spec PyProof.Rows
section
variable {X : Cx} {tg : Expr}
theorem range_it {pins : List (Addr × Obj)} {σ : St} {H : Hp} {s : Shared} {R : It → Hp → Prop} {E : Value → Shared → Prop} {lo hi : Int} {t u v : Tok} {tk : Nat} (I : Inv X pins σ H s) (h1 : -(2 ^ 62) ≤ lo) (h2 : lo < 2 ^ 62) (h3 : -(2 ^ 62) ≤ hi) (h4 : hi < 2 ^ 62)
    (q : R (Itr lo (hi - lo).toNat) H) : wpAny (model X.prog X.w) X.A (pyIter (.ref s.heap.objs.size)) (PIE X pins σ tg R) E { s with heap := s.heap.push { cls := .type "range", data := .fields #[.int lo t, .int hi u, .int 1 v] }, toks := tk } := by
  refine wpAny_pyIter_range (IsRange.new ..) (small_one h1 h2 h3 h4) ?_
  have I1 : Inv X pins σ H { s with heap := s.heap.push { cls := .type "range", data := .fields #[.int lo t, .int hi u, .int 1 v] }, toks := tk } := I.kept fun b o e => Heap.get?_push_of_some _ e
  refine ⟨(s.heap.push { cls := .type "range", data := .fields #[.int lo t, .int hi u, .int 1 v] }).objs.size, [(s.heap.push { cls := .type "range", data := .fields #[.int lo t, .int hi u, .int 1 v] }).objs.size], _, _, H, rfl,
    I1.kept (t' := tk) fun b o e => Heap.get?_push_of_some _ e, turn_range _ lo (hi - lo).toNat, ?_, fun b hb => ?_, q⟩
  · have e1 : lo + ((0 : Nat) : Int) * 1 = lo := by simp
    have e2 : (((hi - lo).toNat : Nat) : Int) - ((0 : Nat) : Int) = Builtin.Range.rangeSize lo hi 1 := by rw [rangeSize_one]; split <;> omega
    show IsRangeIter _ _ (lo + ((0 : Nat) : Int) * 1) ((((hi - lo).toNat : Nat) : Int) - ((0 : Nat) : Int)) 1
    rw [e1, e2]
    exact Heap.get?_push_size _ rfl
  · have e : b = (s.heap.push { cls := .type "range", data := .fields #[.int lo t, .int hi u, .int 1 v] }).objs.size := by simpa using hb
    subst e
    exact I1.fpOk (Nat.le_refl _) (I1.hok.fresh (Nat.le_refl _))
def iRng1 (ta : TA) : TI := fun σ H R => ta σ H fun vs H1 => ∃ j : Int, vs = [.int j] ∧ -(2 ^ 62) ≤ j ∧ j < 2 ^ 62 ∧ R (Itr 0 j.toNat) H1
theorem pi_range1 {a : Expr} {ta : TA} {p pos : Pos} (hg : Gl X "range") (hm : X.mg "range" = none) (ha : PA X [a] ta) (hs : starEach [a] X.env = [(false, eval a X.env)] := by rfl) : PI X tg (.Call (.Name "range" p) [a] [] pos) (iRng1 ta) := by
  intro pins s σ H R I h
  refine Call_ (ld_blt I hg hm boot_range (PyProof.Rows.callWith_type1 (thn (ha pos pins s σ H _ I h) fun us s1 ⟨vs, H1, I1, r1, q1⟩ => ?_) hs rfl))
  obtain ⟨j, e, q1, q2, q⟩ := q1
  subst e
  cases r1 with
  | cons r rr =>
    cases rr
    obtain ⟨t, rfl⟩ := r
    exact call_range_1 (range_it I1 (by omega) (by omega) q1 q2 (by simpa using q))
def tFor (wi : TI) (g : TG) (tb : TS) : TS := fun D σ H => wi σ H fun J H1 => ∃ W : Nat → Nat → St → Hp → Prop, (∃ m, W 0 m σ H1) ∧ ∀ i m σ H, W i m σ H →
  (J.stop i H ∧ D.nx σ H) ∨ (J.go i H ∧ ∃ N : St → Hp → Prop, (∀ σ' H', N σ' H' → ∃ m', m' < m ∧ W (i + 1) m' σ' H') ∧ ∀ x H', J.yld i H x H' → g x σ H' fun σ2 H2 => tb { D with nx := N, ct := N, bk := D.nx } σ2 H2)
def pinsAt (fp : List Addr) (h : Heap) : List (Addr × Obj) := fp.filterMap fun b => (h.get? b).map fun o => (b, o)
theorem mem_pinsAt {fp : List Addr} {h : Heap} {b : Addr} {o : Obj} (hb : b ∈ fp) (e : h.get? b = some o) : (b, o) ∈ pinsAt fp h := List.mem_filterMap.mpr ⟨b, hb, by rw [e]; rfl⟩
theorem of_pinsAt {fp : List Addr} {h : Heap} {p : Addr × Obj} (hp : p ∈ pinsAt fp h) : p.1 ∈ fp ∧ h.get? p.1 = some p.2 := by
  obtain ⟨b, hb, e⟩ := List.mem_filterMap.mp hp
  cases q : h.get? b with
  | none => rw [q] at e; cases e
  | some o =>
    rw [q] at e
    have e' : (b, o) = p := Option.some.inj e
    subst e'
    exact ⟨hb, q⟩
theorem Inv.pinned {pins : List (Addr × Obj)} {σ : St} {H : Hp} {s : Shared} {fp : List Addr} (I : Inv X pins σ H s) (hf : ∀ b ∈ fp, FpOk X pins H b) (ho : ∀ b ∈ fp, ∃ o, s.heap.get? b = some o ∧ ∀ v, o.data ≠ .cell v) : Inv X (pins ++ pinsAt fp s.heap) σ H s :=
  I.pins_of fun p hp => (List.mem_append.mp hp).elim (fun z => I.pin p (List.mem_append_right _ z)) fun z => by
    obtain ⟨hb, e⟩ := of_pinsAt z
    obtain ⟨f0, f1, f2, _⟩ := hf p.1 hb
    obtain ⟨o, e', d⟩ := ho p.1 hb
    rw [e] at e'; cases e'
    exact ⟨e, f0, f1, f2, d⟩
theorem Inv.unpinned {pins pl : List (Addr × Obj)} {σ : St} {H : Hp} {s : Shared} (I : Inv X (pins ++ pl) σ H s) : Inv X pins σ H s := I.pins_of fun p hp => I.pin p (List.mem_append_right _ (List.mem_append_left _ hp))
theorem ps_for {iter : Expr} {body : List Stmt} {wi : TI} {g : TG} {tb : TS} {pos : Pos} (hp : PassesOwn (model X.prog X.w) X.A X.env X.xe) (hc : X.calm = true) (hi : PI X tg iter wi) (hg : PG X tg g) (hb : PSs X body tb)
    (hs : ∀ x, foldedSetIterable iter X.env x = pure x := by intro _; rfl) : PS X (.For tg iter body [] pos) (tFor wi g tb) := by
  intro pins s σ H D I h
  refine wpAny_For (thn (hi pins s σ H _ I h) fun v s1 h1 => thn h1 fun itv s2 h2 => ?_) hs
  obtain ⟨it, fp, tn, J, H2, e, I2, T, st2, f2, W, ⟨m0, w0⟩, turn⟩ := h2
  subst e
  have stat : ∀ {H' : Hp}, (∀ b ∈ fp, H' b = none) → ∀ b ∈ fp, FpOk X pins H' b := fun hn b hb => ⟨hn b hb, (f2 b hb).2⟩
  refine codeAny_forLoop_any (fun n s' => ∃ i σ' H', Inv X pins σ' H' s' ∧ tn i s'.heap ∧ (∀ b ∈ fp, H' b = none) ∧ W i n σ' H') ?_ m0 ⟨0, σ, H2, I2, st2, fun b hb => (f2 b hb).1, w0⟩
  rintro n s3 ⟨i, σ3, H3, I3, st3, fr3, w3⟩
  rcases turn i n σ3 H3 w3 with ⟨stop, qn⟩ | ⟨go, N, hN, step⟩
  · refine wpAny_passesOwn hp (thn (T.done X rfl rfl rfl hc i pins s3 σ3 H3 X.xe I3 (stat fr3) st3 stop) fun r s4 ⟨hr, I4⟩ => ?_)
    subst hr
    exact wpAny_execs_nil ⟨σ3, H3, I4, qn⟩
  · refine wpAny_passesOwn hp (thn (T.item X rfl rfl rfl hc i pins s3 σ3 H3 X.xe I3 (stat fr3) st3 go) fun r s4 ⟨u, hr, h4⟩ => ?_)
    subst hr
    refine wpAny_passesOwn hp (thn h4 fun _ s5 ⟨x, H5, I5, r5, y5, st5, fr5⟩ => ?_)
    have I5' := I5.pinned (stat fr5) (T.obj _ _ st5)
    refine wpAny_passesOwn hp (thn (hg _ s5 σ3 H5 x u _ I5' r5 (step x H5 y5)) fun _ s6 ⟨σ6, H6, I6, q6⟩ => ?_)
    refine wpAny_passesOwn hp (thn (hb _ s6 σ6 H6 _ I6 q6) fun f s7 q7 => ?_)
    have again : ∀ {σ7 : St} {H7 : Hp}, Inv X (pins ++ pinsAt fp s5.heap) σ7 H7 s7 → N σ7 H7 → ∃ m, m < n ∧ ∃ i σ' H', Inv X pins σ' H' s7 ∧ tn i s7.heap ∧ (∀ b ∈ fp, H' b = none) ∧ W i m σ' H' := fun {σ7 H7} I7 n7 => by
      obtain ⟨m', hm, w7⟩ := hN σ7 H7 n7
      refine ⟨m', hm, i + 1, σ7, H7, I7.unpinned, T.keep _ _ _ st5 fun b hb o e => (I7.pin (b, o) (List.mem_append_right _ (List.mem_append_right _ (mem_pinsAt hb e)))).1, fun b hb => ?_, w7⟩
      obtain ⟨o, e, d⟩ := T.obj _ _ st5 b hb
      exact (I7.pin (b, o) (List.mem_append_right _ (List.mem_append_right _ (mem_pinsAt hb e)))).2.1
    cases f with
    | next => obtain ⟨σ7, H7, I7, n7⟩ := q7; exact again I7 n7
    | cont => obtain ⟨σ7, H7, I7, n7⟩ := q7; exact again I7 n7
    | brk => obtain ⟨σ7, H7, I7, q7⟩ := q7; exact ⟨σ7, H7, I7.unpinned, q7⟩
    | ret v => obtain ⟨x7, σ7, H7, I7, r7, q7⟩ := q7; exact ⟨x7, σ7, H7, I7.unpinned, r7, q7⟩
end
end L2
namespace L2
open PySem PySem.Spec PyProof.Rows
abbrev R2 := V → V → Hp → VK → Prop
def OpR (X : Cx) (f : Value → Value → Sem Value) (r : R2) : Prop :=
  ∀ (pins : List (Addr × Obj)) (s : Shared) (σ : St) (H : Hp) (x y : V) (v u : Value) (Q : VK), Inv X pins σ H s → RelV x v → RelV y u → r x y H Q →
    wpAny (model X.prog X.w) X.A (f v u) (EP X pins σ Q) X.xe s
def UnR (X : Cx) (f : Value → Sem Value) (r : V → Hp → VK → Prop) : Prop :=
  ∀ (pins : List (Addr × Obj)) (s : Shared) (σ : St) (H : Hp) (x : V) (v : Value) (Q : VK), Inv X pins σ H s → RelV x v → r x H Q →
    wpAny (model X.prog X.w) X.A (f v) (EP X pins σ Q) X.xe s
def CallR (X : Cx) (f : Value) (r : List V → Hp → VK → Prop) : Prop :=
  ∀ (pins : List (Addr × Obj)) (s : Shared) (σ : St) (H : Hp) (xs : List V) (us : List Value) (Q : VK), Inv X pins σ H s → Vals xs us → r xs H Q →
    wpAny (model X.prog X.w) X.A (call f us) (EP X pins σ Q) X.xe s
def TruR (X : Cx) (r : V → Hp → (Bool → Hp → Prop) → Prop) : Prop :=
  ∀ (pins : List (Addr × Obj)) (s : Shared) (σ : St) (H : Hp) (x : V) (v : Value) (Q : Bool → Hp → Prop), Inv X pins σ H s → RelV x v → r x H Q →
    wpAny (model X.prog X.w) X.A (truthy v) (TP X pins σ Q) X.xe s
def tOp (r : R2) (ta tb : TE) : TE := fun σ H Q => ta σ H fun x H1 => tb σ H1 fun y H2 => r x y H2 Q
def tUn (r : V → Hp → VK → Prop) (ta : TE) : TE := fun σ H Q => ta σ H fun x H1 => r x H1 Q
def rI (C : Int → Int → Prop) (g : Int → Int → V) : R2 := fun x y H Q => ∃ i j, x = .int i ∧ y = .int j ∧ C i j ∧ Q (g i j) H
def rI0 (g : Int → Int → V) : R2 := fun x y H Q => ∃ i j, x = .int i ∧ y = .int j ∧ Q (g i j) H
def rU (g : Int → V) : V → Hp → VK → Prop := fun x H Q => ∃ i, x = .int i ∧ Q (g i) H
section
variable {X : Cx} {a b c : Expr} {ta tb tc : TE} {pos : Pos}
theorem binT (ha : PE X a ta) (hb : PE X b tb) {pins : List (Addr × Obj)} {s : Shared} {σ : St} {H : Hp} {R : V → V → Hp → Prop} (I : Inv X pins σ H s)
    (h : ta σ H fun x H1 => tb σ H1 fun y H2 => R x y H2) {Q : Value → Shared → Prop} {f : Value → Value → Sem Value}
    (hf : ∀ v u s2 x y H2, Inv X pins σ H2 s2 → RelV x v → RelV y u → R x y H2 → wpAny (model X.prog X.w) X.A (f v u) Q X.xe s2) :
    wpAny (model X.prog X.w) X.A (eval a X.env) (fun v s₁ => wpAny (model X.prog X.w) X.A (eval b X.env) (fun u s₂ => wpAny (model X.prog X.w) X.A (f v u) Q X.xe s₂) X.xe s₁) X.xe s := by
  refine thn (ha pins s σ H _ I h) fun v s1 ⟨x, H1, I1, r1, q1⟩ => ?_
  refine thn (hb pins s1 σ H1 _ I1 q1) fun u s2 ⟨y, H2, I2, r2, q2⟩ => ?_
  exact hf v u s2 x y H2 I2 r1 r2 q2
theorem pe_op {op : Operator} {r : R2} (ho : OpR X (binaryOp op) r) (ha : PE X a ta) (hb : PE X b tb) : PE X (.BinOp a op b pos) (tOp r ta tb) := by
  intro pins s σ H Q I h
  exact wpAny_BinOp (binT ha hb I h fun v u s2 x y H2 I2 rx ry q => ho pins s2 σ H2 x y v u Q I2 rx ry q)
theorem pe_un {op : UnaryOp} {r : V → Hp → VK → Prop} (ho : UnR X (unaryOp op) r) (ha : PE X a ta) : PE X (.UnaryOp op a pos) (tUn r ta) := by
  intro pins s σ H Q I h
  exact UnaryOp_ (thn (ha pins s σ H _ I h) fun v s1 ⟨x, H1, I1, r1, q1⟩ => ho pins s1 σ H1 x v Q I1 r1 q1)
theorem opI {f : Value → Value → Sem Value} {C : Int → Int → Prop} {g : Int → Int → Int}
    (rule : ∀ (i j : Int) (t u : Tok) (s : Shared) (Q : Value → Shared → Prop) (E : Value → Shared → Prop), C i j → Q (.int (g i j) s.toks) { s with toks := s.toks + 1 } → wpAny (model X.prog X.w) X.A (f (.int i t) (.int j u)) Q E s) :
    OpR X f (rI C fun i j => .int (g i j)) := by
  intro pins s σ H x y v u Q I rx ry h
  obtain ⟨i, j, rfl, rfl, hc, q⟩ := h
  obtain ⟨t, rfl⟩ := rx
  obtain ⟨t', rfl⟩ := ry
  exact rule i j t t' s _ _ hc ⟨.int (g i j), H, I.tok _, ⟨_, rfl⟩, q⟩
theorem opI0 {f : Value → Value → Sem Value} {g : Int → Int → Int}
    (rule : ∀ (i j : Int) (t u : Tok) (s : Shared) (Q : Value → Shared → Prop) (E : Value → Shared → Prop), Q (.int (g i j) s.toks) { s with toks := s.toks + 1 } → wpAny (model X.prog X.w) X.A (f (.int i t) (.int j u)) Q E s) :
    OpR X f (rI0 fun i j => .int (g i j)) := by
  intro pins s σ H x y v u Q I rx ry h
  obtain ⟨i, j, rfl, rfl, q⟩ := h
  obtain ⟨t, rfl⟩ := rx
  obtain ⟨t', rfl⟩ := ry
  exact rule i j t t' s _ _ ⟨.int (g i j), H, I.tok _, ⟨_, rfl⟩, q⟩
theorem opB0 {f : Value → Value → Sem Value} {g : Int → Int → Bool}
    (rule : ∀ (i j : Int) (t u : Tok) (s : Shared) (Q : Value → Shared → Prop) (E : Value → Shared → Prop), Q (.bool (g i j)) s → wpAny (model X.prog X.w) X.A (f (.int i t) (.int j u)) Q E s) :
    OpR X f (rI0 fun i j => .bl (g i j)) := by
  intro pins s σ H x y v u Q I rx ry h
  obtain ⟨i, j, rfl, rfl, q⟩ := h
  obtain ⟨t, rfl⟩ := rx
  obtain ⟨t', rfl⟩ := ry
  exact rule i j t t' s _ _ ⟨.bl (g i j), H, I, rfl, q⟩
def CPow (i j : Int) : Prop := 0 ≤ j ∧ j ≤ 1000000 ∧ i.natAbs < 2 ^ 64
def CMul (i j : Int) : Prop := (-(2 ^ 64) < i ∧ i < 2 ^ 64) ∨ (-(2 ^ 64) < j ∧ j < 2 ^ 64)
theorem CMul.ok {i j : Int} (h : CMul i j) : IntMulOk i j := by
  rcases h with ⟨h1, h2⟩ | ⟨h1, h2⟩
  · exact .of_left (intBits_le_64 h1 h2)
  · exact .of_right (intBits_le_64 h1 h2)
theorem op_add : OpR X (binaryOp .Add) (rI0 fun i j => .int (i + j)) := opI0 fun _ _ _ _ _ _ _ q => add_int q
theorem op_sub : OpR X (binaryOp .Sub) (rI0 fun i j => .int (i - j)) := opI0 fun _ _ _ _ _ _ _ q => sub_int q
theorem op_modN : OpR X (binaryOp .Mod) (rI (fun _ j => j ≠ 0) fun i j => .int (i.fmod j)) := opI fun _ _ _ _ _ _ _ hc q => mod_int' hc q
theorem op_pow : OpR X (binaryOp .Pow) (rI CPow fun i j => .int (i ^ j.toNat)) := opI fun _ _ _ _ _ _ _ hc q => pow_int_small hc.1 hc.2.1 hc.2.2 q
theorem unI {f : Value → Sem Value} {g : Int → Int}
    (rule : ∀ (i : Int) (t : Tok) (s : Shared) (Q : Value → Shared → Prop) (E : Value → Shared → Prop), Q (.int (g i) s.toks) { s with toks := s.toks + 1 } → wpAny (model X.prog X.w) X.A (f (.int i t)) Q E s) :
    UnR X f (rU fun i => .int (g i)) := by
  intro pins s σ H x v Q I rx h
  obtain ⟨i, rfl, q⟩ := h
  obtain ⟨t, rfl⟩ := rx
  exact rule i t s _ _ ⟨.int (g i), H, I.tok _, ⟨_, rfl⟩, q⟩
theorem un_neg : UnR X (unaryOp .USub) (rU fun i => .int (-i)) := unI fun _ _ _ _ _ q => neg_int q
end
section
variable {X : Cx} {a b c : Expr} {ta tb tc : TE} {pos : Pos}
theorem fin_bl {pins : List (Addr × Obj)} {σ : St} {H : Hp} {s : Shared} {Q : VK} {k k' : Bool} (I : Inv X pins σ H s) (q : Q (.bl k) H) (e : k = k') : EP X pins σ Q (.bool k') s := by
  subst e
  exact ⟨.bl k, H, I, rfl, q⟩
theorem op_lt : OpR X (compareOp .Lt) (rI0 fun i j => .bl (decide (i < j))) := opB0 fun _ _ _ _ _ _ _ q => lt_int q
theorem op_le : OpR X (compareOp .LtE) (rI0 fun i j => .bl (decide (i ≤ j))) := opB0 fun _ _ _ _ _ _ _ q => le_int q
theorem op_gt : OpR X (compareOp .Gt) (rI0 fun i j => .bl (decide (j < i))) := opB0 fun _ _ _ _ _ _ _ q => gt_int q
theorem op_ge : OpR X (compareOp .GtE) (rI0 fun i j => .bl (decide (j ≤ i))) := opB0 fun _ _ _ _ _ _ _ q => ge_int q
theorem op_isN : OpR X (compareOp .Is) (fun x y H Q => y = .non ∧ Q (.bl (decide (x = .non))) H) := by
  intro pins s σ H x y v u Q I rx ry h
  obtain ⟨rfl, q⟩ := h
  cases ry
  refine is_none_gen (fin_bl I q ?_)
  cases x <;> first
    | (cases rx; rfl)
    | (obtain ⟨t, rfl⟩ := rx; rfl)
theorem OpR.or {f : Value → Value → Sem Value} {r r' : R2} (h : OpR X f r) (h' : OpR X f r') : OpR X f (fun x y H Q => r x y H Q ∨ r' x y H Q) := by
  intro pins s σ H x y v u Q I rx ry q
  rcases q with q | q
  · exact h pins s σ H x y v u Q I rx ry q
  · exact h' pins s σ H x y v u Q I rx ry q
theorem nomark (b : Expr) {op : CmpOp} (h : op ≠ .In := by decide) (h2 : op ≠ .NotIn := by decide) : behindInMarks op b = false := by
  have e1 : (op == CmpOp.In) = false := by cases op <;> first | rfl | exact absurd rfl h
  have e2 : (op == CmpOp.NotIn) = false := by cases op <;> first | rfl | exact absurd rfl h2
  cases b <;> simp [behindInMarks, e1, e2]
theorem pe_cmpR {op : CmpOp} {r : R2} (ho : OpR X (compareOp op) r) (ha : PE X a ta) (hb : PE X b tb) (hm : behindInMarks op b = false) : PE X (.Compare a [op] [b] pos) (tOp r ta tb) := by
  intro pins s σ H Q I h
  exact wpAny_Compare1 (binT ha hb I h fun v u s2 x y H2 I2 rx ry q => ho pins s2 σ H2 x y v u Q I2 rx ry q) hm
def tTest (t : TE) : TT := fun σ H Q => t σ H fun x H' => ∃ k, x = .bl k ∧ Q k H'
theorem pt_cmpR {op : CmpOp} {r : R2} (ho : OpR X (compareOp op) r) (ha : PE X a ta) (hb : PE X b tb) (hm : behindInMarks op b = false) : PT X (.Compare a [op] [b] pos) (tTest (tOp r ta tb)) := by
  intro pins s σ H Q I h
  refine wpAny_isTrue_Compare1 (thn (ha pins s σ H _ I h) fun v s1 ⟨x, H1, I1, r1, q1⟩ => thn (hb pins s1 σ H1 _ I1 q1) fun u s2 ⟨y, H2, I2, r2, q2⟩ =>
    thn (ho pins s2 σ H2 x y v u _ I2 r1 r2 q2) fun c s3 ⟨z, H3, I3, r3, k, e, q3⟩ => ?_) hm
  subst e
  cases r3
  exact wpAny_truthy_bool ⟨H3, I3, q3⟩
def tChain (r r' : R2) (ta tb tc : TE) : TE := fun σ H Q => ta σ H fun x H1 => tb σ H1 fun y H2 => r x y H2 fun z H3 => ∃ k, z = .bl k ∧
  (if k = true then tc σ H3 fun w' H4 => r' y w' H4 Q else Q (.bl false) H3)
theorem pe_chain {op op' : CmpOp} {r r' : R2} (ho : OpR X (compareOp op) r) (ho' : OpR X (compareOp op') r') (ha : PE X a ta) (hb : PE X b tb) (hc : PE X c tc)
    (hm : lastMarks [op, op'] [b, c] = false := by with_unfolding_all rfl) : PE X (.Compare a [op, op'] [b, c] pos) (tChain r r' ta tb tc) := by
  intro pins s σ H Q I h
  refine Compare_chain (thn (ha pins s σ H _ I h) fun v s1 ⟨x, H1, I1, r1, q1⟩ => chain_link (thn (hb pins s1 σ H1 _ I1 q1) fun u s2 ⟨y, H2, I2, r2, q2⟩ =>
    thn (ho pins s2 σ H2 x y v u _ I2 r1 r2 q2) fun d s3 ⟨z, H3, I3, r3, k, e, q3⟩ => ?_)) hm
  subst e
  cases r3
  refine wpAny_truthy_bool ?_
  cases k with
  | false => exact ite_ff ⟨.bl false, H3, I3, rfl, q3⟩
  | true => exact ite_tt (chain_last (thn (hc pins s3 σ H3 _ I3 q3) fun w' s4 ⟨z', H4, I4, r4, q4⟩ => ho' pins s4 σ H4 y z' u w' Q I4 r2 r4 q4))
def TruV (K : PySem.W.Frag) (x : V) (H : Hp) (k : Bool) : Prop :=
  match x with
  | .non => k = false
  | .bl b => k = b
  | .int i => k = (i != 0)
  | .str y => y.length ≤ sizeLine ∧ k = ((y.length : Int) != 0)
  | .byt y => y.size ≤ sizeLine ∧ k = ((y.size : Int) != 0)
  | .ref p => (∃ xs, SqL K H p xs ∧ k = !xs.isEmpty) ∨ (∃ xs, SqT K H p xs ∧ k = !xs.isEmpty) ∨ ∃ kvs, H p = some (.dK kvs) ∧ k = !kvs.isEmpty
  | _ => False
theorem isEmpty_kv {κ : Type} {kvs : List (κ × V)} {vs : List (κ × Value)} (r : KV kvs vs) : (!vs.isEmpty) = !kvs.isEmpty := by
  cases r <;> rfl
theorem isEmpty_of {xs : List V} {its : List Value} (r : Vals xs its) : (!its.toArray.isEmpty) = !xs.isEmpty := by
  cases r <;> simp
theorem line63 : (sizeLine : Nat) < 2 ^ 63 := by rw [sizeLine_eq]; decide
theorem tru_ok : TruR X (fun x H Q => ∃ k, TruV X.K x H k ∧ Q k H) := by
  intro pins s σ H x v Q I rx h
  obtain ⟨k, e, q⟩ := h
  have hl := line63
  have hs : sizeLine = 16777216 := sizeLine_eq
  cases x with
  | non =>
    cases rx
    have e' : k = false := e
    subst e'
    exact truthy_none ⟨H, I, q⟩
  | bl b =>
    cases rx
    have e' : k = b := e
    subst e'
    exact wpAny_truthy_bool ⟨H, I, q⟩
  | int i =>
    obtain ⟨t, rfl⟩ := rx
    have e' : k = (i != 0) := e
    subst e'
    exact PySem.P.truthy_int ⟨H, I, q⟩
  | str y =>
    obtain ⟨t, rfl⟩ := rx
    obtain ⟨hy, e'⟩ : y.length ≤ sizeLine ∧ k = ((y.length : Int) != 0) := e
    subst e'
    exact PySem.P.truthy_str (by omega) ⟨H, I.tok _, q⟩
  | byt y =>
    obtain ⟨t, rfl⟩ := rx
    obtain ⟨hy, e'⟩ : y.size ≤ sizeLine ∧ k = ((y.size : Int) != 0) := e
    subst e'
    exact PySem.W.truthy_bytes (by omega) ⟨H, I.tok _, q⟩
  | ref p =>
    cases rx
    have e' : (∃ xs, SqL X.K H p xs ∧ k = !xs.isEmpty) ∨ (∃ xs, SqT X.K H p xs ∧ k = !xs.isEmpty) ∨ ∃ kvs, H p = some (.dK kvs) ∧ k = !kvs.isEmpty := e
    rcases e' with ⟨xs, hx, e'⟩ | ⟨xs, hx, e'⟩ | ⟨kvs, hx, e'⟩
    · subst e'
      obtain ⟨its, r, pl, hz⟩ := I.list hx
      have hlen := r.length
      exact wpAny_truthy_list pl.isList (by simp only [List.size_toArray]; omega) ⟨H, I.tok _, by rw [isEmpty_of r]; exact q⟩
    · subst e'
      obtain ⟨its, r, pl, hz⟩ := I.tuple hx
      have hlen := r.length
      exact truthy_tuple pl (by simp only [List.size_toArray]; omega) ⟨H, I.tok _, by rw [isEmpty_of r]; exact q⟩
    · subst e'
      obtain ⟨hz, hS, vs, r, m⟩ : kvs.length ≤ sizeLine ∧ (p == sysModules) = false ∧ ∃ vs, KV kvs vs ∧ s.heap.DictOf (mixKind X.prog X.w) p vs := I.hok p _ hx
      have hlen : kvs.length = vs.length := Paired.length r
      exact wpAny_truthy_dict hS m (by omega) ⟨H, I.tok _, by rw [isEmpty_kv r]; exact q⟩
  | _ => exact (show False from e).elim
theorem pt_truth (ha : PE X a ta) (he : ∀ whole, isTrue a X.env whole = (do let v ← whole; standAt a.pos; holding [v] (truthy v))) :
    PT X a (fun σ H Q => ta σ H fun x H' => ∃ k, TruV X.K x H' k ∧ Q k H') := by
  intro pins s σ H Q I h
  exact isTrue_plain (thn (ha pins s σ H _ I h) fun v s1 ⟨x, H1, I1, r1, q1⟩ => tru_ok pins s1 σ H1 x v Q I1 r1 q1) (he _)
theorem op_add_str : OpR X (binaryOp .Add) (fun x y H Q => ∃ i j, x = .str i ∧ y = .str j ∧ i.length + j.length ≤ sizeLine ∧ Q (.str (i ++ j)) H) := by
  intro pins s σ H x y v u Q I rx ry h
  obtain ⟨i, j, rfl, rfl, hz, q⟩ := h
  obtain ⟨t, rfl⟩ := rx
  obtain ⟨t', rfl⟩ := ry
  exact add_str (fun t' tk => ⟨.str (i ++ j), H, I.tok _, ⟨_, rfl⟩, q⟩) hz
theorem vals1 {x : V} {us : List Value} (r : Vals [x] us) : ∃ u, us = [u] ∧ RelV x u := by
  cases r with
  | cons r1 r2 => cases r2; exact ⟨_, rfl, r1⟩
theorem vals2 {x y : V} {us : List Value} (r : Vals [x, y] us) : ∃ u w', us = [u, w'] ∧ RelV x u ∧ RelV y w' := by
  cases r with
  | cons r1 r2 =>
    cases r2 with
    | cons r3 r4 => cases r4; exact ⟨_, _, rfl, r1, r3⟩
theorem call_abs : CallR X (.builtin "abs") (fun xs H Q => ∃ i, xs = [.int i] ∧ Q (.int (if i < 0 then -i else i)) H) := by
  intro pins s σ H xs us Q I r h
  obtain ⟨i, rfl, q⟩ := h
  obtain ⟨u, rfl, t, rfl⟩ := vals1 r
  exact call_abs_int fun u tk => ⟨.int (if i < 0 then -i else i), H, I.tok _, ⟨_, rfl⟩, q⟩
end
end L2
namespace L2
open PySem PySem.Spec PyProof.Rows
structure ObjM (h : Heap) (x dx C : Addr) (mA : Str → Option Value) : Prop where
  obj : h.get? x = some (PySem.W.instObj C dx)
  ns : h.Ns1 dx mA
  ne : dx ≠ x
theorem lookIn_ns {h : Heap} {dx : Addr} {mA : Str → Option Value} (n : h.Ns1 dx mA) : ∃ od, h.get? dx = some od ∧ ∀ name, PySem.W.lookIn name od = some (mA name) := by
  obtain ⟨o, es, ep, ho, hd, hk, _, hm⟩ := n
  refine ⟨o, ho, fun name => ?_⟩
  have e := hm name
  unfold nsFind findBy at e
  rw [← Array.find?_toList] at e
  unfold PySem.W.lookIn
  rw [hd]
  dsimp only
  split
  · rename_i y q
    rw [q] at e
    exact congrArg some e
  · rename_i q
    rw [q] at e
    have a : es.toList.any (·.refKey) = false := by
      rw [List.any_eq_false]
      intro y hy
      obtain ⟨z, t, hkey⟩ := hk y (Array.mem_toList_iff.mp hy)
      simp [DictEntry.refKey, hkey]
    have a' : ¬ es.toList.any (·.refKey) = true := by rw [a]; exact Bool.false_ne_true
    rw [if_neg a']
    exact congrArg some e
theorem ObjM.look {h : Heap} {x dx C : Addr} {mA : Str → Option Value} (I : ObjM h x dx C mA) : ∃ od, PySem.W.InstAt h x (PySem.W.instObj C dx) C (some od) ∧ ∀ name, PySem.W.lookIn name od = some (mA name) :=
  let ⟨od, ho, hl⟩ := lookIn_ns I.ns
  ⟨od, ⟨I.obj, rfl, rfl, ho⟩, hl⟩
section
variable {prog : Program} {w : World} {A : Around} {E : Value → Shared → Prop} {s : Shared} {K : PySem.W.Frag} {x dx C f : Addr} {mA : Str → Option Value} {name : Str} {v : Value}
end
section
variable {P : Program} {w : World} {H H' : Hp} {h h' : Heap} {a C dx : Addr} {fs fs' : List (Str × V)}
end
structure Cls (K : PySem.W.Frag) (C : Addr) : Prop where
  pg : PySem.W.plainGet K C Str.empty = true
  hd : PySem.W.hasDictIn K C = true
  po : PySem.W.plainOver K C = true
  sa : PySem.W.findIn K (.ref C) "__setattr__" = some (some (.builtin "object.__setattr__"))
theorem Cls.get {K : PySem.W.Frag} {C : Addr} (c : Cls K C) (f : Str) : PySem.W.plainGet K C f = true := c.pg
structure Con (K : PySem.W.Frag) (C : Addr) (f : Str) (v : V) (u : Value) : Prop where
  at_ : PySem.W.findIn K (.ref C) f = some (some u)
  rel : RelV v u
  get : PySem.W.specialIn K u "__get__" = some none
  cp : PySem.W.copiedNames.contains f = false
structure Meth (K : PySem.W.Frag) (C : Addr) (m : Str) (f : Addr) : Prop where
  at_ : PySem.W.findIn K (.ref C) m = some (some (.ref f))
  fn : PySem.W.isFn K (.ref f) = true
  kp : PySem.W.keepIn K (.ref f) = true
section
variable {X : Cx} {pins : List (Addr × Obj)} {σ : St} {H : Hp} {s : Shared} {a C dx : Addr} {fs : List (Str × V)} {f : Str} {v : V} {A : Around} {E : Value → Shared → Prop}
end
section
variable {X : Cx} {o e value : Expr} {f : Str} {pos pos' tpos : Pos} {ta tv : TE}
end
section
variable {X : Cx} {pins : List (Addr × Obj)} {σ : St} {H : Hp} {s : Shared} {A : Around} {E : Value → Shared → Prop} {Q : Value → Shared → Prop} {c : Value} {b : Bool}
inductive TyOf (K : PySem.W.Frag) (H : Hp) : V → Value → Prop where
  | non : TyOf K H .non (.type "NoneType")
  | bl (x : Bool) : TyOf K H (.bl x) (.type "bool")
  | int (i : Int) : TyOf K H (.int i) (.type "int")
  | str (x : Str) : TyOf K H (.str x) (.type "str")
  | flt (x : UInt64) : TyOf K H (.flt x) (.type "float")
  | lst {a : Addr} {xs : List V} (e : H a = some (.lst xs)) : TyOf K H (.ref a) (.type "list")
  | frz {a : Addr} {o : Obj} {xs : List V} (e : H a = some (.frz o (.lst xs))) : TyOf K H (.ref a) (.type "list")
  | tup {a : Addr} {xs : List V} (e : H a = some (.tup xs)) : TyOf K H (.ref a) (.type "tuple")
  | dK {a : Addr} {kvs : List (Key × V)} (e : H a = some (.dK kvs)) : TyOf K H (.ref a) (.type "dict")
  | dT {a : Addr} {kvs : List (List Key × V)} (e : H a = some (.dT kvs)) : TyOf K H (.ref a) (.type "dict")
  | ins {a C dx : Addr} {fs : List (Str × V)} (e : H a = some (.ins C dx fs)) (cl : Cls K C) (ha : PySem.W.findIn K (.ref C) "__class__" = some (some (.builtin "object.__class__")))
      (hn : PySem.W.specialIn K (.builtin "object.__class__") "__get__" = some (some (.builtin "getset_descriptor.__get__"))) (htk : PySem.W.takesIn K (.builtin "object.__class__") = some true)
      (hm : PySem.W.mroIn K C (.type "object") = some true) : TyOf K H (.ref a) (.ref C)
end
end L2
namespace L2
open PySem PySem.Spec PyProof.Rows
structure Room (k : Nat) (A : Around) : Prop where
  hd : A.handled = none
  dp : A.depth + 3 * k + 5 < recursionLimit
  un : A.units + 16 * k + 200 < cLine
theorem Room.mono {j k : Nat} {A : Around} (r : Room k A) (h : j ≤ k) : Room j A := ⟨r.hd, by have := r.dp; omega, by have := r.un; omega⟩
theorem Room.deeper {k : Nat} {A : Around} (r : Room (k + 1) A) (env : Env) : Room k (A.deeper env) :=
  ⟨r.hd, by have := r.dp; show A.depth + 1 + 3 * k + 5 < _; omega, by have := r.un; show A.units + 3 + 16 * k + 200 < _; omega⟩
theorem Room.in1 {k : Nat} {A : Around} (r : Room (k + 1) A) : Room k A.in1 :=
  ⟨r.hd, by have := r.dp; show A.depth + 3 * k + 5 < _; omega, by have := r.un; show A.units + 1 + 16 * k + 200 < _; omega⟩
theorem Room.depth {k : Nat} {A : Around} (r : Room k A) : A.depth < recursionLimit := by have := r.dp; omega
theorem Room.units {k : Nat} {A : Around} (r : Room k A) : A.units + 64 < cLine := by have := r.un; omega
def tNil : TA := fun _ H Q => Q [] H
def tCons (ta : TE) (tr : TA) : TA := fun σ H Q => ta σ H fun x H1 => tr σ H1 fun xs H2 => Q (x :: xs) H2
section
variable {X : Cx} {e : Expr} {es : List Expr} {te : TE} {t : TA} {pos : Pos}
theorem pa_nil : PA X [] tNil := fun _ _ _ _ H Q I h => Calls.spliced_nil ⟨[], H, I, .nil, h⟩
theorem pa_cons (ha : PE X e te) (hr : PA X es t) (hs : starEach (e :: es) X.env = (false, eval e X.env) :: starEach es X.env := by rfl) : PA X (e :: es) (tCons te t) := by
  intro pos pins s σ H Q I h
  rw [hs]
  show wpAny _ _ (spliced ((false, eval e X.env) :: backTo pos (starEach es X.env))) _ _ s
  refine Calls.spliced_cons (thn (ha pins s σ H _ I h) fun u s1 ⟨x, H1, I1, r1, q1⟩ => ?_)
  exact thn (hr pos pins s1 σ H1 _ I1 q1) fun us s2 ⟨xs, H2, I2, r2, q2⟩ => ⟨x :: xs, H2, I2, .cons r1 r2, q2⟩
def tTup (t : TA) : TE := fun σ H Q => t σ H fun xs H1 => xs.length ≤ sizeLine ∧ ∀ p, H1 p = none → Q (.ref p) (upd H1 p (.tup xs))
def tLst (t : TA) : TE := fun σ H Q => t σ H fun xs H1 => xs.length ≤ sizeLine ∧ ∀ p, H1 p = none → Q (.ref p) (upd H1 p (.lst xs))
theorem pe_tup {x1} (h : PA X es t) : PE X (.Tuple es x1 pos) (tTup t) := by
  intro pins s σ H Q I hq
  refine wpAny_Tuple_spliced (thn (h pos pins s σ H _ I hq) fun us s1 ⟨xs, H1, I1, r, z, q⟩ => ⟨by rw [← r.length]; exact z, ?_⟩)
  have hf : H1 s1.heap.objs.size = none := I1.hok.fresh (Nat.le_refl _)
  refine ⟨.ref s1.heap.objs.size, upd H1 s1.heap.objs.size (.tup xs), I1.laid (t' := s1.toks) (fun b u e => Heap.get?_push_of_some _ e) (Nat.le_refl _) ?_, rfl, q _ hf⟩
  exact ⟨z, us, r, ⟨_, Heap.get?_push_size _ rfl, rfl, _, rfl⟩⟩
theorem pe_lst (h : PA X es t) : PE X (.List es pos) (tLst t) := by
  intro pins s σ H Q I hq
  refine wpAny_List_spliced (thn (h pos pins s σ H _ I hq) fun us s1 ⟨xs, H1, I1, r, z, q⟩ => ⟨by rw [← r.length]; exact z, ?_⟩)
  have hf : H1 s1.heap.objs.size = none := I1.hok.fresh (Nat.le_refl _)
  refine ⟨.ref s1.heap.objs.size, upd H1 s1.heap.objs.size (.lst xs), I1.laid (t' := s1.toks) (fun b u e => Heap.get?_push_of_some _ e) (Nat.le_refl _) ?_, rfl, q _ hf⟩
  exact ⟨z, us, 0, r, Heap.get?_push_size _ rfl⟩
end
abbrev Sp := List V → Hp → VK → XK → Prop
abbrev CXT := List Env → Hp → Shared → XK → Value → Shared → Prop
structure Env0 (P : Program) (w : World) (K : PySem.W.Frag) (mg : Str → Option Value) (base : Heap) (A : Around) (outer : List Env) (s : Shared) (H : Hp) : Prop where
  frames : A.frames = some outer
  mod : Mod K mg base
  bs : ∀ b o, base.get? b = some o → s.heap.get? b = some o ∧ H b = none
  bsz : base.objs.size ≤ s.heap.objs.size
  funs : s.heap.FunFrames base outer
  frf : ∀ b ∈ frs outer, H b = none
  hok : HOk P w H s.heap
  bare : AllBare s.gens
def CE (outer : List Env) (P : Program) (w : World) (H : Hp) (s : Shared) (Q : VK) (u : Value) (s' : Shared) : Prop :=
  ∃ v H', s'.os = s.os ∧ AllBare s'.gens ∧ Un (frs outer) [] H H' s.heap s'.heap ∧ HOk P w H' s'.heap ∧ RelV v u ∧ Q v H'
def CR (CX : CXT) (outer : List Env) (P : Program) (w : World) (H : Hp) (s : Shared) (Q : VK) (E : XK) (r : Result) (s' : Shared) : Prop :=
  match r with
  | .ok (.ret u) => CE outer P w H s Q u s'
  | .ok _ => False
  | .error e => CX outer H s E e s'
structure FnOk (P : Program) (w : World) (K : PySem.W.Frag) (mg : Str → Option Value) (base : Heap) (CX : CXT) (k : Nat) (f : Addr) (fd : FuncData) (ps : List Str) (sp : Sp) : Prop where
  len : ∀ vs H Q E, sp vs H Q E → vs.length = ps.length
  run : ∀ (A : Around) (outer : List Env) (s : Shared) (H : Hp) (args : Args) (us : List Value) (vs : List V) (Q : VK) (E : XK), Room k A → Env0 P w K mg base A outer s H → BindsTo s fd args (ps.zip us) → Vals vs us → sp vs H Q E →
    codeAny (model P w) A (.call (.ref f) args) (CR CX outer P w H s Q E) s
theorem FnOk.mono {P : Program} {w : World} {K : PySem.W.Frag} {mg : Str → Option Value} {base : Heap} {CX : CXT} {j k : Nat} {f : Addr} {fd : FuncData} {ps : List Str} {sp : Sp} (F : FnOk P w K mg base CX j f fd ps sp) (h : j ≤ k) :
    FnOk P w K mg base CX k f fd ps sp := ⟨F.len, fun A outer s H args us vs Q E hr => F.run A outer s H args us vs Q E (hr.mono h)⟩
theorem FnOk.imp {P : Program} {w : World} {K : PySem.W.Frag} {mg : Str → Option Value} {base : Heap} {CX : CXT} {k : Nat} {f : Addr} {fd : FuncData} {ps : List Str} {sp sp' : Sp} (F : FnOk P w K mg base CX k f fd ps sp)
    (h : ∀ vs H Q E, sp' vs H Q E → sp vs H Q E) : FnOk P w K mg base CX k f fd ps sp' :=
  ⟨fun vs H Q E q => F.len vs H Q E (h _ _ _ _ q), fun A outer s H args us vs Q E hr he hb hv hs => F.run A outer s H args us vs Q E hr he hb hv (h _ _ _ _ hs)⟩
theorem Env0.in1 {P : Program} {w : World} {K : PySem.W.Frag} {mg : Str → Option Value} {base : Heap} {A : Around} {outer : List Env} {s : Shared} {H : Hp} (e : Env0 P w K mg base A outer s H) :
    Env0 P w K mg base A.in1 outer s H := ⟨e.frames, e.mod, e.bs, e.bsz, e.funs, e.frf, e.hok, e.bare⟩
section
variable {X : Cx} {pins : List (Addr × Obj)} {σ : St} {H : Hp} {s s' : Shared}
theorem Inv.env0 (I : Inv X pins σ H s) : Env0 X.prog X.w X.K X.mg X.base X.A X.stack s H :=
  ⟨I.ok.frames, I.ok.mod, I.bs, Nat.le_trans I.ok.bsz I.sz, I.stack, I.stkFree, I.hok, I.bare⟩
theorem Inv.after {Q : VK} {u : Value} (I : Inv X pins σ H s) (h : CE X.stack X.prog X.w H s Q u s') : EP X pins σ Q u s' := by
  obtain ⟨v, H', os, bare, un, hok, r, q⟩ := h
  obtain ⟨hh, g, d, t, os'⟩ := s'
  obtain rfl : os' = s.os := os
  exact ⟨v, H', I.call (h' := hh) (g' := g) (d' := d) (t' := t) (ch := []) un hok bare (fun b z => absurd z (by simp)), r, q⟩
end
def tCall (sp : Sp) (dvs : List V) (E : XK) (t : TA) : TE := fun σ H Q => t σ H fun vs H1 => sp (vs ++ dvs) H1 Q E
def Binds (K : PySem.W.Frag) (fd : FuncData) (ps : List Str) (ds : List Value) : Prop :=
  ∀ (s : Shared) (us : List Value), K.In s.heap → (us ++ ds).length = ps.length → BindsTo s fd ⟨us, []⟩ (ps.zip (us ++ ds))
theorem Binds.all {K : PySem.W.Frag} {fd : FuncData} {ps : List Str} (h : ∀ us : List Value, us.length = ps.length → bindArgs fd ⟨us, []⟩ = pure (ps.zip us)) : Binds K fd ps [] := fun s us _ hl => by
  rw [List.append_nil] at hl ⊢
  exact .of_eq (h us hl)
def Passes (CX : CXT) (X : Cx) (E : XK) : Prop := ∀ (pins : List (Addr × Obj)) (σ : St) (H : Hp) (s : Shared) (e : Value) (s' : Shared), Inv X pins σ H s → CX X.stack H s E e s' → X.xe e s'
section
variable {X : Cx} {CX : CXT} {k : Nat} {f C : Addr} {fd : FuncData} {ps : List Str} {sp : Sp} {dvs : List V} {ds : List Value} {E : XK} {x m : Str} {p pos apos : Pos} {e o : Expr} {es : List Expr} {ta : TE} {t : TA}
theorem run_fn {pins : List (Addr × Obj)} {σ : St} {H : Hp} {s : Shared} {Q : VK} {us : List Value} {vs : List V} (F : FnOk X.prog X.w X.K X.mg X.base CX k f fd ps sp) (hr : Room k X.A) (hb : Binds X.K fd ps ds) (hd : Vals dvs ds) (hx : Passes CX X E)
    (I : Inv X pins σ H s) (r : Vals vs us) (h : sp (vs ++ dvs) H Q E) : wpAny (model X.prog X.w) X.A (call (.ref f) us) (EP X pins σ Q) X.xe s := by
  have r2 : Vals (vs ++ dvs) (us ++ ds) := r.append hd
  have hl : (us ++ ds).length = ps.length := by rw [← r2.length]; exact F.len _ _ _ _ h
  refine wpAny_call (codeAny_mono (F.run X.A X.stack s H ⟨us, []⟩ (us ++ ds) (vs ++ dvs) Q E hr I.env0 (hb s us I.kIn hl) r2 h) fun r s' hq => ?_)
  cases r with
  | error e => exact hx pins σ H s e s' I hq
  | ok fl =>
    cases fl with
    | ret u => exact I.after hq
    | next => exact False.elim hq
    | brk => exact False.elim hq
    | cont => exact False.elim hq
theorem pe_call (F : FnOk X.prog X.w X.K X.mg X.base CX k f fd ps sp) (hr : Room k X.A) (hg : Gl X x) (hm : X.mg x = some (.ref f)) (hk : PySem.W.keepIn X.K (.ref f) = true) (hb : Binds X.K fd ps ds) (hd : Vals dvs ds) (hx : Passes CX X E)
    (ha : PA X (e :: es) t) (hdb : (x == ("__debug__" : Str)) = false := by decide) (he : starEach (e :: es) X.env = (false, eval e X.env) :: starEach es X.env := by rfl) (hpl : (backTo pos (starEach es X.env)).any (·.1) = false := by rfl) :
    PE X (.Call (.Name x p) (e :: es) [] pos) (tCall sp dvs E t) := by
  intro pins s σ H Q I h
  refine wpAny_Call_Name_kw (ld_glob I hg hm ?_ hdb)
  refine PySem.W.callWith_K (h₀ := X.base) I.ok.mod.kin hk (thn (ha pos pins s σ H _ I h) fun us s1 ⟨vs, H1, I1, r, q⟩ => ⟨I1.kIn, ?_⟩) he hpl
  exact run_fn F hr hb hd hx I1 r q
structure Mk (K : PySem.W.Frag) (C f : Addr) : Prop where
  makes : PySem.W.makesIn K C = true
  init : PySem.W.findIn K (.ref C) "__init__" = some (some (.ref f))
  fn : PySem.W.isFn K (.ref f) = true
  kp : PySem.W.keepIn K (.ref C) = true
end
section
variable {X : Cx} {CX : CXT} {k : Nat} {f C : Addr} {fd : FuncData} {ps ks : List Str} {sp : Sp} {E : XK} {x m : Str} {p pos apos kpos : Pos} {e o : Expr} {es : List Expr} {kws : List Keyword} {te ta : TE} {t tk : TA} {nm : Option Str}
structure KBinds (K : PySem.W.Frag) (fd : FuncData) (ps ks : List Str) (g : List Value → List Value → List Value) (gV : List V → List V → List V) : Prop where
  to : ∀ (s : Shared) (us ws : List Value), K.In s.heap → (g us ws).length = ps.length → BindsTo s fd ⟨us, ks.zip ws⟩ (ps.zip (g us ws))
  rel : ∀ {vs : List V} {us : List Value} {zs : List V} {ws : List Value}, Vals vs us → Vals zs ws → Vals (gV vs zs) (g us ws)
variable {g : List Value → List Value → List Value} {gV : List V → List V → List V}
end
structure FnScope (N P : List Str) (sc : Scope) : Prop where
  kind : sc.kind = .function
  co : sc.isCoroutine = false
  gen : sc.isGenerator = false
  nd : N.Nodup
  pre : N.take P.length = P
  par : ∀ x ∈ P, sc.names.lookup x = some .local ∨ sc.names.lookup x = some .cell
  nofree : ∀ y ∈ sc.names, y.2 ≠ .free
theorem bindL_out {kindOf : Str → Option NameKind} {x : Str} : ∀ {binds : List (Str × Value)} {m : Str → Option Value}, (∀ v, (x, v) ∉ binds) → bindL kindOf binds m x = m x
  | [], _, _ => rfl
  | (n, v) :: r, m, h => by
    unfold bindL
    rw [bindL_out fun w hw => h w (List.mem_cons_of_mem _ hw)]
    split
    · have : x ≠ n := by rintro rfl; exact h v List.mem_cons_self
      simp [this]
    · rfl
theorem bindC_out {kindOf : Str → Option NameKind} {x : Str} : ∀ {binds : List (Str × Value)} {m : Str → Option Value}, (∀ v, (x, v) ∉ binds) → bindC kindOf binds m x = m x
  | [], _, _ => rfl
  | (n, v) :: r, m, h => by
    unfold bindC
    rw [bindC_out fun w hw => h w (List.mem_cons_of_mem _ hw)]
    split
    · rfl
    · have : x ≠ n := by rintro rfl; exact h v List.mem_cons_self
      simp [this]
theorem bindL_get {kindOf : Str → Option NameKind} {x : Str} {v : Value} : ∀ {P : List Str} {vs : List Value} {i : Nat} {m : Str → Option Value}, P.Nodup → P[i]? = some x → vs[i]? = some v → kindOf x = some .local →
    bindL kindOf (P.zip vs) m x = some v
  | [], _, _, _, _, h, _, _ => by simp at h
  | _ :: _, [], _, _, _, _, h, _ => by simp at h
  | p :: P, w :: vs, 0, m, nd, h1, h2, hk => by
    simp at h1 h2; subst h1; subst h2
    show bindL kindOf ((p, w) :: P.zip vs) m p = _
    unfold bindL
    rw [bindL_out fun v hv => (List.nodup_cons.mp nd).1 (List.of_mem_zip hv).1, if_pos hk]
    simp
  | p :: P, w :: vs, i + 1, m, nd, h1, h2, hk => by
    show bindL kindOf ((p, w) :: P.zip vs) m x = _
    unfold bindL
    exact bindL_get (i := i) (List.nodup_cons.mp nd).2 (by simpa using h1) (by simpa using h2) hk
theorem bindC_get {kindOf : Str → Option NameKind} {x : Str} {v : Value} : ∀ {P : List Str} {vs : List Value} {i : Nat} {m : Str → Option Value}, P.Nodup → P[i]? = some x → vs[i]? = some v → kindOf x ≠ some .local →
    bindC kindOf (P.zip vs) m x = some v
  | [], _, _, _, _, h, _, _ => by simp at h
  | _ :: _, [], _, _, _, _, h, _ => by simp at h
  | p :: P, w :: vs, 0, m, nd, h1, h2, hk => by
    simp at h1 h2; subst h1; subst h2
    show bindC kindOf ((p, w) :: P.zip vs) m p = _
    unfold bindC
    rw [bindC_out fun v hv => (List.nodup_cons.mp nd).1 (List.of_mem_zip hv).1, if_neg hk]
    simp
  | p :: P, w :: vs, i + 1, m, nd, h1, h2, hk => by
    show bindC kindOf ((p, w) :: P.zip vs) m x = _
    unfold bindC
    exact bindC_get (i := i) (List.nodup_cons.mp nd).2 (by simpa using h1) (by simpa using h2) hk
def start (N : List Str) (vs : List V) : St := vs.map some ++ List.replicate (N.length - vs.length) none
def cxOf (CX : CXT) (P : Program) (w : World) (K : PySem.W.Frag) (mg : Str → Option Value) (base : Heap) (N : List Str) (qual : Str) (scope : Scope) (f : Addr) (cd : Value) (A : Around) (outer : List Env) (s : Shared) (H : Hp) (E : XK) : Cx where
  prog := P
  w := w
  K := K
  mg := mg
  base := base
  A := A.deeper (envOfC qual scope s.heap.objs.size f cd)
  N := N
  s₀ := s
  H₀ := H
  env := envOfC qual scope s.heap.objs.size f cd
  outer := outer
  stack := envOfC qual scope s.heap.objs.size f cd :: outer
  ex := []
  calm := true
  fn := fun _ => true
  pn := []
  xe := fun e s' => wpAny (model P w) (A.deeper (envOfC qual scope s.heap.objs.size f cd)) (leaving (envOfC qual scope s.heap.objs.size f cd) e) (fun _ s'' => CX outer H s E e s'') (fun e' s'' => CX outer H s E e' s'') s'
theorem cell_has {sc : Scope} {n : Nat} {x : Str} (h : sc.names.lookup x = some .cell) : ∃ c, (cellsFrom n sc.names []).lookup x = some c := by
  have q := PySem.W.cellsFrom_some sc.names n [] (.inl h)
  exact Option.isSome_iff_exists.mp q
theorem inv_start {CX : CXT} {P : Program} {w : World} {K : PySem.W.Frag} {mg : Str → Option Value} {base : Heap} {N ps : List Str} {qual : Str} {scope : Scope} {f : Addr} {cd : Value} {A : Around} {outer : List Env} {s s1 : Shared} {H : Hp} {E : XK} {us : List Value} {vs : List V}
    (S : FnScope N ps scope) (hd : A.handled = none) (e0 : Env0 P w K mg base A outer s H) (hl : vs.length = ps.length) (r : Vals vs us)
    (x : InCallC s s.heap.objs.size (bindL (envOfC qual scope s.heap.objs.size f cd).kindOf (ps.zip us) fun _ => none) (cellsFrom (s.heap.objs.size + 1) scope.names []) (bindC (envOfC qual scope s.heap.objs.size f cd).kindOf (ps.zip us) fun _ => none) s1) :
    Inv (cxOf CX P w K mg base N qual scope f cd A outer s H E) [] (start N vs) H s1 := by
  have hpl : ps.length ≤ N.length := by have := congrArg List.length S.pre; rw [List.length_take] at this; omega
  obtain ⟨h1, tk, rfl, hk⟩ := x.done
  have noA : ∀ b : Addr, b ∉ (cxOf CX P w K mg base N qual scope f cd A outer s H E).ex := fun b z => absurd (show b ∈ ([] : List Addr) from z) (by simp)
  refine ⟨⟨e0.mod, S.kind, rfl, rfl, Nat.le_refl _, fun y z c h1 h2 => ?_, fun y hy => ?_, fun y c _ h => ?_, fun _ => hd, Around.frames_deeper e0.frames, .inr ⟨rfl, rfl⟩, fun b z => absurd z (noA b), e0.bs, e0.bsz, fun b _ _ => noA b, fun b z => absurd z (noA b), e0.funs, e0.frf⟩,
    rfl, e0.bare, Un.kept hk, ⟨_, x.toInCall.ns, fun i y v h1 h2 h3 => ?_⟩, fun y c h => ⟨_, x.cell y c h⟩, e0.hok.fresh (Nat.le_refl _), fun y c h => ?_, fun p hp => absurd (show p ∈ ([] : List (Addr × Obj)) from hp) (by simp), e0.hok.kept hk, ?_⟩
  · exact name_of_addr x.apart (PySem.mem_of_lookup h1) (PySem.mem_of_lookup h2)
  · have hy : scope.names.lookup y = some .cell ∨ scope.names.lookup y = some .free := hy
    rcases hy with hy | hy
    · exact cell_has hy
    · exact absurd rfl (S.nofree _ (PySem.mem_of_lookup hy))
  · exact Nat.le_of_lt (x.above y c (PySem.mem_of_lookup h))
  · have hi : i < vs.length := by
      unfold start at h2
      by_cases hi : i < vs.length
      · exact hi
      · rw [List.getElem?_append_right (by simpa using hi)] at h2
        rw [List.getElem?_replicate] at h2
        split at h2 <;> cases h2
    have ha : vs[i]? = some v := by
      unfold start at h2
      rw [List.getElem?_append_left (by simpa using hi), List.getElem?_map] at h2
      cases e : vs[i]? with
      | none => rw [e] at h2; cases h2
      | some a => rw [e] at h2; cases h2; rfl
    obtain ⟨u, hu, rv⟩ := r.get ha
    have hp : ps[i]? = some y := by
      rw [← S.pre, List.getElem?_take_of_lt (by omega)]; exact h1
    have ndP : ps.Nodup := by rw [← S.pre]; exact S.nd.sublist (List.take_sublist _ _)
    refine ⟨u, rv, ?_⟩
    rcases S.par y (List.mem_of_getElem? hp) with k | k
    · exact .inl ⟨k, bindL_get ndP hp hu k⟩
    · obtain ⟨c, e⟩ := cell_has (n := s.heap.objs.size + 1) k
      refine .inr ⟨.inl k, c, e, ?_⟩
      have q := x.cell y c e
      rw [bindC_get ndP hp hu (by show scope.names.lookup y ≠ _; rw [k]; decide)] at q
      exact q
  · exact e0.hok.fresh (Nat.le_of_lt (x.above y c (PySem.mem_of_lookup h)))
  · unfold start
    show _ = N.length
    rw [List.length_append, List.length_map, List.length_replicate]
    omega
theorem fn_of {CX : CXT} {P : Program} {w : World} {K : PySem.W.Frag} {mg : Str → Option Value} {base : Heap} {k : Nat} {f : Addr} {name qual : Str} {params : Arguments} {body : List Stmt} {scope : Scope} {dV kV doc pm cdv ct oc : Value} {an od : Option Addr}
    {osl : Array (Option Value)} {N ps : List Str} {sp : Sp} (lk : K.lookup f = some ⟨oc, od, .func (PySem.W.fnOf name qual params body scope dV kV doc pm an cdv ct), osl⟩) (hcd : PySem.W.codeIn K cdv qual = true) (S : FnScope N ps scope)
    (len : ∀ vs H Q E, sp vs H Q E → vs.length = ps.length)
    (hbody : ∀ (A : Around) (outer : List Env) (s : Shared) (H : Hp) (vs : List V) (Q : VK) (E : XK), Room k (A.deeper (envOfC qual scope s.heap.objs.size f cdv)) → sp vs H Q E →
      ∃ t, PSs (cxOf CX P w K mg base N qual scope f cdv A outer s H E) body t ∧ t { nx := fun _ H' => Q .non H', rt := Q } (start N vs) H) :
    FnOk P w K mg base CX (k + 1) f (PySem.W.fnOf name qual params body scope dV kV doc pm an cdv ct) ps sp := by
  refine ⟨len, fun A outer s H args us vs Q E hr e0 hb r hsp => ?_⟩
  have hl := len _ _ _ _ hsp
  have KX : K.In s.heap := e0.mod.kin.keeps fun b o e => (e0.bs b o e).1
  have lim : s.heap.NoLimit := e0.mod.nolimit.keeps fun b o e => (e0.bs b o e).1
  have hkind : ∀ y ∈ ps.zip us, scope.names.lookup y.1 = some .local ∨ (scope.names.lookup y.1 = some .cell ∧ ((cellsFrom (s.heap.objs.size + 1) scope.names []).lookup y.1).isSome = true) := fun ⟨n, v⟩ hy => by
    rcases S.par n (List.of_mem_zip hy).1 with q | q
    · exact .inl q
    · exact .inr ⟨q, PySem.W.cellsFrom_some _ _ _ (.inl q)⟩
  refine codeAny_call_function hr.depth (KX _ _ lk) rfl S.co S.gen rfl (PySem.W.codeRec_of KX hcd) (hb _ _ _ _ ?_)
  refine wpAny_newFunctionEnv_cells S.kind hkind fun env he s1 x => ?_
  subst he
  refine ⟨lim.keeps x.toInCall.keep, codeAny_func ?_⟩
  obtain ⟨t, ht, hq⟩ := hbody A outer s H vs Q E (hr.deeper _) hsp
  have I : Inv (cxOf CX P w K mg base N qual scope f cdv A outer s H E) [] (start N vs) H s1 := inv_start S hr.hd e0 hl r x
  refine wpAny_mono (ht [] s1 (start N vs) H _ I hq) (fun fl s' hs => ?_) fun e s' hs => hs
  have fin : ∀ {σ' : St} {H' : Hp} {v : V} {u : Value}, Inv (cxOf CX P w K mg base N qual scope f cdv A outer s H E) [] σ' H' s' → RelV v u → Q v H' → CE outer P w H s Q u s' :=
    fun {σ' H' v u} J rv q => ⟨v, H', J.os, J.bare, J.base, J.hok, rv, q⟩
  cases fl with
  | ret u =>
    obtain ⟨v, σ', H', J, rv, q⟩ := hs
    exact fin J rv q
  | next =>
    obtain ⟨σ', H', J, q⟩ := hs
    exact fin (v := V.non) (u := Value.none) J rfl q
  | brk =>
    obtain ⟨_, _, _, q⟩ := hs
    exact False.elim q
  | cont =>
    obtain ⟨_, _, _, q⟩ := hs
    exact False.elim q
end L2
namespace L2
open PySem PySem.Spec PyProof.Rows
section
variable {X : Cx} {x : Str} {p pos : Pos} {e : Expr} {es : List Expr} {t : TA} {id T : String} {r : List V → Hp → VK → Prop}
def tCB (r : List V → Hp → VK → Prop) (t : TA) : TE := fun σ H Q => t σ H fun vs H1 => r vs H1 Q
theorem pe_callB (hc : CallR X (.builtin id) r) (hg : Gl X x) (hm : X.mg x = none) (hv : bootBuiltins x = some (.builtin id)) (ha : PA X (e :: es) t) (hn : x ≠ "__name__" := by decide) (hdb : (x == ("__debug__" : Str)) = false := by decide)
    (he : starEach (e :: es) X.env = (false, eval e X.env) :: starEach es X.env := by rfl) (hpl : (backTo pos (starEach es X.env)).any (·.1) = false := by rfl) : PE X (.Call (.Name x p) (e :: es) [] pos) (tCB r t) := by
  intro pins s σ H Q I h
  refine wpAny_Call_Name_kw (ld_blt I hg hm hv ?_ hn hdb)
  exact PyProof.Rows.callWith_builtin1 (thn (ha pos pins s σ H _ I h) fun us s1 ⟨vs, H1, I1, r1, q1⟩ => hc pins s1 σ H1 vs us Q I1 r1 q1) he hpl
theorem pe_callTy (hc : CallR X (.type T) r) (hg : Gl X x) (hm : X.mg x = none) (hv : bootBuiltins x = some (.type T)) (ha : PA X (e :: es) t) (hn : x ≠ "__name__" := by decide) (hdb : (x == ("__debug__" : Str)) = false := by decide)
    (he : starEach (e :: es) X.env = (false, eval e X.env) :: starEach es X.env := by rfl) (hpl : (backTo pos (starEach es X.env)).any (·.1) = false := by rfl) : PE X (.Call (.Name x p) (e :: es) [] pos) (tCB r t) := by
  intro pins s σ H Q I h
  refine wpAny_Call_Name_kw (ld_blt I hg hm hv ?_ hn hdb)
  exact PyProof.Rows.callWith_type1 (thn (ha pos pins s σ H _ I h) fun us s1 ⟨vs, H1, I1, r1, q1⟩ => hc pins s1 σ H1 vs us Q I1 r1 q1) he hpl
end
end L2
namespace HT
open PySem PyProof.Rows
section
open PySem.SeqAt
open PySem.AutoSeq1 (wpAny_loadPart')
open PySem.MeetsSeq PySem.MeetsSeq2 PySem.MeetsSeq3
end
section
variable {prog : Program} {w : World} {A : Around} {E : Value → Shared → Prop} {s : Shared}
theorem cat_tup {t b : Addr} {vs ws : List Value} {Q : Value → Shared → Prop} (ht : IsTup s.heap t vs.toArray) (hb : IsTup s.heap b ws.toArray) (hv : vs ≠ [])
    (h1 : ws = [] → Q (.ref t) s) (h2 : ws ≠ [] → Q (.ref s.heap.objs.size) { s with heap := s.heap.push { cls := .type "tuple", data := .seq (vs ++ ws).toArray } })
    (hsz : vs.length + ws.length ≤ sizeLine) : wpAny (model prog w) A (binaryOp .Add (.ref t) (.ref b)) Q E s := by
  obtain ⟨⟨cls, dd, data, sl⟩, ho, hc, n, hd⟩ := id ht
  obtain ⟨⟨cls2, dd2, data2, sl2⟩, ho2, hc2, n2, hd2⟩ := id hb
  simp only at hc hd hc2 hd2
  subst hc hd hc2 hd2
  have e : vs.toArray ++ ws.toArray = (vs ++ ws).toArray := by simp
  by_cases hw : ws = []
  · exact concat_meets ⟨_, ho, rfl⟩ ⟨_, ho2, rfl⟩ noFill_tuple_add seq_tuple_add PySem.F.slot_tuple_add PySem.F.entry_tuple_add (PySem.F.args_tuple_add_2 _ _)
      (tuple_addW1 t b vs.toArray ws.toArray n n2 dd dd2 sl sl2 (by simpa using hv) (by simp [hw])) ⟨ho, ho2, h1 hw⟩
  · refine concat_meets ⟨_, ho, rfl⟩ ⟨_, ho2, rfl⟩ noFill_tuple_add seq_tuple_add PySem.F.slot_tuple_add PySem.F.entry_tuple_add (PySem.F.args_tuple_add_2 _ _)
      (tuple_addW2 t b vs.toArray ws.toArray n n2 dd dd2 sl sl2 (by simpa using hv) (by simpa using hw) (by rw [List.size_toArray, List.size_toArray]; exact hsz)) ⟨ho, ho2, ?_⟩
    rw [e]
    exact h2 hw
def sIx (n d : Nat) : Option Int → Nat
  | none => d
  | some v => if v < 0 then (v + (n : Int)).toNat else min v.toNat n
end
end HT
namespace L2
open PySem PySem.Spec PyProof.Rows
abbrev TO := St → Hp → (Option Int → Hp → Prop) → Prop
section
variable {X : Cx} {e : Expr} {te : TE} {lo hi : Option Expr} {tl th : TO} {pos p2 : Pos}
def SlR (X : Cx) (r : V → Option Int → Option Int → Hp → VK → Prop) : Prop :=
  ∀ (pins : List (Addr × Obj)) (s : Shared) (σ : St) (H : Hp) (x : V) (v vl vu : Value) (lo hi : Option Int) (sl : Addr) (Q : VK), Inv X pins σ H s → RelV x v → s.heap.IsSliceOf sl vl vu .none → IsPart vl lo → IsPart vu hi → r x lo hi H Q →
    ∃ T id, typeLookup (.type T) "__getitem__" = pure (some (.builtin id)) ∧ s.TypeIs v T ∧ wpAny (model X.prog X.w) X.A (getItem v (.ref sl)) (EP X pins σ Q) X.xe s
theorem SlR.or {r r' : V → Option Int → Option Int → Hp → VK → Prop} (h : SlR X r) (h' : SlR X r') : SlR X (fun x lo hi H Q => r x lo hi H Q ∨ r' x lo hi H Q) := by
  intro pins s σ H x v vl vu lo hi sl Q I rx hs pl pu q
  rcases q with q | q
  · exact h pins s σ H x v vl vu lo hi sl Q I rx hs pl pu q
  · exact h' pins s σ H x v vl vu lo hi sl Q I rx hs pl pu q
theorem Vals.nil_iff {xs : List V} {us : List Value} (r : Vals xs us) : us = [] ↔ xs = [] := by
  cases r with
  | nil => simp
  | cons _ _ => simp
end
end L2
namespace L2
open PySem PySem.Spec PyProof.Rows
def ixN (n : Nat) (i : Int) : Option Nat := if 0 ≤ i then (if i < n then some i.toNat else none) else if -(n : Int) ≤ i then some (i + n).toNat else none
def atI {α : Type} (xs : List α) (i : Int) : Option α := (ixN xs.length i).bind fun j => xs[j]?
theorem ixN_seq {n : Nat} {i : Int} {j : Nat} (h : ixN n i = some j) : seqIndex? i n = some j ∧ j < n ∧ -(n : Int) ≤ i ∧ i < n := by
  unfold ixN at h
  by_cases h0 : 0 ≤ i
  · rw [if_pos h0] at h
    by_cases h1 : i < n
    · rw [if_pos h1] at h
      have e : i.toNat = j := Option.some.inj h
      exact ⟨by rw [seqIndex_of h0 h1, e], by omega, by omega, h1⟩
    · rw [if_neg h1] at h; cases h
  · rw [if_neg h0] at h
    by_cases h1 : -(n : Int) ≤ i
    · rw [if_pos h1] at h
      have e : (i + n).toNat = j := Option.some.inj h
      exact ⟨by rw [seqIndex_neg (by omega) h1, e], by omega, h1, by omega⟩
    · rw [if_neg h1] at h; cases h
theorem atI_get {α : Type} {xs : List α} {i : Int} {v : α} (h : atI xs i = some v) : ∃ j, seqIndex? i xs.length = some j ∧ xs[j]? = some v ∧ j < xs.length ∧ -(xs.length : Int) ≤ i ∧ i < xs.length := by
  unfold atI at h
  cases e : ixN xs.length i with
  | none => rw [e] at h; cases h
  | some j =>
    rw [e] at h
    obtain ⟨h1, h2, h3, h4⟩ := ixN_seq e
    exact ⟨j, h1, h, h2, h3, h4⟩
def PlainIx (b : Expr) : Prop := ∀ o i, subscripted b false o i = operate [o, i] (getItem o i)
def IxR (X : Cx) (r : R2) : Prop :=
  ∀ (value slice : Expr) (pins : List (Addr × Obj)) (s : Shared) (σ : St) (H : Hp) (x y : V) (v u : Value) (Q : VK), Inv X pins σ H s → RelV x v → RelV y u → r x y H Q →
    subscripted slice false v u = operate [v, u] (getItem v u) → wpAny (model X.prog X.w) X.A (subscriptTail value slice v u) (EP X pins σ Q) X.xe s
def MtR (X : Cx) (id : String) (r : V → List V → Hp → VK → Prop) : Prop :=
  ∀ (pins : List (Addr × Obj)) (s : Shared) (σ : St) (H : Hp) (x : V) (xs : List V) (v : Value) (us : List Value) (Q : VK), Inv X pins σ H s → RelV x v → Vals xs us → r x xs H Q →
    wpAny (model X.prog X.w) X.A (call (.builtin id) (v :: us)) (EP X pins σ Q) X.xe s
section
variable {X : Cx} {a b : Expr} {ta tb : TE} {pos : Pos}
theorem IxR.or {r r' : R2} (h : IxR X r) (h' : IxR X r') : IxR X (fun x y H Q => r x y H Q ∨ r' x y H Q) := by
  intro value slice pins s σ H x y v u Q I rx ry q hs
  rcases q with q | q
  · exact h value slice pins s σ H x y v u Q I rx ry q hs
  · exact h' value slice pins s σ H x y v u Q I rx ry q hs
theorem MtR.or {id : String} {r r' : V → List V → Hp → VK → Prop} (h : MtR X id r) (h' : MtR X id r') : MtR X id (fun x xs H Q => r x xs H Q ∨ r' x xs H Q) := by
  intro pins s σ H x xs v us Q I rx rs q
  rcases q with q | q
  · exact h pins s σ H x xs v us Q I rx rs q
  · exact h' pins s σ H x xs v us Q I rx rs q
theorem pe_ix {r : R2} (hr : IxR X r) (ha : PE X a ta) (hb : PE X b tb) (hs : PlainIx b) : PE X (.Subscript a b pos) (tOp r ta tb) := by
  intro pins s σ H Q I h
  exact Subscript_ (binT ha hb I h fun v u s2 x y H2 I2 rx ry q => hr a b pins s2 σ H2 x y v u Q I2 rx ry q (hs _ _))
def rIxL (K : PySem.W.Frag) : R2 := fun x y H Q => ∃ p xs i v, x = .ref p ∧ y = .int i ∧ SqL K H p xs ∧ atI xs i = some v ∧ Q v H
def rIxT (K : PySem.W.Frag) : R2 := fun x y H Q => ∃ p xs i v, x = .ref p ∧ y = .int i ∧ SqT K H p xs ∧ atI xs i = some v ∧ Q v H
def rIxS : R2 := fun x y H Q => ∃ z i c, x = .str z ∧ y = .int i ∧ z.length ≤ sizeLine ∧ atI z.cps.toList i = some c ∧ Q (.str ⟨#[c]⟩) H
theorem ix_list : IxR X (rIxL X.K) := by
  intro value slice pins s σ H x y v u Q I rx ry h hs
  obtain ⟨p, xs, i, z, rfl, rfl, hq, he, q⟩ := h
  cases rx
  obtain ⟨t, rfl⟩ := ry
  obtain ⟨its, r, pl, hz⟩ := I.list hq
  obtain ⟨j, h1, h2, h3, h4, h5⟩ := atI_get he
  obtain ⟨w, ew, rw'⟩ := r.get h2
  have hl := r.length
  have hn := line63
  have fin : EP X pins σ Q w s := ⟨z, H, I, rw', q⟩
  by_cases h0 : 0 ≤ i
  · have hj : i.toNat = j := by
      rw [seqIndex_of h0 h5] at h1
      exact Option.some.inj h1
    exact item_listR pl.isList h0 (by omega) (by rw [hj]; simpa using ew) fin hs
  · have hj : (i + (its.toArray.size : Int)).toNat = j := by
      rw [seqIndex_neg (by omega) h4] at h1
      rw [List.size_toArray, ← hl]
      exact Option.some.inj h1
    exact subscriptTail_builtinR (x := w) pl.isList.typeIs slot_list_getitem.lookup
      (wpAny_getItem_list_neg (Q := fun r s' => r = w ∧ EP X pins σ Q r s') pl.isList (by omega) (by rw [List.size_toArray] <;> omega) (by omega) (by rw [hj]; simpa using ew) ⟨rfl, fin⟩) hs
theorem ix_tup : IxR X (rIxT X.K) := by
  intro value slice pins s σ H x y v u Q I rx ry h hs
  obtain ⟨p, xs, i, z, rfl, rfl, hq, he, q⟩ := h
  cases rx
  obtain ⟨t, rfl⟩ := ry
  obtain ⟨its, r, pl, hz⟩ := I.tuple hq
  obtain ⟨j, h1, h2, h3, h4, h5⟩ := atI_get he
  obtain ⟨w, ew, rw'⟩ := r.get h2
  have hl := r.length
  have hn := line63
  have fin : EP X pins σ Q w s := ⟨z, H, I, rw', q⟩
  exact subscriptTail_builtinR (x := w) pl.typeIs slot_tuple_getitem.lookup
    (getItem_tuple (j := j) (Q := fun r s' => r = w ∧ EP X pins σ Q r s') pl (by omega) (by omega) (by rw [List.size_toArray, ← hl]; exact h1) (by simpa using ew) ⟨rfl, fin⟩) hs
theorem ix_str : IxR X rIxS := by
  intro value slice pins s σ H x y v u Q I rx ry h hs
  obtain ⟨z, i, c, rfl, rfl, hz, he, q⟩ := h
  obtain ⟨t, rfl⟩ := rx
  obtain ⟨t', rfl⟩ := ry
  obtain ⟨j, h1, h2, h3, h4, h5⟩ := atI_get he
  have hl : z.cps.toList.length = z.length := by simp [Str.length]
  rw [hl] at h1 h4 h5
  have hn := line63
  exact tail_any (typeIs_str s z t) slot_str_getitem.lookup (getItem_str (c := c) (by
    have e1 : decide (i < -(2 ^ 63 : Int)) = false := decide_eq_false (by omega)
    have e2 : decide (i ≥ 2 ^ 63) = false := decide_eq_false (by omega)
    rw [e1, e2, Bool.or_false]) (by rw [h1]; simpa using h2) ⟨.str ⟨#[c]⟩, H, I.tok _, ⟨_, rfl⟩, q⟩) hs
def rIx (K : PySem.W.Frag) : R2 := fun x y H Q => rIxL K x y H Q ∨ rIxT K x y H Q ∨ rIxS x y H Q
theorem ix_seq : IxR X (rIx X.K) := ix_list.or (ix_tup.or ix_str)
theorem Inv.lst {pins : List (Addr × Obj)} {σ : St} {H : Hp} {s : Shared} {p : Addr} {xs : List V} (I : Inv X pins σ H s) (h : H p = some (.lst xs)) :
    ∃ (its : List Value) (n : Nat), Vals xs its ∧ s.heap.get? p = some { cls := .type "list", data := .seq its.toArray n } ∧ xs.length ≤ sizeLine := by
  obtain ⟨z, its, n, r, e⟩ := I.hok p _ h
  exact ⟨its, n, r, e, z⟩
theorem call_len_seq : CallR X (.builtin "len") (fun xs H Q => ∃ p ys, xs = [.ref p] ∧ (SqL X.K H p ys ∨ SqT X.K H p ys) ∧ Q (.int ys.length) H) := by
  intro pins s σ H xs us Q I r h
  obtain ⟨p, ys, rfl, hq, q⟩ := h
  obtain ⟨u, rfl, rx⟩ := vals1 r
  cases rx
  have hn := line63
  rcases hq with hq | hq
  · obtain ⟨its, r', pl, hz⟩ := I.list hq
    have hlen := r'.length
    exact Calls.call_len_list pl.isList (by simp only [List.size_toArray] <;> omega) ⟨.int ys.length, H, I.tok _, ⟨s.toks + 1, by rw [List.size_toArray, hlen]⟩, q⟩
  · obtain ⟨its, r', pl, hz⟩ := I.tuple hq
    have hlen := r'.length
    exact len_tuple pl (by simp only [List.size_toArray] <;> omega) ⟨.int ys.length, H, I.tok _, ⟨s.toks + 1, by rw [List.size_toArray, hlen]⟩, q⟩
theorem CallR.or {f : Value} {r r' : List V → Hp → VK → Prop} (h : CallR X f r) (h' : CallR X f r') : CallR X f (fun xs H Q => r xs H Q ∨ r' xs H Q) := by
  intro pins s σ H xs us Q I rs q
  rcases q with q | q
  · exact h pins s σ H xs us Q I rs q
  · exact h' pins s σ H xs us Q I rs q
theorem call_list_of : CallR X (.type "list") (fun xs H Q => ∃ p ys, xs = [.ref p] ∧ (SqL X.K H p ys ∨ SqT X.K H p ys) ∧ ∀ l, H l = none → Q (.ref l) (upd H l (.lst ys))) := by
  intro pins s σ H xs us Q I r h
  obtain ⟨p, ys, rfl, hq, q⟩ := h
  obtain ⟨u, rfl, rx⟩ := vals1 r
  cases rx
  have fin : ∀ (its : List Value), Vals ys its → ys.length ≤ sizeLine → ∀ (h' : Heap) (c' : Nat), (∀ b o', s.heap.get? b = some o' → h'.get? b = some o') →
      h'.get? s.heap.objs.size = some { cls := .type "list", dict := none, data := .seq its.toArray c', slots := #[] } → EP X pins σ Q (.ref s.heap.objs.size) { s with heap := h' } := fun its r' hz h' c' kp e =>
    ⟨.ref s.heap.objs.size, _, I.laid (t' := s.toks) kp (Nat.le_refl _) (show ObjOk X.prog X.w _ h' _ (.lst ys) from ⟨hz, its, c', r', e⟩), rfl, q _ (I.hok.fresh (Nat.le_refl _))⟩
  rcases hq with hq | hq
  · obtain ⟨its, r', pl, hz⟩ := I.list hq
    have hlen := r'.length
    obtain ⟨o, ho, hc, n, hd⟩ := pl.isList
    exact call_list_seq p (.inl rfl) ho hc hd (fun h' c' kp e => fin its r' hz h' c' kp e) (by simp only [List.size_toArray] <;> omega)
  · obtain ⟨its, r', pl, hz⟩ := I.tuple hq
    have hlen := r'.length
    obtain ⟨o, ho, hc, n, hd⟩ := pl
    exact call_list_seq p (.inr rfl) ho hc hd (fun h' c' kp e => fin its r' hz h' c' kp e) (by simp only [List.size_toArray] <;> omega)
theorem call_tuple_of : CallR X (.type "tuple") (fun xs H Q => ∃ p ys, xs = [.ref p] ∧ ((SqL X.K H p ys ∧ ∀ l, H l = none → Q (.ref l) (upd H l (.tup ys))) ∨ (SqT X.K H p ys ∧ Q (.ref p) H))) := by
  intro pins s σ H xs us Q I r h
  obtain ⟨p, ys, rfl, h⟩ := h
  obtain ⟨u, rfl, rx⟩ := vals1 r
  cases rx
  rcases h with ⟨hq, q⟩ | ⟨hq, q⟩
  · obtain ⟨its, r', pl, hz⟩ := I.list hq
    have hlen := r'.length
    refine call_tuple_list pl.isList (fun h' kp => ?_) (by simp only [List.size_toArray] <;> omega)
    have I1 : Inv X pins σ H { s with heap := h' } := I.kept (t' := s.toks) kp
    have I2 : Inv X pins σ (upd H h'.objs.size (.tup ys)) { s with heap := h'.push { cls := .type "tuple", data := .seq its.toArray } } :=
      I1.laid (t' := s.toks) (fun b o e => Heap.get?_push_of_some _ e) (Nat.le_refl _) (show ObjOk X.prog X.w _ _ _ (.tup ys) from ⟨hz, its, r', IsTup.new _ _⟩)
    exact ⟨.ref h'.objs.size, _, I2, rfl, q _ (I1.hok.fresh (Nat.le_refl _))⟩
  · obtain ⟨its, r', pl, hz⟩ := I.tuple hq
    exact call_tuple_same pl ⟨.ref p, H, I, rfl, q⟩
def tyV (K : PySem.W.Frag) (T : String) (x : V) (H : Hp) : Prop := match x with
  | .str _ => T = "str"
  | .int _ => T = "int"
  | .ref p => (T = "list" ∧ ∃ xs, SqL K H p xs) ∨ (T = "tuple" ∧ ∃ o, K.lookup p = some o ∧ o.cls = .type "tuple" ∧ o.dict = none) ∨
      (T = "dict" ∧ ((∃ kvs, H p = some (.dK kvs)) ∨ ∃ kvs, H p = some (.dT kvs))) ∨ (T = "set" ∧ ∃ S n, H p = some (.set S n))
  | _ => False
theorem tyV_is {pins : List (Addr × Obj)} {σ : St} {H : Hp} {s : Shared} {T : String} {x : V} {v : Value} (I : Inv X pins σ H s) (r : RelV x v) (ty : tyV X.K T x H) :
    s.TypeIs v T ∧ ∀ a, v = .ref a → ∃ ob, s.heap.get? a = some ob ∧ ob.dict = none := by
  cases x with
  | str z =>
    obtain ⟨t, rfl⟩ := r
    cases (show T = "str" from ty)
    exact ⟨typeIs_str s z t, fun _ e => nomatch e⟩
  | int i =>
    obtain ⟨t, rfl⟩ := r
    cases (show T = "int" from ty)
    exact ⟨typeIs_int s i t, fun _ e => nomatch e⟩
  | ref p =>
    cases r
    rcases ty with ⟨rfl, xs, hq⟩ | ⟨rfl, o, hk, hc, hd⟩ | ⟨rfl, hk⟩ | ⟨rfl, S, n, hk⟩
    · obtain ⟨its, _, pl, _⟩ := I.list hq
      refine ⟨pl.isList.typeIs, fun a e => ?_⟩
      cases e
      obtain ⟨o, n, e, c, hd, _⟩ := pl
      exact ⟨o, e, hd⟩
    · refine ⟨⟨o, I.kIn p o hk, hc⟩, fun a e => ?_⟩
      cases e
      exact ⟨o, I.kIn _ o hk, hd⟩
    · have z : ∃ o, s.heap.get? p = some o ∧ o.ExactDict := by
        rcases hk with ⟨kvs, hk⟩ | ⟨kvs, hk⟩
        · obtain ⟨_, _, _, _, o, _, _, e, ex, _⟩ := I.hok p _ hk
          exact ⟨o, e, ex⟩
        · obtain ⟨_, _, _, _, o, _, _, e, ex, _⟩ := I.hok p _ hk
          exact ⟨o, e, ex⟩
      obtain ⟨o, e, ex⟩ := z
      refine ⟨⟨o, e, ex.1⟩, fun a e2 => ?_⟩
      cases e2
      exact ⟨o, e, ex.2.1⟩
    · obtain ⟨o, _, _, _, e, ex, _⟩ := I.hok p _ hk
      refine ⟨⟨o, e, ex.1⟩, fun a e2 => ?_⟩
      cases e2
      exact ⟨o, e, ex.2.1⟩
  | _ => exact False.elim ty
def tBM (K : PySem.W.Frag) (T : String) (r : V → List V → Hp → VK → Prop) (to : TE) (t : TA) : TE := fun σ H Q => to σ H fun x H1 => tyV K T x H1 ∧ t σ H1 fun xs H2 => r x xs H2 Q
variable {o e : Expr} {es : List Expr} {to : TE} {t : TA} {name : Str} {apos cpos : Pos} {T id : String} {r : V → List V → Hp → VK → Prop}
theorem pe_bm (pa : PlainAttrs T) (slot : Slot T name id) (hty : typeOf (.builtin id) = pure (.type "method_descriptor")) (hm : MtR X id r) (ho : PE X o to) (ha : PA X (e :: es) t)
    (hbase : attributeBase o name X.env (eval o X.env) = eval o X.env := by rfl)
    (hfew : ((backTo cpos (starEach (e :: es) X.env)).all (fun x => !x.1) && (backToKw cpos (keywordEach [] X.env)).all (fun x => x.1.isSome)
      && decide ((e :: es).length + ([] : List Keyword).length + (if ([] : List Keyword).isEmpty then 0 else 1) < 30)) = true := by rfl)
    (hline : (apos.endLine == cpos.line) = true := by rfl) (hs : starEach (e :: es) X.env = (false, eval e X.env) :: starEach es X.env := by rfl) (hplain : (backTo cpos (starEach es X.env)).any (·.1) = false := by rfl) :
    PE X (.Call (.Attribute o name apos) (e :: es) [] cpos) (tBM X.K T r to t) := by
  intro pins s σ H Q I h
  refine wpAny_Call_method_late hbase hfew hline rfl (thn (ho pins s σ H _ I h) fun v s1 ⟨x, H1, I1, r1, ty, q1⟩ => ?_)
  obtain ⟨h1, h2⟩ := tyV_is I1 r1 ty
  refine ⟨T, id, pa, slot, hty, h1, h2, ?_⟩
  have hA := ha cpos pins s1 σ H1 _ I1 q1
  rw [hs] at hA ⊢
  refine Calls.callWith_builtin (by show (false || (backTo cpos (starEach es X.env)).any (·.1)) = false; rw [hplain] <;> rfl) (Calls.evalArgs_plain ?_)
  exact thn hA fun us s2 ⟨vs, H2, I2, r2, q2⟩ => hm pins s2 σ H2 x vs v us Q I2 r1 r2 q2
end
end L2
namespace L2
open PySem PySem.Spec PyProof.Rows
def MtM (X : Cx) (id : String) (r : V → List V → Hp → VK → Prop) : Prop :=
  ∀ (pins : List (Addr × Obj)) (s : Shared) (σ : St) (H : Hp) (x : V) (xs : List V) (v : Value) (us : List Value) (Q : VK), Inv X pins σ H s → RelV x v → Vals xs us → r x xs H Q →
    wpAny (model X.prog X.w) X.A (call (.builtin id) (v :: us)) (EP X pins σ Q) X.xe s
theorem Vals.one : ∀ {x : V} {us : List Value}, Vals [x] us → ∃ u, us = [u] ∧ RelV x u
  | _, _, .cons r .nil => ⟨_, rfl, r⟩
theorem Vals.dropLast {xs : List V} {us : List Value} (h : Vals xs us) : Vals xs.dropLast us.dropLast := by
  induction h with
  | nil => exact .nil
  | cons r t ih =>
    cases t with
    | nil => exact .nil
    | cons q t' => exact .cons r ih
theorem Vals.reverse {xs : List V} {us : List Value} (h : Vals xs us) : Vals xs.reverse us.reverse := by
  induction h with
  | nil => exact .nil
  | cons r t ih => rw [List.reverse_cons, List.reverse_cons]; exact Vals.append ih (.cons r .nil)
theorem Vals.rep {xs : List V} {us : List Value} (h : Vals xs us) : ∀ k : Nat, Vals (List.replicate k xs).flatten (List.replicate k us).flatten
  | 0 => .nil
  | k + 1 => by
    rw [List.replicate_succ, List.replicate_succ, List.flatten_cons, List.flatten_cons]
    exact Vals.append h (Vals.rep h k)
section
variable {X : Cx} {pins : List (Addr × Obj)} {σ : St} {H : Hp} {s : Shared} {l b : Addr} {xs ys zs : List V}
theorem Inv.lset {its its' : List Value} {n : Nat} {f : Array Value → Array Value} {t' : Nat} (I : Inv X pins σ H s) (hH : H l = some (.lst xs))
    (e : s.heap.get? l = some { cls := .type "list", data := .seq its.toArray n }) (hf : f its.toArray = its'.toArray) (hv : Vals ys its') (hz : ys.length ≤ sizeLine) :
    Inv X pins σ (upd H l (.lst ys)) { s with heap := s.heap.update l (Obj.mapSeq f), toks := t' } := by
  have q := PySem.IsL.update e f
  rw [hf] at q
  refine I.write (x := l) (e := l) (by rw [hH]; exact trivial) (.inl rfl) (fun b' u hb hu => (Heap.get?_update_other s.heap (Obj.mapSeq f) (Ne.symm hb)).trans hu) ⟨_, q⟩ ?_
  exact ⟨hz, its', _, hv, q⟩
theorem Inv.fresh (I : Inv X pins σ H s) : H s.heap.objs.size = none := I.hok.fresh (Nat.le_refl _)
theorem Inv.lstM (I : Inv X pins σ H s) (hH : H l = some (.lst xs)) : xs.length ≤ sizeLine ∧ ∃ (its : List Value) (n : Nat), Vals xs its ∧ xs.length = its.length ∧ s.heap.get? l = some { cls := .type "list", data := .seq its.toArray n } := by
  obtain ⟨z, its, n, r, e⟩ := I.hok l _ hH
  exact ⟨z, its, n, r, r.length, e⟩
end
section
variable {X : Cx}
def rAppend : V → List V → Hp → VK → Prop := fun x vs H Q => ∃ l xs y, x = .ref l ∧ vs = [y] ∧ H l = some (.lst xs) ∧ xs.length < sizeLine ∧ Q .non (upd H l (.lst (xs ++ [y])))
theorem mt_append : MtM X "list.append" rAppend := by
  intro pins s σ H x vs v us Q I rx rv h
  obtain ⟨l, xs, y, rfl, rfl, hH, hz, q⟩ := h
  cases rx
  obtain ⟨u, rfl, ru⟩ := rv.one
  obtain ⟨z, its, n, r, hl, e⟩ := I.lstM hH
  refine call_meets F.slot_list_append ⟨_, e, rfl⟩ F.entry_list_append (F.args_list_append_2 _ _) (PySem.list_append l its.toArray n u (by rw [List.size_toArray]; omega)) ⟨e, ?_⟩
  refine ⟨.non, _, I.lset (its' := its ++ [u]) hH e (by simp) (r.append (.cons ru .nil)) ?_, rfl, q⟩
  rw [List.length_append, List.length_singleton]
  omega
end
section
variable {prog : Program} {w : World} {A : Around} {E : Value → Shared → Prop} {s : Shared}
end
section
variable {X : Cx}
end
end L2
namespace Att
open PySem PySem.W PySem.Calls PyProof.Rows
theorem ints_of_wellAll {P : Params} {h : Heap} : ∀ (ns : List Int) (vs : List Value), WellAll P h vs (ns.map WData.int) → IntsAre vs ns := by
  intro ns
  induction ns with
  | nil =>
    intro vs w
    rw [List.map_nil] at w
    cases w
    exact .nil
  | cons n ns ih =>
    intro vs w
    rw [List.map_cons] at w
    cases w with
    | cons a b =>
      cases a
      exact .cons _ _ (ih _ b)
theorem script_of {l : OpenLaw} {n : Nat} (hn : l.most = some n) {P : Params} {h : Heap} {args : List WData} {vals : List Value}
    (hpre : l.row.toRowW.claim.pre args = true) (hwl : WellAll P h vals args) :
    ∃ a vs ns, vals = [Value.ref a] ∧ args = [WData.list (ns.map WData.int)] ∧ h.get? a = some { cls := .type "list", data := .seq vs.toArray } ∧ IntsAre vs ns ∧ ns.length ≤ n := by
  have hsh : WShape.hasAll [] args [.list .int] = true := (pre_splitW hpre).1
  have hc : l.pre.holds [] { args := args } = true := (pre_splitW hpre).2
  obtain ⟨d, r, rfl, h1, h2⟩ := hasAllW_cons hsh
  obtain rfl := hasAllW_nil h2
  obtain ⟨xs, rfl, h3⟩ := hasW_list h1
  obtain ⟨ns, rfl⟩ := items_int h3
  have hlen : ns.length ≤ n := by
    unfold OpenLaw.pre at hc
    have h4 : (WTm.not (.lt (.lit (.int (n : Int))) (.len (.arg 0)))).holds [] { args := [.list (ns.map .int)] } = true := by
      have h4 := (holds_andW hc).1
      rw [hn] at h4
      exact h4
    have h5 := condW_of h4 (w_not (w_lt w_lit (w_len_list (w_arg rfl))))
    rw [List.length_map] at h5
    refine Nat.le_of_not_lt fun q => ?_
    have q' : (n : Int) < ((ns.length : Nat) : Int) := by omega
    first
      | (rw [decide_eq_true q'] at h5; exact absurd h5 (by decide))
      | (simp at h5; omega)
  cases hwl with
  | cons w1 w2 =>
    cases w2
    cases w1 with
    | list ho hall => exact ⟨_, _, ns, rfl, rfl, ho, ints_of_wellAll ns _ hall, hlen⟩
theorem post_true (l : OpenLaw) (args : List WData) : l.row.toRowW.claim.post args (.bool true) args = true :=
  postW_of (r := l.row.toRowW) (X := (true == true))
    (show WShape.has [] (.bool true) .bool = true by first | rfl | decide | simp [WShape.has, WShape.arms, WShape.armsAll])
    (show (WTm.eq .res (.lit (.bool true))).value [] { args := args, res := some (.bool true), after := args } = some (.bool (true == true)) from w_eq_bool (w_res rfl) w_lit) rfl
theorem attach_call {l : OpenLaw} {n : Nat} {q : Program} {loose : List Str} {XP : (Str → Option Value) → Heap → Prop} {YP : World → Heap → Prop} {d : DefRec}
    (hn : l.most = some n) (hdf : d.params.defaults = [])
    (call : ∀ (w : World) (s₀ s₁ : Shared) (mg mb : Str → Option Value) (fa : Addr) (o : Obj) (pm cd doc : Value) (a : Addr) (vs : List Value) (ns : List Int),
      Ground q loose [] XP w s₀ mg mb s₁.heap → YP w s₁.heap →
      s₁.heap.get? fa = some o → o.data = .func (docDef d.name d.params d.body d.scope pm cd doc) → s₁.heap.CodeRec cd d.name → mg d.name = some (.ref fa) →
      s₁.heap.get? a = some { cls := .type "list", data := .seq vs.toArray } → IntsAre vs ns → ns.length ≤ n → s₁.gens = #[] →
      codeAny (model l.prog w) callerA (.call (.ref fa) ⟨[.ref a], []⟩) (fun r s' => r = .ok (.ret (.bool true)) ∧ OldK s₁.heap s'.heap ∧ s'.os = s₁.os ∧ AllBare s'.gens) s₁) :
    WalkO q loose XP YP l.row.toRowW d [] (fun f vs => PySem.call f vs) := by
  intro w s₀ s₁ mg mb G Y fa o pm cd doc dV kV ho hd hcd hD hmg hg args vals as hpre hlay hrd hwl hlo
  obtain rfl : dV = .none := Dflts.none hD hdf
  obtain rfl : kV = .none := Dflts.noKw hD
  obtain ⟨a, vs, ns, rfl, rfl, hobj, hints, hlen⟩ := script_of hn hpre hwl
  refine enter_call (codeAny_mono (call w s₀ s₁ mg mb fa o pm cd doc a vs ns G Y ho (fd_plain hd) hcd hmg hobj hints hlen hg) fun r s' hq => ?_)
  obtain ⟨rfl, h2, h3, h4⟩ := hq
  exact ⟨.inl ⟨.bool true, .bool true, [], rfl, fun _ => rfl, .bool true, post_true l _, fun _ => ⟨List.Pairwise.nil, fun _ hm => (nomatch hm)⟩⟩, h2, h3, h4⟩
section
variable {prog : Program} {w : World} {A : Around} {E : Value → Shared → Prop} {s : Shared} {K : Frag}
def ledger (h : Heap) (L d : Addr) : List (Addr × Obj) := (List.range h.objs.size).filterMap fun a => if a = L ∨ a = d then none else (h.get? a).map fun o => (a, o)
end
end Att
namespace L2
open PySem PySem.Spec PyProof.Rows
theorem vals_ints : ∀ {vs : List Value} {ns : List Int}, IntsAre vs ns → Vals (ns.map V.int) vs
  | _, _, .nil => .nil
  | _, _, .cons n t h => .cons ⟨t, rfl⟩ (vals_ints h)
def Only (H : Hp) : Prop := ∀ b, H b = none ∨ ∃ o xs, H b = some (.frz o (.lst xs))
theorem law_call {P : Program} {w : World} {K : PySem.W.Frag} {mg mb : Str → Option Value} {CX : CXT} {k : Nat} {fa a : Addr} {fd : FuncData} {x : Str} {sp : Sp} {s₁ : Shared} {vs : List Value} {ns : List Int}
    (KX : K.In s₁.heap) (hns : s₁.heap.Ns mainGlobals mg) (hb : s₁.heap.Ns builtinsNs mb) (hbb : ∀ x : Str, x ≠ "__name__" → mb x = bootBuiltins x) (hlim : s₁.heap.NoLimit) (hg : s₁.gens = #[])
    (ha : s₁.heap.get? a = some { cls := .type "list", data := .seq vs.toArray }) (hi : IntsAre vs ns) (hl : ns.length ≤ sizeLine) (hr : Room k callerA)
    (F : ∀ base : Heap, K.In base → base.Ns mainGlobals mg → FnOk P w K mg base CX k fa fd [x] sp) (hbind : ∀ (s : Shared) (u : Value), BindsTo s fd ⟨[u], []⟩ [(x, u)])
    (hsp : ∀ H : Hp, Only H → SqL K H a (ns.map V.int) → sp [.ref a] H (fun v _ => v = .bl true) fun _ _ _ => False)
    (hCX : ∀ H e s', CX [] H s₁ (fun _ _ _ => False) e s' → False) :
    codeAny (model P w) callerA (.call (.ref fa) ⟨[.ref a], []⟩) (fun r s' => r = .ok (.ret (.bool true)) ∧ OldK s₁.heap s'.heap ∧ s'.os = s₁.os ∧ AllBare s'.gens) s₁ := by
  have rv := vals_ints hi
  have lenV := hi.length
  have core : ∀ H : Hp, Only H → SqL K H a (ns.map V.int) → HOk P w H s₁.heap → (∀ b, H b ≠ none → b = a) → (H a ≠ none → K.lookup a = none) →
      codeAny (model P w) callerA (.call (.ref fa) ⟨[.ref a], []⟩) (fun r s' => r = .ok (.ret (.bool true)) ∧ OldK s₁.heap s'.heap ∧ s'.os = s₁.os ∧ AllBare s'.gens) s₁ := by
    intro H hO hS hok hA hK
    have base_of : ∀ {b : Addr} {o : Obj}, s₁.heap.get? b = some o → H b = none → (hidT s₁.heap H).get? b = some o := fun e n => hidT_get e n
    have noA : ∀ {b : Addr} {o : Obj} {es : Array DictEntry} {ep : Nat}, s₁.heap.get? b = some o → o.data = .dict es ep → H b = none := fun {b o es ep} e d => by
      cases q : H b with
      | none => rfl
      | some u =>
        have e' : b = a := hA b (by rw [q]; simp)
        subst e'
        rw [ha] at e; cases e
        have d' : Data.seq vs.toArray _ = Data.dict es ep := d
        cases d'
    have nsK : ∀ {b : Addr} {m : Str → Option Value}, s₁.heap.Ns b m → (hidT s₁.heap H).Ns b m := fun {b m} ⟨o, es, ep, e, d, r⟩ => ⟨o, es, ep, base_of e (noA e d), d, r⟩
    have hKb : K.In (hidT s₁.heap H) := fun b o e => base_of (KX b o e) (by
      cases q : H b with
      | none => rfl
      | some u =>
        have e' : b = a := hA b (by rw [q]; simp)
        subst e'
        rw [hK (by rw [q]; simp)] at e; cases e)
    have hM : Mod K mg (hidT s₁.heap H) := ⟨hKb, nsK hns, ⟨mb, nsK hb, hbb⟩, let ⟨mc, h1, h2⟩ := hlim; ⟨mc, nsK h1, h2⟩⟩
    have e0 : Env0 P w K mg (hidT s₁.heap H) callerA [] s₁ H := ⟨rfl, hM, fun b o e => of_hidT e, Nat.le_of_eq (hidT_size _ _), trivial, fun b hb => absurd (show b ∈ ([] : List Addr) from hb) (by simp), hok, .of_eq hg⟩
    refine codeAny_mono ((F _ hKb (nsK hns)).run callerA [] s₁ H ⟨[.ref a], []⟩ [.ref a] [.ref a] _ _ hr e0 (hbind s₁ (.ref a)) (.cons rfl .nil) (hsp H hO hS)) fun r s' h => ?_
    cases r with
    | error e => exact (hCX H e s' h).elim
    | ok fl =>
      cases fl with
      | next => exact False.elim h
      | brk => exact False.elim h
      | cont => exact False.elim h
      | ret u =>
        obtain ⟨v, H', os, bare, un, hok', r', q⟩ := h
        have q' : v = .bl true := q
        subst q'
        obtain rfl : u = Value.bool true := r'
        refine ⟨rfl, OldK.of_keep fun b o e => ?_, os, bare⟩
        cases q : H b with
        | none => exact un.keep b o e q (by intro z; exact absurd (show b ∈ ([] : List Addr) from z) (by simp)) (by simp)
        | some u =>
          rcases hO b with z | ⟨ob, xs, z⟩
          · rw [q] at z; cases z
          · have z2 := un.frzs b ob _ z
            obtain ⟨e1, _⟩ := hok b _ z
            obtain ⟨e2, _⟩ := hok' b _ z2
            rw [e] at e1; cases e1
            exact e2
  cases hk : K.lookup a with
  | some o =>
    have e := KX a o hk
    rw [ha] at e
    cases e
    refine core (fun _ => none) (fun _ => .inl rfl) (.inr ⟨_, vs.toArray, _, hk, rfl, rfl, rfl, by rw [List.size_toArray, lenV]; exact hl, by simpa using rv⟩) (fun b u z => by have z' : (none : Option HO) = some u := z; cases z') (fun b z => absurd rfl z) fun z => absurd rfl z
  | none =>
    refine core (fun b => if b = a then some (.frz { cls := .type "list", data := .seq vs.toArray } (.lst (ns.map V.int))) else none) (fun b => ?_) (.inl (.inr ⟨{ cls := .type "list", data := .seq vs.toArray }, if_pos rfl⟩)) (fun b u z => ?_) (fun b z => ?_) fun _ => hk
    · by_cases hb : b = a
      · exact .inr ⟨_, _, if_pos hb⟩
      · exact .inl (if_neg hb)
    · by_cases hb : b = a
      · have z' := (if_pos hb).symm.trans z
        cases z'
        subst hb
        exact ⟨ha, by rw [List.length_map]; exact hl, vs, _, rv, ha⟩
      · have z' := (if_neg hb).symm.trans z
        cases z'
    · by_cases hb : b = a
      · exact hb
      · exact absurd (if_neg hb) z
end L2
namespace L2
open PySem PySem.Spec PyProof.Rows
abbrev KOf {K : PySem.W.Frag} {h : Heap} (_ : K.In h) : PySem.W.Frag := K
theorem walk_of {l : PySem.W.OpenLaw} {n k : Nat} {q : Program} {loose : List Str} {XP : (Str → Option Value) → Heap → Prop} {YP : World → Heap → Prop} {d : DefRec} {K : Params → PySem.W.Frag} {CX : World → CXT} {sp : World → Sp} {x : Str}
    (hn : l.most = some n) (hn2 : n ≤ sizeLine) (hdf : d.params.defaults = []) (hr : Room k callerA)
    (hY : ∀ (w : World) (h : Heap), YP w h → (K w.params).In h)
    (F : ∀ (w : World) (mg : Str → Option Value) (fa : Addr) (h : Heap), (K w.params).In h → h.Ns mainGlobals mg → mg d.name = some (.ref fa) →
      ∃ fd : FuncData, (∀ (s : Shared) (u : Value), BindsTo s fd ⟨[u], []⟩ [(x, u)]) ∧
        ∀ base : Heap, (K w.params).In base → base.Ns mainGlobals mg → FnOk l.prog w (K w.params) mg base (CX w) k fa fd [x] (sp w))
    (hsp : ∀ (w : World) (H : Hp) (a : Addr) (ns : List Int), ns.length ≤ n → Only H → SqL (K w.params) H a (ns.map V.int) → sp w [.ref a] H (fun v _ => v = .bl true) fun _ _ _ => False)
    (hCX : ∀ (w : World) (H : Hp) (s : Shared) (e : Value) (s' : Shared), CX w [] H s (fun _ _ _ => False) e s' → False) :
    PySem.W.WalkO q loose XP YP l.row.toRowW d [] (fun f vs => PySem.call f vs) := by
  refine Att.attach_call hn hdf fun w s₀ s₁ mg mb fa o pm cd doc a vs ns G Y ho hd hcd hmg hobj hints hlen hg => ?_
  have KX := hY w _ Y
  obtain ⟨fd, hb, hF⟩ := F w mg fa _ KX G.T.g hmg
  exact law_call KX G.T.g G.T.b G.T.builtins G.T.nolimit hg hobj hints (Nat.le_trans hlen hn2) hr hF hb (fun H hO hS => hsp w H a ns hlen hO hS) fun H e s' => hCX w H s₁ e s'
end L2
namespace L2
open PySem PySem.Spec PyProof.Rows
def defArgs (s : Stmt) : Arguments := match s with
  | .FunctionDef _ a _ _ _ _ _ _ _ _ => a
  | _ => { posonlyargs := [], args := [], vararg := none, kwonlyargs := [], kw_defaults := [], kwarg := none, defaults := [] }
def defBody (s : Stmt) : List Stmt := match s with
  | .FunctionDef _ _ b _ _ _ _ _ _ _ => b
  | _ => []
def defScope (s : Stmt) : Scope := match s with
  | .FunctionDef _ _ _ _ _ _ sc _ _ _ => sc
  | _ => { kind := .function, names := [], isGenerator := false, isCoroutine := false }
abbrev CX0 : CXT := fun _ _ _ _ _ _ => False
abbrev E0 : XK := fun _ _ _ => False
theorem pass0 {X : Cx} : Passes CX0 X E0 := fun _ _ _ _ _ _ _ h => h.elim
structure Fun (K : PySem.W.Frag) (x qual : Str) (st : Stmt) (f : Addr) (fd : FuncData) : Prop where
  ex : ∃ (oc : Value) (od : Option Addr) (kV doc pm : Value) (an : Option Addr) (cdv ct : Value) (osl : Array (Option Value)),
    fd = PySem.W.fnOf x qual (defArgs st) (defBody st) (defScope st) .none kV doc pm an cdv ct ∧ K.lookup f = some ⟨oc, od, .func fd, osl⟩ ∧ PySem.W.codeIn K cdv qual = true
  kp : PySem.W.keepIn K (.ref f) = true
section
variable {P : Program} {w : World} {K : PySem.W.Frag} {mg : Str → Option Value} {base : Heap}
theorem Fun.ok {x qual : Str} {st : Stmt} {f : Addr} {fd : FuncData} {N ps : List Str} {k : Nat} {sp : Sp} (F : Fun K x qual st f fd) (S : FnScope N ps (defScope st)) (len : ∀ vs H Q E, sp vs H Q E → vs.length = ps.length)
    (hbody : ∀ (cdv : Value) (A : Around) (outer : List Env) (s : Shared) (H : Hp) (vs : List V) (Q : VK) (E : XK), Room k (A.deeper (envOfC qual (defScope st) s.heap.objs.size f cdv)) → sp vs H Q E →
      ∃ t, PSs (cxOf CX0 P w K mg base N qual (defScope st) f cdv A outer s H E).nox (defBody st) t ∧ t { nx := fun _ H' => Q .non H', rt := Q } (start N vs) H) : FnOk P w K mg base CX0 (k + 1) f fd ps sp := by
  obtain ⟨oc, od, kV, doc, pm, an, cdv, ct, osl, rfl, lk, hcd⟩ := F.ex
  refine fn_of lk hcd S len fun A outer s H vs Q E hr hsp => ?_
  obtain ⟨t, h, q⟩ := hbody cdv A outer s H vs Q E hr hsp
  exact ⟨t, h.nox, q⟩
theorem Fun.binds {x qual : Str} {st : Stmt} {f : Addr} {fd : FuncData} {ps : List Str} (F : Fun K x qual st f fd)
    (h : ∀ (kV doc pm : Value) (an : Option Addr) (cdv ct : Value) (us : List Value), us.length = ps.length → bindArgs (PySem.W.fnOf x qual (defArgs st) (defBody st) (defScope st) .none kV doc pm an cdv ct) ⟨us, []⟩ = pure (ps.zip us)) : Binds K fd ps [] := by
  obtain ⟨oc, od, kV, doc, pm, an, cdv, ct, osl, rfl, lk, hcd⟩ := F.ex
  exact .all (h kV doc pm an cdv ct)
theorem fun_mk {x qual : Str} {st : Stmt} {f : Addr} {oc : Value} {od an : Option Addr} {osl : Array (Option Value)} {kV doc pm cdv ct : Value} (l : K.lookup f = some ⟨oc, od, .func (PySem.W.fnOf x qual (defArgs st) (defBody st) (defScope st) .none kV doc pm an cdv ct), osl⟩)
    (c : PySem.W.codeIn K cdv qual = true) (k : PySem.W.keepIn K (.ref f) = true) : Fun K x qual st f (PySem.W.fnOf x qual (defArgs st) (defBody st) (defScope st) .none kV doc pm an cdv ct) := ⟨⟨oc, od, kV, doc, pm, an, cdv, ct, osl, rfl, l, c⟩, k⟩
end
theorem small1000 {n : Nat} (h : n ≤ 1000) : n < sizeLine := Nat.lt_of_le_of_lt h (by decide)
section
variable {X : Cx}
theorem pv (i : Nat) {x : Str} {pos : Pos} (hN : X.N[i]? = some x := by rfl) (hv : Vis X.env.scope x := by first | exact Or.inl rfl | exact Or.inr (Or.inl rfl) | exact Or.inr (Or.inr rfl)) (hd : (x == ("__debug__" : Str)) = false := by decide)
    (hcd : (x == ("__classdict__" : Str)) = false := by decide) : PE X (.Name x pos) (tVar i) := pe_var hN hv hd hcd
end
def Same (H H' : Hp) : Prop := ∀ b o, H b = some o → H' b = some o
theorem Same.refl (H : Hp) : Same H H := fun _ _ h => h
theorem Same.trans {H H1 H2 : Hp} (a : Same H H1) (b : Same H1 H2) : Same H H2 := fun c o h => b c o (a c o h)
theorem Same.free {H H' : Hp} (e : Same H H') {l : Addr} (h : H' l = Option.none) : H l = Option.none := by
  cases q : H l with
  | none => rfl
  | some o =>
    rw [e l o q] at h
    cases h
theorem Same.seq {K : PySem.W.Frag} {H H' : Hp} {a : Addr} {xs : List V} (e : Same H H') (h : SqL K H a xs) : SqL K H' a xs := by
  rcases h with (h | ⟨o, h⟩) | h
  · exact .inl (.inl (e _ _ h))
  · exact .inl (.inr ⟨o, e _ _ h⟩)
  · exact .inr h
end L2
section
set_option Elab.async false
set_option linter.all false
set_option maxRecDepth 100000
set_option maxHeartbeats 4000000
namespace TL
open PySem PySem.Spec PyProof.Rows L2
abbrev St := L2.St
def nst : Expr → Bool
  | .Starred _ _ => false
  | _ => true
theorem star1 {e : Expr} {es : List Expr} {env : Env} (h : nst e = true) : starEach (e :: es) env = (false, eval e env) :: starEach es env := by
  cases e <;> first | rfl | cases h
theorem stars {env : Env} {pos : Pos} : ∀ {es : List Expr}, es.all nst = true → (backTo pos (starEach es env)).any (·.1) = false
  | [], _ => rfl
  | e :: es, h => by
    rw [List.all_cons, Bool.and_eq_true] at h
    rw [star1 h.1]
    show (false || (backTo pos (starEach es env)).any (·.1)) = false
    rw [stars h.2]
    rfl
inductive T where
  | non | bl (b : Bool) | int (i : Int) | str (x : Str) | tup (ts : List T) | lst (ts : List T) | dct | exc (c : Str) | exf (c f : Str) (t : T)
abbrev kn (o : Obj) : HO := .frz o (.ext fun _ => True)
abbrev noDict : Obj := { cls := .type "dict", data := .dict #[] 0 }
structure ExcAt (K : PySem.W.Frag) (H : Hp) (c : Str) (p : Addr) : Prop where
  ex : ∃ (o : Obj) (C : Addr) (ws : Array Value), H p = some (kn o) ∧ o.cls = .ref C ∧ o.data = .fields ws ∧ PySem.W.nsIn K mainGlobals c = some (some (.ref C))
structure ExfAt (K : PySem.W.Frag) (H : Hp) (c f : Str) (p d : Addr) (od : Obj) (u : Value) : Prop where
  ex : ∃ (o : Obj) (C : Addr) (ws : Array Value), H p = some (kn o) ∧ o.cls = .ref C ∧ o.data = .fields ws ∧ o.dict = some d ∧ PySem.W.nsIn K mainGlobals c = some (some (.ref C))
  dict : H d = some (kn od)
  look : PySem.W.lookIn f od = some (some u)
def SqF (K : PySem.W.Frag) (H : Hp) (a : Addr) (xs : List V) : Prop :=
  (∃ o, H a = some (.frz o (.lst xs))) ∨
    ∃ (o : Obj) (its : Array Value) (n : Nat), K.lookup a = some o ∧ o.cls = .type "list" ∧ o.dict = none ∧ o.data = .seq its n ∧ its.size ≤ sizeLine ∧ Vals xs its.toList
mutual
def Rep (K : PySem.W.Frag) (H : Hp) : T → V → Prop
  | .non, v => v = .non
  | .bl b, v => v = .bl b
  | .int i, v => v = .int i
  | .str x, v => v = .str x
  | .tup ts, v => ∃ p vs, v = .ref p ∧ SqT K H p vs ∧ Reps K H ts vs
  | .lst ts, v => ∃ p vs, v = .ref p ∧ SqF K H p vs ∧ Reps K H ts vs
  | .dct, v => ∃ p, v = .ref p ∧ H p = some (kn noDict)
  | .exc c, v => ∃ p, v = .ref p ∧ ExcAt K H c p
  | .exf c f t, v => ∃ p, v = .ref p ∧ ∃ d od u y, ExfAt K H c f p d od u ∧ RelV y u ∧ Rep K H t y
def Reps (K : PySem.W.Frag) (H : Hp) : List T → List V → Prop
  | [], vs => vs = []
  | t :: ts, vs => ∃ v r, vs = v :: r ∧ Rep K H t v ∧ Reps K H ts r
end
structure Kp (H H' : Hp) : Prop where
  tup : ∀ b xs, H b = some (.tup xs) → H' b = some (.tup xs)
  frz : ∀ b o u, H b = some (.frz o u) → H' b = some (.frz o u)
theorem Kp.refl (H : Hp) : Kp H H := ⟨fun _ _ h => h, fun _ _ _ h => h⟩
theorem Kp.trans {H H1 H2 : Hp} (a : Kp H H1) (b : Kp H1 H2) : Kp H H2 := ⟨fun c xs h => b.tup c xs (a.tup c xs h), fun c o u h => b.frz c o u (a.frz c o u h)⟩
theorem Kp.of {H H' : Hp} (s : Same H H') : Kp H H' := ⟨fun b _ h => s b _ h, fun b _ _ h => s b _ h⟩
theorem same_new {H : Hp} {p : Addr} (h : H p = none) (o : HO) : Same H (upd H p o) := fun b u q => by rw [upd_ne (ne_of_none q h)]; exact q
theorem Kp.write {H : Hp} {p : Addr} {xs : List V} (h : H p = some (.lst xs)) (o : HO) : Kp H (upd H p o) :=
  ⟨fun b ys q => by rw [upd_ne (by rintro rfl; rw [h] at q; cases q)]; exact q, fun b ob u q => by rw [upd_ne (by rintro rfl; rw [h] at q; cases q)]; exact q⟩
section
variable {K : PySem.W.Frag} {H H' : Hp}
theorem SqF.sq {a : Addr} {xs : List V} (h : SqF K H a xs) : SqL K H a xs := h.elim (fun ⟨o, e⟩ => .inl (.inr ⟨o, e⟩)) .inr
theorem sqF_kp {a : Addr} {xs : List V} (k : Kp H H') (h : SqF K H a xs) : SqF K H' a xs := h.elim (fun ⟨o, e⟩ => .inl ⟨o, k.frz _ _ _ e⟩) .inr
theorem sqT_kp {a : Addr} {xs : List V} (k : Kp H H') (h : SqT K H a xs) : SqT K H' a xs := by
  rcases h with (h | ⟨o, h⟩) | h
  · exact .inl (.inl (k.tup _ _ h))
  · exact .inl (.inr ⟨o, k.frz _ _ _ h⟩)
  · exact .inr h
theorem rep_tup {ts : List T} {v : V} : Rep K H (.tup ts) v ↔ ∃ p vs, v = .ref p ∧ SqT K H p vs ∧ Reps K H ts vs := by rw [Rep]
theorem rep_lst {ts : List T} {v : V} : Rep K H (.lst ts) v ↔ ∃ p vs, v = .ref p ∧ SqF K H p vs ∧ Reps K H ts vs := by rw [Rep]
theorem rep_int {i : Int} {v : V} : Rep K H (.int i) v ↔ v = .int i := by rw [Rep]
theorem rep_bl {i : Bool} {v : V} : Rep K H (.bl i) v ↔ v = .bl i := by rw [Rep]
theorem rep_str {i : Str} {v : V} : Rep K H (.str i) v ↔ v = .str i := by rw [Rep]
theorem rep_non {v : V} : Rep K H .non v ↔ v = .non := by rw [Rep]
theorem rep_dct {v : V} : Rep K H .dct v ↔ ∃ p, v = .ref p ∧ H p = some (kn noDict) := by rw [Rep]
theorem rep_exc {c : Str} {v : V} : Rep K H (.exc c) v ↔ ∃ p, v = .ref p ∧ ExcAt K H c p := by rw [Rep]
theorem rep_exf {c f : Str} {t : T} {v : V} : Rep K H (.exf c f t) v ↔ ∃ p, v = .ref p ∧ ∃ d od u y, ExfAt K H c f p d od u ∧ RelV y u ∧ Rep K H t y := by rw [Rep]
theorem ExfAt.kp {c f : Str} {p d : Addr} {od : Obj} {u : Value} (k : Kp H H') (h : ExfAt K H c f p d od u) : ExfAt K H' c f p d od u := let ⟨o, C, ws, e, r⟩ := h.ex; ⟨⟨o, C, ws, k.frz _ _ _ e, r⟩, k.frz _ _ _ h.dict, h.look⟩
theorem ExcAt.kp {c : Str} {p : Addr} (k : Kp H H') (h : ExcAt K H c p) : ExcAt K H' c p := let ⟨o, C, ws, e, r⟩ := h.ex; ⟨o, C, ws, k.frz _ _ _ e, r⟩
theorem reps_nil {vs : List V} : Reps K H [] vs ↔ vs = [] := by rw [Reps]
theorem reps_cons {t : T} {ts : List T} {vs : List V} : Reps K H (t :: ts) vs ↔ ∃ v r, vs = v :: r ∧ Rep K H t v ∧ Reps K H ts r := by rw [Reps]
mutual
theorem Rep.kp (k : Kp H H') : ∀ {t : T} {v : V}, Rep K H t v → Rep K H' t v
  | .non, v, h => by rw [rep_non] at h ⊢; exact h
  | .bl b, v, h => by rw [rep_bl] at h ⊢; exact h
  | .int i, v, h => by rw [rep_int] at h ⊢; exact h
  | .str x, v, h => by rw [rep_str] at h ⊢; exact h
  | .tup ts, v, h => by
    rw [rep_tup] at h ⊢
    obtain ⟨p, vs, e, s, r⟩ := h
    exact ⟨p, vs, e, sqT_kp k s, Reps.kp k r⟩
  | .lst ts, v, h => by
    rw [rep_lst] at h ⊢
    obtain ⟨p, vs, e, s, r⟩ := h
    exact ⟨p, vs, e, sqF_kp k s, Reps.kp k r⟩
  | .dct, v, h => by
    rw [rep_dct] at h ⊢
    obtain ⟨p, e, q⟩ := h
    exact ⟨p, e, k.frz _ _ _ q⟩
  | .exc c, v, h => by
    rw [rep_exc] at h ⊢
    obtain ⟨p, e, q⟩ := h
    exact ⟨p, e, q.kp k⟩
  | .exf c f t, v, h => by
    rw [rep_exf] at h ⊢
    obtain ⟨p, e, d, od, u, y, q, r, a⟩ := h
    exact ⟨p, e, d, od, u, y, q.kp k, r, Rep.kp k a⟩
theorem Reps.kp (k : Kp H H') : ∀ {ts : List T} {vs : List V}, Reps K H ts vs → Reps K H' ts vs
  | [], vs, h => by rw [reps_nil] at h ⊢; exact h
  | t :: ts, vs, h => by
    rw [reps_cons] at h ⊢
    obtain ⟨v, r, e, a, b⟩ := h
    exact ⟨v, r, e, Rep.kp k a, Reps.kp k b⟩
end
theorem Reps.length : ∀ {ts : List T} {vs : List V}, Reps K H ts vs → vs.length = ts.length
  | [], vs, h => by rw [reps_nil] at h; subst h; rfl
  | t :: ts, vs, h => by
    rw [reps_cons] at h
    obtain ⟨v, r, e, a, b⟩ := h
    subst e
    simp [Reps.length b]
theorem Reps.get : ∀ {ts : List T} {vs : List V} {i : Nat} {t : T}, Reps K H ts vs → ts[i]? = some t → ∃ v, vs[i]? = some v ∧ Rep K H t v
  | [], vs, i, t, h, e => by simp at e
  | t :: ts, vs, 0, t', h, e => by
    rw [reps_cons] at h
    obtain ⟨v, r, rfl, a, b⟩ := h
    simp at e
    subst e
    exact ⟨v, rfl, a⟩
  | t :: ts, vs, i + 1, t', h, e => by
    rw [reps_cons] at h
    obtain ⟨v, r, rfl, a, b⟩ := h
    obtain ⟨u, h1, h2⟩ := Reps.get (i := i) b (by simpa using e)
    exact ⟨u, by simpa using h1, h2⟩
theorem Reps.append : ∀ {ts us : List T} {vs ws : List V}, Reps K H ts vs → Reps K H us ws → Reps K H (ts ++ us) (vs ++ ws)
  | [], us, vs, ws, h, q => by rw [reps_nil] at h; subst h; exact q
  | t :: ts, us, vs, ws, h, q => by
    rw [reps_cons] at h
    obtain ⟨v, r, rfl, a, b⟩ := h
    show Reps K H (t :: (ts ++ us)) (v :: (r ++ ws))
    rw [reps_cons]
    exact ⟨v, _, rfl, a, Reps.append b q⟩
theorem Reps.one {t : T} {v : V} (h : Rep K H t v) : Reps K H [t] [v] := by
  rw [reps_cons]
  exact ⟨v, [], rfl, h, reps_nil.mpr rfl⟩
theorem Reps.cons {t : T} {v : V} {ts : List T} {vs : List V} (h : Rep K H t v) (r : Reps K H ts vs) : Reps K H (t :: ts) (v :: vs) := by
  rw [reps_cons]
  exact ⟨v, vs, rfl, h, r⟩
theorem Reps.take : ∀ {ts : List T} {vs : List V} (n : Nat), Reps K H ts vs → Reps K H (ts.take n) (vs.take n)
  | [], vs, n, h => by rw [reps_nil] at h; subst h; simp [reps_nil]
  | t :: ts, vs, 0, h => by simp [reps_nil]
  | t :: ts, vs, n + 1, h => by
    rw [reps_cons] at h
    obtain ⟨v, r, rfl, a, b⟩ := h
    exact Reps.cons a (Reps.take n b)
theorem Reps.drop : ∀ {ts : List T} {vs : List V} (n : Nat), Reps K H ts vs → Reps K H (ts.drop n) (vs.drop n)
  | ts, vs, 0, h => by simpa using h
  | [], vs, n + 1, h => by rw [reps_nil] at h; subst h; simp [reps_nil]
  | t :: ts, vs, n + 1, h => by
    rw [reps_cons] at h
    obtain ⟨v, r, rfl, a, b⟩ := h
    exact Reps.drop n b
theorem reps_ints (ns : List Int) : Reps K H (ns.map T.int) (ns.map V.int) := by
  induction ns with
  | nil => exact reps_nil.mpr rfl
  | cons n r ih => exact Reps.cons (rep_int.mpr rfl) ih
end
inductive Slot where
  | no | val (t : T) | own (ts : List T) | see (ts : List T) | dic (ps : List (Int × T)) | vat (t : T) (v : V)
def sget : List Slot → Nat → Slot
  | [], _ => .no
  | s :: _, 0 => s
  | _ :: r, n + 1 => sget r n
def sput : List Slot → Nat → Slot → List Slot
  | [], _, _ => []
  | _ :: r, 0, x => x :: r
  | s :: r, n + 1, x => s :: sput r n x
theorem length_sput : ∀ (τ : List Slot) (i : Nat) (x : Slot), (sput τ i x).length = τ.length
  | [], _, _ => rfl
  | _ :: _, 0, _ => rfl
  | _ :: r, n + 1, x => by simp [sput, length_sput r n x]
theorem sget_same : ∀ {τ : List Slot} {i : Nat} {x : Slot}, i < τ.length → sget (sput τ i x) i = x
  | [], _, _, h => by simp at h
  | _ :: _, 0, _, _ => rfl
  | _ :: r, n + 1, x, h => by simp only [sput, sget]; exact sget_same (by simpa using h)
theorem sget_ne : ∀ {τ : List Slot} {i j : Nat} {x : Slot}, i ≠ j → sget (sput τ i x) j = sget τ j
  | [], _, _, _, _ => rfl
  | _ :: _, 0, 0, _, h => absurd rfl h
  | _ :: _, 0, _ + 1, _, _ => rfl
  | _ :: _, _ + 1, 0, _, _ => rfl
  | _ :: r, i + 1, j + 1, x, h => by simp only [sput, sget]; exact sget_ne (by omega)
theorem sget_big : ∀ {τ : List Slot} {i : Nat}, τ.length ≤ i → sget τ i = .no
  | [], _, _ => rfl
  | _ :: r, 0, h => by simp at h
  | _ :: r, i + 1, h => by simp only [sget]; exact sget_big (by simpa using h)
abbrev IntP := Int × V
def toK (q : IntP) : Key × V := (.inl q.1, q.2)
def SlotOk (K : PySem.W.Frag) (H0 H : Hp) : Slot → Option (Option V) → Prop
  | .no, _ => True
  | .val t, sv => ∃ v, sv = some (some v) ∧ Rep K H t v
  | .own ts, sv => ∃ p vs, sv = some (some (.ref p)) ∧ H p = some (.lst vs) ∧ Reps K H ts vs ∧ H0 p = none
  | .see ts, sv => ∃ p vs, sv = some (some (.ref p)) ∧ H p = some (.lst vs) ∧ Reps K H ts vs ∧ H0 p ≠ none
  | .dic ps, sv => ∃ (p : Addr) (o : Obj) (kvs : List (Int × V)), sv = some (some (.ref p)) ∧ H p = some (.frz o (.dK (kvs.map toK))) ∧ kvs.map (·.1) = ps.map (·.1) ∧ Reps K H (ps.map (·.2)) (kvs.map (·.2))
  | .vat t v, sv => sv = some (some v) ∧ Rep K H t v
structure RepSt (K : PySem.W.Frag) (H0 H : Hp) (σ : St) (τ : List Slot) : Prop where
  same : Same H0 H
  len : τ.length = σ.length
  slot : ∀ i, SlotOk K H0 H (sget τ i) (σ[i]?)
  apart : ∀ i j ts us p, i ≠ j → sget τ i = .own ts → sget τ j = .own us → σ[i]? = some (some (.ref p)) → σ[j]? = some (some (.ref p)) → False
section
variable {K : PySem.W.Frag} {H0 H H' : Hp} {σ : St} {τ : List Slot}
theorem SlotOk.mono {s : Slot} {sv : Option (Option V)} (k : Same H H') (h : SlotOk K H0 H s sv) : SlotOk K H0 H' s sv := by
  cases s with
  | no => trivial
  | val t => obtain ⟨v, e, r⟩ := h; exact ⟨v, e, r.kp (.of k)⟩
  | own ts => obtain ⟨p, vs, e, h1, r, n⟩ := h; exact ⟨p, vs, e, k _ _ h1, r.kp (.of k), n⟩
  | see ts => obtain ⟨p, vs, e, h1, r, n⟩ := h; exact ⟨p, vs, e, k _ _ h1, r.kp (.of k), n⟩
  | dic ps => obtain ⟨p, o, kvs, e, h1, ek, r⟩ := h; exact ⟨p, o, kvs, e, k _ _ h1, ek, r.kp (.of k)⟩
  | vat t v => exact ⟨h.1, h.2.kp (.of k)⟩
theorem RepSt.mono (R : RepSt K H0 H σ τ) (k : Same H H') : RepSt K H0 H' σ τ :=
  ⟨R.same.trans k, R.len, fun i => (R.slot i).mono k, R.apart⟩
theorem RepSt.put {i : Nat} {t : T} {v : V} (R : RepSt K H0 H σ τ) (r : Rep K H t v) : RepSt K H0 H (σ.set i (some v)) (sput τ i (.val t)) := by
  refine ⟨R.same, by rw [length_sput, List.length_set]; exact R.len, fun j => ?_, fun a b ts us p hab ha hb ea eb => ?_⟩
  · by_cases hij : i = j
    · subst hij
      by_cases hi : i < τ.length
      · rw [sget_same hi]
        exact ⟨v, List.getElem?_set_self (by rw [← R.len]; exact hi), r⟩
      · rw [sget_big (by rw [length_sput]; omega)]
        trivial
    · rw [sget_ne hij, List.getElem?_set_ne hij]
      exact R.slot j
  · have na : i ≠ a := by
      rintro rfl
      by_cases hi : i < τ.length
      · rw [sget_same hi] at ha; cases ha
      · rw [sget_big (by rw [length_sput]; omega)] at ha; cases ha
    have nb : i ≠ b := by
      rintro rfl
      by_cases hi : i < τ.length
      · rw [sget_same hi] at hb; cases hb
      · rw [sget_big (by rw [length_sput]; omega)] at hb; cases hb
    rw [sget_ne na] at ha
    rw [sget_ne nb] at hb
    rw [List.getElem?_set_ne na] at ea
    rw [List.getElem?_set_ne nb] at eb
    exact R.apart a b ts us p hab ha hb ea eb
theorem RepSt.putOwn {i : Nat} {ts : List T} {vs : List V} {p : Addr} (R : RepSt K H0 H σ τ) (hp : H p = none) (r : Reps K H ts vs) : RepSt K H0 (upd H p (.lst vs)) (σ.set i (some (.ref p))) (sput τ i (.own ts)) := by
  have S := same_new hp (.lst vs)
  refine ⟨R.same.trans S, by rw [length_sput, List.length_set]; exact R.len, fun j => ?_, fun a b ts' us q hab ha hb ea eb => ?_⟩
  · by_cases hij : i = j
    · subst hij
      by_cases hi : i < τ.length
      · rw [sget_same hi]
        exact ⟨p, vs, List.getElem?_set_self (by rw [← R.len]; exact hi), upd_same, r.kp (.of S), R.same.free hp⟩
      · rw [sget_big (by rw [length_sput]; omega)]
        trivial
    · rw [sget_ne hij, List.getElem?_set_ne hij]
      exact (R.slot j).mono S
  · -- an elder own list stands at a tracked place, the new one did not
    have old : ∀ c ts, i ≠ c → sget (sput τ i (.own ts')) c = .own ts → σ[c]? ≠ some (some (.ref p)) := fun c ts hc hcs e => by
      rw [sget_ne hc] at hcs
      have := R.slot c
      rw [hcs] at this
      obtain ⟨p', vs', e', h1, _⟩ := this
      rw [e] at e'
      cases e'
      rw [hp] at h1
      cases h1
    have isI : ∀ c, i = c → ∀ us, sget (sput τ i (.own ts)) c = .own us → (σ.set i (some (.ref p)))[c]? = some (some (.ref p)) := fun c hc us hcs => by
      subst hc
      by_cases hi : i < τ.length
      · exact List.getElem?_set_self (by rw [← R.len]; exact hi)
      · rw [sget_big (by rw [length_sput]; omega)] at hcs; cases hcs
    by_cases ia : i = a
    · have z := isI a ia _ ha
      rw [z] at ea
      cases ea
      have ib : i ≠ b := fun e => hab (ia.symm.trans e)
      rw [List.getElem?_set_ne ib] at eb
      refine old b us ib ?_ eb
      rw [sget_ne ib] at hb ⊢
      exact hb
    · rw [List.getElem?_set_ne ia] at ea
      by_cases ib : i = b
      · have z := isI b ib _ hb
        rw [z] at eb
        cases eb
        refine old a ts' ia ?_ ea
        rw [sget_ne ia] at ha ⊢
        exact ha
      · rw [List.getElem?_set_ne ib] at eb
        rw [sget_ne ia] at ha
        rw [sget_ne ib] at hb
        exact R.apart a b ts' us q hab ha hb ea eb
theorem RepSt.write {i : Nat} {ts ts2 : List T} {vs2 : List V} {p : Addr} {xs : List V} (R : RepSt K H0 H σ τ) (hs : sget τ i = .own ts) (hσ : σ[i]? = some (some (.ref p))) (hp : H p = some (.lst xs)) (r : Reps K H ts2 vs2) :
    RepSt K H0 (upd H p (.lst vs2)) σ (sput τ i (.own ts2)) := by
  have k := Kp.write hp (.lst vs2)
  have n0 : H0 p = none := by
    have := R.slot i
    rw [hs] at this
    obtain ⟨p', vs', e', _, _, n⟩ := this
    rw [hσ] at e'
    cases e'
    exact n
  have hi : i < τ.length := by
    by_cases hi : i < τ.length
    · exact hi
    · rw [sget_big (by omega)] at hs; cases hs
  refine ⟨fun b o h => ?_, by rw [length_sput]; exact R.len, fun j => ?_, fun a b ts' us q hab ha hb ea eb => ?_⟩
  · have := R.same b o h
    rw [upd_ne (by rintro rfl; rw [n0] at h; cases h)]
    exact this
  · by_cases hij : i = j
    · subst hij
      rw [sget_same hi]
      exact ⟨p, vs2, hσ, upd_same, r.kp k, n0⟩
    · rw [sget_ne hij]
      have sl := R.slot j
      cases e : sget τ j with
      | no => trivial
      | val t => rw [e] at sl; obtain ⟨v, e1, r1⟩ := sl; exact ⟨v, e1, r1.kp k⟩
      | dic ps => rw [e] at sl; obtain ⟨q, o, kvs, e1, h1, ek, r1⟩ := sl; exact ⟨q, o, kvs, e1, k.frz _ _ _ h1, ek, r1.kp k⟩
      | vat t v => rw [e] at sl; exact ⟨sl.1, sl.2.kp k⟩
      | own us =>
        rw [e] at sl
        obtain ⟨q, ws, e1, h1, r1, n1⟩ := sl
        have nq : q ≠ p := by rintro rfl; exact R.apart i j ts us q hij hs e hσ e1
        exact ⟨q, ws, e1, by rw [upd_ne nq]; exact h1, r1.kp k, n1⟩
      | see us =>
        rw [e] at sl
        obtain ⟨q, ws, e1, h1, r1, n1⟩ := sl
        have nq : q ≠ p := by rintro rfl; exact n1 n0
        exact ⟨q, ws, e1, by rw [upd_ne nq]; exact h1, r1.kp k, n1⟩
  · have old : ∀ c us, sget (sput τ i (.own ts2)) c = .own us → ∃ us', sget τ c = .own us' := fun c us h => by
      by_cases hc : i = c
      · subst hc; exact ⟨ts, hs⟩
      · rw [sget_ne hc] at h; exact ⟨us, h⟩
    obtain ⟨u1, h1⟩ := old a _ ha
    obtain ⟨u2, h2⟩ := old b _ hb
    exact R.apart a b u1 u2 q hab h1 h2 ea eb
theorem RepSt.freeze {i : Nat} {ts : List T} {vs : List V} {p : Addr} {o : Obj} (R : RepSt K H0 H σ τ) (hs : sget τ i = .own ts) (hσ : σ[i]? = some (some (.ref p))) (hp : H p = some (.lst vs)) (r : Reps K H ts vs) :
    RepSt K H0 (upd H p (.frz o (.lst vs))) σ (sput τ i (.val (.lst ts))) := by
  have k := Kp.write hp (.frz o (.lst vs))
  have n0 : H0 p = none := by
    have := R.slot i
    rw [hs] at this
    obtain ⟨p', vs', e', _, _, n⟩ := this
    rw [hσ] at e'
    cases e'
    exact n
  have hi : i < τ.length := by
    by_cases hi : i < τ.length
    · exact hi
    · rw [sget_big (by omega)] at hs; cases hs
  refine ⟨fun b o' h => ?_, by rw [length_sput]; exact R.len, fun j => ?_, fun a b ts' us q hab ha hb ea eb => ?_⟩
  · have := R.same b o' h
    rw [upd_ne (by rintro rfl; rw [n0] at h; cases h)]
    exact this
  · by_cases hij : i = j
    · subst hij
      rw [sget_same hi]
      exact ⟨.ref p, hσ, rep_lst.mpr ⟨p, vs, rfl, .inl ⟨o, upd_same⟩, r.kp k⟩⟩
    · rw [sget_ne hij]
      have sl := R.slot j
      cases e : sget τ j with
      | no => trivial
      | val t => rw [e] at sl; obtain ⟨v, e1, r1⟩ := sl; exact ⟨v, e1, r1.kp k⟩
      | dic ps => rw [e] at sl; obtain ⟨q, o, kvs, e1, h1, ek, r1⟩ := sl; exact ⟨q, o, kvs, e1, k.frz _ _ _ h1, ek, r1.kp k⟩
      | vat t v => rw [e] at sl; exact ⟨sl.1, sl.2.kp k⟩
      | own us =>
        rw [e] at sl
        obtain ⟨q, ws, e1, h1, r1, n1⟩ := sl
        have nq : q ≠ p := by rintro rfl; exact R.apart i j ts us q hij hs e hσ e1
        exact ⟨q, ws, e1, by rw [upd_ne nq]; exact h1, r1.kp k, n1⟩
      | see us =>
        rw [e] at sl
        obtain ⟨q, ws, e1, h1, r1, n1⟩ := sl
        have nq : q ≠ p := by rintro rfl; exact n1 n0
        exact ⟨q, ws, e1, by rw [upd_ne nq]; exact h1, r1.kp k, n1⟩
  · have na : i ≠ a := by
      rintro rfl
      rw [sget_same hi] at ha
      cases ha
    have nb : i ≠ b := by
      rintro rfl
      rw [sget_same hi] at hb
      cases hb
    rw [sget_ne na] at ha
    rw [sget_ne nb] at hb
    exact R.apart a b ts' us q hab ha hb ea eb
end
abbrev WE := List Slot → (T → Prop) → Prop
abbrev WT := List Slot → (Bool → Prop) → Prop
abbrev WA := List Slot → (List T → Prop) → Prop
structure DT where
  nx : List Slot → Prop
  rt : T → Prop
  bk : List Slot → Prop := fun _ => False
  ct : List Slot → Prop := fun _ => False
abbrev WS := DT → List Slot → Prop
def up (K : PySem.W.Frag) (H0 : Hp) (w : WE) : TE := fun σ H Q => ∃ (τ : List Slot) (Q0 : T → Prop), RepSt K H0 H σ τ ∧ w τ Q0 ∧ ∀ t v H', Same H H' → Rep K H' t v → Q0 t → Q v H'
def upT (K : PySem.W.Frag) (H0 : Hp) (w : WT) : TT := fun σ H Q => ∃ (τ : List Slot) (Q0 : Bool → Prop), RepSt K H0 H σ τ ∧ w τ Q0 ∧ ∀ b H', Same H H' → Q0 b → Q b H'
def upA (K : PySem.W.Frag) (H0 : Hp) (w : WA) : TA := fun σ H Q => ∃ (τ : List Slot) (Q0 : List T → Prop), RepSt K H0 H σ τ ∧ w τ Q0 ∧ ∀ ts vs H', Same H H' → Reps K H' ts vs → Q0 ts → Q vs H'
def upS (K : PySem.W.Frag) (H0 : Hp) (w : WS) : TS := fun D σ H => ∃ (τ : List Slot) (D0 : DT), RepSt K H0 H σ τ ∧ w D0 τ ∧
  (∀ τ' σ' H', Kp H H' → RepSt K H0 H' σ' τ' → D0.nx τ' → D.nx σ' H') ∧ (∀ t v H', Same H0 H' → Rep K H' t v → D0.rt t → D.rt v H') ∧
  (∀ τ' σ' H', Kp H H' → RepSt K H0 H' σ' τ' → D0.bk τ' → D.bk σ' H') ∧ (∀ τ' σ' H', Kp H H' → RepSt K H0 H' σ' τ' → D0.ct τ' → D.ct σ' H')
def JE (X : Cx) (e : Expr) (w : WE) : Prop := PE X e (up X.K X.H₀ w)
def JT (X : Cx) (e : Expr) (w : WT) : Prop := PT X e (upT X.K X.H₀ w)
def JA (X : Cx) (es : List Expr) (w : WA) : Prop := PA X es (upA X.K X.H₀ w)
def JS (X : Cx) (st : Stmt) (w : WS) : Prop := PS X st (upS X.K X.H₀ w)
def JSs (X : Cx) (st : List Stmt) (w : WS) : Prop := PSs X st (upS X.K X.H₀ w)
theorem pe_of {X : Cx} {e : Expr} {t t' : TE} (h : PE X e t) (f : ∀ σ H Q, t' σ H Q → t σ H Q) : PE X e t' := fun pins s σ H Q I hw => h pins s σ H Q I (f σ H Q hw)
theorem pt_of {X : Cx} {e : Expr} {t t' : TT} (h : PT X e t) (f : ∀ σ H Q, t' σ H Q → t σ H Q) : PT X e t' := fun pins s σ H Q I hw => h pins s σ H Q I (f σ H Q hw)
theorem pw_of {X : Cx} {e : Expr} {t t' : TT} (h : PW X e t) (f : ∀ σ H Q, t' σ H Q → t σ H Q) : PW X e t' := fun wh pins s σ H Q I hw => h wh pins s σ H Q I (f σ H Q hw)
theorem pa_of {X : Cx} {es : List Expr} {t t' : TA} (h : PA X es t) (f : ∀ σ H Q, t' σ H Q → t σ H Q) : PA X es t' := fun pos pins s σ H Q I hw => h pos pins s σ H Q I (f σ H Q hw)
theorem ps_of {X : Cx} {st : Stmt} {t t' : TS} (h : PS X st t) (f : ∀ D σ H, t' D σ H → t D σ H) : PS X st t' := fun pins s σ H D I hw => h pins s σ H D I (f D σ H hw)
theorem pss_of {X : Cx} {st : List Stmt} {t t' : TS} (h : PSs X st t) (f : ∀ D σ H, t' D σ H → t D σ H) : PSs X st t' := fun pins s σ H D I hw => h pins s σ H D I (f D σ H hw)
end TL
end
section
set_option Elab.async false
set_option linter.all false
set_option maxRecDepth 100000
set_option maxHeartbeats 4000000
namespace TL
open PySem PySem.Spec PyProof.Rows L2
section
variable {X : Cx} {a b c e : Expr} {es : List Expr} {wa wb wc w : WE} {pos : Pos}
def wVar (i : Nat) : WE := fun τ Q => match sget τ i with | .val t => Q t | .vat t _ => Q t | _ => False
def wC (t : T) : WE := fun _ Q => Q t
theorem je_of_var {i : Nat} (h : PE X e (tVar i)) : JE X e (wVar i) := pe_of h fun σ H Q ⟨τ, Q0, R, hw, k⟩ => by
  have s := R.slot i
  unfold wVar at hw
  cases z : sget τ i with
  | no => rw [z] at hw; exact hw.elim
  | own ts => rw [z] at hw; exact hw.elim
  | see ts => rw [z] at hw; exact hw.elim
  | dic ts => rw [z] at hw; exact hw.elim
  | vat t v =>
    rw [z] at hw s
    exact ⟨v, s.1, k t v H (.refl H) s.2 hw⟩
  | val t =>
    rw [z] at hw s
    obtain ⟨v, ev, r⟩ := s
    exact ⟨v, ev, k t v H (.refl H) r hw⟩
theorem jv (i : Nat) {x : Str} {pos : Pos} (hN : X.N[i]? = some x := by rfl) (hv : Vis X.env.scope x := by first | exact Or.inl rfl | exact Or.inr (Or.inl rfl) | exact Or.inr (Or.inr rfl)) (hd : (x == ("__debug__" : Str)) = false := by decide)
    (hcd : (x == ("__classdict__" : Str)) = false := by decide) : JE X (.Name x pos) (wVar i) := je_of_var (pe_var hN hv hd hcd)
theorem je_const {v : V} {t : T} (h : PE X e (tC v)) (r : ∀ H, Rep X.K H t v) : JE X e (wC t) := pe_of h fun σ H Q ⟨τ, Q0, R, hw, k⟩ => k t v H (.refl H) (r H) hw
theorem ji {i j pos} : JE X (.Constant (.int i) j pos) (wC (.int i)) := je_const pe_int fun _ => rep_int.mpr rfl
theorem jb {b j pos} : JE X (.Constant (.bool b) j pos) (wC (.bl b)) := je_const pe_bl fun _ => rep_bl.mpr rfl
theorem jn {j pos} : JE X (.Constant .none j pos) (wC .non) := je_const pe_non fun _ => rep_non.mpr rfl
theorem js {x j pos} : JE X (.Constant (.str x) j pos) (wC (.str x)) := je_const pe_str fun _ => rep_str.mpr rfl
def w2 (r : T → T → (T → Prop) → Prop) (wa wb : WE) : WE := fun τ Q => wa τ fun x => wb τ fun y => r x y Q
def BR (X : Cx) (op : Operator) (rT : T → T → (T → Prop) → Prop) : Prop := ∃ r : R2, OpR X (binaryOp op) r ∧ ∀ t1 t2 v1 v2 H (Q0 : T → Prop) (Q : VK), Rep X.K H t1 v1 → Rep X.K H t2 v2 → rT t1 t2 Q0 →
  (∀ t v H', Same H H' → Rep X.K H' t v → Q0 t → Q v H') → r v1 v2 H Q
theorem up2 {r : R2} {rT : T → T → (T → Prop) → Prop} {K : PySem.W.Frag} {H0 : Hp} (br : ∀ t1 t2 v1 v2 H (Q0 : T → Prop) (Q : VK), Rep K H t1 v1 → Rep K H t2 v2 → rT t1 t2 Q0 →
    (∀ t v H', Same H H' → Rep K H' t v → Q0 t → Q v H') → r v1 v2 H Q) (σ : St) (H : Hp) (Q : VK) (h : up K H0 (w2 rT wa wb) σ H Q) : tOp r (up K H0 wa) (up K H0 wb) σ H Q := by
  obtain ⟨τ, Q0, R, hw, k⟩ := h
  exact ⟨τ, _, R, hw, fun t1 v1 H1 S1 r1 q1 => ⟨τ, _, R.mono S1, q1, fun t2 v2 H2 S2 r2 q2 => br t1 t2 v1 v2 H2 Q0 Q (r1.kp (.of S2)) r2 q2 fun t v H' S3 r q => k t v H' (S1.trans (S2.trans S3)) r q⟩⟩
theorem jop {op : Operator} {rT : T → T → (T → Prop) → Prop} (h : BR X op rT) (ha : JE X a wa) (hb : JE X b wb) : JE X (.BinOp a op b pos) (w2 rT wa wb) := by
  obtain ⟨r, ho, br⟩ := h
  exact pe_of (pe_op ho ha hb) (up2 br)
def rAddT (x y : T) (Q : T → Prop) : Prop := match x, y with | .int i, .int j => Q (.int (i + j)) | _, _ => False
def rSubT (x y : T) (Q : T → Prop) : Prop := match x, y with | .int i, .int j => Q (.int (i - j)) | _, _ => False
def Lim (n : Nat) (i : Int) : Prop := i.natAbs < 10 ^ n
def MulOk (i j : Int) : Prop := (∃ m n, m ≤ 100000 ∧ n ≤ 100000 ∧ Lim m i ∧ Lim n j) ∨ Lim 19 i ∨ Lim 19 j
def DivOk (j : Int) : Prop := j ≠ 0 ∧ ∃ n, n ≤ 2200 ∧ Lim n j
def rMulT (x y : T) (Q : T → Prop) : Prop := match x, y with | .int i, .int j => MulOk i j ∧ Q (.int (i * j)) | _, _ => False
def rDivT (x y : T) (Q : T → Prop) : Prop := match x, y with | .int i, .int j => DivOk j ∧ Q (.int (i.fdiv j)) | _, _ => False
def rModT (x y : T) (Q : T → Prop) : Prop := match x, y with | .int i, .int j => j ≠ 0 ∧ Q (.int (i.fmod j)) | _, _ => False
def rPowT (x y : T) (Q : T → Prop) : Prop := match x, y with | .int i, .int j => CPow i j ∧ Q (.int (i ^ j.toNat)) | _, _ => False
theorem br_int {op : Operator} {C : Int → Int → Prop} {g : Int → Int → Int} (h : OpR X (binaryOp op) (rI C fun i j => .int (g i j))) :
    BR X op (fun x y Q => match x, y with | .int i, .int j => C i j ∧ Q (.int (g i j)) | _, _ => False) := by
  refine ⟨_, h, fun t1 t2 v1 v2 H Q0 Q r1 r2 q k => ?_⟩
  cases t1 <;> cases t2 <;> first | exact q.elim | skip
  rename_i i j
  exact ⟨i, j, rep_int.mp r1, rep_int.mp r2, q.1, k _ _ H (.refl H) (rep_int.mpr rfl) q.2⟩
theorem br_int0 {op : Operator} {g : Int → Int → Int} (h : OpR X (binaryOp op) (rI0 fun i j => .int (g i j))) :
    BR X op (fun x y Q => match x, y with | .int i, .int j => Q (.int (g i j)) | _, _ => False) := by
  refine ⟨_, h, fun t1 t2 v1 v2 H Q0 Q r1 r2 q k => ?_⟩
  cases t1 <;> cases t2 <;> first | exact q.elim | skip
  rename_i i j
  exact ⟨i, j, rep_int.mp r1, rep_int.mp r2, k _ _ H (.refl H) (rep_int.mpr rfl) q⟩
theorem b_add : BR X .Add rAddT := br_int0 op_add
theorem b_sub : BR X .Sub rSubT := br_int0 op_sub
theorem log2_of_lim {n : Nat} {i : Int} (h : Lim n i) : i.natAbs.log2 < 4 * n + 1 := by
  by_cases h0 : i.natAbs = 0
  · rw [h0]; simp
  · rw [Nat.log2_lt h0]
    have h1 : (10 : Nat) ^ n ≤ 16 ^ n := Nat.pow_le_pow_left (by decide) n
    have h2 : (16 : Nat) ^ n = 2 ^ (4 * n) := by rw [show (16 : Nat) = 2 ^ 4 from rfl, ← Nat.pow_mul]
    have h3 : (2 : Nat) ^ (4 * n + 1) = 2 ^ (4 * n) * 2 := Nat.pow_succ ..
    have h4 : i.natAbs < 10 ^ n := h
    have h5 : 0 < (2 : Nat) ^ (4 * n) := Nat.pos_of_ne_zero (by simp)
    omega
theorem bits_of_lim {n : Nat} {i : Int} (h : Lim n i) (hn : n ≤ 100000) : Builtin.Int.intBits i ≤ 2 ^ 20 := by
  have := log2_of_lim h
  have e : (2 : Nat) ^ 20 = 1048576 := by decide
  unfold Builtin.Int.intBits
  split <;> omega
theorem bits_of_19 {i : Int} (h : Lim 19 i) : Builtin.Int.intBits i ≤ 64 := by
  unfold Lim at h
  have h2 : i.natAbs < 2 ^ 64 := Nat.lt_of_lt_of_le h (by decide)
  unfold Builtin.Int.intBits
  split
  · omega
  · rename_i z
    have := (Nat.log2_lt (n := i.natAbs) (k := 64) (by simpa using z)).mpr h2
    omega
theorem MulOk.ok {i j : Int} (h : MulOk i j) : IntMulOk i j := by
  rcases h with ⟨m, n, hm, hn, a, b⟩ | a | b
  · exact .of_bits (bits_of_lim a hm) (bits_of_lim b hn)
  · exact .of_left (bits_of_19 a)
  · exact .of_right (bits_of_19 b)
theorem DivOk.ok {i j : Int} (h : DivOk j) : Builtin.divisionGoesByPylong i j = false := by
  obtain ⟨_, n, hn, a⟩ := h
  have := log2_of_lim a
  exact PyProof.noPylong_of_log2 (by omega)
theorem b_mul : BR X .Mult rMulT := br_int (C := MulOk) (opI fun _ _ _ _ _ _ _ hc q => mul_int q hc.ok)
theorem b_div : BR X .FloorDiv rDivT := br_int (C := fun _ j => DivOk j) (opI fun _ _ _ _ _ _ _ hc q => floordiv_int hc.1 q (.inl hc.ok))
theorem b_mod : BR X .Mod rModT := br_int (C := fun _ j => j ≠ 0) op_modN
theorem b_pow : BR X .Pow rPowT := br_int (C := CPow) op_pow
def wNeg (wa : WE) : WE := fun τ Q => wa τ fun x => match x with | .int i => Q (.int (-i)) | _ => False
theorem jneg (ha : JE X a wa) : JE X (.UnaryOp .USub a pos) (wNeg wa) := pe_of (pe_un un_neg ha) fun σ H Q ⟨τ, Q0, R, hw, k⟩ => ⟨τ, _, R, hw, fun t v H1 S1 r1 q1 => by
  cases t <;> first | exact q1.elim | skip
  rename_i i
  exact ⟨i, rep_int.mp r1, k _ _ H1 S1 (rep_int.mpr rfl) q1⟩⟩
def CRT (X : Cx) (op : CmpOp) (cT : T → T → (Bool → Prop) → Prop) : Prop := ∃ r : R2, OpR X (compareOp op) r ∧ ∀ t1 t2 v1 v2 H (Q0 : Bool → Prop) (Q : VK), Rep X.K H t1 v1 → Rep X.K H t2 v2 → cT t1 t2 Q0 →
  (∀ b, Q0 b → Q (.bl b) H) → r v1 v2 H Q
def wCmp (cT : T → T → (Bool → Prop) → Prop) (wa wb : WE) : WE := fun τ Q => wa τ fun x => wb τ fun y => cT x y fun b => Q (.bl b)
def tCmpT (cT : T → T → (Bool → Prop) → Prop) (wa wb : WE) : WT := fun τ Q => wa τ fun x => wb τ fun y => cT x y Q
theorem jcmp {op : CmpOp} {cT : T → T → (Bool → Prop) → Prop} (h : CRT X op cT) (ha : JE X a wa) (hb : JE X b wb) (hm : behindInMarks op b = false) : JE X (.Compare a [op] [b] pos) (wCmp cT wa wb) := by
  obtain ⟨r, ho, br⟩ := h
  refine pe_of (pe_cmpR ho ha hb hm) fun σ H Q ⟨τ, Q0, R, hw, k⟩ => ?_
  exact ⟨τ, _, R, hw, fun t1 v1 H1 S1 r1 q1 => ⟨τ, _, R.mono S1, q1, fun t2 v2 H2 S2 r2 q2 => br t1 t2 v1 v2 H2 _ Q (r1.kp (.of S2)) r2 q2 fun b q => k _ _ H2 (S1.trans S2) (rep_bl.mpr rfl) q⟩⟩
theorem tcmp {op : CmpOp} {cT : T → T → (Bool → Prop) → Prop} (h : CRT X op cT) (ha : JE X a wa) (hb : JE X b wb) (hm : behindInMarks op b = false) : JT X (.Compare a [op] [b] pos) (tCmpT cT wa wb) := by
  obtain ⟨r, ho, br⟩ := h
  refine pt_of (pt_cmpR ho ha hb hm) fun σ H Q ⟨τ, Q0, R, hw, k⟩ => ?_
  exact ⟨τ, _, R, hw, fun t1 v1 H1 S1 r1 q1 => ⟨τ, _, R.mono S1, q1, fun t2 v2 H2 S2 r2 q2 => br t1 t2 v1 v2 H2 _ _ (r1.kp (.of S2)) r2 q2 fun b q => ⟨b, rfl, k _ H2 (S1.trans S2) q⟩⟩⟩
def cLtT (x y : T) (Q : Bool → Prop) : Prop := match x, y with | .int i, .int j => Q (decide (i < j)) | _, _ => False
def cLeT (x y : T) (Q : Bool → Prop) : Prop := match x, y with | .int i, .int j => Q (decide (i ≤ j)) | _, _ => False
def cGtT (x y : T) (Q : Bool → Prop) : Prop := match x, y with | .int i, .int j => Q (decide (j < i)) | _, _ => False
def cGeT (x y : T) (Q : Bool → Prop) : Prop := match x, y with | .int i, .int j => Q (decide (j ≤ i)) | _, _ => False
theorem cr_int {op : CmpOp} {g : Int → Int → Bool} (h : OpR X (compareOp op) (rI0 fun i j => .bl (g i j))) :
    CRT X op (fun x y Q => match x, y with | .int i, .int j => Q (g i j) | _, _ => False) := by
  refine ⟨_, h, fun t1 t2 v1 v2 H Q0 Q r1 r2 q k => ?_⟩
  cases t1 <;> cases t2 <;> first | exact q.elim | skip
  rename_i i j
  exact ⟨i, j, rep_int.mp r1, rep_int.mp r2, k _ q⟩
theorem c_lt : CRT X .Lt cLtT := cr_int op_lt
theorem c_le : CRT X .LtE cLeT := cr_int op_le
theorem c_gt : CRT X .Gt cGtT := cr_int op_gt
theorem c_ge : CRT X .GtE cGeT := cr_int op_ge
mutual
def eqT : T → T → Bool
  | .non, .non => true
  | .bl a, .bl b => a == b
  | .bl a, .int b => decide ((if a then 1 else 0) = b)
  | .int a, .bl b => decide (a = (if b then 1 else 0))
  | .int a, .int b => decide (a = b)
  | .str a, .str b => a == b
  | .tup xs, .tup ys => eqTs xs ys
  | .lst xs, .lst ys => eqTs xs ys
  | _, _ => false
def eqTs : List T → List T → Bool
  | [], [] => true
  | x :: xs, y :: ys => eqT x y && eqTs xs ys
  | _, _ => false
end
theorem eqTb (a b : Bool) : eqT (.bl a) (.bl b) = (a == b) := rfl
theorem eqTe (a b : Int) : eqT (.int a) (.int b) = decide (a = b) := rfl
theorem eqTf (a b : Str) : eqT (.str a) (.str b) = (a == b) := rfl
theorem eqTg (a b : List T) : eqT (.tup a) (.tup b) = eqTs a b := rfl
theorem eqTh (a b : List T) : eqT (.lst a) (.lst b) = eqTs a b := rfl
theorem eqTj (x y : T) (xs ys : List T) : eqTs (x :: xs) (y :: ys) = (eqT x y && eqTs xs ys) := rfl
mutual
def pd : T → PyData
  | .non => .none
  | .bl b => .bool b
  | .int i => .int i
  | .str x => .str x
  | .tup ts => .tuple (pds ts)
  | .lst ts => .list (pds ts)
  | .dct => .dict []
  | .exc _ => .dict []
  | .exf _ _ _ => .dict []
def pds : List T → List PyData
  | [] => []
  | t :: ts => pd t :: pds ts
end
mutual
theorem eqT_pd : ∀ x y : T, PyData.eqv (pd x) (pd y) = eqT x y
  | .tup xs, .tup ys => by simp only [pd, PyData.eqv, eqTg, eqTh]; exact eqTs_pd xs ys
  | .lst xs, .lst ys => by simp only [pd, PyData.eqv, eqTg, eqTh]; exact eqTs_pd xs ys
  | .non, y => by cases y <;> simp only [pd, PyData.eqv] <;> rfl
  | .bl _, y => by cases y <;> simp only [pd, PyData.eqv] <;> rfl
  | .int _, y => by cases y <;> simp only [pd, PyData.eqv] <;> rfl
  | .str _, y => by cases y <;> simp only [pd, PyData.eqv] <;> rfl
  | .tup _, .non => by simp only [pd, PyData.eqv] <;> rfl
  | .tup _, .bl _ => by simp only [pd, PyData.eqv] <;> rfl
  | .tup _, .int _ => by simp only [pd, PyData.eqv] <;> rfl
  | .tup _, .str _ => by simp only [pd, PyData.eqv] <;> rfl
  | .tup _, .lst _ => by simp only [pd, PyData.eqv] <;> rfl
  | .tup _, .dct => by simp only [pd, PyData.eqv] <;> rfl
  | .tup _, .exc _ => by simp only [pd, PyData.eqv] <;> rfl
  | .tup _, .exf _ _ _ => by simp only [pd, PyData.eqv] <;> rfl
  | .lst _, .dct => by simp only [pd, PyData.eqv] <;> rfl
  | .lst _, .exc _ => by simp only [pd, PyData.eqv] <;> rfl
  | .lst _, .exf _ _ _ => by simp only [pd, PyData.eqv] <;> rfl
  | .dct, y => by cases y <;> simp only [pd, PyData.eqv] <;> rfl
  | .exc _, y => by cases y <;> simp only [pd, PyData.eqv] <;> rfl
  | .exf _ _ _, y => by cases y <;> simp only [pd, PyData.eqv] <;> rfl
  | .lst _, .non => by simp only [pd, PyData.eqv] <;> rfl
  | .lst _, .bl _ => by simp only [pd, PyData.eqv] <;> rfl
  | .lst _, .int _ => by simp only [pd, PyData.eqv] <;> rfl
  | .lst _, .str _ => by simp only [pd, PyData.eqv] <;> rfl
  | .lst _, .tup _ => by simp only [pd, PyData.eqv] <;> rfl
theorem eqTs_pd : ∀ xs ys : List T, PyData.eqvAll (pds xs) (pds ys) = eqTs xs ys
  | [], [] => by simp only [pds, PyData.eqvAll] <;> rfl
  | [], _ :: _ => by simp only [pds, PyData.eqvAll] <;> rfl
  | _ :: _, [] => by simp only [pds, PyData.eqvAll] <;> rfl
  | x :: xs, y :: ys => by simp only [pds, PyData.eqvAll, eqTj]; rw [eqT_pd x y, eqTs_pd xs ys]
end
def plain (t : T) : Bool := (pd t).canLay0
def dep (t : T) : Nat := (pd t).depth
mutual
theorem reads_of {pins : List (Addr × Obj)} {s : Shared} {σ : St} {H : Hp} (I : Inv X pins σ H s) : ∀ {t : T} {v : V} {u : Value}, plain t = true → Rep X.K H t v → RelV v u → ∃ as, Reads s.heap u (pd t) as
  | .non, v, u, hp, r, q => by rw [rep_non] at r; subst r; cases q; exact ⟨_, .none⟩
  | .bl b, v, u, hp, r, q => by rw [rep_bl] at r; subst r; cases q; exact ⟨_, .bool b⟩
  | .int i, v, u, hp, r, q => by rw [rep_int] at r; subst r; obtain ⟨t, rfl⟩ := q; exact ⟨_, .int i t⟩
  | .str x, v, u, hp, r, q => by rw [rep_str] at r; subst r; obtain ⟨t, rfl⟩ := q; exact ⟨_, .str x t⟩
  | .tup ts, v, u, hp, r, q => by
    rw [rep_tup] at r
    obtain ⟨p, vs, rfl, sq, rr⟩ := r
    cases q
    obtain ⟨its, rv, ⟨o, ho, hc, n, hd⟩, _⟩ := I.tuple sq
    obtain ⟨as, ra⟩ := readss_of I (show PyData.canLayAll0 (pds ts) = true from by simpa [plain, pd, PyData.canLay0] using hp) rr rv
    exact ⟨_, .tuple ho hc hd (by simpa using ra)⟩
  | .lst ts, v, u, hp, r, q => by
    rw [rep_lst] at r
    obtain ⟨p, vs, rfl, sq, rr⟩ := r
    cases q
    obtain ⟨its, rv, pl, _⟩ := I.list sq.sq
    obtain ⟨o, ho, hc, n, hd⟩ := pl.isList
    obtain ⟨as, ra⟩ := readss_of I (show PyData.canLayAll0 (pds ts) = true from by simpa [plain, pd, PyData.canLay0] using hp) rr rv
    exact ⟨_, .list ho hc hd (by simpa using ra)⟩
  | .dct, v, u, hp, r, q => by simp [plain, pd, PyData.canLay0] at hp
  | .exc _, v, u, hp, r, q => by simp [plain, pd, PyData.canLay0] at hp
  | .exf _ _ _, v, u, hp, r, q => by simp [plain, pd, PyData.canLay0] at hp
theorem readss_of {pins : List (Addr × Obj)} {s : Shared} {σ : St} {H : Hp} (I : Inv X pins σ H s) : ∀ {ts : List T} {vs : List V} {us : List Value}, PyData.canLayAll0 (pds ts) = true → Reps X.K H ts vs → Vals vs us → ∃ as, ReadsAll s.heap us (pds ts) as
  | [], vs, us, hp, r, q => by rw [reps_nil] at r; subst r; cases q; exact ⟨_, .nil⟩
  | t :: ts, vs, us, hp, r, q => by
    have hp' : ((pd t).canLay0 && PyData.canLayAll0 (pds ts)) = true := hp
    rw [Bool.and_eq_true] at hp'
    rw [reps_cons] at r
    obtain ⟨v, vr, rfl, r1, r2⟩ := r
    cases q with
    | cons q1 q2 =>
      obtain ⟨as, a1⟩ := reads_of I hp'.1 r1 q1
      obtain ⟨bs, a2⟩ := readss_of I hp'.2 r2 q2
      exact ⟨_, .cons a1 a2⟩
end
def EqOk (x y : T) : Prop := plain x = true ∧ plain y = true ∧ min (dep x) (dep y) ≤ 60
def cEqT (x y : T) (Q : Bool → Prop) : Prop := match x, y with
  | .int i, .int j => Q (decide (i = j))
  | x, y => EqOk x y ∧ Q (eqT x y)
def cNeT (x y : T) (Q : Bool → Prop) : Prop := match x, y with
  | .int i, .int j => Q (!decide (i = j))
  | x, y => EqOk x y ∧ Q (!eqT x y)
theorem ok_ints (i j : Int) : EqOk (.int i) (.int j) := by
  refine ⟨by simp [plain, pd, PyData.canLay0], by simp [plain, pd, PyData.canLay0], by simp [dep, pd, PyData.depth]⟩
theorem cEqT_gen {x y : T} {Q : Bool → Prop} (h : cEqT x y Q) : EqOk x y ∧ Q (eqT x y) := by
  unfold cEqT at h
  split at h
  · exact ⟨ok_ints _ _, by simpa only [eqTe] using h⟩
  · exact h
theorem cNeT_gen {x y : T} {Q : Bool → Prop} (h : cNeT x y Q) : EqOk x y ∧ Q (!eqT x y) := by
  unfold cNeT at h
  split at h
  · exact ⟨ok_ints _ _, by simpa only [eqTe] using h⟩
  · exact h
theorem c_eq {k : Nat} (hr : Room k X.A) : CRT X .Eq cEqT := by
  refine ⟨fun x y H Q => ∃ t1 t2, Rep X.K H t1 x ∧ Rep X.K H t2 y ∧ EqOk t1 t2 ∧ Q (.bl (eqT t1 t2)) H, ?_, fun t1 t2 v1 v2 H Q0 Q r1 r2 q k => ?_⟩
  · intro pins s σ H x y v u Q I rx ry h
    obtain ⟨t1, t2, r1, r2, ⟨p1, p2, hd⟩, q⟩ := h
    obtain ⟨as, a1⟩ := reads_of I p1 r1 rx
    obtain ⟨bs, a2⟩ := reads_of I p2 r2 ry
    have hu := hr.units
    have hd' : min (pd t1).depth (pd t2).depth ≤ 60 := hd
    refine SeqAt.compareEq_reads a1 a2 p1 p2 (by omega) ⟨.bl _, H, I, rfl, ?_⟩
    rw [eqT_pd]
    exact q
  · obtain ⟨ok, q⟩ := cEqT_gen q
    exact ⟨t1, t2, r1, r2, ok, k _ q⟩
theorem c_ne {k : Nat} (hr : Room k X.A) : CRT X .NotEq cNeT := by
  refine ⟨fun x y H Q => ∃ t1 t2, Rep X.K H t1 x ∧ Rep X.K H t2 y ∧ EqOk t1 t2 ∧ Q (.bl (!eqT t1 t2)) H, ?_, fun t1 t2 v1 v2 H Q0 Q r1 r2 q k => ?_⟩
  · intro pins s σ H x y v u Q I rx ry h
    obtain ⟨t1, t2, r1, r2, ⟨p1, p2, hd⟩, q⟩ := h
    obtain ⟨as, a1⟩ := reads_of I p1 r1 rx
    obtain ⟨bs, a2⟩ := reads_of I p2 r2 ry
    have hu := hr.units
    have hd' : min (pd t1).depth (pd t2).depth ≤ 60 := hd
    refine SeqAt.compareNe_reads a1 a2 p1 p2 (by omega) ⟨.bl _, H, I, rfl, ?_⟩
    rw [eqT_pd]
    exact q
  · obtain ⟨ok, q⟩ := cNeT_gen q
    exact ⟨t1, t2, r1, r2, ok, k _ q⟩
def isNonT : T → Bool
  | .non => true
  | _ => false
def cIsN (x y : T) (Q : Bool → Prop) : Prop := match y with
  | .non => Q (isNonT x)
  | _ => False
def cNotN (x y : T) (Q : Bool → Prop) : Prop := match y with
  | .non => Q (!isNonT x)
  | _ => False
theorem rep_is_non {K : PySem.W.Frag} {H : Hp} {t : T} {v : V} (r : Rep K H t v) : decide (v = .non) = isNonT t := by
  cases t with
  | non => rw [rep_non] at r; subst r; rfl
  | bl b => rw [rep_bl] at r; subst r; rfl
  | int b => rw [rep_int] at r; subst r; rfl
  | str b => rw [rep_str] at r; subst r; rfl
  | tup b => rw [rep_tup] at r; obtain ⟨p, vs, rfl, _⟩ := r; rfl
  | lst b => rw [rep_lst] at r; obtain ⟨p, vs, rfl, _⟩ := r; rfl
  | dct => rw [rep_dct] at r; obtain ⟨p, rfl, _⟩ := r; rfl
  | exc c => rw [rep_exc] at r; obtain ⟨p, rfl, _⟩ := r; rfl
  | exf c f t => rw [rep_exf] at r; obtain ⟨p, rfl, _⟩ := r; rfl
theorem c_is : CRT X .Is cIsN := by
  refine ⟨_, op_isN, fun t1 t2 v1 v2 H Q0 Q r1 r2 q k => ?_⟩
  cases t2 <;> first | exact q.elim | skip
  refine ⟨rep_non.mp r2, ?_⟩
  rw [rep_is_non r1]
  exact k _ q
def wChain (c1 c2 : T → T → (Bool → Prop) → Prop) (wa wb wc : WE) : WE := fun τ Q => wa τ fun x => wb τ fun y => c1 x y fun k => (k = true → wc τ fun z => c2 y z fun b => Q (.bl b)) ∧ (k = false → Q (.bl false))
def tChainT (c1 c2 : T → T → (Bool → Prop) → Prop) (wa wb wc : WE) : WT := fun τ Q => wa τ fun x => wb τ fun y => c1 x y fun k => (k = true → wc τ fun z => c2 y z Q) ∧ (k = false → Q false)
theorem jchain {op op' : CmpOp} {c1 c2 : T → T → (Bool → Prop) → Prop} (h : CRT X op c1) (h' : CRT X op' c2) (ha : JE X a wa) (hb : JE X b wb) (hc : JE X c wc)
    (hm : lastMarks [op, op'] [b, c] = false := by with_unfolding_all rfl) : JE X (.Compare a [op, op'] [b, c] pos) (wChain c1 c2 wa wb wc) := by
  obtain ⟨r, ho, br⟩ := h
  obtain ⟨r', ho', br'⟩ := h'
  refine pe_of (pe_chain ho ho' ha hb hc hm) fun σ H Q ⟨τ, Q0, R, hw, k⟩ => ?_
  refine ⟨τ, _, R, hw, fun t1 v1 H1 S1 r1 q1 => ⟨τ, _, R.mono S1, q1, fun t2 v2 H2 S2 r2 q2 => br t1 t2 v1 v2 H2 _ _ (r1.kp (.of S2)) r2 q2 fun b q => ⟨b, rfl, ?_⟩⟩⟩
  cases b with
  | true =>
    rw [if_pos rfl]
    exact ⟨τ, _, R.mono (S1.trans S2), q.1 rfl, fun t3 v3 H3 S3 r3 q3 => br' t2 t3 v2 v3 H3 _ _ (r2.kp (.of S3)) r3 q3 fun b q => k _ _ H3 (S1.trans (S2.trans S3)) (rep_bl.mpr rfl) q⟩
  | false =>
    rw [if_neg Bool.false_ne_true]
    exact k _ _ H2 (S1.trans S2) (rep_bl.mpr rfl) (q.2 rfl)
def JW (X : Cx) (e : Expr) (w : WT) : Prop := PW X e (upT X.K X.H₀ w)
theorem jw {e : Expr} {w : WT} (h : JW X e w) : JT X e w := PW.pt h
variable {ua ub : WT} {rest : List Expr}
def tAndT (ua ub : WT) : WT := fun τ Q => ua τ fun k => (k = true → ub τ Q) ∧ (k = false → Q false)
def tOrT (ua ub : WT) : WT := fun τ Q => ua τ fun k => (k = true → Q true) ∧ (k = false → ub τ Q)
def tNotT (ua : WT) : WT := fun τ Q => ua τ fun k => Q (!k)
def tVal (wa : WE) : WT := fun τ Q => wa τ fun x => match x with | .bl k => Q k | _ => False
theorem tand1 (ha : JT X a ua) : JW X (.BoolOp .And [a] pos) ua := pw_and1 ha
theorem tor1 (ha : JT X a ua) : JW X (.BoolOp .Or [a] pos) ua := pw_or1 ha
theorem tand (ha : JT X a ua) (hb : JW X (.BoolOp .And (b :: rest) pos) ub) : JW X (.BoolOp .And (a :: b :: rest) pos) (tAndT ua ub) := pw_of (pw_and ha hb) fun σ H Q ⟨τ, Q0, R, hw, k⟩ => by
  refine ⟨τ, _, R, hw, fun c H1 S1 q => ?_⟩
  cases c with
  | true => rw [if_pos rfl]; exact ⟨τ, _, R.mono S1, q.1 rfl, fun b H2 S2 q => k b H2 (S1.trans S2) q⟩
  | false => rw [if_neg Bool.false_ne_true]; exact k _ H1 S1 (q.2 rfl)
theorem tor (ha : JT X a ua) (hb : JW X (.BoolOp .Or (b :: rest) pos) ub) : JW X (.BoolOp .Or (a :: b :: rest) pos) (tOrT ua ub) := pw_of (pw_or ha hb) fun σ H Q ⟨τ, Q0, R, hw, k⟩ => by
  refine ⟨τ, _, R, hw, fun c H1 S1 q => ?_⟩
  cases c with
  | true => rw [if_pos rfl]; exact k _ H1 S1 (q.1 rfl)
  | false => rw [if_neg Bool.false_ne_true]; exact ⟨τ, _, R.mono S1, q.2 rfl, fun b H2 S2 q => k b H2 (S1.trans S2) q⟩
theorem tnot (ha : JT X a ua) : JT X (.UnaryOp .Not a pos) (tNotT ua) := pt_of (pt_not ha) fun σ H Q ⟨τ, Q0, R, hw, k⟩ => ⟨τ, _, R, hw, fun c H1 S1 q => k _ H1 S1 q⟩
theorem tval (ha : JE X a wa) (he : ∀ whole, isTrue a X.env whole = (do let v ← whole; standAt a.pos; holding [v] (truthy v)) := by intro _; rfl) : JT X a (tVal wa) :=
  pt_of (pt_val ha he) fun σ H Q ⟨τ, Q0, R, hw, k⟩ => ⟨τ, _, R, hw, fun t v H1 S1 r q => by
    cases t <;> first | exact q.elim | skip
    rename_i b
    exact ⟨b, rep_bl.mp r, k _ H1 S1 q⟩⟩
def wAndV (wa wb : WE) : WE := fun τ Q => wa τ fun x => match x with | .bl k => (k = true → wb τ Q) ∧ (k = false → Q (.bl false)) | _ => False
def wOrV (wa wb : WE) : WE := fun τ Q => wa τ fun x => match x with | .bl k => (k = true → Q (.bl true)) ∧ (k = false → wb τ Q) | _ => False
def wNotV (wa : WE) : WE := fun τ Q => wa τ fun x => match x with | .bl k => Q (.bl (!k)) | _ => False
theorem jone {op} (h : JE X a wa) : JE X (.BoolOp op [a] pos) wa := pe_one h
theorem jand (ha : JE X a wa) (hb : JE X (.BoolOp .And (b :: rest) pos) wb) : JE X (.BoolOp .And (a :: b :: rest) pos) (wAndV wa wb) := pe_of (pe_and ha hb) fun σ H Q ⟨τ, Q0, R, hw, k⟩ => by
  refine ⟨τ, _, R, hw, fun t v H1 S1 r q => ?_⟩
  cases t <;> first | exact q.elim | skip
  rename_i c
  refine ⟨c, rep_bl.mp r, ?_⟩
  cases c with
  | true => rw [if_pos rfl]; exact ⟨τ, _, R.mono S1, q.1 rfl, fun t v H2 S2 r q => k t v H2 (S1.trans S2) r q⟩
  | false => rw [if_neg Bool.false_ne_true]; exact k _ _ H1 S1 (rep_bl.mpr rfl) (q.2 rfl)
theorem jnot (ha : JE X a wa) : JE X (.UnaryOp .Not a pos) (wNotV wa) := pe_of (pe_not ha) fun σ H Q ⟨τ, Q0, R, hw, k⟩ => ⟨τ, _, R, hw, fun t v H1 S1 r q => by
  cases t <;> first | exact q.elim | skip
  rename_i c
  exact ⟨c, rep_bl.mp r, k _ _ H1 S1 (rep_bl.mpr rfl) q⟩⟩
def wIfE (ua : WT) (wa wb : WE) : WE := fun τ Q => ua τ fun k => (k = true → wa τ Q) ∧ (k = false → wb τ Q)
variable {ws : WA}
def aNil : WA := fun _ Q => Q []
def aCons (wa : WE) (ws : WA) : WA := fun τ Q => wa τ fun x => ws τ fun xs => Q (x :: xs)
theorem ja0 : JA X [] aNil := pa_of pa_nil fun σ H Q ⟨τ, Q0, R, hw, k⟩ => k _ _ H (.refl H) (reps_nil.mpr rfl) hw
theorem ja (ha : JE X e wa) (hr : JA X es ws) (hs : starEach (e :: es) X.env = (false, eval e X.env) :: starEach es X.env := by exact star1 rfl) : JA X (e :: es) (aCons wa ws) := pa_of (pa_cons ha hr hs) fun σ H Q ⟨τ, Q0, R, hw, k⟩ =>
  ⟨τ, _, R, hw, fun t v H1 S1 r1 q1 => ⟨τ, _, R.mono S1, q1, fun ts vs H2 S2 r2 q2 => k _ _ H2 (S1.trans S2) (.cons (r1.kp (.of S2)) r2) q2⟩⟩
def wTup (ws : WA) : WE := fun τ Q => ws τ fun ts => ts.length ≤ 1000 ∧ Q (.tup ts)
def wLst (ws : WA) : WE := fun τ Q => ws τ fun ts => ts.length ≤ 1000 ∧ Q (.lst ts)
theorem few {n : Nat} (h : n ≤ 1000) : n ≤ sizeLine := Nat.le_of_lt (small1000 h)
theorem jtup {x1} (h : JA X es ws) : JE X (.Tuple es x1 pos) (wTup ws) := pe_of (pe_tup h) fun σ H Q ⟨τ, Q0, R, hw, k⟩ => ⟨τ, _, R, hw, fun ts vs H1 S1 r ⟨hl, q⟩ =>
  ⟨by rw [r.length]; exact few hl, fun p hp => k _ _ _ (S1.trans (same_new hp _)) (rep_tup.mpr ⟨p, vs, rfl, SqT.of upd_same, r.kp (.of (same_new hp _))⟩) q⟩⟩
def tLstF (t : TA) : TE := fun σ H Q => t σ H fun xs H1 => xs.length ≤ sizeLine ∧ ∀ p o, H1 p = none → Q (.ref p) (upd H1 p (.frz o (.lst xs)))
theorem pe_lstF {t : TA} (h : PA X es t) : PE X (.List es pos) (tLstF t) := by
  intro pins s σ H Q I hq
  refine wpAny_List_spliced (thn (h pos pins s σ H _ I hq) fun us s1 ⟨xs, H1, I1, r, z, q⟩ => ⟨by rw [← r.length]; exact z, ?_⟩)
  have hf : H1 s1.heap.objs.size = none := I1.hok.fresh (Nat.le_refl _)
  refine ⟨.ref s1.heap.objs.size, upd H1 s1.heap.objs.size (.frz { cls := .type "list", data := .seq us.toArray } (.lst xs)), I1.laid (t' := s1.toks) (fun b u e => Heap.get?_push_of_some _ e) (Nat.le_refl _) ?_, rfl, q _ _ hf⟩
  exact ⟨Heap.get?_push_size _ rfl, z, us, 0, r, Heap.get?_push_size _ rfl⟩
theorem jlst (h : JA X es ws) : JE X (.List es pos) (wLst ws) := pe_of (pe_lstF h) fun σ H Q ⟨τ, Q0, R, hw, k⟩ => ⟨τ, _, R, hw, fun ts vs H1 S1 r ⟨hl, q⟩ =>
  ⟨by rw [r.length]; exact few hl, fun p o hp => k _ _ _ (S1.trans (same_new hp _)) (rep_lst.mpr ⟨p, vs, rfl, .inl ⟨o, upd_same⟩, r.kp (.of (same_new hp _))⟩) q⟩⟩
def rIxTT (x y : T) (Q : T → Prop) : Prop := match x, y with
  | .tup ts, .int i => (match atI ts i with | some t => Q t | none => False)
  | .lst ts, .int i => (match atI ts i with | some t => Q t | none => False)
  | _, _ => False
theorem atI_reps {K : PySem.W.Frag} {H : Hp} {ts : List T} {vs : List V} {i : Int} {t : T} (r : Reps K H ts vs) (h : atI ts i = some t) : ∃ v, atI vs i = some v ∧ Rep K H t v := by
  unfold atI at h ⊢
  rw [r.length]
  cases e : ixN ts.length i with
  | none => rw [e] at h; cases h
  | some j =>
    rw [e] at h
    exact r.get h
theorem jix (ha : JE X a wa) (hb : JE X b wb) (hs : PlainIx b := by intro _ _; rfl) : JE X (.Subscript a b pos) (w2 rIxTT wa wb) := pe_of (pe_ix ix_seq ha hb hs) (up2 fun t1 t2 v1 v2 H Q0 Q r1 r2 q k => by
  cases t1 <;> cases t2 <;> first | exact q.elim | skip
  · rename_i ts i
    rw [rep_tup] at r1
    obtain ⟨p, vs, rfl, sq, rr⟩ := r1
    have q' : (match atI ts i with | some t => Q0 t | none => False) := q
    cases e : atI ts i with
    | none => rw [e] at q'; exact q'.elim
    | some t =>
      rw [e] at q'
      obtain ⟨v, ev, rv⟩ := atI_reps rr e
      exact .inr (.inl ⟨p, vs, i, v, rfl, rep_int.mp r2, sq, ev, k _ _ H (.refl H) rv q'⟩)
  · rename_i ts i
    rw [rep_lst] at r1
    obtain ⟨p, vs, rfl, sq, rr⟩ := r1
    have q' : (match atI ts i with | some t => Q0 t | none => False) := q
    cases e : atI ts i with
    | none => rw [e] at q'; exact q'.elim
    | some t =>
      rw [e] at q'
      obtain ⟨v, ev, rv⟩ := atI_reps rr e
      exact .inl ⟨p, vs, i, v, rfl, rep_int.mp r2, sq.sq, ev, k _ _ H (.refl H) rv q'⟩)
def BlR (X : Cx) (f : Value) (rT : List T → (T → Prop) → Prop) : Prop := ∃ r : List V → Hp → VK → Prop, CallR X f r ∧ ∀ ts vs H (Q0 : T → Prop) (Q : VK), Reps X.K H ts vs → rT ts Q0 →
  (∀ t v H', Same H H' → Rep X.K H' t v → Q0 t → Q v H') → r vs H Q
def wCB (rT : List T → (T → Prop) → Prop) (ws : WA) : WE := fun τ Q => ws τ fun ts => rT ts Q
theorem upCB {r : List V → Hp → VK → Prop} {rT : List T → (T → Prop) → Prop} {K : PySem.W.Frag} {H0 : Hp} (br : ∀ ts vs H (Q0 : T → Prop) (Q : VK), Reps K H ts vs → rT ts Q0 →
    (∀ t v H', Same H H' → Rep K H' t v → Q0 t → Q v H') → r vs H Q) (σ : St) (H : Hp) (Q : VK) (h : up K H0 (wCB rT ws) σ H Q) : tCB r (upA K H0 ws) σ H Q := by
  obtain ⟨τ, Q0, R, hw, k⟩ := h
  exact ⟨τ, _, R, hw, fun ts vs H1 S1 r1 q1 => br ts vs H1 Q0 Q r1 q1 fun t v H' S2 r q => k t v H' (S1.trans S2) r q⟩
theorem jblt {x : Str} {p : Pos} {id : String} {rT : List T → (T → Prop) → Prop} (h : BlR X (.builtin id) rT) (hg : Gl X x) (hm : X.mg x = none) (hv : bootBuiltins x = some (.builtin id)) (ha : JA X (e :: es) ws) (hn : x ≠ "__name__" := by decide)
    (hdb : (x == ("__debug__" : Str)) = false := by decide) (he : starEach (e :: es) X.env = (false, eval e X.env) :: starEach es X.env := by exact star1 rfl) (hpl : (backTo pos (starEach es X.env)).any (·.1) = false := by exact stars rfl) :
    JE X (.Call (.Name x p) (e :: es) [] pos) (wCB rT ws) := by
  obtain ⟨r, hc, br⟩ := h
  exact pe_of (pe_callB hc hg hm hv ha hn hdb he hpl) (upCB br)
theorem jty {x : Str} {p : Pos} {id : String} {rT : List T → (T → Prop) → Prop} (h : BlR X (.type id) rT) (hg : Gl X x) (hm : X.mg x = none) (hv : bootBuiltins x = some (.type id)) (ha : JA X (e :: es) ws) (hn : x ≠ "__name__" := by decide)
    (hdb : (x == ("__debug__" : Str)) = false := by decide) (he : starEach (e :: es) X.env = (false, eval e X.env) :: starEach es X.env := by exact star1 rfl) (hpl : (backTo pos (starEach es X.env)).any (·.1) = false := by exact stars rfl) :
    JE X (.Call (.Name x p) (e :: es) [] pos) (wCB rT ws) := by
  obtain ⟨r, hc, br⟩ := h
  exact pe_of (pe_callTy hc hg hm hv ha hn hdb he hpl) (upCB br)
theorem reps1 {K : PySem.W.Frag} {H : Hp} {t : T} {vs : List V} (r : Reps K H [t] vs) : ∃ v, vs = [v] ∧ Rep K H t v := by
  rw [reps_cons] at r
  obtain ⟨v, vr, rfl, r1, r2⟩ := r
  rw [reps_nil] at r2
  subst r2
  exact ⟨v, rfl, r1⟩
theorem reps2 {K : PySem.W.Frag} {H : Hp} {t t' : T} {vs : List V} (r : Reps K H [t, t'] vs) : ∃ v v', vs = [v, v'] ∧ Rep K H t v ∧ Rep K H t' v' := by
  rw [reps_cons] at r
  obtain ⟨v, vr, rfl, r1, r2⟩ := r
  obtain ⟨v', rfl, r3⟩ := reps1 r2
  exact ⟨v, v', rfl, r1, r3⟩
def rLenT (ts : List T) (Q : T → Prop) : Prop := match ts with
  | [.tup xs] => Q (.int xs.length)
  | [.lst xs] => Q (.int xs.length)
  | _ => False
theorem bl_len : BlR X (.builtin "len") rLenT := by
  refine ⟨_, call_len_seq, fun ts vs H Q0 Q r q k => ?_⟩
  unfold rLenT at q
  split at q
  · obtain ⟨v, rfl, r1⟩ := reps1 r
    rw [rep_tup] at r1
    obtain ⟨p, ys, rfl, sq, rr⟩ := r1
    exact ⟨p, ys, rfl, .inr sq, k _ _ H (.refl H) (rep_int.mpr (by rw [rr.length])) q⟩
  · obtain ⟨v, rfl, r1⟩ := reps1 r
    rw [rep_lst] at r1
    obtain ⟨p, ys, rfl, sq, rr⟩ := r1
    exact ⟨p, ys, rfl, .inl sq.sq, k _ _ H (.refl H) (rep_int.mpr (by rw [rr.length])) q⟩
  · exact q.elim
end
end TL
end
section
set_option Elab.async false
set_option linter.all false
set_option maxRecDepth 100000
set_option maxHeartbeats 4000000
namespace TL
open PySem PySem.Spec PyProof.Rows L2
section
variable {X : Cx} {a b c e : Expr} {es : List Expr} {wa wb wc w : WE} {ws : WA} {pos : Pos}
def rAbsT (ts : List T) (Q : T → Prop) : Prop := match ts with
  | [.int i] => Q (.int (if i < 0 then -i else i))
  | _ => False
theorem bl_abs : BlR X (.builtin "abs") rAbsT := by
  refine ⟨_, call_abs, fun ts vs H Q0 Q r q k => ?_⟩
  unfold rAbsT at q
  split at q
  · obtain ⟨v, rfl, r1⟩ := reps1 r
    rename_i i
    exact ⟨i, by rw [rep_int.mp r1], k _ _ H (.refl H) (rep_int.mpr rfl) q⟩
  · exact q.elim
def rMaxT (ts : List T) (Q : T → Prop) : Prop := match ts with
  | [.int i, .int j] => Q (.int (if j > i then j else i))
  | _ => False
def rMinT (ts : List T) (Q : T → Prop) : Prop := match ts with
  | [.int i, .int j] => Q (.int (if j < i then j else i))
  | _ => False
def rTupleT (ts : List T) (Q : T → Prop) : Prop := match ts with
  | [.tup xs] => Q (.tup xs)
  | [.lst xs] => Q (.tup xs)
  | _ => False
theorem ty_tuple : BlR X (.type "tuple") rTupleT := by
  refine ⟨_, call_tuple_of, fun ts vs H Q0 Q r q k => ?_⟩
  unfold rTupleT at q
  split at q
  · obtain ⟨v, rfl, r1⟩ := reps1 r
    have r' := r1
    rw [rep_tup] at r1
    obtain ⟨p, ys, rfl, sq, rr⟩ := r1
    exact ⟨p, ys, rfl, .inr ⟨sq, k _ _ H (.refl H) r' q⟩⟩
  · obtain ⟨v, rfl, r1⟩ := reps1 r
    rw [rep_lst] at r1
    obtain ⟨p, ys, rfl, sq, rr⟩ := r1
    exact ⟨p, ys, rfl, .inl ⟨sq.sq, fun l hl => k _ _ _ (same_new hl _) (rep_tup.mpr ⟨l, ys, rfl, SqT.of upd_same, rr.kp (.of (same_new hl _))⟩) q⟩⟩
  · exact q.elim
inductive Kd where
  | int | bool | tuple | list | str
def Kd.nm : Kd → String
  | .int => "int"
  | .bool => "bool"
  | .tuple => "tuple"
  | .list => "list"
  | .str => "str"
def isK : Kd → T → Bool
  | .int, .int _ => true
  | .int, .bl _ => true
  | .bool, .bl _ => true
  | .tuple, .tup _ => true
  | .list, .lst _ => true
  | .str, .str _ => true
  | _, _ => false
def noExc : T → Prop
  | .exc _ => False
  | .exf _ _ _ => False
  | _ => True
theorem call_isi (kd : Kd) : CallR X (.builtin "isinstance") (fun xs H Q => ∃ x t, xs = [x, .ty kd.nm] ∧ Rep X.K H t x ∧ noExc t ∧ Q (.bl (isK kd t)) H) := by
  intro pins s σ H xs us Q I r h
  obtain ⟨x, t, rfl, rt, ne, q⟩ := h
  obtain ⟨u, u', rfl, rx, r2⟩ := vals2 r
  obtain rfl : u' = Value.type kd.nm := r2
  have fin : ∀ tk, EP X pins σ Q (.bool (isK kd t)) { s with toks := tk } := fun tk => ⟨.bl _, H, I.tok tk, rfl, q⟩
  cases t with
  | non => rw [rep_non] at rt; subst rt; cases rx; exact PySem.W.kia_one PySem.W.kitx_none I.kIn True.intro (by cases kd <;> kernel_rfl) (fun z => nomatch z) fin
  | bl y => rw [rep_bl] at rt; subst rt; cases rx; exact PySem.W.kia_one PySem.W.kitx_bool I.kIn True.intro (by cases kd <;> kernel_rfl) (fun z => nomatch z) fin
  | int i => rw [rep_int] at rt; subst rt; obtain ⟨t, rfl⟩ := rx; exact PySem.W.kia_one PySem.W.kitx_int I.kIn True.intro (by cases kd <;> kernel_rfl) (fun z => nomatch z) fin
  | str y => rw [rep_str] at rt; subst rt; obtain ⟨t, rfl⟩ := rx; exact PySem.W.kia_one PySem.W.kitx_str I.kIn True.intro (by cases kd <;> kernel_rfl) (fun z => nomatch z) fin
  | tup ts =>
    rw [rep_tup] at rt
    obtain ⟨p, vs, rfl, sq, _⟩ := rt
    cases rx
    obtain ⟨its, _, ⟨o, h1, h2, _⟩, _⟩ := I.tuple sq
    exact PySem.W.kia_one PySem.W.kitx_tuple I.kIn ⟨o, h1, h2⟩ (by cases kd <;> kernel_rfl) (fun z => nomatch z) fin
  | lst ts =>
    rw [rep_lst] at rt
    obtain ⟨p, vs, rfl, sq, _⟩ := rt
    cases rx
    obtain ⟨its, _, pl, _⟩ := I.list sq.sq
    obtain ⟨o, h1, h2, _⟩ := pl.isList
    exact PySem.W.kia_one PySem.W.kitx_list I.kIn ⟨o, h1, h2⟩ (by cases kd <;> kernel_rfl) (fun z => nomatch z) fin
  | dct =>
    rw [rep_dct] at rt
    obtain ⟨p, rfl, hp⟩ := rt
    cases rx
    exact PySem.W.kia_one PySem.W.kitx_dict I.kIn ⟨_, (I.hok p _ hp).1, rfl⟩ (by cases kd <;> kernel_rfl) (fun z => nomatch z) fin
  | exc c => exact ne.elim
  | exf c f t => exact ne.elim
def wIsi (kd : Kd) (wa : WE) : WE := fun τ Q => wa τ fun t => noExc t ∧ Q (.bl (isK kd t))
theorem jisi (kd : Kd) {p pc : Pos} {x : Str} (ha : JE X e wa) (hg : Gl X "isinstance") (hm : X.mg "isinstance" = none) (hgc : Gl X x) (hmc : X.mg x = none) (hvc : bootBuiltins x = some (.type kd.nm))
    (hn : x ≠ "__name__" := by decide) (hd : (x == ("__debug__" : Str)) = false := by decide)
    (hs : starEach [e, .Name x pc] X.env = (false, eval e X.env) :: starEach [.Name x pc] X.env := by exact star1 rfl) (hs1 : starEach [.Name x pc] X.env = (false, eval (.Name x pc) X.env) :: starEach [] X.env := by rfl)
    (hpl : (backTo pos (starEach [.Name x pc] X.env)).any (·.1) = false := by exact stars rfl) : JE X (.Call (.Name "isinstance" p) [e, .Name x pc] [] pos) (wIsi kd wa) := by
  refine pe_of (pe_callB (call_isi kd) hg hm boot_isinstance (pa_cons ha (pa_cons (pe_bltn (v := .ty kd.nm) hgc hmc hvc rfl hn hd) pa_nil hs1) hs) (by decide) (by decide) hs hpl) fun σ H Q ⟨τ, Q0, R, hw, k⟩ => ?_
  exact ⟨τ, _, R, hw, fun t v H1 S1 r1 q1 => ⟨v, t, rfl, r1, q1.1, k _ _ H1 S1 (rep_bl.mpr rfl) q1.2⟩⟩
abbrev SpT := List T → (T → Prop) → Prop
def spT (K : PySem.W.Frag) (n : Nat) (S : SpT) : Sp := fun vs H Q _ => ∃ (ts : List T) (Q0 : T → Prop), vs.length = n ∧ Reps K H ts vs ∧ S ts Q0 ∧ ∀ t v H', Same H H' → Rep K H' t v → Q0 t → Q v H'
structure FnT (P : Program) (w : World) (K : PySem.W.Frag) (mg : Str → Option Value) (base : Heap) (k : Nat) (f : Addr) (fd : FuncData) (ps : List Str) (S : SpT) : Prop where
  ok : FnOk P w K mg base CX0 k f fd ps (spT K ps.length S)
  len : ∀ ts Q, S ts Q → ts.length = ps.length
def wCall (S : SpT) (ws : WA) : WE := fun τ Q => ws τ fun ts => S ts Q
theorem jcall {k : Nat} {f : Addr} {fd : FuncData} {ps : List Str} {S : SpT} {x : Str} {p : Pos} (F : FnT X.prog X.w X.K X.mg X.base k f fd ps S) (hr : Room k X.A) (hg : Gl X x) (hm : X.mg x = some (.ref f)) (hk : PySem.W.keepIn X.K (.ref f) = true)
    (hb : Binds X.K fd ps []) (ha : JA X (e :: es) ws) (hdb : (x == ("__debug__" : Str)) = false := by decide) (he : starEach (e :: es) X.env = (false, eval e X.env) :: starEach es X.env := by exact star1 rfl)
    (hpl : (backTo pos (starEach es X.env)).any (·.1) = false := by exact stars rfl) : JE X (.Call (.Name x p) (e :: es) [] pos) (wCall S ws) := by
  refine pe_of (pe_call F.ok hr hg hm hk hb .nil pass0 ha hdb he hpl) fun σ H Q ⟨τ, Q0, R, hw, k⟩ => ?_
  refine ⟨τ, _, R, hw, fun ts vs H1 S1 r1 q1 => ?_⟩
  have e0 : vs ++ [] = vs := List.append_nil vs
  show spT X.K ps.length S (vs ++ []) H1 Q E0
  rw [e0]
  exact ⟨ts, Q0, by rw [r1.length]; exact F.len _ _ q1, r1, q1, fun t v H' S2 r q => k t v H' (S1.trans S2) r q⟩
def startT (n : Nat) (ts : List T) : List Slot := ts.map Slot.val ++ List.replicate (n - ts.length) Slot.no
theorem sget_append_left : ∀ {l r : List Slot} {i : Nat}, i < l.length → sget (l ++ r) i = sget l i
  | [], _, _, h => by simp at h
  | _ :: _, _, 0, _ => rfl
  | _ :: l, r, i + 1, h => by simp only [List.cons_append, sget]; exact sget_append_left (by simpa using h)
theorem sget_append_right : ∀ {l r : List Slot} {i : Nat}, l.length ≤ i → sget (l ++ r) i = sget r (i - l.length)
  | [], _, _, _ => by simp
  | _ :: _, _, 0, h => by simp at h
  | _ :: l, r, i + 1, h => by
    simp only [List.cons_append, sget, List.length_cons]
    rw [sget_append_right (by simpa using h)]
    congr 1
    omega
theorem sget_no : ∀ (n i : Nat), sget (List.replicate n Slot.no) i = .no
  | 0, _ => rfl
  | _ + 1, 0 => rfl
  | n + 1, i + 1 => by simp only [List.replicate, sget]; exact sget_no n i
theorem sget_vals : ∀ {ts : List T} {i : Nat}, i < ts.length → ∃ t, ts[i]? = some t ∧ sget (ts.map Slot.val) i = .val t
  | [], _, h => by simp at h
  | t :: _, 0, _ => ⟨t, rfl, rfl⟩
  | _ :: r, i + 1, h => by
    obtain ⟨t, h1, h2⟩ := sget_vals (ts := r) (i := i) (by simpa using h)
    exact ⟨t, by simpa using h1, by simpa [sget] using h2⟩
theorem repSt_start {K : PySem.W.Frag} {H : Hp} {N : List Str} {ts : List T} {vs : List V} (r : Reps K H ts vs) : RepSt K H H (L2.start N vs) (startT N.length ts) := by
  have hl := r.length
  have noOwn : ∀ i us, sget (startT N.length ts) i ≠ .own us := fun i us e => by
    unfold startT at e
    by_cases hi : i < ts.length
    · rw [sget_append_left (by simpa using hi)] at e
      obtain ⟨t, _, h2⟩ := sget_vals hi
      rw [h2] at e
      cases e
    · rw [sget_append_right (by simpa using hi), sget_no] at e
      cases e
  refine ⟨.refl H, by unfold L2.start startT; simp [hl], fun i => ?_, fun i j ts' us p _ h1 _ _ _ => absurd h1 (noOwn i _)⟩
  unfold startT
  by_cases hi : i < ts.length
  · rw [sget_append_left (by simpa using hi)]
    obtain ⟨t, h1, h2⟩ := sget_vals hi
    rw [h2]
    obtain ⟨v, e, rv⟩ := r.get h1
    refine ⟨v, ?_, rv⟩
    unfold L2.start
    rw [List.getElem?_append_left (by simp [hl, hi]), List.getElem?_map, e]
    rfl
  · rw [sget_append_right (by simpa using hi), sget_no]
    trivial
theorem fnT {P : Program} {w : World} {K : PySem.W.Frag} {mg : Str → Option Value} {base : Heap} {x qual : Str} {st : Stmt} {f : Addr} {fd : FuncData} {N ps : List Str} {k : Nat} {S : SpT} {W : WS} (F : Fun K x qual st f fd) (SC : FnScope N ps (defScope st))
    (hlen : ∀ ts Q, S ts Q → ts.length = ps.length)
    (hbody : ∀ (cdv : Value) (A : Around) (outer : List Env) (s : Shared) (H : Hp) (E : XK), Room k (A.deeper (envOfC qual (defScope st) s.heap.objs.size f cdv)) → JSs (cxOf CX0 P w K mg base N qual (defScope st) f cdv A outer s H E).nox (defBody st) W)
    (hw : ∀ ts Q, S ts Q → W { nx := fun _ => Q .non, rt := Q } (startT N.length ts)) : FnT P w K mg base (k + 1) f fd ps S := by
  refine ⟨F.ok SC (fun vs H Q E h => ?_) (fun cdv A outer s H vs Q E hr h => ?_), hlen⟩
  · obtain ⟨_, _, e, _⟩ := h
    exact e
  obtain ⟨ts, Q0, e, r, hS, q⟩ := h
  refine ⟨_, hbody cdv A outer s H E hr, startT N.length ts, { nx := fun _ => Q0 .non, rt := Q0 }, repSt_start r, hw ts Q0 hS, fun τ' σ' H' _ R n => ?_, fun t v H' S r' n => q t v H' S r' n, fun τ' σ' H' _ R n => n.elim, fun τ' σ' H' _ R n => n.elim⟩
  exact q .non .non H' R.same (rep_non.mpr rfl) n
variable {st : Stmt} {rest : List Stmt} {t u : WS} {ua : WT}
def sNext : WS := fun D τ => D.nx τ
def sSeq (t u : WS) : WS := fun D τ => t { D with nx := u D } τ
theorem js0 : JSs X [] sNext := pss_of pss_nil fun D σ H ⟨τ, D0, R, hw, k, _⟩ => k τ σ H (.refl H) R hw
theorem js1 (h : JS X st t) : JSs X [st] t := pss_of (pss_one h) fun D σ H z => z
theorem jsc (h1 : JS X st t) (h2 : JSs X rest u) : JSs X (st :: rest) (sSeq t u) := pss_of (pss_cons h1 h2) fun D σ H ⟨τ, D0, R, hw, kn, kr, kb, kc⟩ =>
  ⟨τ, _, R, hw, fun τ' σ' H' K1 R' q => ⟨τ', D0, R', q, fun τ2 σ2 H2 K2 R2 q2 => kn τ2 σ2 H2 (K1.trans K2) R2 q2, kr, fun τ2 σ2 H2 K2 R2 q2 => kb τ2 σ2 H2 (K1.trans K2) R2 q2, fun τ2 σ2 H2 K2 R2 q2 => kc τ2 σ2 H2 (K1.trans K2) R2 q2⟩,
    kr, kb, kc⟩
def sRet (w : WE) : WS := fun D τ => w τ D.rt
theorem jret (h : JE X e w) : JS X (.Return (some e) pos) (sRet w) := ps_of (ps_ret h) fun D σ H ⟨τ, D0, R, hw, _, k, _⟩ => ⟨τ, _, R, hw, fun t v H' S r q => k t v H' (R.same.trans S) r q⟩
def sRetN : WS := fun D _ => D.rt .non
def sIf (ua : WT) (t u : WS) : WS := fun D τ => ua τ fun k => (k = true → t D τ) ∧ (k = false → u D τ)
theorem jsif {c : Expr} {a b : List Stmt} (hc : JT X c ua) (ha : JSs X a t) (hb : JSs X b u) : JS X (.If c a b pos) (sIf ua t u) := ps_of (ps_if hc ha hb) fun D σ H ⟨τ, D0, R, hw, kn, kr, kb, kc⟩ => by
  refine ⟨τ, _, R, hw, fun d H1 S1 q => ?_⟩
  have K1 := Kp.of S1
  cases d with
  | true => dsimp only; rw [if_pos rfl]; exact ⟨τ, D0, R.mono S1, q.1 rfl, fun τ2 σ2 H2 K2 R2 q2 => kn τ2 σ2 H2 (K1.trans K2) R2 q2, kr, fun τ2 σ2 H2 K2 R2 q2 => kb τ2 σ2 H2 (K1.trans K2) R2 q2, fun τ2 σ2 H2 K2 R2 q2 => kc τ2 σ2 H2 (K1.trans K2) R2 q2⟩
  | false => dsimp only; rw [if_neg Bool.false_ne_true]; exact ⟨τ, D0, R.mono S1, q.2 rfl, fun τ2 σ2 H2 K2 R2 q2 => kn τ2 σ2 H2 (K1.trans K2) R2 q2, kr, fun τ2 σ2 H2 K2 R2 q2 => kb τ2 σ2 H2 (K1.trans K2) R2 q2, fun τ2 σ2 H2 K2 R2 q2 => kc τ2 σ2 H2 (K1.trans K2) R2 q2⟩
def sExpr (w : WE) : WS := fun D τ => w τ fun _ => D.nx τ
def sSet (i : Nat) (w : WE) : WS := fun D τ => w τ fun t => D.nx (sput τ i (.val t))
theorem jset {i : Nat} {x : Str} {pos' : Pos} (hN : X.N.Nodup) (hi : X.N[i]? = some x) (hx : Loc X.env.scope x) (he : JE X e w) (hs : swapsWith e (some (.Name x pos')) pos.line X.env = pure false := by rfl)
    (hf : X.fn x = true ∨ X.env.scope.names.lookup x = some .local := by first | exact .inl rfl | exact .inr rfl | assumption) : JS X (.Assign [.Name x pos'] e pos) (sSet i w) :=
  ps_of (ps_set hN hi hx he hs hf) fun D σ H ⟨τ, D0, R, hw, k, _⟩ => ⟨τ, _, R, hw, fun t v H' S r q => k _ _ H' (.of S) ((R.mono S).put r) q⟩
def sOwn (i : Nat) (ws : WA) : WS := fun D τ => ws τ fun ts => ts.length ≤ 1000 ∧ D.nx (sput τ i (.own ts))
theorem jown {i : Nat} {x : Str} {pos' pl : Pos} (hN : X.N.Nodup) (hi : X.N[i]? = some x) (hx : Loc X.env.scope x) (he : JA X es ws) (hs : swapsWith (.List es pl) (some (.Name x pos')) pos.line X.env = pure false := by rfl)
    (hf : X.fn x = true ∨ X.env.scope.names.lookup x = some .local := by first | exact .inl rfl | exact .inr rfl | assumption) : JS X (.Assign [.Name x pos'] (.List es pl) pos) (sOwn i ws) :=
  ps_of (ps_set hN hi hx (pe_lst he) hs hf) fun D σ H ⟨τ, D0, R, hw, k, _⟩ => ⟨τ, _, R, hw, fun ts vs H' S r ⟨hl, q⟩ =>
    ⟨by rw [r.length]; exact few hl, fun p hp => k _ _ _ ((Kp.of S).trans (.of (same_new hp _))) ((R.mono S).putOwn hp r) q⟩⟩
def sApp (i : Nat) (w : WE) : WS := fun D τ => match sget τ i with
  | .own ts => w τ fun t => ts.length < 1000 ∧ D.nx (sput τ i (.own (ts ++ [t])))
  | _ => False
theorem japp {i : Nat} {x : Str} {px apos cpos : Pos} (hv : PE X (.Name x px) (tVar i)) (he : JE X e w)
    (hs : swapsWith (.Call (.Attribute (.Name x px) "append" apos) [e] [] cpos) none pos.line X.env = pure false := by rfl)
    (hbase : attributeBase (.Name x px) "append" X.env (eval (.Name x px) X.env) = eval (.Name x px) X.env := by rfl)
    (hfew : ((backTo cpos (starEach [e] X.env)).all (fun x => !x.1) && (backToKw cpos (keywordEach [] X.env)).all (fun x => x.1.isSome)
      && decide ([e].length + ([] : List Keyword).length + (if ([] : List Keyword).isEmpty then 0 else 1) < 30)) = true := by rfl)
    (hline : (apos.endLine == cpos.line) = true := by rfl) (hst : starEach [e] X.env = (false, eval e X.env) :: starEach [] X.env := by rfl) (hplain : (backTo cpos (starEach [] X.env)).any (·.1) = false := by rfl) :
    JS X (.Expr (.Call (.Attribute (.Name x px) "append" apos) [e] [] cpos) pos) (sApp i w) := by
  refine ps_of (ps_expr (pe_bm PySem.F.plainAttrs_list PySem.F.slot_list_append PySem.F.type_list_append mt_append hv (pa_cons he pa_nil hst) hbase hfew hline hst hplain) hs) fun D σ H ⟨τ, D0, R, hw, k, _⟩ => ?_
  unfold sApp at hw
  cases own : sget τ i with
  | no => rw [own] at hw; exact hw.elim
  | val t => rw [own] at hw; exact hw.elim
  | see t => rw [own] at hw; exact hw.elim
  | dic t => rw [own] at hw; exact hw.elim
  | vat t v => rw [own] at hw; exact hw.elim
  | own ts =>
    rw [own] at hw
    have sl := R.slot i
    rw [own] at sl
    obtain ⟨p, vs, ev, hp, rr, n0⟩ := sl
    refine ⟨.ref p, ev, .inl ⟨rfl, vs, SqL.of hp⟩, τ, _, R, hw, fun t v H' S r q => ?_⟩
    refine ⟨p, vs, v, rfl, rfl, S _ _ hp, by rw [rr.length]; exact small1000 (Nat.le_of_lt q.1), ?_⟩
    exact k _ _ _ ((Kp.of S).trans (Kp.write (S _ _ hp) _)) ((R.mono S).write own ev (S _ _ hp) ((rr.kp (.of S)).append (.one r))) q.2
def sFrz (i : Nat) (t : WS) : WS := fun D τ => match sget τ i with
  | .own ts => t D (sput τ i (.val (.lst ts)))
  | _ => False
theorem Inv.freeze {pins : List (Addr × Obj)} {σ : St} {H : Hp} {s : Shared} {p : Addr} {xs : List V} (I : Inv X pins σ H s) (h : H p = some (.lst xs)) : ∃ o, Inv X pins σ (upd H p (.frz o (.lst xs))) s := by
  obtain ⟨z, its, n, r, e⟩ := I.hok p _ h
  refine ⟨{ cls := .type "list", data := .seq its.toArray n }, ?_⟩
  have ne : ∀ {b : Addr} {o : HO}, H b = some o → o ≠ .lst xs → b ≠ p := fun q d z => by subst z; rw [h] at q; cases q; exact d rfl
  have nn : ∀ {b : Addr}, H b = none → b ≠ p := fun q z => by subst z; rw [h] at q; cases q
  have u : Un X.fs [] H (upd H p (.frz { cls := .type "list", data := .seq its.toArray n } (.lst xs))) s.heap s.heap := by
    refine ⟨fun b o q _ _ _ => q, fun b o q _ _ _ => ⟨o.slots, q⟩, fun b o _ q _ => by rw [upd_ne (nn q)]; exact q, fun b o q _ => ⟨o, q⟩, fun b ys q => ?_, fun b o' u' q => ?_, fun b ps q => ⟨#[], ?_⟩⟩
    · rw [upd_ne (by rintro rfl; rw [h] at q; cases q)]; exact q
    · rw [upd_ne (by rintro rfl; rw [h] at q; cases q)]; exact q
    · rw [upd_ne (by rintro rfl; rw [h] at q; cases q), q]; simp
  have hok : HOk X.prog X.w (upd H p (.frz { cls := .type "list", data := .seq its.toArray n } (.lst xs))) s.heap := fun b ob q => by
    by_cases hb : b = p
    · subst hb
      rw [upd_same] at q
      cases q
      exact ⟨e, z, its, n, r, e⟩
    · rw [upd_ne hb] at q
      refine (I.hok b ob q).stay (fun c v _ q => q) (fun c q => ?_) fun c ys q => ?_
      · rw [upd_ne (by rintro rfl; rw [h] at q; cases q)]; exact q
      · rw [upd_ne (by rintro rfl; rw [h] at q; cases q)]; exact q
  have := I.un (h' := s.heap) (t' := s.toks) u hok
  exact this
theorem jfrz (i : Nat) {sts : List Stmt} (h : JSs X sts t) : JSs X sts (sFrz i t) := by
  intro pins s σ H D I hw
  obtain ⟨τ, D0, R, hw, kn, kr, kb, kc⟩ := hw
  unfold sFrz at hw
  cases own : sget τ i with
  | no => rw [own] at hw; exact hw.elim
  | val t => rw [own] at hw; exact hw.elim
  | see t => rw [own] at hw; exact hw.elim
  | dic t => rw [own] at hw; exact hw.elim
  | vat t v => rw [own] at hw; exact hw.elim
  | own ts =>
    rw [own] at hw
    have sl := R.slot i
    rw [own] at sl
    obtain ⟨p, vs, ev, hp, rr, n0⟩ := sl
    obtain ⟨o, I'⟩ := Inv.freeze I hp
    have K1 := Kp.write hp (.frz o (.lst vs))
    exact h pins s σ _ D I' ⟨_, D0, R.freeze own ev hp rr, hw, fun τ2 σ2 H2 K2 R2 q2 => kn τ2 σ2 H2 (K1.trans K2) R2 q2, kr, fun τ2 σ2 H2 K2 R2 q2 => kb τ2 σ2 H2 (K1.trans K2) R2 q2, fun τ2 σ2 H2 K2 R2 q2 => kc τ2 σ2 H2 (K1.trans K2) R2 q2⟩
abbrev TGt := T → List Slot → (List Slot → Prop) → Prop
abbrev TGts := List T → List Slot → (List Slot → Prop) → Prop
def upG (K : PySem.W.Frag) (H0 : Hp) (g : TGt) : TG := fun v σ H Q => ∃ (t : T) (τ : List Slot) (Q0 : List Slot → Prop), RepSt K H0 H σ τ ∧ Rep K H t v ∧ g t τ Q0 ∧ ∀ τ' σ' H', Same H H' → RepSt K H0 H' σ' τ' → Q0 τ' → Q σ' H'
def upGs (K : PySem.W.Frag) (H0 : Hp) (g : TGts) : TGs := fun vs σ H Q => ∃ (ts : List T) (τ : List Slot) (Q0 : List Slot → Prop), RepSt K H0 H σ τ ∧ Reps K H ts vs ∧ g ts τ Q0 ∧ ∀ τ' σ' H', Same H H' → RepSt K H0 H' σ' τ' → Q0 τ' → Q σ' H'
def JG (X : Cx) (tg : Expr) (g : TGt) : Prop := PG X tg (upG X.K X.H₀ g)
def JGs (X : Cx) (tgs : List Expr) (g : TGts) : Prop := PGs X tgs (upGs X.K X.H₀ g)
theorem pg_of {tg : Expr} {t t' : TG} (h : PG X tg t) (f : ∀ v σ H Q, t' v σ H Q → t v σ H Q) : PG X tg t' := fun pins s σ H v u Q I r hw => h pins s σ H v u Q I r (f v σ H Q hw)
theorem pgs_of {tg : List Expr} {t t' : TGs} (h : PGs X tg t) (f : ∀ v σ H Q, t' v σ H Q → t v σ H Q) : PGs X tg t' := fun pins s σ H v u Q I r hw => h pins s σ H v u Q I r (f v σ H Q hw)
def gN (i : Nat) : TGt := fun t τ Q => Q (sput τ i (.val t))
theorem jg {i : Nat} {x : Str} (hN : X.N.Nodup) (hi : X.N[i]? = some x) (hx : Loc X.env.scope x) (hf : X.fn x = true ∨ X.env.scope.names.lookup x = some .local := by first | exact .inl rfl | exact .inr rfl | assumption) : JG X (.Name x pos) (gN i) :=
  pg_of (pg_name hN hi hx hf) fun v σ H Q ⟨t, τ, Q0, R, r, hw, k⟩ => k _ _ H (.refl H) (R.put r) hw
def gs0 : TGts := fun ts τ Q => match ts with | [] => Q τ | _ => False
def gsC (g : TGt) (gs : TGts) : TGts := fun ts τ Q => match ts with | t :: r => g t τ fun τ' => gs r τ' Q | [] => False
theorem jgs0 : JGs X [] gs0 := pgs_of pgs_nil fun vs σ H Q ⟨ts, τ, Q0, R, r, hw, k⟩ => by
  cases ts with
  | nil => exact ⟨reps_nil.mp r, k τ σ H (.refl H) R hw⟩
  | cons t r => exact hw.elim
theorem jgsc {e : Expr} {es : List Expr} {g : TGt} {gs : TGts} (h1 : JG X e g) (h2 : JGs X es gs) (hs : (assignEach (e :: es) X.env).map (·.2) = assign e X.env :: (assignEach es X.env).map (·.2) := by rfl) : JGs X (e :: es) (gsC g gs) :=
  pgs_of (pgs_cons h1 h2 hs) fun vs σ H Q ⟨ts, τ, Q0, R, r, hw, k⟩ => by
    cases ts with
    | nil => exact hw.elim
    | cons t ts =>
      rw [reps_cons] at r
      obtain ⟨v, vr, e1, r1, r2⟩ := r
      exact ⟨v, vr, e1, t, τ, _, R, r1, hw, fun τ1 σ1 H1 S1 R1 q1 => ⟨ts, τ1, Q0, R1, r2.kp (.of S1), q1, fun τ2 σ2 H2 S2 R2 q2 => k τ2 σ2 H2 (S1.trans S2) R2 q2⟩⟩
theorem draw_list {prog : Program} {w : World} {A : Around} {E : Value → Shared → Prop} {it l : Addr} {items : Array Value} (hne : l ≠ it) : ∀ (n i : Nat) (s : Shared) (Q : List Value → Shared → Prop), s.heap.IsListIter it l i → s.heap.IsList l items → i + n ≤ items.size →
    (∀ h', h'.IsListIter it l (i + n) → Heap.SameBut it s.heap h' → Q ((items.toList.drop i).take n) { s with heap := h' }) → wpAny (model prog w) A (draw (.ref it) n) Q E s
  | 0, i, s, Q, hit, _, _, hQ => by
    show wpAny _ _ (pure []) Q E s
    exact wpAny_pure (by simpa using hQ s.heap hit (Heap.SameBut.refl ..))
  | n + 1, i, s, Q, hit, ht, hle, hQ => by
    have hlt : i < items.size := by omega
    show wpAny _ _ (pyNext (.ref it) >>= _) Q E s
    refine wpAny_bind (wpAny_pyNext_list_item hit ht (x := items[i]) (by simp [hlt]) fun h₁ hit₁ hs₁ => ?_)
    refine wpAny_bind (wpAny_holding (draw_list hne n (i + 1) _ _ hit₁ (ht.extBut hs₁.extBut hne) (by omega) fun h₂ hit₂ hs₂ => wpAny_pure ?_))
    have hd : items.toList.drop i = items[i] :: items.toList.drop (i + 1) := by simp [List.drop_eq_getElem_cons, hlt]
    have := hQ h₂ (by rw [show i + (n + 1) = i + 1 + n by omega]; exact hit₂) (hs₁.trans hs₂)
    rw [hd, List.take_succ_cons] at this
    exact this
theorem unpackItems_list {prog : Program} {w : World} {A : Around} {E : Value → Shared → Prop} {s : Shared} {t : Addr} {items : Array Value} {Q : List Value → Shared → Prop} (hh : A.handled = none) (ht : s.heap.IsList t items)
    (hQ : ∀ h', Heap.ExtBut s.heap.objs.size s.heap h' → Q items.toList { s with heap := h' }) : wpAny (model prog w) A (unpackItems (.ref t) items.size none) Q E s := by
  have hlt : t ≠ s.heap.objs.size := by obtain ⟨o, ho, _⟩ := ht; exact Nat.ne_of_lt (Heap.lt_size ho)
  unfold unpackItems
  refine wpAny_bind ?_
  · unfold notIterableAtAll
    refine wpAny_bind (wpAny_specialOf ht.typeIs slot_list_iter.lookup ?_)
    refine wpAny_pure ?_
    simp only [Bool.false_eq_true, if_false]
    refine wpAny_bind (wpAny_holding (wpAny_pyIter_list ht ?_))
    have htp : (s.heap.push { cls := .type "list_iterator", data := .fields #[.ref t, .int 0 0] }).IsList t items := by
      obtain ⟨o, ho, r⟩ := ht
      exact ⟨o, Heap.get?_push_of_some _ ho, r⟩
    refine wpAny_bind (wpAny_holding (draw_list hlt items.size 0 _ _ ⟨_, Heap.get?_push_size _ rfl, rfl, rfl⟩ htp (by omega) fun h₁ hit₁ hs₁ => ?_))
    have hall : List.take items.size (List.drop 0 items.toList) = items.toList := by
      rw [List.drop_zero]; exact List.take_of_length_le (by simp)
    rw [hall]
    rw [if_neg (by simp)]
    have ht₁ : h₁.IsList t items := htp.extBut hs₁.extBut hlt
    refine wpAny_bind (wpAny_holding (wpAny_pyNext_list_end hh hit₁ ht₁ (by simp) fun h₂ he₂ => ?_))
    simp only [Option.isSome_none, Bool.false_eq_true, if_false]
    refine wpAny_pure (hQ h₂ fun b o hb e => he₂ b o hb (hs₁.extBut b o hb (Heap.get?_push_of_some _ e)))
theorem assign_Tuple_list {prog : Program} {w : World} {A : Around} {E : Value → Shared → Prop} {s : Shared} {env : Env} {elts : List Expr} {x1} {pos : Pos} {t : Addr} {items : Array Value} {Q : Unit → Shared → Prop} (hh : A.handled = none) (ht : s.heap.IsList t items)
    (hn : (assignEach elts env).length = items.size) (hstar : (assignEach elts env).findIdx? (·.1) = none)
    (h : ∀ h', Heap.ExtBut s.heap.objs.size s.heap h' → wpAny (model prog w) A (assignInOrder ((assignEach elts env).map (·.2)) items.toList) Q E { s with heap := h' }) :
    wpAny (model prog w) A (assign (.Tuple elts x1 pos) env (.ref t)) Q E s := by
  rw [assign_Tuple]
  refine wpAny_bind (wpAny_standAt ?_)
  unfold unpack
  rw [hn, hstar]
  exact wpAny_bind (wpAny_holding (unpackItems_list hh ht h))
def gT (n : Nat) (gs : TGts) : TGt := fun t τ Q => match t with
  | .tup ts => ts.length = n ∧ gs ts τ Q
  | .lst ts => ts.length = n ∧ gs ts τ Q
  | _ => False
theorem jgt {es : List Expr} {k : Nat} {gs : TGts} {n : Nat} (hc : X.calm = true) (h : JGs X es gs) (hn : (assignEach es X.env).length = n := by rfl) (hst : (assignEach es X.env).findIdx? (·.1) = none := by rfl) : JG X (.Tuple es k pos) (gT n gs) := by
  intro pins s σ H v u Q I r hw
  obtain ⟨t, τ, Q0, R, rt, hw, kk⟩ := hw
  cases t <;> first | exact hw.elim | skip
  · rename_i ts
    rw [rep_tup] at rt
    obtain ⟨p, vs, rfl, sq, rr⟩ := rt
    cases r
    obtain ⟨its, rv, ht, hz⟩ := I.tuple sq
    refine assign_Tuple_tuple (I.ok.hd hc) ht (by simp [hn, ← hw.1, ← rr.length, rv.length]) hst fun h' hx => ?_
    have I1 : Inv X pins σ H { s with heap := h' } := I.kept (t' := s.toks) fun b o e => hx b o (Nat.ne_of_lt (Heap.lt_size e)) e
    exact h pins _ σ H vs _ Q I1 (by simpa using rv) ⟨ts, τ, Q0, R, rr, hw.2, kk⟩
  · rename_i ts
    rw [rep_lst] at rt
    obtain ⟨p, vs, rfl, sq, rr⟩ := rt
    cases r
    obtain ⟨its, rv, ht, hz⟩ := I.list sq.sq
    refine assign_Tuple_list (I.ok.hd hc) ht.isList (by simp [hn, ← hw.1, ← rr.length, rv.length]) hst fun h' hx => ?_
    have I1 : Inv X pins σ H { s with heap := h' } := I.kept (t' := s.toks) fun b o e => hx b o (Nat.ne_of_lt (Heap.lt_size e)) e
    exact h pins _ σ H vs _ Q I1 (by simpa using rv) ⟨ts, τ, Q0, R, rr, hw.2, kk⟩
def sAsg (g : TGt) (w : WE) : WS := fun D τ => w τ fun t => g t τ D.nx
theorem jasg {tg : Expr} {g : TGt} (hg : JG X tg g) (he : JE X e w) (hs : swapsWithSole [tg] e pos.line X.env = pure false := by rfl) (hw : swappedStores [tg] e X.env = pure none := by rfl)
    (h1 : (assignEach [tg] X.env).map (·.2) = [assign tg X.env] := by rfl) : JS X (.Assign [tg] e pos) (sAsg g w) :=
  ps_of (ps_asg he hg hs hw h1) fun D σ H ⟨τ, D0, R, hw, k, _⟩ => ⟨τ, _, R, hw, fun t v H' S r q => ⟨t, τ, _, R.mono S, r, q, fun τ' σ' H2 S2 R2 q2 => k τ' σ' H2 (.of (S.trans S2)) R2 q2⟩⟩
def sPar (i j : Nat) (ws : WA) : WS := fun D τ => ws τ fun ts => match ts with | [x, y] => D.nx (sput (sput τ i (.val x)) j (.val y)) | _ => False
theorem jpar {i j : Nat} {x y : Str} {px py pt : Pos} {kt k2 pt2} (hc : X.calm = true) (hN : X.N.Nodup) (hi : X.N[i]? = some x) (hj : X.N[j]? = some y) (hij : i ≠ j)
    (hx : X.env.scope.names.lookup x = some .local) (hy : X.env.scope.names.lookup y = some .local) (ha : JA X [a, b] ws)
    (hw : swappedStores [.Tuple [.Name x px, .Name y py] kt pt] (.Tuple [a, b] k2 pt2) X.env = pure (some [x, y]))
    (hs : swapsWithSole [.Tuple [.Name x px, .Name y py] kt pt] (.Tuple [a, b] k2 pt2) pos.line X.env = pure false := by rfl) :
    JS X (.Assign [.Tuple [.Name x px, .Name y py] kt pt] (.Tuple [a, b] k2 pt2) pos) (sPar i j ws) :=
  ps_of (ps_par hc hN hi hj hij hx hy ha hw hs) fun D σ H ⟨τ, D0, R, hw, k, _⟩ => ⟨τ, _, R, hw, fun ts vs H' S r q => by
    unfold sPar at hw
    match ts, r, q with
    | [x, y], r, q =>
      obtain ⟨v, v', rfl, r1, r2⟩ := reps2 r
      exact ⟨v, v', rfl, k _ _ H' (.of S) (((R.mono S).put r1).put r2) q⟩
    | [], _, q => exact q.elim
    | [_], _, q => exact q.elim
    | _ :: _ :: _ :: _, _, q => exact q.elim⟩
def sWhile (ua : WT) (t : WS) : WS := fun D τ => ∃ I : Nat → List Slot → Prop, (∃ m, I m τ) ∧ ∀ m τ, I m τ → ua τ fun k =>
  (k = true → t { D with nx := fun τ' => ∃ m', m' < m ∧ I m' τ', ct := fun τ' => ∃ m', m' < m ∧ I m' τ', bk := D.nx } τ) ∧ (k = false → D.nx τ)
theorem jwhile {c : Expr} {body : List Stmt} (hp : PassesOwn (model X.prog X.w) X.A X.env X.xe) (hc : JT X c ua) (hb : JSs X body t) : JS X (.While c body [] pos) (sWhile ua t) :=
  ps_of (ps_while hp hc hb) fun D σ H ⟨τ, D0, R, ⟨I, ⟨m0, h0⟩, turn⟩, kn, kr, kb, kc⟩ => by
    refine ⟨fun m σ' H' => ∃ τ', RepSt X.K X.H₀ H' σ' τ' ∧ Kp H H' ∧ I m τ', ⟨m0, τ, R, .refl H, h0⟩, fun m σ1 H1 ⟨τ1, R1, K1, i1⟩ => ?_⟩
    refine ⟨τ1, _, R1, turn m τ1 i1, fun k H2 S2 q => ?_⟩
    cases k with
    | true =>
      rw [if_pos rfl]
      have K2 := K1.trans (.of S2)
      have nx : ∀ τ' σ' H', Kp H2 H' → RepSt X.K X.H₀ H' σ' τ' → (∃ m', m' < m ∧ I m' τ') → ∃ m', m' < m ∧ ∃ τ', RepSt X.K X.H₀ H' σ' τ' ∧ Kp H H' ∧ I m' τ' := fun τ' σ' H' K3 R3 ⟨m', lt, i3⟩ => ⟨m', lt, τ', R3, K2.trans K3, i3⟩
      exact ⟨fun σ' H' => ∃ m', m' < m ∧ ∃ τ', RepSt X.K X.H₀ H' σ' τ' ∧ Kp H H' ∧ I m' τ', fun σ' H' z => z, τ1, _, R1.mono S2, q.1 rfl, nx, kr, fun τ' σ' H' K3 R3 q3 => kn τ' σ' H' (K2.trans K3) R3 q3, nx⟩
    | false =>
      rw [if_neg Bool.false_ne_true]
      exact kn τ1 σ1 H2 (K1.trans (.of S2)) (R1.mono S2) (q.2 rfl)
abbrev WI := List Slot → (List T → Prop) → Prop
def Wk (K : PySem.W.Frag) (J : It) (ts : List T) (H1 : Hp) : Prop := ∀ H2, Kp H1 H2 → (∀ i t, ts[i]? = some t → J.go i H2 ∧ ∀ x H3, J.yld i H2 x H3 → Same H2 H3 ∧ Rep K H3 t x) ∧ J.stop ts.length H2
def upI (K : PySem.W.Frag) (H0 : Hp) (w : WI) : TI := fun σ H R => ∃ (τ : List Slot) (Q0 : List T → Prop), RepSt K H0 H σ τ ∧ w τ Q0 ∧ ∀ ts J H', Same H H' → Wk K J ts H' → Q0 ts → R J H'
def JI (X : Cx) (tg iter : Expr) (w : WI) : Prop := PI X tg iter (upI X.K X.H₀ w)
theorem pi_of {tg iter : Expr} {t t' : TI} (h : PI X tg iter t) (f : ∀ σ H R, t' σ H R → t σ H R) : PI X tg iter t' := fun pins s σ H R I hw => h pins s σ H R I (f σ H R hw)
def forT (g : TGt) (t : WS) : List T → WS
  | [], D, τ => D.nx τ
  | x :: xs, D, τ => g x τ fun τ1 => t { D with nx := forT g t xs D, ct := forT g t xs D, bk := D.nx } τ1
def sFor (wi : WI) (g : TGt) (t : WS) : WS := fun D τ => wi τ fun ts => forT g t ts D τ
theorem jfor {tg iter : Expr} {body : List Stmt} {wi : WI} {g : TGt} (hp : PassesOwn (model X.prog X.w) X.A X.env X.xe) (hc : X.calm = true) (hi : JI X tg iter wi) (hg : JG X tg g) (hb : JSs X body t)
    (hs : ∀ x, foldedSetIterable iter X.env x = pure x := by intro _; rfl) : JS X (.For tg iter body [] pos) (sFor wi g t) :=
  ps_of (ps_for hp hc hi hg hb hs) fun D σ H ⟨τ, D0, R, hw, kn, kr, kb, kc⟩ => by
    refine ⟨τ, _, R, hw, fun ts J H1 S1 wk q => ?_⟩
    have K0 := Kp.of S1
    refine ⟨fun i m σ' H' => m = ts.length - i ∧ i ≤ ts.length ∧ ∃ τ', RepSt X.K X.H₀ H' σ' τ' ∧ Kp H1 H' ∧ forT g t (ts.drop i) D0 τ', ⟨ts.length, by simp, Nat.zero_le _, τ, R.mono S1, .refl H1, by simpa using q⟩, ?_⟩
    rintro i m σ2 H2 ⟨rfl, hi, τ2, R2, K2, q2⟩
    obtain ⟨wi, ws⟩ := wk H2 K2
    by_cases hlt : i < ts.length
    · refine .inr ?_
      have ei : ts[i]? = some ts[i] := List.getElem?_eq_getElem hlt
      obtain ⟨go, yl⟩ := wi i _ ei
      rw [List.drop_eq_getElem_cons hlt] at q2
      refine ⟨go, fun σ' H' => ∃ τ', RepSt X.K X.H₀ H' σ' τ' ∧ Kp H1 H' ∧ forT g t (ts.drop (i + 1)) D0 τ', fun σ' H' ⟨τ', R', K', q'⟩ => ⟨ts.length - (i + 1), by omega, rfl, hlt, τ', R', K', q'⟩, fun x H3 y => ?_⟩
      obtain ⟨S3, r3⟩ := yl x H3 y
      refine ⟨ts[i], τ2, _, R2.mono S3, r3, q2, fun τ4 σ4 H4 S4 R4 q4 => ?_⟩
      have K4 := K2.trans (.of (S3.trans S4))
      have nx : ∀ τ' σ' H', Kp H4 H' → RepSt X.K X.H₀ H' σ' τ' → forT g t (ts.drop (i + 1)) D0 τ' → ∃ τ', RepSt X.K X.H₀ H' σ' τ' ∧ Kp H1 H' ∧ forT g t (ts.drop (i + 1)) D0 τ' := fun τ' σ' H' K5 R5 q5 => ⟨τ', R5, K4.trans K5, q5⟩
      exact ⟨τ4, _, R4, q4, nx, kr, fun τ' σ' H' K5 R5 q5 => kn τ' σ' H' (K0.trans (K4.trans K5)) R5 q5, nx⟩
    · have e : i = ts.length := by omega
      subst e
      rw [List.drop_length] at q2
      exact .inl ⟨ws, kn τ2 σ2 H2 (K0.trans K2) R2 q2⟩
def iSeq (w : WE) : WI := fun τ Q => w τ fun t => match t with
  | .tup ts => Q ts
  | .lst ts => Q ts
  | _ => False
theorem jiSeq {tg l : Expr} (h : JE X l w) : JI X tg l (iSeq w) := by
  intro pins s σ H R I hw
  obtain ⟨τ, Q0, Rs, hw, k⟩ := hw
  refine thn (h pins s σ H (fun v H1 => ∃ t, Same H H1 ∧ Rep X.K H1 t v ∧ (match t with | .tup ts => Q0 ts | .lst ts => Q0 ts | _ => False)) I ⟨τ, _, Rs, hw, fun t v H1 S r q => ⟨t, S, r, q⟩⟩) fun v s1 ⟨x, H1, I1, r1, t, S1, rt, q1⟩ => ?_
  cases t <;> first | exact q1.elim | skip
  · rename_i ts
    rw [rep_tup] at rt
    obtain ⟨a, vs, rfl, hq, rr⟩ := rt
    cases r1
    obtain ⟨its, rv, p, hz⟩ := I1.tuple hq
    refine wpAny_pyIter_tuple (show s1.heap.IsTuple a its.toArray from p) ?_
    refine ⟨s1.heap.objs.size, [s1.heap.objs.size], _, _, H1, rfl, I1.kept (t' := s1.toks) fun b o e => Heap.get?_push_of_some _ e, turn_tuple a _, ⟨_, Heap.get?_push_size _ rfl, rfl, rfl⟩, fun b hb => ?_, k ts (Itt X.K a) H1 S1 ?_ q1⟩
    · have e : b = s1.heap.objs.size := by simpa using hb
      subst e
      exact I1.fpOk (Nat.le_refl _) (I1.hok.fresh (Nat.le_refl _))
    · intro H2 K2
      have sq2 := sqT_kp K2 hq
      refine ⟨fun i t ei => ?_, ⟨vs, sq2, by rw [rr.length]; exact Nat.le_refl _⟩⟩
      obtain ⟨v, ev, rv⟩ := rr.get ei
      refine ⟨⟨vs, v, sq2, ev⟩, fun x H3 y => ?_⟩
      obtain ⟨rfl, y⟩ := y
      have z := y vs sq2
      rw [ev] at z
      cases z
      exact ⟨.refl _, rv.kp K2⟩
  · rename_i ts
    rw [rep_lst] at rt
    obtain ⟨a, vs, rfl, hq, rr⟩ := rt
    cases r1
    obtain ⟨its, rv, p, hz⟩ := I1.list hq.sq
    refine wpAny_pyIter_list p.isList ?_
    refine ⟨s1.heap.objs.size, [s1.heap.objs.size], _, _, H1, rfl, I1.kept (t' := s1.toks) fun b o e => Heap.get?_push_of_some _ e, turn_list a _, ⟨_, Heap.get?_push_size _ rfl, rfl, rfl⟩, fun b hb => ?_, k ts (Itl X.K a) H1 S1 ?_ q1⟩
    · have e : b = s1.heap.objs.size := by simpa using hb
      subst e
      exact I1.fpOk (Nat.le_refl _) (I1.hok.fresh (Nat.le_refl _))
    · intro H2 K2
      have sq2 := (sqF_kp K2 hq).sq
      refine ⟨fun i t ei => ?_, ⟨vs, sq2, by rw [rr.length]; exact Nat.le_refl _⟩⟩
      obtain ⟨v, ev, rv⟩ := rr.get ei
      refine ⟨⟨vs, v, sq2, ev⟩, fun x H3 y => ?_⟩
      obtain ⟨rfl, y⟩ := y
      have z := y vs sq2
      rw [ev] at z
      cases z
      exact ⟨.refl _, rv.kp K2⟩
def rangeT : Int → Nat → List T
  | _, 0 => []
  | lo, n + 1 => .int lo :: rangeT (lo + 1) n
theorem rangeT_length : ∀ (lo : Int) (n : Nat), (rangeT lo n).length = n
  | _, 0 => rfl
  | lo, n + 1 => by simp [rangeT, rangeT_length (lo + 1) n]
theorem rangeT_get : ∀ (lo : Int) (n i : Nat), i < n → (rangeT lo n)[i]? = some (.int (lo + i))
  | _, 0, _, h => by omega
  | lo, n + 1, 0, _ => by simp [rangeT]
  | lo, n + 1, i + 1, h => by
    simp only [rangeT, List.getElem?_cons_succ]
    rw [rangeT_get (lo + 1) n i (by omega)]
    congr 2
    push_cast
    omega
theorem wk_range {K : PySem.W.Frag} {H : Hp} (lo : Int) (n : Nat) : Wk K (Itr lo n) (rangeT lo n) H := by
  intro H2 _
  refine ⟨fun i t ei => ?_, by show n ≤ _; rw [rangeT_length]; exact Nat.le_refl _⟩
  have hi : i < n := by
    have := (List.getElem?_eq_some_iff.mp ei).1
    rwa [rangeT_length] at this
  rw [rangeT_get lo n i hi] at ei
  cases ei
  refine ⟨hi, fun x H3 y => ?_⟩
  obtain ⟨rfl, rfl⟩ := y
  exact ⟨.refl _, rep_int.mpr rfl⟩
def iRange1 (ws : WA) : WI := fun τ Q => ws τ fun ts => match ts with
  | [.int j] => (-(2 ^ 62) ≤ j ∧ j < 2 ^ 62) ∧ Q (rangeT 0 j.toNat)
  | _ => False
theorem one_int {P : Int → Prop} {ts : List T} (h : match ts with | [.int j] => P j | _ => False) : ∃ j, ts = [.int j] ∧ P j := by
  split at h
  · exact ⟨_, rfl, h⟩
  · exact h.elim
theorem jiRange1 {tg : Expr} {p : Pos} (hg : Gl X "range") (hm : X.mg "range" = none) (ha : JA X [a] ws) (hs : starEach [a] X.env = [(false, eval a X.env)] := by rfl) : JI X tg (.Call (.Name "range" p) [a] [] pos) (iRange1 ws) :=
  pi_of (pi_range1 hg hm ha hs) fun σ H R ⟨τ, Q0, Rs, hw, k⟩ => ⟨τ, _, Rs, hw, fun ts vs H1 S1 r q => by
      obtain ⟨j, e0, q⟩ := one_int (P := fun j => (-(2 ^ 62) ≤ j ∧ j < 2 ^ 62) ∧ Q0 (rangeT 0 j.toNat)) q
      subst e0
      obtain ⟨v, rfl, r1⟩ := reps1 r
      exact ⟨j, by rw [rep_int.mp r1], q.1.1, q.1.2, k _ _ H1 S1 (wk_range 0 j.toNat) q.2⟩⟩
def iRange2 (ws : WA) : WI := fun τ Q => ws τ fun ts => match ts with
  | [.int i, .int j] => (-(2 ^ 62) ≤ i ∧ i < 2 ^ 62 ∧ -(2 ^ 62) ≤ j ∧ j < 2 ^ 62) ∧ Q (rangeT i (j - i).toNat)
  | _ => False
end
end TL
end
section
set_option Elab.async false
set_option linter.all false
set_option maxRecDepth 100000
set_option maxHeartbeats 4000000
namespace TL
open PySem PySem.Spec PyProof.Rows L2
section
variable {X : Cx} {pins : List (Addr × Obj)} {σ : St} {H : Hp} {s : Shared} {h' : Heap}
end
def enumT : Nat → List T → List T
  | _, [] => []
  | i, x :: xs => .tup [.int i, x] :: enumT (i + 1) xs
section
variable {X : Cx} {a : Expr} {wa w : WE} {ws : WA} {pos : Pos}
def iEnum (ws : WA) : WI := fun τ Q => ws τ fun ts => match ts with
  | [.lst xs] => Q (enumT 0 xs)
  | _ => False
end
end TL
end
section
set_option Elab.async false
set_option linter.all false
set_option maxRecDepth 100000
set_option maxHeartbeats 4000000
namespace TL
open PySem PySem.Spec PyProof.Rows L2
def Cal (P : Program) (w : World) (K : PySem.W.Frag) (mg : Str → Option Value) (base : Heap) (k : Nat) (x : Str) (ps : List Str) (S : SpT) : Prop :=
  ∃ f fd, FnT P w K mg base k f fd ps S ∧ Binds K fd ps [] ∧ PySem.W.keepIn K (.ref f) = true ∧ mg x = some (.ref f)
theorem Cal.mk {P : Program} {w : World} {K : PySem.W.Frag} {mg : Str → Option Value} {base : Heap} {k : Nat} {x qual : Str} {ps : List Str} {S : SpT} {st : Stmt} {f : Addr} {fd : FuncData} (F : Fun K x qual st f fd) (m : mg x = some (.ref f))
    (b : Binds K fd ps []) (h : FnT P w K mg base k f fd ps S) : Cal P w K mg base k x ps S := ⟨f, fd, h, b, F.kp, m⟩
section
variable {X : Cx} {a b c e : Expr} {es : List Expr} {wa wb wc w : WE} {ws : WA} {pos : Pos} {st : Stmt}
theorem jcallC {k : Nat} {ps : List Str} {S : SpT} {x : Str} {p : Pos} (C : Cal X.prog X.w X.K X.mg X.base k x ps S) (hr : Room k X.A) (hg : Gl X x)
    (ha : JA X (e :: es) ws) (hdb : (x == ("__debug__" : Str)) = false := by decide) (he : starEach (e :: es) X.env = (false, eval e X.env) :: starEach es X.env := by exact star1 rfl)
    (hpl : (backTo pos (starEach es X.env)).any (·.1) = false := by exact stars rfl) : JE X (.Call (.Name x p) (e :: es) [] pos) (wCall S ws) := by
  obtain ⟨f, fd, F, hb, hk, hm⟩ := C
  exact jcall F hr hg hm hk hb ha hdb he hpl
def sNever : WS := fun _ _ => False
theorem jnever : JS X st sNever := ps_of ps_never fun D σ H ⟨τ, D0, R, hw, _⟩ => hw.elim
end
def lawSp : SpT := fun ts Q => ∃ ns : List Int, ts = [.lst (ns.map T.int)] ∧ ns.length ≤ 63 ∧ Q (.bl true)
theorem len_law : ∀ ts Q, lawSp ts Q → ts.length = 1 := fun ts Q ⟨ns, e, _⟩ => by subst e; rfl
theorem law_start {K : PySem.W.Frag} {H : Hp} {a : Addr} {ns : List Int} (hl : ns.length ≤ 63) (hO : Only H) (hS : SqL K H a (ns.map V.int)) : spT K 1 lawSp [.ref a] H (fun v _ => v = .bl true) fun _ _ _ => False := by
  have sq : SqF K H a (ns.map V.int) := by
    rcases hS with (h | ⟨o, h⟩) | h
    · rcases hO a with z | ⟨o, xs, z⟩
      · rw [z] at h; cases h
      · rw [z] at h; cases h
    · exact .inl ⟨o, h⟩
    · exact .inr h
  exact ⟨_, fun t => t = .bl true, rfl, .one (rep_lst.mpr ⟨a, _, rfl, sq, reps_ints ns⟩), ⟨ns, rfl, hl, rfl⟩, fun t v H' S r q => by subst q; exact rep_bl.mp r⟩
theorem walk {l : PySem.W.OpenLaw} {k : Nat} {x : Str} {q : Program} {loose : List Str} {XP : (Str → Option Value) → Heap → Prop} {YP : World → Heap → Prop} {d : DefRec} {K : Params → PySem.W.Frag} (hn : l.most = some 63) (hdf : d.params.defaults = []) (hr : Room k callerA)
    (hY : ∀ (w : World) (h : Heap), YP w h → (K w.params).In h)
    (F : ∀ (w : World) (mg : Str → Option Value) (fa : Addr) (h : Heap), (K w.params).In h → h.Ns mainGlobals mg → mg d.name = some (.ref fa) →
      ∃ fd : FuncData, (∀ (s : Shared) (u : Value), BindsTo s fd ⟨[u], []⟩ [(x, u)]) ∧ ∀ base : Heap, (K w.params).In base → base.Ns mainGlobals mg → FnOk l.prog w (K w.params) mg base CX0 k fa fd [x] (spT (K w.params) 1 lawSp)) :
    PySem.W.WalkO q loose XP YP l.row.toRowW d [] (fun f vs => PySem.call f vs) :=
  L2.walk_of (n := 63) (k := k) (x := x) (CX := fun _ => CX0) (sp := fun w => spT (K w.params) 1 lawSp) hn (by decide) hdf hr hY F (fun _ _ _ _ hl hO hS => law_start hl hO hS) fun _ _ _ _ _ z => z
end TL
end
section
set_option Elab.async false
set_option linter.all false
set_option maxRecDepth 100000
set_option maxHeartbeats 4000000
namespace TL
open PySem PySem.Spec PyProof.Rows L2
theorem closLoop {env : Env} : ∀ (names : List (Str × NameKind)) (cs : List (Str × Addr)), (∀ x ∈ names, x.2 = .free → ∃ c, env.cells.lookup x.1 = some c) → (∀ x c, cs.lookup x = some c → env.cells.lookup x = some c) →
    ∃ cl, (forIn names cs fun x cs => (if (x.2 == NameKind.free) = true then do let a ← cellOf env x.1; pure (ForInStep.yield ((x.1, a) :: cs)) else pure (ForInStep.yield cs) : Sem (ForInStep (List (Str × Addr))))) = (pure cl : Sem (List (Str × Addr))) ∧
      (∀ x c, cl.lookup x = some c → env.cells.lookup x = some c) ∧ (∀ x c, cs.lookup x = some c → ∃ c, cl.lookup x = some c) ∧ ∀ x ∈ names, x.2 = .free → ∃ c, cl.lookup x.1 = some c
  | [], cs, _, hc => ⟨cs, rfl, hc, fun x c e => ⟨c, e⟩, fun _ h => nomatch h⟩
  | (n, k) :: r, cs, h, hc => by
    by_cases hk : k = .free
    · subst hk
      obtain ⟨c, ec⟩ := h (n, .free) List.mem_cons_self rfl
      have e0 : cellOf env n = pure c := by unfold cellOf; rw [ec]
      obtain ⟨cl, e, p1, p2, p3⟩ := closLoop (env := env) r ((n, c) :: cs) (fun x hx => h x (List.mem_cons_of_mem _ hx)) (fun x d e => by
        by_cases hx : x = n
        · subst hx
          simp at e
          subst e
          exact ec
        · have hb : (x == n) = false := by simpa using hx
          rw [List.lookup_cons, hb] at e
          exact hc x d e)
      refine ⟨cl, ?_, p1, fun x d e => ?_, fun x hx hf => ?_⟩
      · rw [List.forIn_cons]
        show ((if (NameKind.free == NameKind.free) = true then _ else _) >>= _) = _
        rw [if_pos (show (NameKind.free == NameKind.free) = true from rfl)]
        show ((cellOf env n >>= fun a => pure (ForInStep.yield ((n, a) :: cs))) >>= _) = _
        rw [e0]
        exact e
      · by_cases hx : x = n
        · subst hx
          exact p2 x c (by simp)
        · have hb : (x == n) = false := by simpa using hx
          exact p2 x d (by rw [List.lookup_cons, hb]; exact e)
      · rcases List.mem_cons.mp hx with rfl | hx
        · exact p2 n c (by simp)
        · exact p3 x hx hf
    · have hb : (k == NameKind.free) = false := by simpa using hk
      obtain ⟨cl, e, p1, p2, p3⟩ := closLoop (env := env) r cs (fun x hx => h x (List.mem_cons_of_mem _ hx)) hc
      refine ⟨cl, ?_, p1, p2, fun x hx hf => ?_⟩
      · rw [List.forIn_cons]
        show ((if (k == NameKind.free) = true then _ else _) >>= _) = _
        rw [if_neg (by rw [hb]; exact Bool.false_ne_true)]
        exact e
      · rcases List.mem_cons.mp hx with rfl | hx
        · exact absurd hf hk
        · exact p3 x hx hf
theorem closureFor_of {scope : Scope} {env : Env} (h : ∀ x ∈ scope.names, x.2 = .free → ∃ c, env.cells.lookup x.1 = some c) :
    ∃ cl, closureFor scope env = pure cl ∧ (∀ x c, cl.lookup x = some c → env.cells.lookup x = some c) ∧ ∀ x ∈ scope.names, x.2 = .free → ∃ c, cl.lookup x.1 = some c := by
  obtain ⟨cl, e, p1, _, p3⟩ := closLoop (env := env) scope.names [] h (fun x c e => by simp at e)
  refine ⟨cl, ?_, p1, p3⟩
  unfold closureFor
  have : (forIn scope.names ([] : List (Str × Addr)) fun x cs => (match x with | (name, kind) => (if (kind == NameKind.free) = true then do let a ← cellOf env name; pure (ForInStep.yield ((name, a) :: cs)) else pure (ForInStep.yield cs) : Sem (ForInStep (List (Str × Addr)))))) = (pure cl : Sem (List (Str × Addr))) := e
  first
    | (rw [this]; rfl)
    | (show (forIn scope.names ([] : List (Str × Addr)) _ >>= fun cs => pure cs) = _; rw [this]; rfl)
def compCx (X : Cx) (N : List Str) (scope : Scope) (cl : List (Str × Addr)) (C : Addr) (s3 : Shared) (H2 : Hp) (ex : List Addr) : Cx where
  prog := X.prog
  w := X.w
  K := X.K
  mg := X.mg
  base := X.base
  A := X.A
  N := N
  s₀ := s3
  H₀ := H2
  env := compEnvC scope cl C X.env
  outer := X.stack
  stack := X.stack
  ex := ex
  fn := fun _ => false
  calm := true
  pn := []
  xe := fun _ _ => False
section
variable {prog : Program} {w : World} {A : Around} {E : Value → Shared → Prop} {R : Result → Shared → Prop} {s : Shared}
theorem codeAny_compLoop_any {elt target iter : Expr} {ifs : List Expr} {scope : Scope} {pos : Pos} {it acc : Value} {env : Env} (I : Nat → Shared → Prop)
    (turn : ∀ n s, I n s → wpAny (model prog w) A (pyNext it) (fun r s₁ => match r with
      | none => R (.ok .next) s₁
      | some v => wpAny (model prog w) A (letOwnedTupleGo target it v) (fun _ s₁' => wpAny (model prog w) A (assign target env v) (fun _ s₂ =>
          wpAny (model prog w) A (forIn ifs true fun c r => if r = true then do let ok ← isTrue c env (eval c env); pure (ForInStep.yield ok) else pure (ForInStep.yield r)) (fun ok s₃ =>
            if ok = true then wpAny (model prog w) A (eval elt env) (fun x s₄ =>
              wpAny (model prog w) A (call (.builtin "list.append") [acc, x]) (fun _ s₅ => ∃ m, m < n ∧ I m s₅) (fun _ _ => False) s₄) (fun _ _ => False) s₃
            else ∃ m, m < n ∧ I m s₃) (fun _ _ => False) s₂) (fun _ _ => False) s₁') (fun _ _ => False) s₁) (fun _ _ => False) s)
    (n : Nat) (h : I n s) :
    codeAny (model prog w) A (.compLoop (.ListComp elt [⟨target, iter, ifs, 0⟩] scope pos) 0 it acc env) R s := by
  refine codeAny_loop rfl I (fun n s hI => ?_) n h
  show wpAny _ A ((compTurn (.ListComp elt [⟨target, iter, ifs, 0⟩] scope pos) 0 it acc env).onRaise (fun x => do noteFrame x env; theTreesLotGoes x)) _ _ s
  refine wpAny_noted ?_
  rw [compTurn_list]
  refine wpAny_bind (wpAny_standAt (wpAny_bind (wpAny_mono (turn n s hI) (fun r s₁ h₁ => ?_) fun _ _ h' => h'.elim)))
  cases r with
  | none => exact wpAny_pure h₁
  | some v =>
    refine wpAny_bind (wpAny_mono h₁ (fun _ s₁' h₁' => ?_) fun _ _ h' => h'.elim)
    refine wpAny_bind (wpAny_mono h₁' (fun _ s₂ h₂ => wpAny_bind (wpAny_mono h₂ (fun ok s₃ h₃ => ?_) fun _ _ h' => h'.elim)) fun _ _ h' => h'.elim)
    cases ok with
    | false => exact wpAny_pure ⟨rfl, h₃⟩
    | true =>
      exact wpAny_bind (wpAny_bind (wpAny_mono h₃ (fun x s₄ h₄ => wpAny_bind (wpAny_mono h₄ (fun _ s₅ h₅ => wpAny_pure (wpAny_pure ⟨rfl, h₅⟩)) fun _ _ h' => h'.elim)) fun _ _ h' => h'.elim))
end
def hide : Slot → Slot
  | .own ts => .see ts
  | .see _ => .no
  | .vat t _ => .val t
  | s => s
def compT (g : TGt) (ut : WT) (we : WE) : List T → List T → List Slot → (List T → Prop) → Prop
  | [], acc, _, Q => Q acc
  | x :: xs, acc, τ, Q => g x τ fun τ1 => ut τ1 fun k => (k = true → we τ1 fun t => compT g ut we xs (acc ++ [t]) τ1 Q) ∧ (k = false → compT g ut we xs acc τ1 Q)
def wComp (wi : WI) (g : TGt) (ut : WT) (we : WE) (n : Nat) (fr : List Nat) : WE := fun τ Q => wi τ fun ts => ts.length ≤ 1000 ∧ compT g ut we ts [] (List.replicate n Slot.no ++ fr.map fun i => hide (sget τ i)) fun rs => Q (.lst rs)
def JTs (X : Cx) (ifs : List Expr) (u : WT) : Prop :=
  ∀ (pins : List (Addr × Obj)) (s : Shared) (σ : St) (H : Hp) (Q : Bool → Hp → Prop), Inv X pins σ H s → upT X.K X.H₀ u σ H Q →
    wpAny (model X.prog X.w) X.A (forIn ifs true fun c r => if r = true then do let ok ← isTrue c X.env (eval c X.env); pure (ForInStep.yield ok) else pure (ForInStep.yield r)) (TP X pins σ Q) X.xe s
def tTrue : WT := fun _ Q => Q true
theorem jts0 {X : Cx} : JTs X [] tTrue := fun pins s σ H Q I ⟨τ, Q0, R, hw, k⟩ => wpAny_tests_nil ⟨H, I, k _ H (.refl H) hw⟩
theorem jts1 {X : Cx} {c : Expr} {u : WT} (h : JT X c u) : JTs X [c] u := fun pins s σ H Q I hw => wpAny_tests_one (h pins s σ H Q I hw)
theorem relabel_mem {scope : Scope} {env : Env} {x : Str} {k' : NameKind} (h : (relabel scope env).names.lookup x = some k') : ∃ k, (x, k) ∈ scope.names ∧ (k' = k ∨ (k = .free ∧ k' = .cell)) := by
  have hm := PySem.mem_of_lookup h
  obtain ⟨⟨n, k⟩, hn, e⟩ := List.mem_map.mp hm
  by_cases hc : (k == NameKind.free && env.scope.kind == .function && env.kindOf n == some .cell) = true
  · have e' : (n, NameKind.cell) = (x, k') := by simpa [hc] using e
    cases e'
    have hfree := (Bool.and_eq_true_iff.mp (Bool.and_eq_true_iff.mp hc).1).1
    exact ⟨_, hn, .inr ⟨by simpa using hfree, rfl⟩⟩
  · have e' : (n, k) = (x, k') := by simpa [hc] using e
    cases e'
    exact ⟨_, hn, .inl rfl⟩
theorem relabel_free {env : Env} (hk : env.scope.kind = .function) : ∀ {names : List (Str × NameKind)} {x : Str}, names.lookup x = some .free → env.kindOf x = some .cell →
    (names.map fun (n, k) => if (k == NameKind.free && env.scope.kind == .function && env.kindOf n == some .cell) then (n, NameKind.cell) else (n, k)).lookup x = some .cell
  | [], _, h, _ => by simp at h
  | (n, k) :: r, x, h, hx => by
    have ih := @relabel_free env hk r x
    show List.lookup x ((if (k == NameKind.free && env.scope.kind == .function && env.kindOf n == some .cell) = true then (n, NameKind.cell) else (n, k)) :: _) = _
    cases hb : x == n with
    | true =>
      have e : x = n := by simpa using hb
      subst e
      simp only [List.lookup_cons, hb] at h
      cases h
      rw [if_pos (by rw [hk, hx]; rfl)]
      simp [List.lookup_cons]
    | false =>
      simp only [List.lookup_cons, hb] at h
      by_cases hc : (k == NameKind.free && env.scope.kind == .function && env.kindOf n == some .cell) = true
      · rw [if_pos hc]; simp only [List.lookup_cons, hb]; exact ih h hx
      · rw [if_neg hc]; simp only [List.lookup_cons, hb]; exact ih h hx
section
variable {X : Cx} {pos : Pos}
theorem comp_start {pins : List (Addr × Obj)} {σ : St} {H : Hp} {s : Shared} {scope : Scope} {cl : List (Str × Addr)} {C : Addr} {N : List Str} {σ' : St} {s4 : Shared} {ex : List Addr}
    (I : Inv X pins σ H s) (hc : X.calm = true) (hk : scope.kind = .function) (hC : s.heap.objs.size ≤ C)
    (hcl : ∀ x c, cl.lookup x = some c → X.env.cells.lookup x = some c)
    (hhas : ∀ x, ((relabel scope X.env).names.lookup x = some .cell ∨ (relabel scope X.env).names.lookup x = some .free) → ∃ c, cl.lookup x = some c)
    (hex : ∀ b ∈ ex, FpOk X pins H b) (hlt : ∀ b ∈ ex, b < s.heap.objs.size)
    (hos : s4.os = s.os) (hbare : AllBare s4.gens) (hkeep : ∀ b o, s.heap.get? b = some o → s4.heap.get? b = some o) {m : Str → Option Value} (hns : s4.heap.Ns C m)
    (hloc : ∀ (i : Nat) (x : Str) (v : V), N[i]? = some x → σ'[i]? = some (some v) → ∃ u, RelV v u ∧ Look (compEnvC scope cl C X.env) s4.heap m x u) (hlen : σ'.length = N.length) :
    Inv (compCx X N scope cl C s H ex) [] σ' H s4 := by
  have bs := I.bs
  refine ⟨⟨I.ok.mod, hk, I.ok.glob, I.ok.blt, hC, fun x y c h1 h2 => I.ok.inj x y c (hcl _ _ h1) (hcl _ _ h2), hhas, fun _ _ z => (by cases z), fun _ => I.ok.hd hc, I.ok.frames, .inl rfl,
      fun b hb => ⟨Nat.ne_of_lt (Nat.lt_of_lt_of_le (hlt b hb) hC), fun x c e => (hex b hb).2.2.2.2.1 x c (hcl _ _ e)⟩, bs, Nat.le_trans I.ok.bsz I.sz, fun b o e hb => ?_, fun b hb => ?_, I.stack, I.stkFree⟩,
    hos, hbare, Un.kept hkeep, ⟨m, hns, fun i x v h1 h2 _ => hloc i x v h1 h2⟩, fun x c e => ?_, I.hok.fresh hC, fun x c e => I.freeC x c (hcl _ _ e), fun p hp => absurd (show p ∈ ([] : List (Addr × Obj)) from hp) (by simp), I.hok.kept hkeep, hlen⟩
  · rcases (hex b hb).2.2.2.1 with z | z
    · exact I.ok.noex b o e z
    · exact absurd (Nat.lt_of_lt_of_le (Heap.lt_size e) (Nat.le_trans I.ok.bsz z)) (Nat.lt_irrefl _)
  · intro z
    obtain ⟨_, f1, f2, _⟩ := hex b hb
    rcases List.mem_cons.mp (I.stkSub b z) with e | e
    · exact f1 e
    · exact f2 e
  · obtain ⟨v, o, ho, hd⟩ := I.cell x c (hcl _ _ e)
    exact ⟨v, o, hkeep c o ho, hd⟩
def slotsOf (σ : St) (n : Nat) (fr : List (Str × Nat)) : St := List.replicate n none ++ fr.map fun p => (σ[p.2]?).getD none
theorem repSt_comp {K : PySem.W.Frag} {H0 H H2 : Hp} {σ : St} {τ : List Slot} (n : Nat) (fr : List (Str × Nat)) (R : RepSt K H0 H σ τ) (S : Same H H2) :
    RepSt K H2 H2 (slotsOf σ n fr) (List.replicate n Slot.no ++ (fr.map (·.2)).map fun i => hide (sget τ i)) := by
  have key : ∀ i, sget (List.replicate n Slot.no ++ (fr.map (·.2)).map fun i => hide (sget τ i)) i = .no ∨ ∃ p, fr[i - n]? = some p ∧ n ≤ i ∧ sget (List.replicate n Slot.no ++ (fr.map (·.2)).map fun i => hide (sget τ i)) i = hide (sget τ p.2) := fun i => by
    by_cases hi : i < n
    · left
      rw [sget_append_left (by simpa using hi), sget_no]
    · rw [sget_append_right (by simpa using hi), List.length_replicate]
      have gen : ∀ (l : List (Str × Nat)) (j : Nat), sget ((l.map (·.2)).map fun i => hide (sget τ i)) j = .no ∨ ∃ p, l[j]? = some p ∧ sget ((l.map (·.2)).map fun i => hide (sget τ i)) j = hide (sget τ p.2) := by
        intro l
        induction l with
        | nil => intro j; left; rfl
        | cons p r ih =>
          intro j
          cases j with
          | zero => exact .inr ⟨p, rfl, rfl⟩
          | succ j => exact ih j
      rcases gen fr (i - n) with z | ⟨p, e1, e2⟩
      · exact .inl z
      · exact .inr ⟨p, e1, by omega, e2⟩
  have noOwn : ∀ s ts, hide s ≠ .own ts := fun s ts => by cases s <;> simp [hide]
  refine ⟨.refl H2, by simp [slotsOf], fun i => ?_, fun i j ts us p _ h1 _ _ _ => ?_⟩
  · rcases key i with z | ⟨p, e1, hi, e2⟩
    · rw [z]; trivial
    · rw [e2]
      have ge : (slotsOf σ n fr)[i]? = some ((σ[p.2]?).getD none) := by
        unfold slotsOf
        rw [List.getElem?_append_right (by simpa using hi), List.length_replicate, List.getElem?_map, e1]
        rfl
      have sl := R.slot p.2
      cases e : sget τ p.2 with
      | no => trivial
      | see ts => trivial
      | vat t v =>
        rw [e] at sl
        exact ⟨v, by rw [ge, sl.1]; rfl, sl.2.kp (.of S)⟩
      | dic ps =>
        rw [e] at sl
        obtain ⟨q, o, kvs, ev, h1, ek, r⟩ := sl
        exact ⟨q, o, kvs, by rw [ge, ev]; rfl, S _ _ h1, ek, r.kp (.of S)⟩
      | own ts =>
        rw [e] at sl
        obtain ⟨q, vs, ev, h1, r, _⟩ := sl
        exact ⟨q, vs, by rw [ge, ev]; rfl, S _ _ h1, r.kp (.of S), by rw [S _ _ h1]; exact fun z => by cases z⟩
      | val t =>
        rw [e] at sl
        obtain ⟨v, ev, r⟩ := sl
        exact ⟨v, by rw [ge, ev]; rfl, r.kp (.of S)⟩
  · rcases key i with z | ⟨p, _, _, e2⟩
    · rw [z] at h1; cases h1
    · rw [e2] at h1; exact noOwn _ _ h1
theorem comp_end {X X' : Cx} {pins pins' : List (Addr × Obj)} {σ σ5 : St} {H2 H5 : Hp} {s2 s6 : Shared} {fp : List Addr} {Da : Addr} {h3 : Heap} {vs : List V} {its : List Value} {k5 : Nat} (eP : X'.prog = X.prog) (eW : X'.w = X.w) (eFs : X'.fs = frs X.stack) (eEx : X'.ex = Da :: fp) (eH : X'.H₀ = H2)
    (eS : X'.s₀.heap = h3) (eOs : X'.s₀.os = s2.os) (hCn : X'.env.locals = Da + 1) (pushK : ∀ b o, s2.heap.get? b = some o → h3.get? b = some o) (hDa : s2.heap.objs.size = Da) (I2 : Inv X pins σ H2 s2) (f2 : ∀ b ∈ fp, FpOk X pins H2 b) (I6 : Inv X' pins' σ5 H5 s6)
    (frD : H5 Da = none) (hD : s6.heap.get? Da = some { cls := .type "list", dict := none, data := .seq its.toArray k5 }) (rv : Vals vs its) (hz : vs.length ≤ sizeLine) :
    Inv X pins σ (upd H5 Da (.frz { cls := .type "list", dict := none, data := .seq its.toArray k5 } (.lst vs))) s6 := by
  have un := I6.base
  rw [eFs, eEx, eH, eS] at un
  have old : ∀ b o, s2.heap.get? b = some o → b ≠ Da := fun b o e => by
    have lt := Heap.lt_size e
    rw [hDa] at lt
    exact Nat.ne_of_lt lt
  have hnD : ∀ b, H5 b ≠ none → b ≠ Da := fun b h z => h (by rw [z]; exact frD)
  have ex : ∀ b o, s2.heap.get? b = some o → b ∉ fp → b ∉ Da :: fp := fun b o e hb z => by
    rcases List.mem_cons.mp z with z | z
    · exact old b o e z
    · exact hb z
  refine I2.call' (s' := s6) (ch := fp) (by rw [I6.os, eOs]) ⟨fun b o e n hf hx => ?_, fun b o e n hf hx => ?_, fun b o e n hx => ?_, fun b o e hx => ?_, fun b xs e => ?_, fun b o u e => ?_, fun b ps e => ?_⟩ (fun b ob eb => ?_) I6.bare fun b hb => ?_
  · exact un.keep b o (pushK b o e) n hf (ex b o e hx)
  · exact un.slot b o (pushK b o e) n hf (ex b o e hx)
  · rw [upd_ne (old b o e)]
    exact un.free b o (pushK b o e) n (ex b o e hx)
  · exact un.there b o (pushK b o e) (ex b o e hx)
  · have e1 := un.tups b xs e
    rw [upd_ne (hnD b (by rw [e1]; simp))]
    exact e1
  · have e1 := un.frzs b o u e
    rw [upd_ne (hnD b (by rw [e1]; simp))]
    exact e1
  · obtain ⟨more, e1⟩ := un.tbls b ps e
    exact ⟨more, by rw [upd_ne (hnD b (by rw [e1]; simp))]; exact e1⟩
  · by_cases hb : b = Da
    · subst hb
      rw [upd_same] at eb
      cases eb
      exact ⟨hD, hz, its, k5, rv, hD⟩
    · rw [upd_ne hb] at eb
      have o5 := I6.hok b ob eb
      rw [eP, eW] at o5
      exact o5.stay (fun c v hc q => q) (fun c q => by rw [upd_ne (hnD c (by rw [q]; simp))]; exact q) fun c ys q => by rw [upd_ne (hnD c (by rw [q]; simp))]; exact q
  · obtain ⟨g1, g2, g3, g4, g5, g6⟩ := f2 b hb
    exact ⟨g4, g2, g5, g6⟩
def WkS (K : PySem.W.Frag) (J : It) (ts : List T) (H1 : Hp) : Prop := ∀ H2, Same H1 H2 → (∀ i t, ts[i]? = some t → J.go i H2 ∧ ∀ x H3, J.yld i H2 x H3 → Same H2 H3 ∧ Rep K H3 t x) ∧ J.stop ts.length H2
theorem Wk.s {K : PySem.W.Frag} {J : It} {ts : List T} {H : Hp} (h : Wk K J ts H) : WkS K J ts H := fun H2 S => h H2 (.of S)
def upIc (K : PySem.W.Frag) (H0 : Hp) (w : WI) : TI := fun σ H R => ∃ (τ : List Slot) (Q0 : List T → Prop), RepSt K H0 H σ τ ∧ w τ Q0 ∧ ∀ ts J H', Same H H' → WkS K J ts H' → Q0 ts → R J H'
def JIc (X : Cx) (tg iter : Expr) (w : WI) : Prop := PI X tg iter (upIc X.K X.H₀ w)
theorem JI.c {X : Cx} {tg iter : Expr} {w : WI} (h : JI X tg iter w) : JIc X tg iter w := pi_of h fun σ H R ⟨τ, Q0, R0, hw, k⟩ => ⟨τ, Q0, R0, hw, fun ts J H' S wk q => k ts J H' S wk.s q⟩
inductive CompInv (K : PySem.W.Frag) (X' : Cx) (ts : List T) (g : TGt) (ut : WT) (we : WE) (Q0 : T → Prop) (tn' : Nat → Heap → Prop) (Da : Addr) (fp : List Addr) (n : Nat) (s' : Shared) : Prop
  | mk (i : Nat) (σ' : St) (H' : Hp) (τ' : List Slot) (acc : List T) (vs : List V) (its : List Value) (k : Nat) (e : n = ts.length - i) (hi : i ≤ ts.length) (I : Inv X' [] σ' H' s') (st : tn' i s'.heap) (fr : ∀ b ∈ Da :: fp, H' b = none)
    (R : RepSt X'.K X'.H₀ H' σ' τ') (hD : s'.heap.get? Da = some { cls := .type "list", dict := none, data := .seq (List.toArray its) k }) (rv : Vals vs its) (ra : Reps K H' acc vs) (hl : acc.length ≤ i) (q : compT g ut we (ts.drop i) acc τ' fun rs => Q0 (.lst rs)) :
    CompInv K X' ts g ut we Q0 tn' Da fp n s'
theorem comp_loop {X X' : Cx} {elt target iter : Expr} {ifs : List Expr} {scope : Scope} {pos : Pos} {g : TGt} {ut : WT} {we : WE} {use : Option (Value → Sem Unit)} {QQ : Value → Shared → Prop} {pins : List (Addr × Obj)} {σ σ4 : St} {H H2 : Hp} {s2 s4 : Shared} {h3 : Heap} {it Da : Addr} {fp : List Addr} {tn' : Nat → Heap → Prop} {J : It} {ts : List T} {Q0 : T → Prop} {τ4 : List Slot}
    (hg' : JG X' target g) (hu' : JTs X' ifs ut) (he' : JE X' elt we) (eP : X'.prog = X.prog) (eW : X'.w = X.w) (eK : X'.K = X.K) (eA : X'.A = X.A) (eH : X'.H₀ = H2) (eE : X'.xe = fun _ _ => False) (eC : X'.calm = true) (eFs : X'.fs = frs X.stack) (eEx : X'.ex = Da :: fp) (eS : X'.s₀.heap = h3) (eOs : X'.s₀.os = s2.os) (ePn : X'.pn = [])
    (hCn : X'.env.locals = Da + 1) (pushK : ∀ b o, s2.heap.get? b = some o → h3.get? b = some o) (hDa : s2.heap.objs.size = Da) (I2 : Inv X pins σ H2 s2) (f2 : ∀ b ∈ fp, FpOk X pins H2 b) (Tn : Turn X.prog X.w X.K target J fp it tn') (ne : Da ∉ fp) (S2 : Same H H2) (wk : WkS X.K J ts H2) (hlen : ts.length ≤ 1000)
    (J4 : Inv X' [] σ4 H2 s4) (R4 : RepSt X'.K X'.H₀ H2 σ4 τ4) (st4 : tn' 0 s4.heap) (fr4 : ∀ b ∈ Da :: fp, H2 b = none) (hDat : s4.heap.get? Da = some { cls := .type "list", dict := none, data := .seq ([] : List Value).toArray }) (q : compT g ut we ts [] τ4 fun rs => Q0 (.lst rs))
    (hfp : ∀ H6 : Hp, H6 X'.env.locals = none → FpOk X pins H6 X'.env.locals)
    (hend : ∀ (s6 : Shared) (H6 : Hp) (D C : Addr) (m6 : Str → Option Value) (t : T) (f : Flow), Inv X pins σ H6 s6 → FpOk X pins H6 C → s6.heap.Ns C m6 → Same H H6 → Rep X.K H6 t (.ref D) → Q0 t → (∃ (H5 : Hp) (o : Obj) (vs : List V) (ts : List T), H6 = upd H5 D (.frz o (.lst vs)) ∧ H5 D = none ∧ Same H H5 ∧ t = .lst ts ∧ Reps X.K H5 ts vs) → compPost (model X.prog X.w) X.A X.xe use QQ (.ref D) C (.ok f) s6) :
    codeAny (model X.prog X.w) X.A (.compLoop (.ListComp elt [⟨target, iter, ifs, 0⟩] scope pos) 0 (.ref it) (.ref Da) X'.env) (compPost (model X.prog X.w) X.A X.xe use QQ (.ref Da) X'.env.locals) s4 := by
  have stat : ∀ {H' : Hp} {b : Addr}, b ∈ Da :: fp → H' b = none → FpOk X' [] H' b := fun {H' b} hb hn => by
    have o := (J4.ok.exf b (by rw [eEx]; exact hb))
    refine ⟨hn, o.1, J4.ok.exfs b (by rw [eEx]; exact hb), .inl (by rw [eEx]; exact hb), o.2, fun p hp => ?_⟩
    rw [ePn] at hp
    exact absurd (show p ∈ ([] : List (Addr × Obj)) from hp) (by simp)
  refine codeAny_compLoop_any (CompInv X.K X' ts g ut we Q0 tn' Da fp) ?_ ts.length
    ⟨0, _, H2, _, [], [], [], 0, by simp, Nat.zero_le _, J4, st4, fr4, R4, hDat, .nil, reps_nil.mpr rfl, Nat.le_refl _, by simpa using q⟩
  rintro n s5 ⟨i, σ5, H5, τ5, acc, vs, its, k5, rfl, hi5, I5, st5, fr5, R5, hD5, rv5, ra5, hl5, q5⟩
  have K5 : Same H2 H5 := by
    have := R5.same
    rwa [eH] at this
  obtain ⟨wi5, ws5⟩ := wk H5 K5
  have fp5 : ∀ b ∈ fp, FpOk X' [] H5 b := fun b hb => stat (List.mem_cons_of_mem _ hb) (fr5 b (List.mem_cons_of_mem _ hb))
  rw [← eA]
  by_cases hlt : i < ts.length
  · have ei : ts[i]? = some ts[i] := List.getElem?_eq_getElem hlt
    obtain ⟨go, yl⟩ := wi5 i _ ei
    rw [List.drop_eq_getElem_cons hlt] at q5
    have ID : Inv X' ([] ++ pinsAt [Da] s5.heap) σ5 H5 s5 := I5.pinned (fp := [Da]) (fun b hb => stat (by rw [List.mem_singleton.mp hb]; exact List.mem_cons_self) (fr5 b (by rw [List.mem_singleton.mp hb]; exact List.mem_cons_self))) fun b hb => by
      rw [List.mem_singleton.mp hb]
      exact ⟨_, hD5, fun v z => (by cases z)⟩
    have fpp : ∀ {H' : Hp}, (∀ b ∈ fp, H' b = none) → ∀ b ∈ fp, FpOk X' ([] ++ pinsAt [Da] s5.heap) H' b := fun hn b hb => by
      obtain ⟨g1, g2, g3, g4, g5, g6⟩ := stat (H' := _) (List.mem_cons_of_mem _ hb) (hn b hb)
      refine ⟨g1, g2, g3, g4, g5, fun p hp => ?_⟩
      rcases List.mem_append.mp hp with z | z
      · rw [ePn] at z; exact absurd (show p ∈ ([] : List (Addr × Obj)) from z) (by simp)
      · rw [List.nil_append] at z
        obtain ⟨z1, _⟩ := of_pinsAt z
        rw [List.mem_singleton.mp z1]
        intro e
        exact ne (by rw [e]; exact hb)
    have frf : ∀ b ∈ fp, H5 b = none := fun b hb => fr5 b (List.mem_cons_of_mem _ hb)
    refine wpAny_mono (Tn.item X' eP eW eK eC i _ s5 σ5 H5 (fun _ _ => False) ID (fpp frf) st5 go) (fun r s6 h6 => ?_) fun _ _ z => z
    obtain ⟨u, rfl, h6⟩ := h6
    refine wpAny_mono h6 (fun _ s7 h7 => ?_) fun _ _ z => z
    obtain ⟨x, H7, I7, rx, y7, st7, fr7⟩ := h7
    obtain ⟨S7, r7⟩ := yl x H7 y7
    have I7p := I7.pinned (fpp fr7) (Tn.obj _ _ st7)
    have R7 := R5.mono S7
    have g7 := hg' _ s7 σ5 H7 x u (fun σ8 H8 => ∃ τ8, Same H7 H8 ∧ RepSt X'.K X'.H₀ H8 σ8 τ8 ∧ ut τ8 fun k => (k = true → we τ8 fun t => compT g ut we (ts.drop (i + 1)) (acc ++ [t]) τ8 fun rs => Q0 (.lst rs)) ∧ (k = false → compT g ut we (ts.drop (i + 1)) acc τ8 fun rs => Q0 (.lst rs))) I7p rx
      ⟨ts[i], τ5, _, R7, (by rw [eK]; exact r7), q5, fun τ8 σ8 H8 S8 R8 q8 => ⟨τ8, S8, R8, q8⟩⟩
    rw [eE, eP, eW] at g7
    refine wpAny_mono g7 (fun _ s8 h8 => ?_) fun _ _ z => z
    obtain ⟨σ8, H8, I8, τ8, S8, R8, q8⟩ := h8
    have u8 := hu' _ s8 σ8 H8 (fun k H9 => Same H8 H9 ∧ ((k = true → we τ8 fun t => compT g ut we (ts.drop (i + 1)) (acc ++ [t]) τ8 fun rs => Q0 (.lst rs)) ∧ (k = false → compT g ut we (ts.drop (i + 1)) acc τ8 fun rs => Q0 (.lst rs)))) I8 ⟨τ8, _, R8, q8, fun k H9 S9 q9 => ⟨S9, q9⟩⟩
    rw [eE, eP, eW] at u8
    refine wpAny_mono u8 (fun k s9 h9 => ?_) fun _ _ z => z
    obtain ⟨H9, I9, S9, q9⟩ := h9
    have R9 := R8.mono S9
    have pinD : ∀ {s' : Shared} {σ' : St} {H' : Hp}, Inv X' (([] ++ pinsAt [Da] s5.heap) ++ pinsAt fp s7.heap) σ' H' s' → s'.heap.get? Da = some { cls := .type "list", dict := none, data := .seq its.toArray k5 } ∧ H' Da = none := fun I' => by
      have z := I'.pin (Da, _) (List.mem_append_right _ (List.mem_append_left _ (by rw [List.nil_append]; exact mem_pinsAt (List.mem_singleton.mpr rfl) hD5)))
      exact ⟨z.1, z.2.1⟩
    have pinF : ∀ {s' : Shared} {σ' : St} {H' : Hp}, Inv X' (([] ++ pinsAt [Da] s5.heap) ++ pinsAt fp s7.heap) σ' H' s' → tn' (i + 1) s'.heap ∧ ∀ b ∈ fp, H' b = none := fun {s' σ' H'} I' => by
      refine ⟨Tn.keep _ _ _ st7 fun b hb o e => (I'.pin (b, o) (List.mem_append_right _ (List.mem_append_right _ (mem_pinsAt hb e)))).1, fun b hb => ?_⟩
      obtain ⟨o, e, d⟩ := Tn.obj _ _ st7 b hb
      exact (I'.pin (b, o) (List.mem_append_right _ (List.mem_append_right _ (mem_pinsAt hb e)))).2.1
    have frD : ∀ {H' : Hp}, H' Da = none → (∀ b ∈ fp, H' b = none) → ∀ b ∈ Da :: fp, H' b = none := fun h1 h2 b hb => by
      rcases List.mem_cons.mp hb with rfl | hb
      · exact h1
      · exact h2 b hb
    have unp : ∀ {s' : Shared} {σ' : St} {H' : Hp}, Inv X' (([] ++ pinsAt [Da] s5.heap) ++ pinsAt fp s7.heap) σ' H' s' → Inv X' [] σ' H' s' := fun I' => I'.pins_of fun p hp => absurd hp (by simp)
    cases k with
    | false =>
      rw [if_neg Bool.false_ne_true]
      refine ⟨ts.length - (i + 1), by omega, i + 1, σ8, H9, τ8, acc, vs, its, k5, rfl, hlt, unp I9, (pinF I9).1, frD (pinD I9).2 (pinF I9).2, R9, (pinD I9).1, rv5, ra5.kp (.of (S7.trans (S8.trans S9))), by omega, q9.2 rfl⟩
    | true =>
      rw [if_pos rfl]
      have e9 := he' _ s9 σ8 H9 (fun v H10 => ∃ t, Same H9 H10 ∧ Rep X'.K H10 t v ∧ compT g ut we (ts.drop (i + 1)) (acc ++ [t]) τ8 fun rs => Q0 (.lst rs)) I9 ⟨τ8, _, R9, q9.1 rfl, fun t v H10 S10 r10 q10 => ⟨t, S10, r10, q10⟩⟩
      rw [eE, eP, eW] at e9
      refine wpAny_mono e9 (fun y s10 h10 => ?_) fun _ _ z => z
      obtain ⟨v, H10, I10, rv, t, S10, r10, q10⟩ := h10
      have hlen5 : its.length ≤ 1000 := by
        have e1 := rv5.length
        have e2 := ra5.length
        omega
      refine wpAny_list_append_plain (hsz := by rw [List.size_toArray]; exact few hlen5) ⟨k5, (pinD I10).1⟩ fun h11 hl11 hs11 => ?_
      obtain ⟨k11, hl11⟩ := hl11
      have I11 : Inv X' [] σ8 H10 { s10 with heap := h11 } := by
        obtain ⟨g1, g2, g3, g4, g5, g6⟩ := stat (H' := H10) List.mem_cons_self (pinD I10).2
        exact (unp I10).turned (t' := s10.toks) (it := Da) (fun b o hb e => (hs11.2 b hb).trans e) g1 g2 g4 g5 g6
      have st11 : tn' (i + 1) h11 := Tn.keep _ _ _ (pinF I10).1 fun b hb o e => (hs11.2 b (fun z => ne (by rw [← z]; exact hb))).trans e
      refine ⟨ts.length - (i + 1), by omega, i + 1, σ8, H10, τ8, acc ++ [t], vs ++ [v], its ++ [y], k11, rfl, hlt, I11, st11, frD (pinD I10).2 (pinF I10).2, R9.mono S10, ?_, rv5.append (.cons rv .nil), (ra5.kp (.of (S7.trans (S8.trans (S9.trans S10))))).append (.one (by rw [← eK]; exact r10)), by simp; omega, q10⟩
      have ea : (its ++ [y]).toArray = its.toArray.push y := by simp
      rw [ea]
      exact hl11
  · have e : i = ts.length := by omega
    subst e
    rw [List.drop_length] at q5
    have q5' : Q0 (.lst acc) := q5
    refine wpAny_mono (Tn.done X' eP eW eK eC ts.length ([] ++ pinsAt [Da] s5.heap) s5 σ5 H5 (fun _ _ => False) ?_ ?_ st5 ws5) (fun r s6 h6 => ?_) fun _ _ z => z
    · exact I5.pinned (fp := [Da]) (fun b hb => stat (by rw [List.mem_singleton.mp hb]; exact List.mem_cons_self) (fr5 b (by rw [List.mem_singleton.mp hb]; exact List.mem_cons_self))) fun b hb => by
        rw [List.mem_singleton.mp hb]
        exact ⟨_, hD5, fun v z => (by cases z)⟩
    · intro b hb
      obtain ⟨g1, g2, g3, g4, g5, g6⟩ := stat (H' := H5) (List.mem_cons_of_mem _ hb) (fr5 b (List.mem_cons_of_mem _ hb))
      refine ⟨g1, g2, g3, g4, g5, fun p hp => ?_⟩
      rcases List.mem_append.mp hp with z | z
      · rw [ePn] at z; exact absurd (show p ∈ ([] : List (Addr × Obj)) from z) (by simp)
      · rw [List.nil_append] at z
        obtain ⟨z1, _⟩ := of_pinsAt z
        rw [List.mem_singleton.mp z1]
        intro e
        exact ne (by rw [e]; exact hb)
    obtain ⟨rfl, I6⟩ := h6
    have z6 := I6.pin (Da, _) (List.mem_append_right _ (by rw [List.nil_append]; exact mem_pinsAt (List.mem_singleton.mpr rfl) hD5))
    obtain ⟨m6, hn6, _⟩ := I6.loc
    have hz : vs.length ≤ sizeLine := by rw [ra5.length]; exact few (by omega)
    have fin := comp_end eP eW eFs eEx eH eS eOs hCn pushK hDa I2 f2 I6 (fr5 _ List.mem_cons_self) z6.1 rv5 hz
    have S5 : Same H2 H5 := by have := R5.same; rwa [eH] at this
    have S6 : Same H2 (upd H5 Da (.frz { cls := .type "list", dict := none, data := .seq its.toArray k5 } (.lst vs))) := S5.trans (same_new (fr5 _ List.mem_cons_self) _)
    have hfpC := hfp _ (show (upd H5 Da (.frz { cls := .type "list", dict := none, data := .seq its.toArray k5 } (.lst vs))) X'.env.locals = none by rw [upd_ne (by rw [hCn]; exact Nat.succ_ne_self _)]; exact I6.free)
    show compPost (model X.prog X.w) X'.A X.xe use QQ (.ref Da) X'.env.locals (.ok .next) s6
    rw [eA]
    exact hend s6 _ _ _ m6 (.lst acc) _ fin hfpC hn6 (S2.trans S6) (rep_lst.mpr ⟨_, vs, rfl, .inl ⟨_, upd_same⟩, ra5.kp (.of (same_new (fr5 _ List.mem_cons_self) _))⟩) q5' ⟨H5, _, vs, acc, rfl, fr5 _ List.mem_cons_self, S2.trans S5, rfl, ra5⟩
theorem comp_core {elt target iter : Expr} {ifs : List Expr} {scope sc0 : Scope} {tn N0 : List Str} {fr : List (Str × Nat)} {wi : WI} {g : TGt} {ut : WT} {we : WE} (hsc : X.env.scope = sc0) (hN0 : X.N = N0) (hc : X.calm = true)
    (hi : JIc X target iter wi) (hk : scope.kind = .function) (hk0 : sc0.kind = .function)
    (hnames : (scope.names.all fun x => x.2 != .local || scope.names.lookup x.1 == some .local) = true) (hcell : (scope.names.all fun x => x.2 != .cell) = true)
    (hfree : (scope.names.all fun x => x.2 != .free || sc0.names.lookup x.1 == some .cell) = true)
    (hfr : (fr.all fun p => (sc0.names.lookup p.1 == some .cell && scope.names.lookup p.1 == some .free) && N0[p.2]? == some p.1) = true)
    (hg : ∀ cl C s3 H2 ex, JG (compCx X (tn ++ fr.map (·.1)) scope cl C s3 H2 ex) target g) (hu : ∀ cl C s3 H2 ex, JTs (compCx X (tn ++ fr.map (·.1)) scope cl C s3 H2 ex) ifs ut)
    (he : ∀ cl C s3 H2 ex, JE (compCx X (tn ++ fr.map (·.1)) scope cl C s3 H2 ex) elt we)
    (hs : ∀ x, foldedSetIterable iter X.env x = pure x) {pos' : Pos} {pins : List (Addr × Obj)} {s : Shared} {σ : St} {H : Hp} {QQ : Value → Shared → Prop} {use : Option (Value → Sem Unit)} (I : Inv X pins σ H s)
    {τ : List Slot} {Q0 : T → Prop} (R0 : RepSt X.K X.H₀ H σ τ) (hw : wComp wi g ut we tn.length (fr.map (·.2)) τ Q0)
    (hend : ∀ (s6 : Shared) (H6 : Hp) (D C : Addr) (m6 : Str → Option Value) (t : T) (f : Flow), Inv X pins σ H6 s6 → FpOk X pins H6 C → s6.heap.Ns C m6 → Same H H6 → Rep X.K H6 t (.ref D) → Q0 t → (∃ (H5 : Hp) (o : Obj) (vs : List V) (ts : List T), H6 = upd H5 D (.frz o (.lst vs)) ∧ H5 D = none ∧ Same H H5 ∧ t = .lst ts ∧ Reps X.K H5 ts vs) → compPost (model X.prog X.w) X.A X.xe use QQ (.ref D) C (.ok f) s6) :
    wpAny (model X.prog X.w) X.A (comprehension (.ListComp elt [⟨target, iter, ifs, 0⟩] scope pos) scope X.env pos' (newList []) false (eval iter X.env) use) QQ X.xe s := by
  have hkindOf : ∀ x, X.env.kindOf x = sc0.names.lookup x := fun x => by show X.env.scope.names.lookup x = _; rw [hsc]
  have hfree' : ∀ x ∈ scope.names, x.2 = .free → X.env.kindOf x.1 = some .cell := fun x hx hf => by
    have := List.all_eq_true.mp hfree x hx
    rw [hkindOf]
    simpa [hf] using this
  have hcell' : ∀ x ∈ scope.names, x.2 ≠ .cell := fun x hx => by
    have := List.all_eq_true.mp hcell x hx
    simpa using this
  have hfN : ∀ p ∈ fr, X.N[p.2]? = some p.1 := fun p hp => by
    have := List.all_eq_true.mp hfr p hp
    rw [hN0]
    simp only [Bool.and_eq_true, beq_iff_eq] at this
    exact this.2
  have hfr' : ∀ p ∈ fr, X.env.kindOf p.1 = some .cell ∧ scope.names.lookup p.1 = some .free := fun p hp => by
    have := List.all_eq_true.mp hfr p hp
    rw [hkindOf]
    simp only [Bool.and_eq_true, beq_iff_eq] at this
    exact this.1
  obtain ⟨cl, hclos, p1, p3⟩ := closureFor_of (scope := scope) (env := X.env) fun x hx hf => I.ok.has x.1 (.inl (hfree' x hx hf))
  refine wpAny_comprehension_free (use := use) rfl hs hclos hk (fun x hx hl => ?_) ?_
  · have := List.all_eq_true.mp hnames x hx
    simpa [hl] using this
  refine thn (hi pins s σ H (fun J H1 => ∃ ts, Same H H1 ∧ WkS X.K J ts H1 ∧ ts.length ≤ 1000 ∧ compT g ut we ts [] (List.replicate tn.length Slot.no ++ (fr.map (·.2)).map fun i => hide (sget τ i)) fun rs => Q0 (.lst rs)) I
    ⟨τ, _, R0, hw, fun ts J H' S wk q => ⟨ts, S, wk, q.1, q.2⟩⟩) fun v s1 h1 => thn h1 fun itv s2 h2 => ?_
  obtain ⟨it, fp, tn', J, H2, rfl, I2, Tn, st2, f2, ts, S2, wk, hlen, q⟩ := h2
  refine wpAny_newObj_type (wpAny_newFunctionEnv hcell' (by intro y hy; simp at hy) (fun h4 hns hsb => ?_) hk)
  dsimp only at hns hsb ⊢
  have hDn : H2 s2.heap.objs.size = none := I2.hok.fresh (Nat.le_refl _)
  have I3 : Inv X pins σ H2 { s2 with heap := s2.heap.push { cls := .type "list", dict := none, data := .seq ([] : List Value).toArray } } := I2.kept (t' := s2.toks) fun b u e => Heap.get?_push_of_some _ e
  have hsz : (s2.heap.push { cls := .type "list", dict := none, data := .seq ([] : List Value).toArray }).objs.size = s2.heap.objs.size + 1 := Heap.size_push ..
  have hkeep : ∀ b o, (s2.heap.push { cls := .type "list", dict := none, data := .seq ([] : List Value).toArray }).get? b = some o → h4.get? b = some o := fun b o e => hsb.extBut b o (Nat.ne_of_lt (Heap.lt_size e)) (Heap.get?_push_of_some _ e)
  have hDat : h4.get? s2.heap.objs.size = some { cls := .type "list", dict := none, data := .seq ([] : List Value).toArray } := hkeep _ _ (Heap.get?_push_size _ rfl)
  have fpD : ∀ b ∈ s2.heap.objs.size :: fp, FpOk X pins H2 b := fun b hb => by
    rcases List.mem_cons.mp hb with rfl | hb
    · exact I2.fpOk (Nat.le_refl _) hDn
    · exact f2 b hb
  have ltD : ∀ b ∈ fp, b < s2.heap.objs.size := fun b hb => by
    obtain ⟨o, e, _⟩ := Tn.obj _ _ st2 b hb
    exact Heap.lt_size e
  have ltD' : ∀ b ∈ s2.heap.objs.size :: fp, b < (s2.heap.push { cls := .type "list", dict := none, data := .seq ([] : List Value).toArray }).objs.size := fun b hb => by
    rw [hsz]
    rcases List.mem_cons.mp hb with rfl | hb
    · exact Nat.lt_succ_self _
    · exact Nat.lt_succ_of_lt (ltD b hb)
  have hhas : ∀ x, ((relabel scope X.env).names.lookup x = some .cell ∨ (relabel scope X.env).names.lookup x = some .free) → ∃ c, cl.lookup x = some c := fun x hx => by
    have z : ∃ k', (relabel scope X.env).names.lookup x = some k' ∧ (k' = .cell ∨ k' = .free) := by
      rcases hx with hx | hx
      · exact ⟨_, hx, .inl rfl⟩
      · exact ⟨_, hx, .inr rfl⟩
    obtain ⟨k', e, hk'⟩ := z
    obtain ⟨k, hm, hkk⟩ := relabel_mem e
    have hf : k = .free := by
      rcases hkk with rfl | ⟨h, _⟩
      · rcases hk' with rfl | rfl
        · exact absurd rfl (hcell' _ hm)
        · rfl
      · exact h
    subst hf
    exact p3 (x, .free) hm rfl
  obtain ⟨m3, hn3, hl3⟩ := I3.loc
  have J4 : Inv (compCx X (tn ++ fr.map (·.1)) scope cl (s2.heap.push { cls := .type "list", dict := none, data := .seq ([] : List Value).toArray }).objs.size { s2 with heap := s2.heap.push { cls := .type "list", dict := none, data := .seq ([] : List Value).toArray } } H2 (s2.heap.objs.size :: fp)) []
      (slotsOf σ tn.length fr) H2 { s2 with heap := h4, toks := s2.toks + ([] : List (Str × Value)).length } := by
    refine comp_start I3 hc hk (Nat.le_refl _) p1 hhas fpD ltD' rfl I2.bare hkeep hns (fun i x v h1 h2 => ?_) (by simp [slotsOf])
    unfold slotsOf at h2
    by_cases hi : i < tn.length
    · rw [List.getElem?_append_left (by simpa using hi), List.getElem?_replicate] at h2
      split at h2 <;> cases h2
    · rw [List.getElem?_append_right (by simpa using hi), List.length_replicate, List.getElem?_map] at h2
      rw [List.getElem?_append_right (by omega), List.getElem?_map] at h1
      cases ep : fr[i - tn.length]? with
      | none => rw [ep] at h1; cases h1
      | some p =>
        rw [ep] at h1 h2
        have h1' : p.1 = x := by simpa using h1
        have h2' : (σ[p.2]?).getD none = some v := by simpa using h2
        have h2'' : σ[p.2]? = some (some v) := by
          cases e : σ[p.2]? with
          | none => rw [e] at h2'; cases h2'
          | some z => rw [e] at h2'; exact congrArg some h2'
        have hp : p ∈ fr := List.mem_of_getElem? ep
        obtain ⟨k1, k2⟩ := hfr' p hp
        subst h1'
        obtain ⟨u, ru, lk⟩ := hl3 p.2 p.1 v (hfN p hp) h2'' (.inr (.inl k1))
        refine ⟨u, ru, .inr ⟨.inl ?_, ?_⟩⟩
        · exact relabel_free (by rw [hsc]; exact hk0) k2 k1
        · rcases lk with ⟨z, _⟩ | ⟨_, c, e, o, ho, hd⟩
          · rw [k1] at z; cases z
          · obtain ⟨c', e'⟩ := p3 (p.1, .free) (PySem.mem_of_lookup k2) rfl
            have := p1 _ _ e'
            rw [e] at this
            cases this
            exact ⟨c, e', o, hkeep c o ho, hd⟩
  have R4 : RepSt X.K H2 H2 (slotsOf σ tn.length fr) (List.replicate tn.length Slot.no ++ (fr.map (·.2)).map fun i => hide (sget τ i)) := repSt_comp tn.length fr R0 S2
  have ne : (s2.heap.objs.size : Addr) ∉ fp := fun z => absurd (ltD _ z) (Nat.lt_irrefl _)
  have st4 : tn' 0 h4 := Tn.keep _ _ _ st2 fun b hb o e => hkeep b o (Heap.get?_push_of_some _ e)
  have lp := comp_loop (scope := scope) (H2 := H2) (s2 := s2) (X := X) (X' := compCx X (tn ++ fr.map (·.1)) scope cl (s2.heap.push { cls := .type "list", dict := none, data := .seq ([] : List Value).toArray }).objs.size { s2 with heap := s2.heap.push { cls := .type "list", dict := none, data := .seq ([] : List Value).toArray } } H2 (s2.heap.objs.size :: fp)) (h3 := s2.heap.push { cls := .type "list", dict := none, data := .seq ([] : List Value).toArray }) (pins := pins) (s4 := { s2 with heap := h4, toks := s2.toks + ([] : List (Str × Value)).length }) (use := use) (QQ := QQ) (iter := iter) (pos := pos) (hg _ _ _ _ _) (hu _ _ _ _ _) (he _ _ _ _ _) rfl rfl rfl rfl rfl rfl rfl rfl rfl rfl rfl rfl hsz (fun b o e => Heap.get?_push_of_some _ e) rfl I2 f2 Tn ne S2 wk hlen J4 R4 st4 (fun b hb => (fpD b hb).1) hDat q (fun H6 h => I3.fpOk (Nat.le_refl _) h) hend
  exact codeAny_compStart_list lp (Tn.self _ 0 _ _ _ st4 lp)
theorem jcomp {elt target iter : Expr} {ifs : List Expr} {scope sc0 : Scope} {tn N0 : List Str} {fr : List (Str × Nat)} {wi : WI} {g : TGt} {ut : WT} {we : WE} (hsc : X.env.scope = sc0) (hN0 : X.N = N0) (hc : X.calm = true)
    (hi : JI X target iter wi) (hk : scope.kind = .function) (hk0 : sc0.kind = .function)
    (hnames : (scope.names.all fun x => x.2 != .local || scope.names.lookup x.1 == some .local) = true) (hcell : (scope.names.all fun x => x.2 != .cell) = true)
    (hfree : (scope.names.all fun x => x.2 != .free || sc0.names.lookup x.1 == some .cell) = true)
    (hfr : (fr.all fun p => (sc0.names.lookup p.1 == some .cell && scope.names.lookup p.1 == some .free) && N0[p.2]? == some p.1) = true)
    (hg : ∀ cl C s3 H2 ex, JG (compCx X (tn ++ fr.map (·.1)) scope cl C s3 H2 ex) target g) (hu : ∀ cl C s3 H2 ex, JTs (compCx X (tn ++ fr.map (·.1)) scope cl C s3 H2 ex) ifs ut)
    (he : ∀ cl C s3 H2 ex, JE (compCx X (tn ++ fr.map (·.1)) scope cl C s3 H2 ex) elt we)
    (hs : ∀ x, foldedSetIterable iter X.env x = pure x := by intro _; rfl) : JE X (.ListComp elt [⟨target, iter, ifs, 0⟩] scope pos) (wComp wi g ut we tn.length (fr.map (·.2))) := by
  intro pins s σ H Q I hw
  obtain ⟨τ, Q0, R0, hw, kk⟩ := hw
  rw [eval_ListComp]
  refine comp_core hsc hN0 hc hi.c hk hk0 hnames hcell hfree hfr hg hu he hs (pos' := _) (use := none) I R0 hw fun s6 H6 D C m6 t f I6 fp hn S r q _ => ?_
  refine ⟨m6, hn, fun h7 hs7 => ?_⟩
  obtain ⟨g1, g2, g3, g4, g5, g6⟩ := fp
  exact ⟨.ref D, H6, I6.turned (t' := s6.toks) (it := C) (fun b o hb e => (hs7.2 b hb).trans e) g1 g2 g4 g5 g6, rfl, kk _ _ _ S r q⟩
theorem jsetc {elt target iter : Expr} {ifs : List Expr} {scope sc0 : Scope} {tn N0 : List Str} {fr : List (Str × Nat)} {wi : WI} {g : TGt} {ut : WT} {we : WE} {i : Nat} {x : Str} {pos' spos : Pos} (hN : X.N.Nodup) (hiN : X.N[i]? = some x) (hx : Loc X.env.scope x)
    (hsc : X.env.scope = sc0) (hN0 : X.N = N0) (hc : X.calm = true)
    (hi : JI X target iter wi) (hk : scope.kind = .function) (hk0 : sc0.kind = .function)
    (hnames : (scope.names.all fun x => x.2 != .local || scope.names.lookup x.1 == some .local) = true) (hcell : (scope.names.all fun x => x.2 != .cell) = true)
    (hfree : (scope.names.all fun x => x.2 != .free || sc0.names.lookup x.1 == some .cell) = true)
    (hfr : (fr.all fun p => (sc0.names.lookup p.1 == some .cell && scope.names.lookup p.1 == some .free) && N0[p.2]? == some p.1) = true)
    (hg : ∀ cl C s3 H2 ex, JG (compCx X (tn ++ fr.map (·.1)) scope cl C s3 H2 ex) target g) (hu : ∀ cl C s3 H2 ex, JTs (compCx X (tn ++ fr.map (·.1)) scope cl C s3 H2 ex) ifs ut)
    (he : ∀ cl C s3 H2 ex, JE (compCx X (tn ++ fr.map (·.1)) scope cl C s3 H2 ex) elt we)
    (hs : ∀ x, foldedSetIterable iter X.env x = pure x := by intro _; rfl)
    (hsw : swapsWith (.ListComp elt [⟨target, iter, ifs, 0⟩] scope pos) (some (.Name x pos')) spos.line X.env = pure true := by rfl)
    (hf : X.fn x = true ∨ X.env.scope.names.lookup x = some .local := by first | exact .inl rfl | exact .inr rfl | assumption) :
    JS X (.Assign [.Name x pos'] (.ListComp elt [⟨target, iter, ifs, 0⟩] scope pos) spos) (sSet i (wComp wi g ut we tn.length (fr.map (·.2)))) := by
  intro pins s σ H D I ⟨τ, D0, R0, hw, k, _⟩
  rw [exec_Assign_Name_used _ _ _ _ hsw]
  refine wpAny_bind (wpAny_standAt (wpAny_bind ?_))
  rw [arm_evalThenUse_ListComp]
  dsimp only
  refine wpAny_bind (wpAny_mono (comp_core (QQ := fun _ s' => SP X pins D .next s') hsc hN0 hc hi.c hk hk0 hnames hcell hfree hfr hg hu he hs (use := some (assign (.Name x pos') X.env)) I R0 hw fun s6 H6 Da C m6 t f I6 fp hn S r q _ => ?_) (fun _ s' h => wpAny_pure (wpAny_pure h)) fun _ _ z => z)
  obtain ⟨oC, es, ep, hoC, hdC, hrC⟩ := id hn
  have Ip := I6.pinned (fp := [C]) (fun b hb => by rw [List.mem_singleton.mp hb]; exact fp) fun b hb => by
    rw [List.mem_singleton.mp hb]
    exact ⟨oC, hoC, fun v z => by rw [hdC] at z; cases z⟩
  have gn := pg_name (pos := pos') hN hiN hx hf _ s6 σ H6 (.ref Da) (.ref Da) (fun σ' H' => σ' = σ.set i (some (.ref Da)) ∧ H' = H6) Ip rfl ⟨rfl, rfl⟩
  refine wpAny_mono gn (fun _ s7 h7 => ?_) fun _ _ z => z
  obtain ⟨σ7, H7, I7, rfl, rfl⟩ := h7
  have pC := (I7.pin (C, oC) (List.mem_append_right _ (List.mem_append_right _ (mem_pinsAt (List.mem_singleton.mpr rfl) hoC)))).1
  refine ⟨m6, ⟨oC, es, ep, pC, hdC, hrC⟩, fun h8 hs8 => ?_⟩
  obtain ⟨g1, g2, g3, g4, g5, g6⟩ := fp
  have I8 : Inv X pins (σ.set i (some (.ref Da))) H7 s7 := I7.pins_of fun p hp => I7.pin p (List.mem_append_right _ (List.mem_append_left _ hp))
  exact ⟨_, H7, I8.turned (t' := s7.toks) (it := C) (fun b o hb e => (hs8.2 b hb).trans e) g1 g2 g4 g5 g6, k _ _ H7 (.of S) ((R0.mono S).put r) q⟩
end
end TL
end
section
set_option Elab.async false
set_option linter.all false
set_option maxRecDepth 100000
set_option maxHeartbeats 4000000
namespace TL
open PySem PySem.Spec PyProof.Rows L2
def SeqIt (h : Heap) (it l : Addr) (k : Nat) (xs : Array Value) : Prop := (h.IsListIter it l k ∧ h.IsList l xs) ∨ (h.IsTupleIter it l k ∧ h.IsTuple l xs)
theorem SeqIt.keep {h h' : Heap} {it l : Addr} {k : Nat} {xs : Array Value} (x : SeqIt h it l k xs) (q : ∀ b o, b = it ∨ b = l → h.get? b = some o → h'.get? b = some o) : SeqIt h' it l k xs := by
  rcases x with ⟨⟨o, e, r⟩, p, e2, r2⟩ | ⟨⟨o, e, r⟩, p, e2, r2⟩
  · exact .inl ⟨⟨o, q _ _ (.inl rfl) e, r⟩, p, q _ _ (.inr rfl) e2, r2⟩
  · exact .inr ⟨⟨o, q _ _ (.inl rfl) e, r⟩, p, q _ _ (.inr rfl) e2, r2⟩
theorem SeqIt.lt {h : Heap} {it l : Addr} {k : Nat} {xs : Array Value} (x : SeqIt h it l k xs) : it < h.objs.size ∧ l < h.objs.size := by
  rcases x with ⟨⟨o, e, _⟩, p, e2, _⟩ | ⟨⟨o, e, _⟩, p, e2, _⟩
  · exact ⟨Heap.lt_size e, Heap.lt_size e2⟩
  · exact ⟨Heap.lt_size e, Heap.lt_size e2⟩
theorem SeqIt.obj {h : Heap} {it l : Addr} {k : Nat} {xs : Array Value} (x : SeqIt h it l k xs) : ∃ o, h.get? it = some o ∧ ∀ v, o.data ≠ .cell v := by
  rcases x with ⟨⟨o, e, c, d⟩, _⟩ | ⟨⟨o, e, c, d⟩, _⟩
  · exact ⟨o, e, fun v z => by rw [d] at z; cases z⟩
  · exact ⟨o, e, fun v z => by rw [d] at z; cases z⟩
section
variable {prog : Program} {w : World} {A : Around} {E : Value → Shared → Prop} {s : Shared}
structure Zp (h : Heap) (z TI TO i j l m : Addr) (f : Value) (k : Nat) (xs ys : Array Value) : Prop where
  z : IsZip h z TI TO f
  ti : IsPair h TI (.ref i) (.ref j)
  to : ∃ a b, IsPair h TO a b
  one : SeqIt h i l k xs
  two : SeqIt h j m k ys
structure Zd (z TI TO i j l m : Addr) : Prop where
  nd : [z, TI, TO, i, j].Nodup
  l : l ∉ [z, TI, TO, i, j]
  m : m ∉ [z, TI, TO, i, j]
theorem Zd.all {z TI TO i j l m : Addr} (d : Zd z TI TO i j l m) : (z ≠ TI ∧ z ≠ TO ∧ z ≠ i ∧ z ≠ j) ∧ (TI ≠ TO ∧ TI ≠ i ∧ TI ≠ j) ∧ (TO ≠ i ∧ TO ≠ j) ∧ i ≠ j ∧ (l ≠ z ∧ l ≠ TI ∧ l ≠ TO ∧ l ≠ i ∧ l ≠ j) ∧ (m ≠ z ∧ m ≠ TI ∧ m ≠ TO ∧ m ≠ i ∧ m ≠ j) := by
  obtain ⟨a, b, c⟩ := d
  simp only [List.nodup_cons, List.mem_cons, List.not_mem_nil, or_false, not_or, List.nodup_nil, not_false_eq_true, and_true] at a b c
  exact ⟨⟨a.1.1, a.1.2.1, a.1.2.2.1, a.1.2.2.2⟩, ⟨a.2.1.1, a.2.1.2.1, a.2.1.2.2⟩, ⟨a.2.2.1.1, a.2.2.1.2⟩, a.2.2.2, ⟨b.1, b.2.1, b.2.2.1, b.2.2.2.1, b.2.2.2.2⟩, c.1, c.2.1, c.2.2.1, c.2.2.2.1, c.2.2.2.2⟩
end
end TL
end
section
set_option Elab.async false
set_option linter.all false
set_option maxRecDepth 100000
set_option maxHeartbeats 4000000
namespace TL
open PySem PySem.Spec PyProof.Rows L2
def SeqK (h : Heap) (c : Bool) (l : Addr) (xs : Array Value) : Prop := match c with | true => h.IsList l xs | false => h.IsTuple l xs
def ItK (h : Heap) (c : Bool) (it l : Addr) (k : Nat) : Prop := match c with | true => h.IsListIter it l k | false => h.IsTupleIter it l k
theorem SeqK.lt {h : Heap} {c : Bool} {l : Addr} {xs : Array Value} (x : SeqK h c l xs) : l < h.objs.size := by
  cases c
  · obtain ⟨o, e, _⟩ := x; exact Heap.lt_size e
  · obtain ⟨o, e, _⟩ := x; exact Heap.lt_size e
theorem SeqK.push {h : Heap} {c : Bool} {l : Addr} {xs : Array Value} (x : SeqK h c l xs) (o : Obj) : SeqK (h.push o) c l xs := by
  cases c
  · exact Heap.IsTuple.push x o
  · exact Heap.IsList.push x o
theorem ItK.get {h : Heap} {c : Bool} {it l : Addr} {k : Nat} (x : ItK h c it l k) : ∃ o, h.get? it = some o ∧ ∀ v, o.data ≠ .cell v := by
  cases c
  · obtain ⟨o, e, c, d⟩ := x; exact ⟨o, e, fun v z => by rw [d] at z; cases z⟩
  · obtain ⟨o, e, c, d⟩ := x; exact ⟨o, e, fun v z => by rw [d] at z; cases z⟩
theorem ItK.keep {h h' : Heap} {c : Bool} {it l : Addr} {k : Nat} (x : ItK h c it l k) (q : ∀ o, h.get? it = some o → h'.get? it = some o) : ItK h' c it l k := by
  cases c
  · obtain ⟨o, e, r⟩ := x; exact ⟨o, q o e, r⟩
  · obtain ⟨o, e, r⟩ := x; exact ⟨o, q o e, r⟩
theorem ItK.seq {h : Heap} {c : Bool} {it l : Addr} {k : Nat} {xs : Array Value} (x : ItK h c it l k) (y : SeqK h c l xs) : SeqIt h it l k xs := by
  cases c
  · exact .inr ⟨x, y⟩
  · exact .inl ⟨x, y⟩
theorem SeqIt.kind {h : Heap} {c : Bool} {it l : Addr} {k : Nat} {xs ys : Array Value} (x : SeqIt h it l k xs) (y : SeqK h c l ys) : ItK h c it l k := by
  rcases x with ⟨a, o, e, c1, _⟩ | ⟨a, o, e, c1, _⟩
  · cases c
    · obtain ⟨o', e', c2, _⟩ := y
      rw [e] at e'; cases e'; rw [c1] at c2; simp at c2
    · exact a
  · cases c
    · exact a
    · obtain ⟨o', e', c2, _⟩ := y
      rw [e] at e'; cases e'; rw [c1] at c2; simp at c2
section
variable {prog : Program} {w : World} {A : Around} {E : Value → Shared → Prop} {s : Shared}
end
section
variable {prog : Program} {w : World} {A : Around} {E : Value → Shared → Prop} {s : Shared}
end
def SqK (K : PySem.W.Frag) (H : Hp) (c : Bool) (a : Addr) (xs : List V) : Prop := match c with | true => SqF K H a xs | false => SqT K H a xs
theorem SqK.kp {K : PySem.W.Frag} {H H' : Hp} {c : Bool} {a : Addr} {xs : List V} (h : SqK K H c a xs) (k : Kp H H') : SqK K H' c a xs := by
  cases c
  · exact sqT_kp k h
  · exact sqF_kp k h
structure Zt (h : Heap) (z TI TO i j l m : Addr) (c d : Bool) (k : Nat) : Prop where
  z : IsZip h z TI TO .none
  ti : IsPair h TI (.ref i) (.ref j)
  to : ∃ a b, IsPair h TO a b
  one : ItK h c i l k
  two : ItK h d j m k
def seqOf : T → Option (List T)
  | .tup ts => some ts
  | .lst ts => some ts
  | _ => none
def zipT : List T → List T → List T
  | x :: xs, y :: ys => .tup [x, y] :: zipT xs ys
  | _, _ => []
def iZip (ws : WA) : WI := fun τ Q => ws τ fun ts => match ts with
  | [a, b] => (match seqOf a, seqOf b with | some xs, some ys => Q (zipT xs ys) | _, _ => False)
  | _ => False
section
variable {X : Cx} {a b : Expr} {ws : WA} {pos : Pos}
end
end TL
end
section
set_option Elab.async false
set_option linter.all false
set_option maxRecDepth 100000
set_option maxHeartbeats 4000000
namespace TL
open PySem PySem.Spec PyProof.Rows L2
section
variable {X : Cx}
def intsOf : List T → Option (List Int)
  | [] => some []
  | .int i :: r => (intsOf r).map (i :: ·)
  | _ => none
def rSumT (ts : List T) (Q : T → Prop) : Prop := match ts with
  | [.lst xs] => (match intsOf xs with | some ns => Q (.int ns.sum) | none => False)
  | _ => False
theorem boolsAre_of : ∀ {bs : List Bool} {us : List Value}, Vals (bs.map V.bl) us → LSm.BoolsAre us bs
  | [], us, h => by cases h; exact .nil
  | b :: bs, us, h => by
    simp only [List.map_cons] at h
    cases h with
    | cons r1 r2 => cases r1; exact .cons b (boolsAre_of r2)
theorem call_allL (hc : X.calm = true) : CallR X (.builtin "all") (fun xs H Q => ∃ (p : Addr) (bs : List Bool), xs = [.ref p] ∧ SqL X.K H p (bs.map V.bl) ∧ Q (.bl (bs.all id)) H) := by
  intro pins s σ H xs us Q I r h
  obtain ⟨p, bs, rfl, hq, q⟩ := h
  obtain ⟨u, rfl, rx⟩ := vals1 r
  cases rx
  obtain ⟨its, r', pl, hz⟩ := I.list hq
  have hb : LSm.BoolsAre its bs := boolsAre_of r'
  have hl := pl.isList
  have hlt : p < s.heap.objs.size := by obtain ⟨_, e, _⟩ := hl; exact Heap.lt_size e
  refine call_all_walk (wpAny_pyIter_list hl ?_)
  refine ⟨s.heap.objs.size, [s.heap.objs.size, p], [s.heap.objs.size], its.toArray.size, _, _, fun i => (bs[i]?).getD true, rfl, Walks.list (A := X.A.in1) (I.ok.hd hc) _ p (Nat.ne_of_lt hlt) its.toArray,
    ⟨⟨_, Heap.get?_push_size _ rfl, rfl, rfl⟩, hl.push _⟩, fun i v s' Q' E' hP hQ => ?_, fun h' tk hk => ?_⟩
  · obtain ⟨b, e, rfl⟩ := hb.get i v (by simpa using hP)
    simp only [e, Option.getD_some] at hQ
    exact wpAny_truthy_bool hQ
  · have e : ((List.range its.toArray.size).all fun i => (bs[i]?).getD true) = bs.all id := by
      rw [List.size_toArray, hb.length]; exact LSm.range_all bs
    rw [e]
    exact ⟨.bl (bs.all id), H, I.kept (t' := tk) (LSm.kept_iter hk), rfl, q⟩
def boolsOf : List T → Option (List Bool)
  | [] => some []
  | .bl i :: r => (boolsOf r).map (i :: ·)
  | _ => none
theorem boolsOf_eq : ∀ {ts : List T} {ns : List Bool}, boolsOf ts = some ns → ts = ns.map T.bl
  | [], ns, h => by simp only [boolsOf, Option.some.injEq] at h; subst h; rfl
  | t :: r, ns, h => by
    cases t with
    | bl i =>
      simp only [boolsOf, Option.map_eq_some_iff] at h
      obtain ⟨ms, e, rfl⟩ := h
      rw [boolsOf_eq e]
      rfl
    | _ => simp [boolsOf] at h
theorem reps_bools_inv {K : PySem.W.Frag} {H : Hp} : ∀ {ns : List Bool} {vs : List V}, Reps K H (ns.map T.bl) vs → vs = ns.map V.bl
  | [], vs, h => by simpa using reps_nil.mp h
  | n :: ns, vs, h => by
    simp only [List.map_cons] at h
    rw [reps_cons] at h
    obtain ⟨v, r, rfl, h1, h2⟩ := h
    rw [rep_bl.mp h1, reps_bools_inv h2]
    rfl
def rAllT (ts : List T) (Q : T → Prop) : Prop := match ts with
  | [.lst xs] => (match boolsOf xs with | some bs => Q (.bl (bs.all id)) | none => False)
  | _ => False
theorem bl_all (hc : X.calm = true) : BlR X (.builtin "all") rAllT := by
  refine ⟨_, call_allL hc, fun ts vs H Q0 Q r q k => ?_⟩
  unfold rAllT at q
  split at q
  · obtain ⟨v, rfl, r1⟩ := reps1 r
    split at q
    · rename_i ns e
      rw [boolsOf_eq e, rep_lst] at r1
      obtain ⟨p, ys, rfl, sq, rr⟩ := r1
      rw [reps_bools_inv rr] at sq
      exact ⟨p, ns, rfl, sq.sq, k _ _ H (.refl H) (rep_bl.mpr rfl) q⟩
    · exact q.elim
  · exact q.elim
theorem upd_upd {H : Hp} {p : Addr} {a b : HO} : upd (upd H p a) p b = upd H p b := by
  funext c
  by_cases h : c = p
  · subst h; rw [upd_same, upd_same]
  · rw [upd_ne h, upd_ne h, upd_ne h]
theorem call_listF : CallR X (.type "list") (fun xs H Q => ∃ p ys, xs = [.ref p] ∧ (SqL X.K H p ys ∨ SqT X.K H p ys) ∧ ∀ l o, H l = none → Q (.ref l) (upd H l (.frz o (.lst ys)))) := by
  intro pins s σ H xs us Q I r h
  obtain ⟨p, ys, e, hq, q⟩ := h
  refine thn (call_list_of pins s σ H xs us (fun v H' => ∃ l, v = .ref l ∧ H l = none ∧ H' = upd H l (.lst ys)) I r ⟨p, ys, e, hq, fun l hl => ⟨l, rfl, hl, rfl⟩⟩) fun u s1 ⟨v, H1, I1, rv, l, e1, hl, e2⟩ => ?_
  subst e1 e2
  obtain ⟨o, I2⟩ := Inv.freeze I1 (upd_same (o := .lst ys))
  rw [upd_upd] at I2
  exact ⟨_, _, I2, rv, q l o hl⟩
def rListT (ts : List T) (Q : T → Prop) : Prop := match ts with
  | [.tup xs] => Q (.lst xs)
  | [.lst xs] => Q (.lst xs)
  | _ => False
theorem ty_list : BlR X (.type "list") rListT := by
  refine ⟨_, call_listF, fun ts vs H Q0 Q r q k => ?_⟩
  have fin : ∀ {xs : List T} {ys : List V}, Q0 (.lst xs) → Reps X.K H xs ys → ∀ l o, H l = none → Q (.ref l) (upd H l (.frz o (.lst ys))) := fun q rr l o hl =>
    k _ _ _ (same_new hl _) (rep_lst.mpr ⟨l, _, rfl, .inl ⟨o, upd_same⟩, rr.kp (.of (same_new hl _))⟩) q
  unfold rListT at q
  split at q
  · obtain ⟨v, rfl, r1⟩ := reps1 r
    rw [rep_tup] at r1
    obtain ⟨p, ys, rfl, sq, rr⟩ := r1
    exact ⟨p, ys, rfl, .inr sq, fin q rr⟩
  · obtain ⟨v, rfl, r1⟩ := reps1 r
    rw [rep_lst] at r1
    obtain ⟨p, ys, rfl, sq, rr⟩ := r1
    exact ⟨p, ys, rfl, .inl sq.sq, fin q rr⟩
  · exact q.elim
end
end TL
end
section
set_option Elab.async false
set_option linter.all false
set_option maxRecDepth 100000
set_option maxHeartbeats 4000000
namespace TL
open PySem PySem.Spec PyProof.Rows L2
section
variable {X : Cx} {a b c e : Expr} {es : List Expr} {wa wb wc w : WE} {ws : WA} {pos : Pos}
def rSeqCat (K : PySem.W.Frag) : R2 := fun x y H Q => ∃ a b xs ys, x = .ref a ∧ y = .ref b ∧ xs.length + ys.length ≤ sizeLine ∧
  ((SqL K H a xs ∧ SqL K H b ys ∧ ∀ p o, H p = none → Q (.ref p) (upd H p (.frz o (.lst (xs ++ ys))))) ∨
   (SqT K H a xs ∧ SqT K H b ys ∧ (xs = [] → Q (.ref b) H) ∧ (xs ≠ [] → ys = [] → Q (.ref a) H) ∧ (xs ≠ [] → ys ≠ [] → ∀ p, H p = none → Q (.ref p) (upd H p (.tup (xs ++ ys))))))
theorem op_seqCat : OpR X (binaryOp .Add) (rSeqCat X.K) := by
  intro pins s σ H x y v u Q I rx ry h
  obtain ⟨a, b, xs, ys, rfl, rfl, hz, h⟩ := h
  cases rx
  cases ry
  rcases h with ⟨ha, hb, q⟩ | ⟨ha, hb, q0, q1, q2⟩
  · obtain ⟨its, r1, p1, _⟩ := I.list ha
    obtain ⟨its2, r2, p2, _⟩ := I.list hb
    have hl1 := r1.length
    have hl2 := r2.length
    obtain ⟨⟨cls, dd, data, sl⟩, ho, hc, n, hd⟩ := p1.isList
    obtain ⟨⟨cls2, dd2, data2, sl2⟩, ho2, hc2, n2, hd2⟩ := p2.isList
    simp only at hc hd hc2 hd2
    subst hc hd hc2 hd2
    refine concat_meets ⟨_, ho, rfl⟩ ⟨_, ho2, rfl⟩ noFill_list_add seq_list_add PySem.F.slot_list_add PySem.F.entry_list_add (PySem.F.args_list_add_2 _ _) (list_addW a b its.toArray its2.toArray n n2 dd dd2 sl sl2 (by simp only [List.size_toArray]; omega)) ⟨ho, ho2, ?_⟩
    have e : its.toArray ++ its2.toArray = (its ++ its2).toArray := by simp
    rw [e]
    have hf : H s.heap.objs.size = none := I.hok.fresh (Nat.le_refl _)
    refine ⟨.ref s.heap.objs.size, upd H s.heap.objs.size (.frz { cls := .type "list", data := .seq (its ++ its2).toArray } (.lst (xs ++ ys))), I.laid (t' := s.toks) (fun b u e => Heap.get?_push_of_some _ e) (Nat.le_refl _) ?_, rfl, q _ _ hf⟩
    exact ⟨Heap.get?_push_size _ rfl, by rw [List.length_append]; exact hz, its ++ its2, 0, r1.append r2, Heap.get?_push_size _ rfl⟩
  · obtain ⟨its, r1, p1, _⟩ := I.tuple ha
    obtain ⟨its2, r2, p2, _⟩ := I.tuple hb
    by_cases hx : xs = []
    · subst hx
      have hi : its = [] := r1.nil_iff.mpr rfl
      subst hi
      obtain ⟨⟨cls, dd, data, sl⟩, ho, hc, n, hd⟩ := p1
      obtain ⟨⟨cls2, dd2, data2, sl2⟩, ho2, hc2, n2, hd2⟩ := p2
      simp only at hc hd hc2 hd2
      subst hc hd hc2 hd2
      refine concat_meets ⟨_, ho, rfl⟩ ⟨_, ho2, rfl⟩ noFill_tuple_add seq_tuple_add PySem.F.slot_tuple_add PySem.F.entry_tuple_add (PySem.F.args_tuple_add_2 _ _) (tuple_addW0 a b _ _ n n2 dd dd2 sl sl2 rfl) ⟨ho, ho2, ?_⟩
      exact ⟨.ref b, H, I, rfl, q0 rfl⟩
    · refine HT.cat_tup p1 p2 (fun z => hx (r1.nil_iff.mp z)) (fun z => ⟨.ref a, H, I, rfl, q1 hx (r2.nil_iff.mp z)⟩) (fun z => ?_) (by rw [← r1.length, ← r2.length]; exact hz)
      refine ⟨.ref s.heap.objs.size, _, I.laid (t' := s.toks) (o := .tup (xs ++ ys)) (fun b ob q => Heap.get?_push_of_some _ q) (Nat.le_refl _) ?_, rfl, q2 hx (fun w => z (r2.nil_iff.mpr w)) _ (I.hok.fresh (Nat.le_refl _))⟩
      exact ⟨by rw [List.length_append]; exact hz, _, r1.append r2, IsTup.new _ _⟩
def rCatLT (x y : T) (Q : T → Prop) : Prop := match x, y with
  | .lst xs, .lst ys => xs.length + ys.length ≤ 1000 ∧ Q (.lst (xs ++ ys))
  | .tup xs, .tup ys => xs.length + ys.length ≤ 1000 ∧ Q (.tup (xs ++ ys))
  | _, _ => False
theorem b_cat : BR X .Add rCatLT := by
  refine ⟨_, op_seqCat, fun t1 t2 v1 v2 H Q0 Q r1 r2 q k => ?_⟩
  unfold rCatLT at q
  split at q
  · rw [rep_lst] at r1 r2
    obtain ⟨p, vs, rfl, sq, rr⟩ := r1
    obtain ⟨p', vs', rfl, sq', rr'⟩ := r2
    exact ⟨p, p', vs, vs', rfl, rfl, by rw [rr.length, rr'.length]; exact few q.1, .inl ⟨sq.sq, sq'.sq, fun l o hl =>
      k _ _ _ (same_new hl _) (rep_lst.mpr ⟨l, _, rfl, .inl ⟨o, upd_same⟩, (rr.append rr').kp (.of (same_new hl _))⟩) q.2⟩⟩
  · have e1 := r1
    have e2 := r2
    rw [rep_tup] at r1 r2
    obtain ⟨p, vs, rfl, sq, rr⟩ := r1
    obtain ⟨p', vs', rfl, sq', rr'⟩ := r2
    have z1 := rr.length
    have z2 := rr'.length
    refine ⟨p, p', vs, vs', rfl, rfl, by rw [rr.length, rr'.length]; exact few q.1, .inr ⟨sq, sq', fun hx => ?_, fun _ hy => ?_, fun _ _ l hl =>
      k _ _ _ (same_new hl _) (rep_tup.mpr ⟨l, _, rfl, SqT.of upd_same, (rr.append rr').kp (.of (same_new hl _))⟩) q.2⟩⟩
    · subst hx
      rename_i xs ys
      have : xs = [] := List.length_eq_zero_iff.mp (by simpa using z1.symm)
      subst this
      exact k _ _ H (.refl H) e2 q.2
    · rename_i xs ys _
      subst hy
      have : ys = [] := List.length_eq_zero_iff.mp (by simpa using z2.symm)
      subst this
      have q' := q.2
      rw [List.append_nil] at q'
      exact k _ _ H (.refl H) e1 q'
  · exact q.elim
def rMin3T (ts : List T) (Q : T → Prop) : Prop := match ts with
  | [.int i, .int j, .int k] => Q (.int (if j < i then (if k < j then k else j) else (if k < i then k else i)))
  | _ => False
end
end TL
end
section
set_option Elab.async false
set_option linter.all false
set_option maxRecDepth 100000
set_option maxHeartbeats 4000000
namespace TL
open PySem PySem.Spec PyProof.Rows L2
section
variable {X : Cx} {a b c e : Expr} {es : List Expr} {wa wb wc w : WE} {ws : WA} {pos : Pos}
def cnt3 (lo hi c : Int) : Nat := (Builtin.Range.rangeSize lo hi c).toNat
def range3T : Int → Int → Nat → List T
  | _, _, 0 => []
  | lo, c, n + 1 => .int lo :: range3T (lo + c) c n
def iRange3 (ws : WA) : WI := fun τ Q => ws τ fun ts => match ts with
  | [.int i, .int j, .int k] => (-(2 ^ 30) ≤ i ∧ i < 2 ^ 30 ∧ -(2 ^ 30) ≤ j ∧ j < 2 ^ 30 ∧ 0 < k ∧ k < 2 ^ 30) ∧ Q (range3T i k (cnt3 i j k))
  | _ => False
theorem Vals.reverse : ∀ {vs : List V} {us : List Value}, Vals vs us → Vals vs.reverse us.reverse
  | _, _, .nil => .nil
  | _, _, .cons r rr => by
    rw [List.reverse_cons, List.reverse_cons]
    exact (Vals.reverse rr).append (.cons r .nil)
theorem Reps.reverse {K : PySem.W.Frag} {H : Hp} : ∀ {ts : List T} {vs : List V}, Reps K H ts vs → Reps K H ts.reverse vs.reverse
  | [], vs, h => by rw [reps_nil] at h; subst h; simp [reps_nil]
  | t :: ts, vs, h => by
    rw [reps_cons] at h
    obtain ⟨v, r, rfl, a, b⟩ := h
    rw [List.reverse_cons, List.reverse_cons]
    exact (Reps.reverse b).append (.one a)
def wRev (wa ws : WE) : WE := fun τ Q => wa τ fun x => ws τ fun y => match x, y with | .lst ts, .int i => i = -1 ∧ Q (.lst ts.reverse) | _, _ => False
end
end TL
end
section
set_option Elab.async false
set_option linter.all false
set_option maxRecDepth 100000
set_option maxHeartbeats 4000000
namespace TL
open PySem PySem.Spec PyProof.Rows L2
section
variable {prog : Program} {w : World} {A : Around} {E : Value → Shared → Prop} {s : Shared}
end
section
variable {X : Cx} {a b c e : Expr} {es : List Expr} {wa wb wc w : WE} {ws : WA} {pos : Pos}
def wRevA (wa ws : WE) : WE := fun τ Q => wa τ fun x => ws τ fun y => match x, y with | .tup ts, .int i => i = -1 ∧ Q (.tup ts.reverse) | .lst ts, .int i => i = -1 ∧ Q (.lst ts.reverse) | _, _ => False
abbrev WO := List Slot → (Option Int → Prop) → Prop
def wo0 : WO := fun _ Q => Q none
def wo (wa : WE) : WO := fun τ Q => wa τ fun x => match x with | .int i => Q (some i) | _ => False
def cutT (ts : List T) (lo hi : Option Int) : List T := (ts.drop (HT.sIx ts.length 0 lo)).take (HT.sIx ts.length ts.length hi - HT.sIx ts.length 0 lo)
def rSlTT (x : T) (lo hi : Option Int) (Q : T → Prop) : Prop := match x with
  | .tup ts => ¬ (HT.sIx ts.length 0 lo = 0 ∧ HT.sIx ts.length ts.length hi = ts.length) ∧ Q (.tup (cutT ts lo hi))
  | .lst ts => Q (.lst (cutT ts lo hi))
  | _ => False
def wSl (wa : WE) (wl wh : WO) : WE := fun τ Q => wa τ fun x => wl τ fun lo => wh τ fun hi => rSlTT x lo hi Q
end
end TL
end
section
set_option Elab.async false
set_option linter.all false
set_option maxRecDepth 100000
set_option maxHeartbeats 4000000
namespace TL
open PySem PySem.Spec PyProof.Rows L2
section
variable {X : Cx} {a b c e : Expr} {es : List Expr} {wa wb wc w : WE} {pos : Pos}
def wOIx (i : Nat) (wb : WE) : WE := fun τ Q => match sget τ i with
  | .own ts => wb τ fun y => (match y with | .int k => (match atI ts k with | some t => Q t | none => False) | _ => False)
  | _ => False
def wOLen (i : Nat) : WE := fun τ Q => match sget τ i with | .own ts => Q (.int ts.length) | _ => False
def tONe (i : Nat) : WT := fun τ Q => match sget τ i with | .own ts => Q (!ts.isEmpty) | _ => False
end
end TL
end
section
set_option Elab.async false
set_option linter.all false
set_option maxRecDepth 100000
set_option maxHeartbeats 4000000
namespace TL
open PySem PySem.Spec PyProof.Rows L2
section
variable {X : Cx} {a b c e : Expr} {es : List Expr} {wa wb wc w : WE} {pos : Pos}
def rIxST (x y : T) (Q : T → Prop) : Prop := match x, y with
  | .str z, .int i => z.length ≤ 1000 ∧ (match atI z.cps.toList i with | some c => Q (.str ⟨#[c]⟩) | none => False)
  | _, _ => False
theorem jixS (ha : JE X a wa) (hb : JE X b wb) (hs : PlainIx b := by intro _ _; rfl) : JE X (.Subscript a b pos) (w2 rIxST wa wb) := pe_of (pe_ix ix_seq ha hb hs) (up2 fun t1 t2 v1 v2 H Q0 Q r1 r2 q k => by
  cases t1 <;> cases t2 <;> first | exact q.elim | skip
  rename_i z i
  obtain ⟨hz, q⟩ : z.length ≤ 1000 ∧ (match atI z.cps.toList i with | some c => Q0 (.str ⟨#[c]⟩) | none => False) := q
  cases e : atI z.cps.toList i with
  | none => rw [e] at q; exact q.elim
  | some c =>
    rw [e] at q
    exact .inr (.inr ⟨z, i, c, rep_str.mp r1, rep_int.mp r2, few hz, e, k _ _ H (.refl H) (rep_str.mpr rfl) q⟩))
def rAddST (x y : T) (Q : T → Prop) : Prop := match x, y with
  | .str i, .str j => i.length + j.length ≤ 1000 ∧ Q (.str (i ++ j))
  | _, _ => False
theorem b_addS : BR X .Add rAddST := ⟨_, op_add_str, fun t1 t2 v1 v2 H Q0 Q r1 r2 q k => by
  cases t1 <;> cases t2 <;> first | exact q.elim | skip
  rename_i i j
  obtain ⟨hz, q⟩ : i.length + j.length ≤ 1000 ∧ Q0 (.str (i ++ j)) := q
  exact ⟨i, j, rep_str.mp r1, rep_str.mp r2, few hz, k _ _ H (.refl H) (rep_str.mpr rfl) q⟩⟩
def repS (z : Str) (n : Int) : Str := if n < 1 then Str.empty else if (n == 1 || z.length == 0) = true then z else ⟨(List.replicate n.toNat z.cps).foldl (· ++ ·) #[]⟩
def rMulST (x y : T) (Q : T → Prop) : Prop := match x, y with
  | .str z, .int n => z.length ≤ 1 ∧ 0 ≤ n ∧ n ≤ 1000 ∧ Q (.str (repS z n))
  | _, _ => False
theorem op_mulS : OpR X (binaryOp .Mult) (fun x y H Q => ∃ z n, x = .str z ∧ y = .int n ∧ z.length ≤ 1 ∧ 0 ≤ n ∧ n ≤ 1000 ∧ Q (.str (repS z n)) H) := by
  intro pins s σ H x y v u Q I rx ry h
  obtain ⟨z, n, rfl, rfl, hz, h0, h1, q⟩ := h
  obtain ⟨t, rfl⟩ := rx
  obtain ⟨t', rfl⟩ := ry
  have e1 : decide (n < -(2 ^ 63 : Int)) = false := decide_eq_false (by omega)
  have e2 : decide (n ≥ 2 ^ 63) = false := decide_eq_false (by omega)
  have line : 1000 ≤ sizeLine := few (Nat.le_refl _)
  refine PySem.P.mul_str (by rw [e1, e2]; rfl) (fun _ _ => ?_) (fun _ _ => ?_) ?_
  · have : (1000 : Int) ≤ (2 ^ 63 - 1) / n := by
      have hn : 0 < n := by omega
      have := Int.le_ediv_of_mul_le hn (show (1000 : Int) * n ≤ 2 ^ 63 - 1 by omega)
      exact this
    omega
  · have : z.length * n.toNat ≤ 1000 := by
      have : z.length * n.toNat ≤ 1 * n.toNat := Nat.mul_le_mul_right _ hz
      omega
    unfold Builtin.Str.tooLong
    simp only [decide_eq_false_iff_not]
    omega
  · unfold repS at q
    split
    · rename_i hn
      rw [if_pos hn] at q
      exact ⟨by decide, .str _, H, I.tok _, ⟨_, rfl⟩, q⟩
    · rename_i hn
      rw [if_neg hn] at q
      split
      · rename_i hc
        rw [if_pos hc] at q
        exact ⟨.str z, H, I, ⟨_, rfl⟩, q⟩
      · rename_i hc
        rw [if_neg hc] at q
        refine ⟨?_, .str _, H, I.tok _, ⟨_, rfl⟩, q⟩
        have e := len_reps z.cps n.toNat #[]
        show (List.foldl (fun x1 x2 => x1 ++ x2) #[] (List.replicate n.toNat z.cps)).size ≤ sizeLine
        have hz' : z.cps.size ≤ 1 := hz
        have : n.toNat * z.cps.size ≤ n.toNat * 1 := Nat.mul_le_mul_left _ hz'
        simp only [Array.size_empty, Nat.zero_add] at e
        rw [e]
        omega
theorem b_mulS : BR X .Mult rMulST := ⟨_, op_mulS, fun t1 t2 v1 v2 H Q0 Q r1 r2 q k => by
  cases t1 <;> cases t2 <;> first | exact q.elim | skip
  rename_i z n
  obtain ⟨hz, h0, h1, q⟩ : z.length ≤ 1 ∧ 0 ≤ n ∧ n ≤ 1000 ∧ Q0 (.str (repS z n)) := q
  exact ⟨z, n, rep_str.mp r1, rep_int.mp r2, hz, h0, h1, k _ _ H (.refl H) (rep_str.mpr rfl) q⟩⟩
def tTruT (wa : WE) : WT := fun τ Q => wa τ fun x => match x with | .bl k => Q k | .lst ts => Q (!ts.isEmpty) | _ => False
theorem ttru (ha : JE X a wa) (he : ∀ whole, isTrue a X.env whole = (do let v ← whole; standAt a.pos; holding [v] (truthy v)) := by intro _; rfl) : JT X a (tTruT wa) :=
  pt_of (pt_truth ha he) fun σ H Q ⟨τ, Q0, R, hw, k⟩ => ⟨τ, _, R, hw, fun t v H1 S1 r q => by
    cases t <;> first | exact q.elim | skip
    · rename_i b
      rw [rep_bl] at r
      subst r
      exact ⟨b, rfl, k _ H1 S1 q⟩
    · rename_i ts
      rw [rep_lst] at r
      obtain ⟨p, vs, rfl, sq, rr⟩ := r
      refine ⟨!vs.isEmpty, .inl ⟨vs, sq.sq, rfl⟩, ?_⟩
      have e : (!vs.isEmpty) = !ts.isEmpty := by
        have := rr.length
        cases vs <;> cases ts <;> simp_all
      rw [e]
      exact k _ H1 S1 q⟩
def strsOf : List T → Option (List Str)
  | [] => some []
  | .str z :: r => (strsOf r).map (z :: ·)
  | _ => none
theorem strsOf_eq : ∀ {ts : List T} {zs : List Str}, strsOf ts = some zs → ts = zs.map T.str
  | [], zs, h => by simp only [strsOf, Option.some.injEq] at h; subst h; rfl
  | t :: r, zs, h => by
    cases t <;> simp only [strsOf, reduceCtorEq] at h
    rename_i z
    cases e : strsOf r with
    | none => rw [e] at h; cases h
    | some us =>
      rw [e] at h
      simp only [Option.map_some, Option.some.injEq] at h
      subst h
      rw [strsOf_eq e]
      rfl
theorem strsOf_map (zs : List Str) : strsOf (zs.map T.str) = some zs := by
  induction zs with
  | nil => rfl
  | cons z r ih => simp only [List.map_cons, strsOf, ih, Option.map_some]
theorem reps_strs {K : PySem.W.Frag} {H : Hp} : ∀ zs : List Str, Reps K H (zs.map T.str) (zs.map V.str)
  | [] => reps_nil.mpr rfl
  | z :: r => reps_cons.mpr ⟨_, _, rfl, rep_str.mpr rfl, reps_strs r⟩
theorem reps_strs_inv {K : PySem.W.Frag} {H : Hp} : ∀ {zs : List Str} {vs : List V}, Reps K H (zs.map T.str) vs → vs = zs.map V.str
  | [], vs, r => by rw [List.map_nil, reps_nil] at r; exact r
  | z :: zs, vs, r => by
    rw [List.map_cons, reps_cons] at r
    obtain ⟨v, vr, rfl, r1, r2⟩ := r
    rw [rep_str.mp r1, reps_strs_inv r2]
    rfl
def cInT (x y : T) (Q : Bool → Prop) : Prop := match x, y with
  | .str z, .lst ts => (match strsOf ts with | some zs => Q (zs.contains z) | none => False)
  | .int z, .lst ts => (match intsOf ts with | some zs => Q (zs.contains z) | none => False)
  | _, _ => False
def cNotInT (x y : T) (Q : Bool → Prop) : Prop := match x, y with
  | .str z, .lst ts => (match strsOf ts with | some zs => Q (!zs.contains z) | none => False)
  | .int z, .lst ts => (match intsOf ts with | some zs => Q (!zs.contains z) | none => False)
  | _, _ => False
theorem strsAre_of : ∀ {zs : List Str} {us : List Value}, Vals (zs.map V.str) us → StrsAre us zs
  | [], us, h => by cases h; exact .nil
  | z :: zs, us, h => by
    simp only [List.map_cons] at h
    cases h with
    | cons r1 r2 => obtain ⟨t, rfl⟩ := r1; exact .cons z t (strsAre_of r2)
theorem vals_strs : ∀ {us : List Value} {zs : List Str}, StrsAre us zs → Vals (zs.map V.str) us
  | _, _, .nil => .nil
  | _, _, .cons y t r => .cons ⟨t, rfl⟩ (vals_strs r)
theorem call_sortedS : CallR X (.builtin "sorted") (fun xs H Q => ∃ (p : Addr) (zs : List Str), xs = [.ref p] ∧ SqL X.K H p (zs.map V.str) ∧ zs.length < 64 ∧ ∀ us : List Str, us.Perm zs → sortedS us = true → ∀ l o, H l = none → Q (.ref l) (upd H l (.frz o (.lst (us.map V.str))))) := by
  intro pins s σ H xs us Q I r h
  obtain ⟨p, zs, rfl, hq, hl, q⟩ := h
  obtain ⟨u, rfl, rx⟩ := vals1 r
  cases rx
  obtain ⟨its, r', pl, hz⟩ := I.list hq
  have hS := strsAre_of r'
  have n1 : its.length = zs.length := by rw [← r'.length, List.length_map]
  refine sorted_strs (vs := its) pl.isList hS (by omega) fun out ss' h1 h2 h3 => ?_
  obtain ⟨en, he⟩ := sortedAll_at s.heap its out
  have hn : H (s.heap.objs.size + 1) = none := I.hok.fresh (Nat.le_succ _)
  have hlen : out.toList.length ≤ sizeLine := by
    have a1 := (vals_strs h1).length
    have a2 := h2.length_eq
    rw [List.length_map] at a1
    have a3 : (64 : Nat) ≤ sizeLine := Nat.le_trans (by decide) (few (Nat.le_refl 1000))
    omega
  refine ⟨.ref (s.heap.objs.size + 1), upd H (s.heap.objs.size + 1) (.frz (seqObj "list" out en) (.lst (ss'.map V.str))), I.laid (t' := s.toks) (fun b u e => sortedAll_old e) (Nat.le_succ _) ?_, rfl, q ss' h2 h3 _ _ hn⟩
  refine ⟨he, by rw [(vals_strs h1).length]; exact hlen, out.toList, en, vals_strs h1, ?_⟩
  exact he
def rSortT (ts : List T) (Q : T → Prop) : Prop := match ts with
  | [.lst xs] => (match strsOf xs with | some zs => zs.length < 64 ∧ ∀ us : List Str, us.Perm zs → sortedS us = true → Q (.lst (us.map T.str)) | none => False)
  | _ => False
theorem bl_sorted : BlR X (.builtin "sorted") rSortT := by
  refine ⟨_, call_sortedS, fun ts vs H Q0 Q r q k => ?_⟩
  unfold rSortT at q
  split at q
  · obtain ⟨v, rfl, r1⟩ := reps1 r
    split at q
    · rename_i zs e
      rw [strsOf_eq e, rep_lst] at r1
      obtain ⟨p, ys, rfl, sq, rr⟩ := r1
      rw [reps_strs_inv rr] at sq
      refine ⟨p, zs, rfl, sq.sq, q.1, fun us hp hs l o hl => k _ _ _ (same_new hl _) (rep_lst.mpr ⟨l, _, rfl, .inl ⟨o, upd_same⟩, reps_strs us⟩) (q.2 us hp hs)⟩
    · exact q.elim
  · exact q.elim
end
end TL
end
section
set_option maxRecDepth 100000
set_option maxHeartbeats 4000000
set_option linter.all false
namespace TL
open PySem PySem.Spec PyProof.Rows L2
section
variable {X : Cx}
end
end TL
namespace TL
open PySem PySem.Spec PyProof.Rows L2
section
end
end TL
namespace TL
open PySem PySem.Spec PyProof.Rows L2
section
variable {X : Cx}
end
end TL
namespace TL
open PySem PySem.Spec PyProof.Rows L2
section
variable {X : Cx}
end
end TL
end
section
set_option Elab.async false
set_option linter.all false
set_option maxRecDepth 100000
set_option maxHeartbeats 4000000
namespace TL
open PySem PySem.Spec PyProof.Rows L2
section
variable {X : Cx} {a b c e : Expr} {es : List Expr} {wa wb wc w : WE} {pos : Pos}
end
end TL
end
section
set_option Elab.async false
set_option linter.all false
set_option maxRecDepth 100000
set_option maxHeartbeats 4000000
namespace TL
open PySem PySem.Spec PyProof.Rows L2
section
variable {prog : Program} {w : World} {A : Around} {E : Value → Shared → Prop} {s : Shared}
end
section
variable {X : Cx} {a b e : Expr} {wa wb : WE} {pos : Pos}
def prT (p : Int × T) : T := .tup [.int p.1, p.2]
def wDIx (wa wb : WE) : WE := fun τ Q => wa τ fun x => ∃ ps : List (Int × T), x = .lst (ps.map prT) ∧ (ps.map (·.1)).Nodup ∧ wb τ fun y => ∃ i t, y = .int i ∧ (i, t) ∈ ps ∧ Q t
def sDic (i : Nat) (wa : WE) : WS := fun D τ => wa τ fun x => ∃ ps : List (Int × T), x = .lst (ps.map prT) ∧ (ps.map (·.1)).Nodup ∧ D.nx (sput τ i (.dic ps))
def wDis (i : Nat) (wb : WE) : WE := fun τ Q => match sget τ i with
  | .dic ps => (ps.map (·.1)).Nodup ∧ wb τ fun y => ∃ j t, y = .int j ∧ (j, t) ∈ ps ∧ Q t
  | _ => False
def tNinD (i : Nat) (wa : WE) : WT := fun τ Q => wa τ fun y => match y, sget τ i with | .int j, .dic ps => Q (!decide (j ∈ ps.map (·.1))) | _, _ => False
def wRepL (ws : WA) (wb : WE) : WE := fun τ Q => ws τ fun ts => ts.length ≤ 1000 ∧ wb τ fun y => ∃ k : Nat, y = .int k ∧ k ≤ 1000 ∧ ts.length * k ≤ 1000 ∧ Q (.lst (List.replicate k ts).flatten)
end
end TL
end
section
set_option Elab.async false
set_option linter.all false
set_option maxRecDepth 100000
set_option maxHeartbeats 4000000
namespace TL
open PySem PySem.Spec PyProof.Rows L2
section
variable {X : Cx} {a b e : Expr} {wa wb : WE} {pos : Pos}
def rJoinT (sep : Str) (y : T) (Q : T → Prop) : Prop := match y with
  | .lst ts => (match strsOf ts with | some zs => (zs.map (·.length)).sum + zs.length * sep.length ≤ 16777216 ∧ Q (.str (Txt.join sep zs)) | none => False)
  | _ => False
def wJoin (wa wb : WE) : WE := fun τ Q => wa τ fun x => match x with
  | .str sep => wb τ fun y => rJoinT sep y Q
  | _ => False
def rStrT (ts : List T) (Q : T → Prop) : Prop := match ts with
  | [.str z] => Q (.str z)
  | [.int i] => i.natAbs < 2 ^ 64 ∧ Q (.str (Str.ofString (toString i)))
  | _ => False
def rLenST (ts : List T) (Q : T → Prop) : Prop := match ts with
  | [.str z] => z.length ≤ 1000 ∧ Q (.int z.length)
  | _ => False
def wSlS (wa : WE) (wl wh : WO) : WE := fun τ Q => wa τ fun x => wl τ fun lo => wh τ fun hi => match x with | .str z => z.length ≤ 1000 ∧ Q (.str (Txt.slice z lo hi)) | _ => False
def rAddAT (x y : T) (Q : T → Prop) : Prop := match x, y with
  | .int i, .int j => Q (.int (i + j))
  | .tup xs, .tup ys => xs.length + ys.length ≤ 1000 ∧ Q (.tup (xs ++ ys))
  | .lst xs, .lst ys => xs.length + ys.length ≤ 1000 ∧ Q (.lst (xs ++ ys))
  | .str i, .str j => i.length + j.length ≤ 1000 ∧ Q (.str (i ++ j))
  | _, _ => False
theorem Inv.unfreeze {pins : List (Addr × Obj)} {σ : St} {H : Hp} {s : Shared} {p : Addr} {o : Obj} {xs : List V} (I : Inv X pins σ H s) (h : H p = some (.frz o (.lst xs))) (h0 : X.H₀ p = none) : Inv X pins σ (upd H p (.lst xs)) s := by
  have nn : ∀ {b : Addr}, H b = none → b ≠ p := fun q z => by subst z; rw [h] at q; cases q
  have n0 : ∀ {b : Addr} {u : HO}, X.H₀ b = some u → b ≠ p := fun q z => by subst z; rw [h0] at q; cases q
  refine ⟨I.ok, I.os, I.bare, ⟨I.base.keep, I.base.slot, fun b o q n hx => ?_, I.base.there, fun b ys q => ?_, fun b o u q => ?_, fun b ps q => ?_⟩, I.loc, I.cell, ?_, fun x c q => ?_, fun q hq => ?_, fun b ob q => ?_, I.len⟩
  · have := I.base.free b o q n hx
    rw [upd_ne (nn this)]; exact this
  · rw [upd_ne (n0 q)]; exact I.base.tups b ys q
  · rw [upd_ne (n0 q)]; exact I.base.frzs b o u q
  · obtain ⟨more, e⟩ := I.base.tbls b ps q
    exact ⟨more, by rw [upd_ne (n0 q)]; exact e⟩
  · rw [upd_ne (nn I.free)]; exact I.free
  · rw [upd_ne (nn (I.freeC x c q))]; exact I.freeC x c q
  · obtain ⟨a1, a2, a3⟩ := I.pin q hq
    exact ⟨a1, by rw [upd_ne (nn a2)]; exact a2, a3⟩
  · by_cases hb : b = p
    · subst hb
      rw [upd_same] at q
      cases q
      obtain ⟨_, z⟩ := I.hok _ _ h
      exact z
    · rw [upd_ne hb] at q
      refine (I.hok b ob q).stay (fun c v _ q => q) (fun c q => ?_) fun c ys q => ?_
      · rw [upd_ne (by rintro rfl; rw [h] at q; cases q)]; exact q
      · rw [upd_ne (by rintro rfl; rw [h] at q; cases q)]; exact q
def sOwnC (i : Nat) (w : WE) : WS := fun D τ => w τ fun t => match t with | .lst ts => D.nx (sput τ i (.own ts)) | _ => False
theorem jsetcO {elt target iter : Expr} {ifs : List Expr} {scope sc0 : Scope} {tn N0 : List Str} {fr : List (Str × Nat)} {wi : WI} {g : TGt} {ut : WT} {we : WE} {i : Nat} {x : Str} {pos' spos : Pos} (hN : X.N.Nodup) (hiN : X.N[i]? = some x) (hx : Loc X.env.scope x)
    (hsc : X.env.scope = sc0) (hN0 : X.N = N0) (hc : X.calm = true)
    (hi : JI X target iter wi) (hk : scope.kind = .function) (hk0 : sc0.kind = .function)
    (hnames : (scope.names.all fun x => x.2 != .local || scope.names.lookup x.1 == some .local) = true) (hcell : (scope.names.all fun x => x.2 != .cell) = true)
    (hfree : (scope.names.all fun x => x.2 != .free || sc0.names.lookup x.1 == some .cell) = true)
    (hfr : (fr.all fun p => (sc0.names.lookup p.1 == some .cell && scope.names.lookup p.1 == some .free) && N0[p.2]? == some p.1) = true)
    (hg : ∀ cl C s3 H2 ex, JG (compCx X (tn ++ fr.map (·.1)) scope cl C s3 H2 ex) target g) (hu : ∀ cl C s3 H2 ex, JTs (compCx X (tn ++ fr.map (·.1)) scope cl C s3 H2 ex) ifs ut)
    (he : ∀ cl C s3 H2 ex, JE (compCx X (tn ++ fr.map (·.1)) scope cl C s3 H2 ex) elt we)
    (hs : ∀ x, foldedSetIterable iter X.env x = pure x := by intro _; rfl)
    (hsw : swapsWith (.ListComp elt [⟨target, iter, ifs, 0⟩] scope pos) (some (.Name x pos')) spos.line X.env = pure true := by rfl)
    (hf : X.fn x = true ∨ X.env.scope.names.lookup x = some .local := by first | exact .inl rfl | exact .inr rfl | assumption) :
    JS X (.Assign [.Name x pos'] (.ListComp elt [⟨target, iter, ifs, 0⟩] scope pos) spos) (sOwnC i (wComp wi g ut we tn.length (fr.map (·.2)))) := by
  intro pins s σ H D I ⟨τ, D0, R0, hw, k, _⟩
  rw [exec_Assign_Name_used _ _ _ _ hsw]
  refine wpAny_bind (wpAny_standAt (wpAny_bind ?_))
  rw [arm_evalThenUse_ListComp]
  dsimp only
  refine wpAny_bind (wpAny_mono (comp_core (QQ := fun _ s' => SP X pins D .next s') hsc hN0 hc hi.c hk hk0 hnames hcell hfree hfr hg hu he hs (use := some (assign (.Name x pos') X.env)) I R0 hw fun s6 H6 Da C m6 t f I6 fp hn S r q ex => ?_) (fun _ s' h => wpAny_pure (wpAny_pure h)) fun _ _ z => z)
  obtain ⟨H5, o5, vs, ts, rfl, h5, S5, rfl, rr⟩ := ex
  obtain ⟨oC, es, ep, hoC, hdC, hrC⟩ := id hn
  have Ip := I6.pinned (fp := [C]) (fun b hb => by rw [List.mem_singleton.mp hb]; exact fp) fun b hb => by
    rw [List.mem_singleton.mp hb]
    exact ⟨oC, hoC, fun v z => by rw [hdC] at z; cases z⟩
  have gn := pg_name (pos := pos') hN hiN hx hf _ s6 σ (upd H5 Da (.frz o5 (.lst vs))) (.ref Da) (.ref Da) (fun σ' H' => σ' = σ.set i (some (.ref Da)) ∧ H' = upd H5 Da (.frz o5 (.lst vs))) Ip rfl ⟨rfl, rfl⟩
  refine wpAny_mono gn (fun _ s7 h7 => ?_) fun _ _ z => z
  obtain ⟨σ7, H7, I7, rfl, rfl⟩ := h7
  have pC := (I7.pin (C, oC) (List.mem_append_right _ (List.mem_append_right _ (mem_pinsAt (List.mem_singleton.mpr rfl) hoC)))).1
  refine ⟨m6, ⟨oC, es, ep, pC, hdC, hrC⟩, fun h8 hs8 => ?_⟩
  obtain ⟨g1, g2, g3, g4, g5, g6⟩ := fp
  have I8 : Inv X pins (σ.set i (some (.ref Da))) (upd H5 Da (.frz o5 (.lst vs))) s7 := I7.pins_of fun p hp => I7.pin p (List.mem_append_right _ (List.mem_append_left _ hp))
  have I9 := I8.turned (t' := s7.toks) (it := C) (h' := h8) (fun b o hb e => (hs8.2 b hb).trans e) g1 g2 g4 g5 g6
  have I10 := Inv.unfreeze I9 upd_same (R0.same.free (S5.free h5))
  rw [upd_upd] at I10
  exact ⟨_, _, I10, k _ _ _ (.of (S5.trans (same_new h5 _))) ((R0.mono S5).putOwn h5 rr) q⟩
end
end TL
end
section
set_option Elab.async false
set_option linter.all false
set_option maxRecDepth 100000
set_option maxHeartbeats 4000000
namespace TL
open PySem PySem.Spec PyProof.Rows L2
theorem execs_app : ∀ (a b : List Stmt) (env : Env), execs (a ++ b) env = (execs a env >>= fun f => match f with | .next => execs b env | f => pure f)
  | [], b, env => by rw [List.nil_append, show execs [] env = pure .next from rfl, pure_bind]
  | s :: a, b, env => by
    rw [List.cons_append, show execs (s :: (a ++ b)) env = (exec s env >>= fun f => match f with | .next => execs (a ++ b) env | f => pure f) from rfl, show execs (s :: a) env = (exec s env >>= fun f => match f with | .next => execs a env | f => pure f) from rfl, bind_assoc, execs_app a b env]
    congr 1
    funext f
    cases f <;> simp only [pure_bind]
section
variable {X : Cx} {a b : List Stmt} {t u : TS}
theorem pss_app (h1 : PSs X a t) (h2 : PSs X b u) : PSs X (a ++ b) (tSeq t u) := by
  intro pins s σ H D I h
  show wpAny (model X.prog X.w) X.A (execs (a ++ b) X.env) (SP X pins D) X.xe s
  rw [execs_app]
  refine wpAny_bind (wpAny_mono (h1 pins s σ H _ I h) (fun f s1 q => ?_) fun _ _ z => z)
  cases f with
  | next =>
    obtain ⟨σ1, H1, I1, q⟩ := q
    exact h2 pins s1 σ1 H1 D I1 q
  | brk => exact wpAny_pure q
  | cont => exact wpAny_pure q
  | ret v => exact wpAny_pure q
end
abbrev SpO := List T → (List T → Prop) → Prop
def spO (K : PySem.W.Frag) (n : Nat) (S : SpO) : Sp := fun vs H Q _ => ∃ (ts : List T) (Q0 : List T → Prop), vs.length = n ∧ Reps K H ts vs ∧ S ts Q0 ∧ ∀ us p ws H', Same H H' → H p = none → H' p = some (.lst ws) → Reps K H' us ws → Q0 us → Q (.ref p) H'
structure FnO (P : Program) (w : World) (K : PySem.W.Frag) (mg : Str → Option Value) (base : Heap) (k : Nat) (f : Addr) (fd : FuncData) (ps : List Str) (S : SpO) : Prop where
  ok : FnOk P w K mg base CX0 k f fd ps (spO K ps.length S)
  len : ∀ ts Q, S ts Q → ts.length = ps.length
def endO (i : Nat) (Q : List T → Prop) : DT := { nx := fun τ => match sget τ i with | .own us => Q us | _ => False, rt := fun _ => False }
theorem fnO {P : Program} {w : World} {K : PySem.W.Frag} {mg : Str → Option Value} {base : Heap} {x qual : Str} {st : Stmt} {f : Addr} {fd : FuncData} {N ps : List Str} {k i : Nat} {S : SpO} {W : WS} {ini : List Stmt} {re : Expr} {rpos : Pos} (F : Fun K x qual st f fd) (SC : FnScope N ps (defScope st))
    (hlen : ∀ ts Q, S ts Q → ts.length = ps.length) (hst : defBody st = ini ++ [.Return (some re) rpos])
    (hbody : ∀ (cdv : Value) (A : Around) (outer : List Env) (s : Shared) (H : Hp) (E : XK), Room k (A.deeper (envOfC qual (defScope st) s.heap.objs.size f cdv)) → JSs (cxOf CX0 P w K mg base N qual (defScope st) f cdv A outer s H E).nox ini W ∧ PE (cxOf CX0 P w K mg base N qual (defScope st) f cdv A outer s H E).nox re (tVar i))
    (hw : ∀ ts Q, S ts Q → W (endO i Q) (startT N.length ts)) : FnO P w K mg base (k + 1) f fd ps S := by
  refine ⟨F.ok SC (fun vs H Q E h => ?_) (fun cdv A outer s H vs Q E hr h => ?_), hlen⟩
  · obtain ⟨_, _, e, _⟩ := h
    exact e
  obtain ⟨ts, Q0, e, r, hS, q⟩ := h
  obtain ⟨b1, b2⟩ := hbody cdv A outer s H E hr
  rw [hst]
  refine ⟨_, pss_app b1 (pss_one (ps_ret b2)), startT N.length ts, endO i Q0, repSt_start r, hw ts Q0 hS, fun τ' σ' H' _ R n => ?_, fun t v H' S r' n => n.elim, fun τ' σ' H' _ R n => n.elim, fun τ' σ' H' _ R n => n.elim⟩
  have n' : (match sget τ' i with | .own us => Q0 us | _ => False) := n
  cases own : sget τ' i with
  | own us =>
    rw [own] at n'
    have sl := R.slot i
    rw [own] at sl
    obtain ⟨p, ws, ev, hp, rr, n0⟩ := sl
    exact ⟨.ref p, ev, q us p ws H' R.same n0 hp rr n'⟩
  | _ => rw [own] at n'; exact n'.elim
def CalO (P : Program) (w : World) (K : PySem.W.Frag) (mg : Str → Option Value) (base : Heap) (k : Nat) (x : Str) (ps : List Str) (S : SpO) : Prop :=
  ∃ f fd, FnO P w K mg base k f fd ps S ∧ Binds K fd ps [] ∧ PySem.W.keepIn K (.ref f) = true ∧ mg x = some (.ref f)
theorem CalO.mk {P : Program} {w : World} {K : PySem.W.Frag} {mg : Str → Option Value} {base : Heap} {k : Nat} {x qual : Str} {ps : List Str} {S : SpO} {st : Stmt} {f : Addr} {fd : FuncData} (F : Fun K x qual st f fd) (m : mg x = some (.ref f))
    (b : Binds K fd ps []) (h : FnO P w K mg base k f fd ps S) : CalO P w K mg base k x ps S := ⟨f, fd, h, b, F.kp, m⟩
abbrev frO (S : SpO) : SpT := fun ts Q => S ts fun us => Q (.lst us)
theorem FnO.frz {P : Program} {w : World} {K : PySem.W.Frag} {mg : Str → Option Value} {base : Heap} {k : Nat} {f : Addr} {fd : FuncData} {ps : List Str} {S : SpO} (F : FnO P w K mg base k f fd ps S) : FnT P w K mg base k f fd ps (frO S) := by
  refine ⟨⟨fun vs H Q E ⟨ts, Q0, e, _⟩ => e, fun A outer s H args us vs Q E hr e0 hb hv ⟨ts, Q0, e, r, hS, q⟩ => ?_⟩, fun ts Q h => F.len _ _ h⟩
  refine codeAny_mono (F.ok.run A outer s H args us vs (fun v H' => ∃ zs p ws, v = .ref p ∧ Same H H' ∧ H p = none ∧ H' p = some (.lst ws) ∧ Reps K H' zs ws ∧ Q0 (.lst zs)) E hr e0 hb hv ⟨ts, _, e, r, hS, fun zs p ws H' S1 h0 hp rr n => ⟨zs, p, ws, rfl, S1, h0, hp, rr, n⟩⟩) fun res s' h => ?_
  cases res with
  | error e => exact h
  | ok fl =>
    cases fl with
    | ret u =>
      obtain ⟨v, H', os, bare, un, hok, rv, zs, p, ws, rfl, S1, h0, hp, rr, n⟩ := h
      obtain ⟨z, its, m, rl, eh⟩ := hok p _ hp
      have K1 := Kp.write hp (.frz { cls := .type "list", data := .seq its.toArray m } (.lst ws))
      have ne : ∀ {b : Addr} {o : HO}, H b = some o → b ≠ p := fun q z => by subst z; rw [h0] at q; cases q
      have S2 : Same H (upd H' p (.frz { cls := .type "list", data := .seq its.toArray m } (.lst ws))) := fun b o q' => by rw [upd_ne (ne q')]; exact S1 b o q'
      refine ⟨.ref p, _, os, bare, ⟨un.keep, un.slot, fun b o q' n' hx => ?_, un.there, fun b ys q' => ?_, fun b o u' q' => ?_, fun b ps' q' => ?_⟩, fun b ob q' => ?_, rv, q (.lst zs) (.ref p) _ S2 (rep_lst.mpr ⟨p, ws, rfl, .inl ⟨_, upd_same⟩, rr.kp K1⟩) n⟩
      · have e1 := un.free b o q' n' hx
        rw [upd_ne (by rintro rfl; rw [hp] at e1; cases e1)]
        exact e1
      · rw [upd_ne (ne q')]; exact un.tups b ys q'
      · rw [upd_ne (ne q')]; exact un.frzs b o u' q'
      · obtain ⟨more, e1⟩ := un.tbls b ps' q'
        exact ⟨more, by rw [upd_ne (ne q')]; exact e1⟩
      · by_cases hb : b = p
        · subst hb
          rw [upd_same] at q'
          cases q'
          exact ⟨eh, z, its, m, rl, eh⟩
        · rw [upd_ne hb] at q'
          refine (hok b ob q').stay (fun c v hc q => q) (fun c q => ?_) fun c ys q => ?_
          · rw [upd_ne (by rintro rfl; rw [hp] at q; cases q)]; exact q
          · rw [upd_ne (by rintro rfl; rw [hp] at q; cases q)]; exact q
    | next => exact False.elim h
    | brk => exact False.elim h
    | cont => exact False.elim h
theorem CalO.frz {P : Program} {w : World} {K : PySem.W.Frag} {mg : Str → Option Value} {base : Heap} {k : Nat} {x : Str} {ps : List Str} {S : SpO} (C : CalO P w K mg base k x ps S) : Cal P w K mg base k x ps (frO S) :=
  let ⟨f, fd, F, b, kp, m⟩ := C; ⟨f, fd, F.frz, b, kp, m⟩
theorem RepSt.putOwnS {K : PySem.W.Frag} {H0 H H' : Hp} {σ : St} {τ : List Slot} {i : Nat} {ts : List T} {vs : List V} {p : Addr} (R : RepSt K H0 H σ τ) (S : Same H H') (hp : H p = none) (hp' : H' p = some (.lst vs)) (r : Reps K H' ts vs) : RepSt K H0 H' (σ.set i (some (.ref p))) (sput τ i (.own ts)) := by
  refine ⟨R.same.trans S, by rw [length_sput, List.length_set]; exact R.len, fun j => ?_, fun a b ts' us q hab ha hb ea eb => ?_⟩
  · by_cases hij : i = j
    · subst hij
      by_cases hi : i < τ.length
      · rw [sget_same hi]
        exact ⟨p, vs, List.getElem?_set_self (by rw [← R.len]; exact hi), hp', r, R.same.free hp⟩
      · rw [sget_big (by rw [length_sput]; omega)]
        trivial
    · rw [sget_ne hij, List.getElem?_set_ne hij]
      exact (R.slot j).mono S
  · -- an elder own list stands at a tracked place, the new one did not
    have old : ∀ c ts, i ≠ c → sget (sput τ i (.own ts')) c = .own ts → σ[c]? ≠ some (some (.ref p)) := fun c ts hc hcs e => by
      rw [sget_ne hc] at hcs
      have := R.slot c
      rw [hcs] at this
      obtain ⟨p', vs', e', h1, _⟩ := this
      rw [e] at e'
      cases e'
      rw [hp] at h1
      cases h1
    have isI : ∀ c, i = c → ∀ us, sget (sput τ i (.own ts)) c = .own us → (σ.set i (some (.ref p)))[c]? = some (some (.ref p)) := fun c hc us hcs => by
      subst hc
      by_cases hi : i < τ.length
      · exact List.getElem?_set_self (by rw [← R.len]; exact hi)
      · rw [sget_big (by rw [length_sput]; omega)] at hcs; cases hcs
    by_cases ia : i = a
    · have z := isI a ia _ ha
      rw [z] at ea
      cases ea
      have ib : i ≠ b := fun e => hab (ia.symm.trans e)
      rw [List.getElem?_set_ne ib] at eb
      refine old b us ib ?_ eb
      rw [sget_ne ib] at hb ⊢
      exact hb
    · rw [List.getElem?_set_ne ia] at ea
      by_cases ib : i = b
      · have z := isI b ib _ hb
        rw [z] at eb
        cases eb
        refine old a ts' ia ?_ ea
        rw [sget_ne ia] at ha ⊢
        exact ha
      · rw [List.getElem?_set_ne ib] at eb
        rw [sget_ne ia] at ha
        rw [sget_ne ib] at hb
        exact R.apart a b ts' us q hab ha hb ea eb
section
variable {X : Cx} {e : Expr} {b : Expr} {es : List Expr} {wa wb w : WE} {ws : WA} {pos : Pos}
def sOwnF (i : Nat) (S : SpO) (ws : WA) : WS := fun D τ => ws τ fun ts => S ts fun us => D.nx (sput τ i (.own us))
theorem jsetO {k i : Nat} {ps : List Str} {S : SpO} {x y : Str} {p yp spos : Pos} (hN : X.N.Nodup) (hi : X.N[i]? = some y) (hy : Loc X.env.scope y) (C : CalO X.prog X.w X.K X.mg X.base k x ps S) (hr : Room k X.A) (hg : Gl X x) (ha : JA X (e :: es) ws)
    (hdb : (x == ("__debug__" : Str)) = false := by decide) (he : starEach (e :: es) X.env = (false, eval e X.env) :: starEach es X.env := by exact star1 rfl) (hpl : (backTo pos (starEach es X.env)).any (·.1) = false := by exact stars rfl)
    (hs : swapsWith (.Call (.Name x p) (e :: es) [] pos) (some (.Name y yp)) spos.line X.env = pure false := by rfl) (hf : X.fn y = true ∨ X.env.scope.names.lookup y = some .local := by first | exact .inl rfl | exact .inr rfl | assumption) :
    JS X (.Assign [.Name y yp] (.Call (.Name x p) (e :: es) [] pos) spos) (sOwnF i S ws) := by
  obtain ⟨f, fd, F, hb, hk, hm⟩ := C
  refine ps_of (ps_set hN hi hy (pe_call F.ok hr hg hm hk hb .nil pass0 ha hdb he hpl) hs hf) fun D σ H ⟨τ, D0, R, hw, kn, _⟩ => ?_
  refine ⟨τ, _, R, hw, fun ts vs H1 S1 r1 q1 => ?_⟩
  have e0 : vs ++ [] = vs := List.append_nil vs
  show spO X.K ps.length S (vs ++ []) H1 _ E0
  rw [e0]
  exact ⟨ts, _, by rw [r1.length]; exact F.len _ _ q1, r1, q1, fun us q ws' H' S2 h0 hp rr n => kn _ _ H' (.of (S1.trans S2)) ((R.mono S1).putOwnS S2 h0 hp rr) n⟩
def sSetIx (i : Nat) (wb wa : WE) : WS := fun D τ => match sget τ i with
  | .own ts => wa τ fun t => wb τ fun y => (match y with | .int k => (match ixN ts.length k with | some j => D.nx (sput τ i (.own (ts.set j t))) | none => False) | _ => False)
  | _ => False
theorem Reps.set {K : PySem.W.Frag} {H : Hp} {t : T} {v : V} (r : Rep K H t v) : ∀ {ts : List T} {vs : List V} {j : Nat}, Reps K H ts vs → Reps K H (ts.set j t) (vs.set j v)
  | [], vs, j, h => by
    rw [reps_nil] at h
    subst h
    exact reps_nil.mpr rfl
  | x :: ts, vs, j, h => by
    rw [reps_cons] at h
    obtain ⟨u, us, rfl, h1, h2⟩ := h
    cases j with
    | zero => exact reps_cons.mpr ⟨_, _, rfl, r, h2⟩
    | succ j => exact reps_cons.mpr ⟨_, _, rfl, h1, Reps.set r h2⟩
def sCatO (i j : Nat) (ws : WA) : WS := fun D τ => match sget τ j with
  | .own ts => ws τ fun us => us.length ≤ 1000 ∧ ts.length + us.length ≤ 1000 ∧ D.nx (sput τ i (.own (ts ++ us)))
  | _ => False
def iOwn (i : Nat) : WI := fun τ Q => match sget τ i with | .own ts => Q ts | _ => False
end
end TL
namespace TL
open PySem PySem.Spec PyProof.Rows L2
mutual
def noL : T → Bool
  | .non | .bl _ | .int _ | .str _ => true
  | .tup ts => noLs ts
  | _ => false
def noLs : List T → Bool
  | [] => true
  | t :: ts => noL t && noLs ts
end
mutual
theorem Rep.noL {K : PySem.W.Frag} {H H' : Hp} (k : ∀ a xs, SqT K H a xs → SqT K H' a xs) : ∀ {t : T} {v : V}, TL.noL t = true → Rep K H t v → Rep K H' t v
  | .non, v, _, h => by rw [rep_non] at h ⊢; exact h
  | .bl b, v, _, h => by rw [rep_bl] at h ⊢; exact h
  | .int i, v, _, h => by rw [rep_int] at h ⊢; exact h
  | .str x, v, _, h => by rw [rep_str] at h ⊢; exact h
  | .tup ts, v, n, h => by
    rw [rep_tup] at h ⊢
    obtain ⟨p, vs, e, s, r⟩ := h
    exact ⟨p, vs, e, k p vs s, Reps.noL k (by rw [TL.noL] at n; exact n) r⟩
  | .lst ts, v, n, h => by simp [TL.noL] at n
  | .dct, v, n, h => by simp [TL.noL] at n
  | .exc c, v, n, h => by simp [TL.noL] at n
  | .exf c f t, v, n, h => by simp [TL.noL] at n
theorem Reps.noL {K : PySem.W.Frag} {H H' : Hp} (k : ∀ a xs, SqT K H a xs → SqT K H' a xs) : ∀ {ts : List T} {vs : List V}, TL.noLs ts = true → Reps K H ts vs → Reps K H' ts vs
  | [], vs, _, h => by rw [reps_nil] at h ⊢; exact h
  | t :: ts, vs, n, h => by
    rw [reps_cons] at h ⊢
    obtain ⟨v, r, e, h1, h2⟩ := h
    rw [TL.noLs, Bool.and_eq_true] at n
    exact ⟨v, r, e, Rep.noL k n.1 h1, Reps.noL k n.2 h2⟩
end
section
variable {X : Cx}
theorem sqT_thaw {K : PySem.W.Frag} {H : Hp} {p : Addr} {o : Obj} {vs : List V} (h : H p = some (.frz o (.lst vs))) : ∀ a xs, SqT K H a xs → SqT K (upd H p (.lst vs)) a xs := by
  intro a xs q
  rcases q with q | q
  · refine .inl ?_
    by_cases e : a = p
    · subst e
      rcases q with q | ⟨o', q⟩ <;> (rw [h] at q; cases q)
    · rcases q with q | ⟨o', q⟩
      · exact .inl (by rw [upd_ne e]; exact q)
      · exact .inr ⟨o', by rw [upd_ne e]; exact q⟩
  · exact .inr q
theorem same_thaw {H H2 : Hp} {p : Addr} {o : Obj} {vs : List V} (hp : H p = some (.lst vs)) (S : Same (upd H p (.frz o (.lst vs))) H2) : Same H (upd H2 p (.lst vs)) := fun b ob q => by
  by_cases e : b = p
  · subst e
    rw [upd_same]
    rw [hp] at q
    exact q
  · rw [upd_ne e]
    exact S b ob (by rw [upd_ne e]; exact q)
def wFz (i : Nat) (w : WE) : WE := fun τ Q => match sget τ i with
  | .own ts => w (sput τ i (.val (.lst ts))) fun t => TL.noL t = true ∧ Q t
  | _ => False
theorem jfzE (i : Nat) {e : Expr} {w : WE} (h : JE X e w) : JE X e (wFz i w) := by
  intro pins s σ H Q I ⟨τ, Q0, R, hw, k⟩
  unfold wFz at hw
  cases own : sget τ i with
  | own ts =>
    rw [own] at hw
    have sl := R.slot i
    rw [own] at sl
    obtain ⟨p, vs, ev, hp, rr, n0⟩ := sl
    obtain ⟨o, I'⟩ := Inv.freeze I hp
    refine thn (h pins s σ _ (fun v H2 => ∃ t, Same (upd H p (.frz o (.lst vs))) H2 ∧ Rep X.K H2 t v ∧ TL.noL t = true ∧ Q0 t) I' ⟨_, _, R.freeze own ev hp rr, hw, fun t v H2 S2 r2 q2 => ⟨t, S2, r2, q2.1, q2.2⟩⟩) fun u s' ⟨v, H2, I2, rv, t, S2, r2, nl, q2⟩ => ?_
    have hp2 : H2 p = some (.frz o (.lst vs)) := S2 _ _ upd_same
    exact ⟨v, _, Inv.unfreeze I2 hp2 n0, rv, k t v _ (same_thaw hp S2) (Rep.noL (sqT_thaw hp2) nl r2) q2⟩
  | _ => rw [own] at hw; exact hw.elim
def tFz (i : Nat) (w : WT) : WT := fun τ Q => match sget τ i with
  | .own ts => w (sput τ i (.val (.lst ts))) Q
  | _ => False
theorem jfzT (i : Nat) {e : Expr} {w : WT} (h : JT X e w) : JT X e (tFz i w) := by
  intro pins s σ H Q I ⟨τ, Q0, R, hw, k⟩
  unfold tFz at hw
  cases own : sget τ i with
  | own ts =>
    rw [own] at hw
    have sl := R.slot i
    rw [own] at sl
    obtain ⟨p, vs, ev, hp, rr, n0⟩ := sl
    obtain ⟨o, I'⟩ := Inv.freeze I hp
    refine thn (h pins s σ _ (fun b H2 => Same (upd H p (.frz o (.lst vs))) H2 ∧ Q0 b) I' ⟨_, _, R.freeze own ev hp rr, hw, fun t H2 S2 q2 => ⟨S2, q2⟩⟩) fun u s' ⟨H2, I2, S2, q2⟩ => ?_
    have hp2 : H2 p = some (.frz o (.lst vs)) := S2 _ _ upd_same
    exact ⟨_, Inv.unfreeze I2 hp2 n0, k _ _ (same_thaw hp S2) q2⟩
  | _ => rw [own] at hw; exact hw.elim
def vat1 (v : V) : Slot → Slot
  | .val t => .vat t v
  | .vat t u => .vat t u
  | _ => .no
def vatT (i : Nat) (ts : List T) (a : Nat → V) : Nat → List Slot → List Slot
  | _, [] => []
  | n, s :: r => (if n = i then .vat (.lst ts) (a n) else vat1 (a n) s) :: vatT i ts a (n + 1) r
def backT (Z : List Nat) : Nat → List Slot → List Slot
  | _, [] => []
  | n, s :: r => (if n ∈ Z then .no else s) :: backT Z (n + 1) r
def lone1 : Slot → Bool
  | .no => true
  | .val _ => true
  | .vat _ _ => true
  | _ => false
def lone (i : Nat) : Nat → List Slot → Bool
  | _, [] => true
  | n, s :: r => (decide (n = i) || lone1 s) && lone i (n + 1) r
def sFzS (i : Nat) (Z : List Nat) (w : WS) : WS := fun D τ => match sget τ i with
  | .own ts => lone i 0 τ = true ∧ i ∉ Z ∧ ∀ a : Nat → V, w { nx := fun τ' => (τ'.length = τ.length ∧ ∀ j, j < τ.length → j ∉ Z → sget τ' j = sget (vatT i ts a 0 τ) j) ∧ D.nx (backT Z 0 τ), rt := D.rt, bk := fun _ => False, ct := fun _ => False } (vatT i ts a 0 τ)
  | _ => False
end
section
variable {X : Cx} {a b c e : Expr} {es : List Expr} {wa wb wc w : WE} {ws : WA} {pos : Pos}
def rMulLT (x y : T) (Q : T → Prop) : Prop := match x, y with
  | .lst ts, .int n => ∃ k : Nat, n = k ∧ k ≤ 1000 ∧ ts.length * k ≤ 1000 ∧ Q (.lst (List.replicate k ts).flatten)
  | _, _ => False
def lstQ (Q : List T → Prop) : T → Prop := fun t => match t with | .lst us => Q us | _ => False
def JF (X : Cx) (e : Expr) (w : WE) : Prop := PE X e fun σ H Q => ∃ τ Q0, RepSt X.K X.H₀ H σ τ ∧ w τ (lstQ Q0) ∧ ∀ us p ws H', Same H H' → X.H₀ p = none → H p = none → H' p = some (.lst ws) → Reps X.K H' us ws → Q0 us → Q (.ref p) H'
end
section
variable {X : Cx} {a b c e : Expr} {es : List Expr} {wa wb wc w : WE} {ws : WA} {pos : Pos}
def rCountTs (ts us : List T) (Q : T → Prop) : Prop := match us with
  | [.int k] => (match intsOf ts with | some ns => Q (.int (ns.count k : Nat)) | none => False)
  | _ => False
def wCount (wa : WE) (ws : WA) : WE := fun τ Q => wa τ fun x => match x with
  | .lst ts => ws τ fun us => rCountTs ts us Q
  | _ => False
def cInTT (x y : T) (Q : Bool → Prop) : Prop := match x, y with
  | .str z, .tup ts => (match strsOf ts with | some zs => Q (zs.contains z) | none => False)
  | _, _ => False
end
end TL
end
section
set_option Elab.async false
set_option linter.all false
set_option maxRecDepth 100000
set_option maxHeartbeats 4000000
namespace TL
open PySem PySem.Spec PyProof.Rows L2
open Classical in
noncomputable def hidH (H : Hp) (F : Addr → Prop) : Hp := fun b => if F b then none else H b
theorem hid_in {H : Hp} {F : Addr → Prop} {b : Addr} (h : F b) : hidH H F b = none := if_pos h
theorem hid_out {H : Hp} {F : Addr → Prop} {b : Addr} (h : ¬ F b) : hidH H F b = H b := if_neg h
theorem hid_some {H : Hp} {F : Addr → Prop} {b : Addr} {o : HO} (h : hidH H F b = some o) : ¬ F b ∧ H b = some o := by
  by_cases z : F b
  · rw [hid_in z] at h; cases h
  · exact ⟨z, by rw [hid_out z] at h; exact h⟩
theorem hid_same (H : Hp) (F : Addr → Prop) : Same (hidH H F) H := fun b o q => (hid_some q).2
theorem hid_mono {H H' : Hp} {F F' : Addr → Prop} (S : Same H H') (h : ∀ b, F' b → F b ∨ H b = none) : Same (hidH H F) (hidH H' F') := fun b o q => by
  obtain ⟨n, e⟩ := hid_some q
  rw [hid_out fun z => ?_]
  · exact S b o e
  · rcases h b z with z | z
    · exact n z
    · rw [e] at z; cases z
theorem hid_upd {H : Hp} {F : Addr → Prop} {q : Addr} {o : HO} (h : F q) : hidH (upd H q o) F = hidH H F := by
  funext b
  by_cases z : F b
  · rw [hid_in z, hid_in z]
  · rw [hid_out z, hid_out z, upd_ne fun e => z (by rw [e]; exact h)]
def LikeT (K : PySem.W.Frag) (H H' : Hp) : Prop := ∀ a xs, SqT K H a xs → SqT K H' a xs
theorem LikeT.same {K : PySem.W.Frag} {H H' : Hp} (S : Same H H') : LikeT K H H' := fun a xs h => by
  rcases h with (h | ⟨o, h⟩) | h
  · exact .inl (.inl (S _ _ h))
  · exact .inl (.inr ⟨o, S _ _ h⟩)
  · exact .inr h
theorem LikeT.but {K : PySem.W.Frag} {H H' : Hp} {F : Addr → Prop} (hF : ∀ q, F q → (∃ ws, H q = some (.lst ws)) ∨ ∃ o ws, H q = some (.frz o (.lst ws))) (h : ∀ b, ¬ F b → H' b = H b) : LikeT K H H' := fun a xs q => by
  have n : ∀ u, H a = some u → (∀ ws, u ≠ .lst ws) → (∀ o ws, u ≠ .frz o (.lst ws)) → ¬ F a := fun u e n1 n2 z => by
    rcases hF a z with ⟨ws, e'⟩ | ⟨o, ws, e'⟩
    · rw [e'] at e; cases e; exact n1 ws rfl
    · rw [e'] at e; cases e; exact n2 o ws rfl
  rcases q with (q | ⟨o, q⟩) | q
  · exact .inl (.inl (by rw [h a (n _ q (fun _ z => by cases z) (fun _ _ z => by cases z))]; exact q))
  · exact .inl (.inr ⟨o, by rw [h a (n _ q (fun _ z => by cases z) (fun _ _ z => by cases z))]; exact q⟩)
  · exact .inr q
abbrev rawL (H : Hp) (q : Addr) (ws : List V) : Prop := H q = some (.lst ws)
abbrev frzL (H : Hp) (q : Addr) (ws : List V) : Prop := ∃ o, H q = some (.frz o (.lst ws))
inductive OTs (K : PySem.W.Frag) (H : Hp) (L : Addr → List V → Prop) : List T → List V → List Addr → Prop
  | nil : OTs K H L [] [] []
  | plain {t : T} {v : V} {ts : List T} {vs : List V} {F : List Addr} : noL t = true → Rep K H t v → OTs K H L ts vs F → OTs K H L (t :: ts) (v :: vs) F
  | list {q : Addr} {us ts : List T} {ws vs : List V} {F : List Addr} : L q ws → noLs us = true → Reps K H us ws → q ∉ F → OTs K H L ts vs F → OTs K H L (.lst us :: ts) (.ref q :: vs) (q :: F)
theorem OTs.like {K : PySem.W.Frag} {H H' : Hp} {L L' : Addr → List V → Prop} {ts : List T} {vs : List V} {F : List Addr} (h : OTs K H L ts vs F) (k : LikeT K H H') (hL : ∀ q ws, q ∈ F → L q ws → L' q ws) : OTs K H' L' ts vs F := by
  induction h with
  | nil => exact .nil
  | plain n r _ ih => exact .plain n (Rep.noL k n r) (ih hL)
  | list l n r nq _ ih => exact .list (hL _ _ List.mem_cons_self l) n (Reps.noL k n r) nq (ih fun q ws m => hL q ws (List.mem_cons_of_mem _ m))
theorem OTs.lists {K : PySem.W.Frag} {H : Hp} {L : Addr → List V → Prop} {ts : List T} {vs : List V} {F : List Addr} (h : OTs K H L ts vs F) : ∀ q ∈ F, ∃ ws, L q ws := by
  induction h with
  | nil => exact fun q m => by cases m
  | plain _ _ _ ih => exact ih
  | list l _ _ _ _ ih =>
    intro q m
    rcases List.mem_cons.mp m with rfl | m
    · exact ⟨_, l⟩
    · exact ih q m
theorem OTs.length {K : PySem.W.Frag} {H : Hp} {L : Addr → List V → Prop} {ts : List T} {vs : List V} {F : List Addr} (h : OTs K H L ts vs F) : ts.length = vs.length := by
  induction h with
  | nil => rfl
  | plain _ _ _ ih => simp [ih]
  | list _ _ _ _ _ ih => simp [ih]
theorem OTs.reps {K : PySem.W.Frag} {H : Hp} {ts : List T} {vs : List V} {F : List Addr} (h : OTs K H (frzL H) ts vs F) : Reps K H ts vs := by
  induction h with
  | nil => exact reps_nil.mpr rfl
  | plain n r _ ih => exact .cons r ih
  | list l n r _ _ ih =>
    obtain ⟨o, e⟩ := l
    exact .cons (rep_lst.mpr ⟨_, _, rfl, .inl ⟨o, e⟩, r⟩) ih
section
variable {X : Cx} {pins : List (Addr × Obj)} {σ : St} {s : Shared}
theorem OTs.freeze {K : PySem.W.Frag} : ∀ {ts : List T} {vs : List V} {F : List Addr} {H : Hp}, OTs K H (rawL H) ts vs F → Inv X pins σ H s → ∃ H', Inv X pins σ H' s ∧ OTs K H' (frzL H') ts vs F ∧ ∀ b, b ∉ F → H' b = H b
  | _, _, _, H, .nil, I => ⟨H, I, .nil, fun _ _ => rfl⟩
  | _, _, _, H, .plain n r h, I => by
    have hl := h.lists
    obtain ⟨H', I', h', e⟩ := OTs.freeze h I
    exact ⟨H', I', .plain n (Rep.noL (LikeT.but (F := (· ∈ _)) (fun q m => .inl (hl q m)) e) n r) h', e⟩
  | _, _, _, H, .list (q := q) (ws := ws) (F := F) l n r nq h, I => by
    obtain ⟨o, I1⟩ := Inv.freeze I l
    have lk : LikeT K H (upd H q (.frz o (.lst ws))) := LikeT.but (F := (· = q)) (fun b m => .inl ⟨ws, by rw [m]; exact l⟩) fun b m => upd_ne m
    have h1 : OTs K (upd H q (.frz o (.lst ws))) (rawL (upd H q (.frz o (.lst ws)))) _ _ F := h.like lk fun b vs m z => by
      show upd H q _ b = _
      rw [upd_ne (fun e => nq (by rw [← e]; exact m))]
      exact z
    have hl := h1.lists
    obtain ⟨H', I', h', e⟩ := OTs.freeze h1 I1
    have lk2 : LikeT K (upd H q (.frz o (.lst ws))) H' := LikeT.but (F := (· ∈ F)) (fun b m => .inl (hl b m)) e
    refine ⟨H', I', .list ⟨o, by rw [e q nq]; exact upd_same⟩ n (Reps.noL lk2 n (Reps.noL lk n r)) nq h', fun b hb => ?_⟩
    rw [e b fun z => hb (List.mem_cons_of_mem _ z), upd_ne fun z => hb (by rw [z]; exact List.mem_cons_self)]
end
def OT (K : PySem.W.Frag) (H : Hp) (L : Addr → List V → Prop) (ts : List T) (v : V) (F : List Addr) : Prop := ∃ p vs, v = .ref p ∧ SqT K H p vs ∧ OTs K H L ts vs F
theorem OT.like {K : PySem.W.Frag} {H H' : Hp} {L L' : Addr → List V → Prop} {ts : List T} {v : V} {F : List Addr} (h : OT K H L ts v F) (k : LikeT K H H') (hL : ∀ q ws, q ∈ F → L q ws → L' q ws) : OT K H' L' ts v F := by
  obtain ⟨p, vs, e, sq, h⟩ := h
  exact ⟨p, vs, e, k _ _ sq, h.like k hL⟩
theorem OT.rep {K : PySem.W.Frag} {H : Hp} {ts : List T} {v : V} {F : List Addr} (h : OT K H (frzL H) ts v F) : Rep K H (.tup ts) v := by
  obtain ⟨p, vs, e, sq, h⟩ := h
  exact rep_tup.mpr ⟨p, vs, e, sq, h.reps⟩
theorem OT.mono {K : PySem.W.Frag} {H H' : Hp} {ts : List T} {v : V} {F : List Addr} (h : OT K H (frzL H) ts v F) (S : Same H H') : OT K H' (frzL H') ts v F :=
  h.like (.same S) fun q ws _ ⟨o, e⟩ => ⟨o, S _ _ e⟩
abbrev SpOT := List T → (List T → Prop) → Prop
def spOT (K : PySem.W.Frag) (n : Nat) (S : SpOT) : Sp := fun vs H Q _ => ∃ (ts : List T) (Q0 : List T → Prop), vs.length = n ∧ Reps K H ts vs ∧ S ts Q0 ∧ ∀ us v F H', Same H H' → (∀ q ∈ F, H q = none) → OT K H' (rawL H') us v F → Q0 us → Q v H'
structure FnOT (P : Program) (w : World) (K : PySem.W.Frag) (mg : Str → Option Value) (base : Heap) (k : Nat) (f : Addr) (fd : FuncData) (ps : List Str) (S : SpOT) : Prop where
  ok : FnOk P w K mg base CX0 k f fd ps (spOT K ps.length S)
  len : ∀ ts Q, S ts Q → ts.length = ps.length
def ownsT (τ : List Slot) : List Nat → (List T → Prop) → Prop
  | [], Q => Q []
  | i :: is, Q => match sget τ i with | .own us => noLs us = true ∧ ownsT τ is fun ts => Q (.lst us :: ts) | _ => False
def endOT (is : List Nat) (Q : List T → Prop) : DT := { nx := fun τ => ownsT τ is Q, rt := fun _ => False }
def tVars : List Nat → TA
  | [] => tNil
  | i :: is => tCons (tVar i) (tVars is)
theorem owns_at {K : PySem.W.Frag} {H0 H : Hp} {σ : St} {τ : List Slot} (R : RepSt K H0 H σ τ) : ∀ {is : List Nat} {Q : List T → Prop}, is.Nodup → ownsT τ is Q → ∃ ts vs F, OTs K H (rawL H) ts vs F ∧ (∀ q ∈ F, H0 q = none ∧ ∃ i ∈ is, σ[i]? = some (some (.ref q)) ∧ ∃ us, sget τ i = .own us) ∧ Q ts ∧ vs.length = is.length ∧ ∀ (H1 : Hp) (QQ : List V → Hp → Prop), QQ vs H1 → tVars is σ H1 QQ
  | [], Q, _, h => ⟨[], [], [], .nil, (fun q m => absurd m (by simp)), h, rfl, fun _ _ q => q⟩
  | i :: is, Q, nd, h => by
    unfold ownsT at h
    cases own : sget τ i with
    | own us =>
      rw [own] at h
      obtain ⟨n, h⟩ := h
      have sl := R.slot i
      rw [own] at sl
      obtain ⟨p, ws, ev, hp, rr, n0⟩ := sl
      have nd' := List.nodup_cons.mp nd
      obtain ⟨ts, vs, F, ot, hF, q, hl, hv⟩ := owns_at R nd'.2 h
      refine ⟨.lst us :: ts, .ref p :: vs, p :: F, .list hp n rr (fun m => ?_) ot, fun q m => ?_, q, by simp [hl], fun H1 QQ z => ⟨.ref p, ev, hv H1 _ z⟩⟩
      · obtain ⟨_, j, mj, ej, us', oj⟩ := hF p m
        exact R.apart i j us us' p (fun e => nd'.1 (by rw [e]; exact mj)) own oj ev ej
      · rcases List.mem_cons.mp m with rfl | m
        · exact ⟨n0, i, List.mem_cons_self, ev, us, own⟩
        · obtain ⟨a, j, mj, r⟩ := hF q m
          exact ⟨a, j, List.mem_cons_of_mem _ mj, r⟩
    | _ => rw [own] at h; exact h.elim
theorem fnOT {P : Program} {w : World} {K : PySem.W.Frag} {mg : Str → Option Value} {base : Heap} {x qual : Str} {st : Stmt} {f : Addr} {fd : FuncData} {N ps : List Str} {k : Nat} {is : List Nat} {S : SpOT} {W : WS} {ini : List Stmt} {es : List Expr} {x1} {tpos rpos : Pos} (F : Fun K x qual st f fd) (SC : FnScope N ps (defScope st))
    (hlen : ∀ ts Q, S ts Q → ts.length = ps.length) (hst : defBody st = ini ++ [.Return (some (.Tuple es x1 tpos)) rpos]) (hnd : is.Nodup) (hfew : is.length ≤ 1000)
    (hbody : ∀ (cdv : Value) (A : Around) (outer : List Env) (s : Shared) (H : Hp) (E : XK), Room k (A.deeper (envOfC qual (defScope st) s.heap.objs.size f cdv)) → JSs (cxOf CX0 P w K mg base N qual (defScope st) f cdv A outer s H E).nox ini W ∧ PA (cxOf CX0 P w K mg base N qual (defScope st) f cdv A outer s H E).nox es (tVars is))
    (hw : ∀ ts Q, S ts Q → W (endOT is Q) (startT N.length ts)) : FnOT P w K mg base (k + 1) f fd ps S := by
  refine ⟨F.ok SC (fun vs H Q E h => ?_) (fun cdv A outer s H vs Q E hr h => ?_), hlen⟩
  · obtain ⟨_, _, e, _⟩ := h
    exact e
  obtain ⟨ts, Q0, e, r, hS, q⟩ := h
  obtain ⟨b1, b2⟩ := hbody cdv A outer s H E hr
  rw [hst]
  refine ⟨_, pss_app b1 (pss_one (ps_ret (pe_tup b2))), startT N.length ts, endOT is Q0, repSt_start r, hw ts Q0 hS, fun τ' σ' H' _ R n => ?_, fun t v H' S r' n => n.elim, fun τ' σ' H' _ R n => n.elim, fun τ' σ' H' _ R n => n.elim⟩
  obtain ⟨us, vs', F', ot, hF, q0, hl, hv⟩ := owns_at R hnd n
  refine hv H' _ ⟨by rw [hl]; exact few hfew, fun p hp => ?_⟩
  have S1 : Same H' (upd H' p (.tup vs')) := same_new hp _
  exact q us (.ref p) F' _ (R.same.trans S1) (fun q m => (hF q m).1) ⟨p, vs', rfl, SqT.of upd_same, ot.like (.same S1) fun b ws _ z => S1 _ _ z⟩ q0
def CalOT (P : Program) (w : World) (K : PySem.W.Frag) (mg : Str → Option Value) (base : Heap) (k : Nat) (x : Str) (ps : List Str) (S : SpOT) : Prop :=
  ∃ f fd, FnOT P w K mg base k f fd ps S ∧ Binds K fd ps [] ∧ PySem.W.keepIn K (.ref f) = true ∧ mg x = some (.ref f)
theorem CalOT.mk {P : Program} {w : World} {K : PySem.W.Frag} {mg : Str → Option Value} {base : Heap} {k : Nat} {x qual : Str} {ps : List Str} {S : SpOT} {st : Stmt} {f : Addr} {fd : FuncData} (F : Fun K x qual st f fd) (m : mg x = some (.ref f))
    (b : Binds K fd ps []) (h : FnOT P w K mg base k f fd ps S) : CalOT P w K mg base k x ps S := ⟨f, fd, h, b, F.kp, m⟩
abbrev frOT (S : SpOT) : SpT := fun ts Q => S ts fun us => Q (.tup us)
section
variable {X : Cx} {e b : Expr} {es : List Expr} {wa wb w : WE} {ws : WA} {pos : Pos}
theorem run_OT {k : Nat} {ps : List Str} {S : SpOT} {x : Str} {p : Pos} (C : CalOT X.prog X.w X.K X.mg X.base k x ps S) (hr : Room k X.A) (hg : Gl X x) (ha : JA X (e :: es) ws)
    (hdb : (x == ("__debug__" : Str)) = false) (he : starEach (e :: es) X.env = (false, eval e X.env) :: starEach es X.env) (hpl : (backTo pos (starEach es X.env)).any (·.1) = false)
    {pins : List (Addr × Obj)} {s : Shared} {σ : St} {H : Hp} {τ : List Slot} {Q0 : List T → Prop} (I : Inv X pins σ H s) (R : RepSt X.K X.H₀ H σ τ) (hw : ws τ fun ts => S ts Q0) :
    wpAny (model X.prog X.w) X.A (eval (.Call (.Name x p) (e :: es) [] pos) X.env) (EP X pins σ fun v H' => ∃ us F, Same H H' ∧ (∀ q ∈ F, H q = none) ∧ OT X.K H' (frzL H') us v F ∧ Q0 us) X.xe s := by
  obtain ⟨f, fd, F, hb, hk, hm⟩ := C
  refine thn (pe_call F.ok hr hg hm hk hb .nil pass0 ha hdb he hpl pins s σ H (fun v H' => ∃ us F, Same H H' ∧ (∀ q ∈ F, H q = none) ∧ OT X.K H' (rawL H') us v F ∧ Q0 us) I ⟨τ, _, R, hw, fun ts vs H1 S1 r1 q1 => ?_⟩) fun u s' ⟨v, H', I', rv, us, F', S1, fr, ⟨p', vs', e1, sq, ot⟩, q⟩ => ?_
  · have e0 : vs ++ [] = vs := List.append_nil vs
    show spOT X.K ps.length S (vs ++ []) H1 _ E0
    rw [e0]
    refine ⟨ts, Q0, by rw [r1.length]; exact F.len _ _ q1, r1, q1, fun us v F' H' S2 fr ot q => ⟨us, F', S1.trans S2, fun b m => S1.free (fr b m), ot, q⟩⟩
  · have hl := ot.lists
    obtain ⟨H2, I2, ot2, e2⟩ := ot.freeze I'
    have lk : LikeT X.K H' H2 := LikeT.but (F := (· ∈ F')) (fun b m => .inl (hl b m)) e2
    refine ⟨v, H2, I2, rv, us, F', fun b o z => ?_, fr, ⟨p', vs', e1, lk _ _ sq, ot2⟩, q⟩
    rw [e2 b fun m => by rw [fr b m] at z; cases z]
    exact S1 b o z
theorem jcallOT {k : Nat} {ps : List Str} {S : SpOT} {x : Str} {p : Pos} (C : CalOT X.prog X.w X.K X.mg X.base k x ps S) (hr : Room k X.A) (hg : Gl X x) (ha : JA X (e :: es) ws)
    (hdb : (x == ("__debug__" : Str)) = false := by decide) (he : starEach (e :: es) X.env = (false, eval e X.env) :: starEach es X.env := by exact star1 rfl) (hpl : (backTo pos (starEach es X.env)).any (·.1) = false := by exact stars rfl) :
    JE X (.Call (.Name x p) (e :: es) [] pos) (wCall (frOT S) ws) := by
  intro pins s σ H Q I ⟨τ, Q0, R, hw, k⟩
  exact thn (run_OT C hr hg ha hdb he hpl I R hw) fun u s' ⟨v, H', I', rv, us, F, S1, _, ot, q⟩ => ⟨v, H', I', rv, k _ _ _ S1 ot.rep q⟩
end
def isV : Slot → Bool
  | .vat _ _ => true
  | _ => false
def drop1 : Slot → Slot
  | .vat _ _ => .no
  | s => s
def val1 : Slot → Slot
  | .vat t _ => .val t
  | s => s
def dropV (τ : List Slot) : List Slot := τ.map drop1
def valV (τ : List Slot) : List Slot := τ.map val1
def noV (τ : List Slot) : Bool := τ.all fun s => !isV s
theorem sget_map {f : Slot → Slot} (h : f .no = .no) : ∀ (τ : List Slot) (i : Nat), sget (τ.map f) i = f (sget τ i)
  | [], i => by simp only [List.map_nil, sget]; exact h.symm
  | x :: r, 0 => rfl
  | x :: r, i + 1 => by simp only [List.map_cons, sget]; exact sget_map h r i
theorem map_sput {f : Slot → Slot} : ∀ (τ : List Slot) (i : Nat) (x : Slot), (sput τ i x).map f = sput (τ.map f) i (f x)
  | [], _, _ => rfl
  | _ :: _, 0, _ => rfl
  | y :: r, i + 1, x => by simp only [sput, List.map_cons, map_sput r i x]
theorem noV_at : ∀ {τ : List Slot} (i : Nat), noV τ = true → isV (sget τ i) = false
  | [], _, _ => rfl
  | x :: r, i, h => by
    unfold noV at h
    rw [List.all_cons, Bool.and_eq_true] at h
    cases i with
    | zero => simpa [sget] using h.1
    | succ i => exact noV_at (τ := r) i h.2
theorem RepSt.away {K : PySem.W.Frag} {H0 H : Hp} {σ : St} {τ : List Slot} {i : Nat} {x : Option V} (R : RepSt K H0 H σ τ) : RepSt K H0 H (σ.set i x) (sput τ i .no) := by
  have nown : ∀ c ts, sget (sput τ i .no) c = .own ts → i ≠ c ∧ sget τ c = .own ts := fun c ts h => by
    by_cases hc : i = c
    · subst hc
      by_cases hi : i < τ.length
      · rw [sget_same hi] at h; cases h
      · rw [sget_big (by rw [length_sput]; omega)] at h; cases h
    · rw [sget_ne hc] at h
      exact ⟨hc, h⟩
  refine ⟨R.same, by rw [length_sput, List.length_set]; exact R.len, fun j => ?_, fun a b ts us p hab ha hb ea eb => ?_⟩
  · by_cases hij : i = j
    · subst hij
      by_cases hi : i < τ.length
      · rw [sget_same hi]; trivial
      · rw [sget_big (by rw [length_sput]; omega)]; trivial
    · rw [sget_ne hij, List.getElem?_set_ne hij]
      exact R.slot j
  · obtain ⟨na, ha⟩ := nown a ts ha
    obtain ⟨nb, hb⟩ := nown b us hb
    rw [List.getElem?_set_ne na] at ea
    rw [List.getElem?_set_ne nb] at eb
    exact R.apart a b ts us p hab ha hb ea eb
abbrev inF (Fs : Nat → List Addr) (b : Addr) : Prop := ∃ i, b ∈ Fs i
structure RSF (K : PySem.W.Frag) (H0 Hs H : Hp) (σ : St) (τ : List Slot) (Fs : Nat → List Addr) : Prop where
  kp : Kp Hs (hidH H (inF Fs))
  rep : RepSt K H0 (hidH H (inF Fs)) σ (dropV τ)
  vat : ∀ i t v, sget τ i = .vat t v → σ[i]? = some (some v) ∧ ∃ ts, t = .tup ts ∧ OT K H (frzL H) ts v (Fs i)
  nv : ∀ i, isV (sget τ i) = false → Fs i = []
  new : ∀ i q, q ∈ Fs i → H0 q = none
  dis : ∀ i j q, q ∈ Fs i → q ∈ Fs j → i = j
def RepSF (K : PySem.W.Frag) (H0 Hs H : Hp) (σ : St) (τ : List Slot) : Prop := ∃ Fs, RSF K H0 Hs H σ τ Fs
section
variable {K : PySem.W.Frag} {H0 Hs H H' : Hp} {σ : St} {τ : List Slot} {Fs : Nat → List Addr}
theorem isV_vat {s : Slot} (h : isV s = true) : ∃ t v, s = .vat t v := by
  cases s <;> first | exact ⟨_, _, rfl⟩ | cases h
theorem RSF.lists (R : RSF K H0 Hs H σ τ Fs) : ∀ q, inF Fs q → ∃ o ws, H q = some (.frz o (.lst ws)) := fun q ⟨i, m⟩ => by
  cases z : isV (sget τ i) with
  | false => rw [R.nv i z] at m; cases m
  | true =>
    obtain ⟨t, v, e⟩ := isV_vat z
    obtain ⟨_, ts, _, p, vs, _, _, ot⟩ := R.vat i t v e
    obtain ⟨ws, o, h⟩ := ot.lists q m
    exact ⟨o, ws, h⟩
theorem RSF.like (R : RSF K H0 Hs H σ τ Fs) : LikeT K H (hidH H (inF Fs)) := LikeT.but (F := inF Fs) (fun q m => .inr (R.lists q m)) fun b m => hid_out m
theorem RSF.same0 (R : RSF K H0 Hs H σ τ Fs) : Same H0 H := R.rep.same.trans (hid_same _ _)
theorem RSF.weak (R : RSF K H0 Hs H σ τ Fs) : RepSt K H0 H σ τ := by
  have W := R.rep.mono (hid_same H (inF Fs))
  have sg : ∀ i, sget (dropV τ) i = drop1 (sget τ i) := sget_map rfl τ
  refine ⟨R.same0, by have := W.len; unfold dropV at this; rw [List.length_map] at this; exact this, fun i => ?_, fun a b ts us p hab ha hb ea eb => ?_⟩
  · have sl := W.slot i
    rw [sg] at sl
    cases z : sget τ i with
    | vat t v =>
      obtain ⟨e, ts, et, ot⟩ := R.vat i t v z
      subst et
      exact ⟨e, ot.rep⟩
    | _ => rw [z] at sl; exact sl
  · exact W.apart a b ts us p hab (by rw [sg, ha]; rfl) (by rw [sg, hb]; rfl) ea eb
theorem RSF.vals (R : RSF K H0 Hs H σ τ Fs) : RepSt K H0 H σ (valV τ) := by
  have W := R.weak
  have sg : ∀ i, sget (valV τ) i = val1 (sget τ i) := sget_map rfl τ
  refine ⟨W.same, by unfold valV; rw [List.length_map]; exact W.len, fun i => ?_, fun a b ts us p hab ha hb ea eb => ?_⟩
  · have sl := W.slot i
    rw [sg]
    cases z : sget τ i with
    | vat t v => rw [z] at sl; exact ⟨v, sl.1, sl.2⟩
    | _ => rw [z] at sl; exact sl
  · rw [sg] at ha hb
    have o : ∀ {s : Slot} {ts : List T}, val1 s = .own ts → s = .own ts := fun {s ts} h => by cases s <;> first | exact h | cases h
    exact W.apart a b ts us p hab (o ha) (o hb) ea eb
theorem RSF.drops (R : RSF K H0 Hs H σ τ Fs) : RepSt K H0 H σ (dropV τ) := R.rep.mono (hid_same _ _)
theorem RSF.kpH (R : RSF K H0 Hs H σ τ Fs) : Kp Hs H := R.kp.trans (.of (hid_same _ _))
theorem RSF.mono (R : RSF K H0 Hs H σ τ Fs) (S : Same H H') : RSF K H0 Hs H' σ τ Fs := by
  have S' : Same (hidH H (inF Fs)) (hidH H' (inF Fs)) := hid_mono S fun b z => .inl z
  refine ⟨R.kp.trans (.of S'), R.rep.mono S', fun i t v e => ?_, R.nv, R.new, R.dis⟩
  obtain ⟨a, ts, b, ot⟩ := R.vat i t v e
  exact ⟨a, ts, b, ot.mono S⟩
theorem rsf_start (R : RepSt K H0 H σ τ) (h : noV τ = true) (kp : Kp Hs H) : RSF K H0 Hs H σ τ fun _ => [] := by
  have e : hidH H (inF fun _ => []) = H := by
    funext b
    exact hid_out fun ⟨i, m⟩ => by cases m
  have d : dropV τ = τ := by
    unfold dropV
    have : ∀ {l : List Slot}, noV l = true → l.map drop1 = l := fun {l} => by
      induction l with
      | nil => exact fun _ => rfl
      | cons x r ih =>
        intro h
        unfold noV at h
        rw [List.all_cons, Bool.and_eq_true] at h
        rw [List.map_cons, ih h.2]
        cases x <;> first | rfl | (have := h.1; simp [isV] at this)
    exact this h
  refine ⟨by rw [e]; exact kp, by rw [e, d]; exact R, fun i t v z => ?_, fun _ _ => rfl, fun i q m => (by cases m), fun i j q m => (by cases m)⟩
  have := noV_at i h
  rw [z] at this
  cases this
theorem RSF.put {i : Nat} {t : T} {v : V} (R : RSF K H0 Hs H σ τ Fs) (n : noL t = true) (r : Rep K H t v) (hi : isV (sget τ i) = false) : RSF K H0 Hs H (σ.set i (some v)) (sput τ i (.val t)) Fs := by
  have r' : Rep K (hidH H (inF Fs)) t v := Rep.noL R.like n r
  refine ⟨R.kp, ?_, fun j u x e => ?_, fun j z => ?_, R.new, R.dis⟩
  · have := R.rep.put (i := i) r'
    unfold dropV at this ⊢
    rw [map_sput]
    exact this
  · by_cases hj : i = j
    · subst hj
      by_cases hl : i < τ.length
      · rw [sget_same hl] at e; cases e
      · rw [sget_big (by rw [length_sput]; omega)] at e; cases e
    · rw [sget_ne hj] at e
      rw [List.getElem?_set_ne hj]
      exact R.vat j u x e
  · by_cases hj : i = j
    · subst hj
      exact R.nv i hi
    · rw [sget_ne hj] at z
      exact R.nv j z
open Classical in
theorem RSF.born {i : Nat} {ts : List T} {v : V} {F : List Addr} (R : RSF K H0 Hs H σ τ Fs) (S : Same H H') (fr : ∀ q ∈ F, H q = none) (ot : OT K H' (frzL H') ts v F) (hi : i < τ.length) : ∃ Fs', RSF K H0 Hs H' (σ.set i (some v)) (sput τ i (.vat (.tup ts) v)) Fs' := by
  have at_i : ∀ j q, q ∈ (if j = i then F else Fs j) → (j = i ∧ q ∈ F) ∨ (j ≠ i ∧ q ∈ Fs j) := fun j q m => by
    by_cases z : j = i
    · rw [if_pos z] at m; exact .inl ⟨z, m⟩
    · rw [if_neg z] at m; exact .inr ⟨z, m⟩
  have S' : Same (hidH H (inF Fs)) (hidH H' (inF fun j => if j = i then F else Fs j)) := hid_mono S fun b ⟨j, m⟩ => by
    rcases at_i j b m with ⟨_, m⟩ | ⟨_, m⟩
    · exact .inr (fr b m)
    · exact .inl ⟨j, m⟩
  have hlen : i < σ.length := by have := R.rep.len; unfold dropV at this; rw [List.length_map] at this; omega
  refine ⟨fun j => if j = i then F else Fs j, R.kp.trans (.of S'), ?_, fun j t u e => ?_, fun j z => ?_, fun j q m => ?_, fun j k q m1 m2 => ?_⟩
  · have := (R.rep.mono S').away (i := i) (x := some v)
    unfold dropV at this ⊢
    rw [map_sput]
    exact this
  · by_cases hj : i = j
    · subst hj
      rw [sget_same hi] at e
      cases e
      exact ⟨List.getElem?_set_self hlen, ts, rfl, by rw [if_pos rfl]; exact ot⟩
    · rw [sget_ne hj] at e
      obtain ⟨a, us, b, ot'⟩ := R.vat j t u e
      rw [List.getElem?_set_ne hj]
      exact ⟨a, us, b, by rw [if_neg (Ne.symm hj)]; exact ot'.mono S⟩
  · by_cases hj : i = j
    · subst hj
      rw [sget_same hi] at z
      cases z
    · rw [sget_ne hj] at z
      rw [if_neg (Ne.symm hj)]
      exact R.nv j z
  · rcases at_i j q m with ⟨_, m⟩ | ⟨_, m⟩
    · exact R.same0.free (fr q m)
    · exact R.new j q m
  · have old : ∀ j, q ∈ Fs j → q ∈ F → False := fun j m m' => by
      obtain ⟨o, ws, e⟩ := R.lists q ⟨j, m⟩
      rw [fr q m'] at e
      cases e
    rcases at_i j q m1 with ⟨z1, m1⟩ | ⟨z1, m1⟩ <;> rcases at_i k q m2 with ⟨z2, m2⟩ | ⟨z2, m2⟩
    · rw [z1, z2]
    · exact (old k m2 m1).elim
    · exact (old j m1 m2).elim
    · exact R.dis j k q m1 m2
end
def upF (K : PySem.W.Frag) (H0 : Hp) (w : WS) : TS := fun D σ H => ∃ (Hs : Hp) (τ : List Slot) (D0 : DT), RepSF K H0 Hs H σ τ ∧ w D0 τ ∧
  (∀ τ' σ' H', RepSF K H0 Hs H' σ' τ' → D0.nx τ' → D.nx σ' H') ∧ (∀ t v H', Same H0 H' → Rep K H' t v → D0.rt t → D.rt v H') ∧
  (∀ τ' σ' H', RepSF K H0 Hs H' σ' τ' → D0.bk τ' → D.bk σ' H') ∧ (∀ τ' σ' H', RepSF K H0 Hs H' σ' τ' → D0.ct τ' → D.ct σ' H')
def JFS (X : Cx) (st : Stmt) (w : WS) : Prop := PS X st (upF X.K X.H₀ w)
def JFSs (X : Cx) (st : List Stmt) (w : WS) : Prop := PSs X st (upF X.K X.H₀ w)
theorem RepSF.mono {K : PySem.W.Frag} {H0 Hs H H' : Hp} {σ : St} {τ : List Slot} (R : RepSF K H0 Hs H σ τ) (S : Same H H') : RepSF K H0 Hs H' σ τ := let ⟨Fs, R⟩ := R; ⟨Fs, R.mono S⟩
theorem RepSF.weak {K : PySem.W.Frag} {H0 Hs H : Hp} {σ : St} {τ : List Slot} (R : RepSF K H0 Hs H σ τ) : RepSt K H0 H σ τ := let ⟨_, R⟩ := R; R.weak
section
variable {X : Cx} {e b c : Expr} {es : List Expr} {wa wb w : WE} {ws : WA} {ua : WT} {t u : WS} {pos : Pos} {st : Stmt} {rest a d : List Stmt}
theorem jf0 : JFSs X [] sNext := pss_of pss_nil fun D σ H ⟨Hs, τ, D0, R, hw, k, _⟩ => k τ σ H R hw
theorem jf1 (h : JFS X st t) : JFSs X [st] t := pss_of (pss_one h) fun D σ H z => z
theorem jfc (h1 : JFS X st t) (h2 : JFSs X rest u) : JFSs X (st :: rest) (sSeq t u) := pss_of (pss_cons h1 h2) fun D σ H ⟨Hs, τ, D0, R, hw, kn, kr, kb, kc⟩ =>
  ⟨Hs, τ, _, R, hw, fun τ' σ' H' R' q => ⟨Hs, τ', D0, R', q, kn, kr, kb, kc⟩, kr, kb, kc⟩
theorem jfif (hc : JT X c ua) (ha : JFSs X a t) (hb : JFSs X d u) : JFS X (.If c a d pos) (sIf ua t u) := ps_of (ps_if hc ha hb) fun D σ H ⟨Hs, τ, D0, R, hw, kn, kr, kb, kc⟩ => by
  refine ⟨τ, _, R.weak, hw, fun k H1 S1 q => ?_⟩
  cases k with
  | true => exact ⟨Hs, τ, D0, R.mono S1, q.1 rfl, kn, kr, kb, kc⟩
  | false => exact ⟨Hs, τ, D0, R.mono S1, q.2 rfl, kn, kr, kb, kc⟩
theorem jfret (h : JE X e w) : JFS X (.Return (some e) pos) (sRet w) := ps_of (ps_ret h) fun D σ H ⟨Hs, τ, D0, R, hw, _, k, _⟩ => ⟨τ, _, R.weak, hw, fun t v H' S r q => k t v H' (R.weak.same.trans S) r q⟩
def sSetN (i : Nat) (w : WE) : WS := fun D τ => w τ fun t => noL t = true ∧ isV (sget τ i) = false ∧ D.nx (sput τ i (.val t))
theorem jfset {i : Nat} {x : Str} {pos' : Pos} (hN : X.N.Nodup) (hi : X.N[i]? = some x) (hx : Loc X.env.scope x) (he : JE X e w) (hs : swapsWith e (some (.Name x pos')) pos.line X.env = pure false := by rfl)
    (hf : X.fn x = true ∨ X.env.scope.names.lookup x = some .local := by first | exact .inl rfl | exact .inr rfl | assumption) : JFS X (.Assign [.Name x pos'] e pos) (sSetN i w) :=
  ps_of (ps_set hN hi hx he hs hf) fun D σ H ⟨Hs, τ, D0, ⟨Fs, R⟩, hw, kn, _⟩ => ⟨τ, _, R.weak, hw, fun t v H' S r ⟨n, nv, q⟩ => kn _ _ H' ⟨Fs, (R.mono S).put n r nv⟩ q⟩
def sBorn (i : Nat) (S : SpOT) (ws : WA) : WS := fun D τ => i < τ.length ∧ ws τ fun ts => S ts fun us => ∀ v, D.nx (sput τ i (.vat (.tup us) v))
theorem pe_OT {k : Nat} {ps : List Str} {S : SpOT} {x : Str} {p : Pos} (C : CalOT X.prog X.w X.K X.mg X.base k x ps S) (hr : Room k X.A) (hg : Gl X x) (ha : JA X (e :: es) ws)
    (hdb : (x == ("__debug__" : Str)) = false) (he : starEach (e :: es) X.env = (false, eval e X.env) :: starEach es X.env) (hpl : (backTo pos (starEach es X.env)).any (·.1) = false) :
    PE X (.Call (.Name x p) (e :: es) [] pos) (fun σ H Q => ∃ (τ : List Slot) (Q0 : List T → Prop), RepSt X.K X.H₀ H σ τ ∧ (ws τ fun ts => S ts Q0) ∧ ∀ us v F H', Same H H' → (∀ q ∈ F, H q = none) → OT X.K H' (frzL H') us v F → Q0 us → Q v H') := by
  intro pins s σ H Q I ⟨τ, Q0, R, hw, k⟩
  exact thn (run_OT C hr hg ha hdb he hpl I R hw) fun u s' ⟨v, H', I', rv, us, F, S1, fr, ot, q⟩ => ⟨v, H', I', rv, k us v F H' S1 fr ot q⟩
theorem jfborn {k i : Nat} {ps : List Str} {S : SpOT} {x y : Str} {p yp spos : Pos} (hN : X.N.Nodup) (hi : X.N[i]? = some y) (hy : Loc X.env.scope y) (C : CalOT X.prog X.w X.K X.mg X.base k x ps S) (hr : Room k X.A) (hg : Gl X x) (ha : JA X (e :: es) ws)
    (hdb : (x == ("__debug__" : Str)) = false := by decide) (he : starEach (e :: es) X.env = (false, eval e X.env) :: starEach es X.env := by exact star1 rfl) (hpl : (backTo pos (starEach es X.env)).any (·.1) = false := by exact stars rfl)
    (hs : swapsWith (.Call (.Name x p) (e :: es) [] pos) (some (.Name y yp)) spos.line X.env = pure false := by rfl) (hf : X.fn y = true ∨ X.env.scope.names.lookup y = some .local := by first | exact .inl rfl | exact .inr rfl | assumption) :
    JFS X (.Assign [.Name y yp] (.Call (.Name x p) (e :: es) [] pos) spos) (sBorn i S ws) :=
  ps_of (ps_set hN hi hy (pe_OT C hr hg ha hdb he hpl) hs hf) fun D σ H ⟨Hs, τ, D0, ⟨Fs, R⟩, ⟨hl, hw⟩, kn, _⟩ => ⟨τ, _, R.weak, hw, fun us v F H' S1 fr ot q => kn _ _ H' (R.born S1 fr ot hl) (q v)⟩
def sEnt (w : WS) : WS := fun D τ => noV τ = true ∧ w { nx := fun τ' => D.nx (dropV τ'), rt := D.rt, bk := fun τ' => D.bk (dropV τ'), ct := fun τ' => D.ct (dropV τ') } τ
theorem jent (h : JFSs X rest t) : JSs X rest (sEnt t) := pss_of h fun D σ H ⟨τ, D0, R, ⟨nv, hw⟩, kn, kr, kb, kc⟩ =>
  ⟨H, τ, _, ⟨_, rsf_start R nv (.refl H)⟩, hw, fun τ' σ' H' ⟨Fs, R'⟩ q => kn _ _ H' R'.kpH R'.drops q, kr, fun τ' σ' H' ⟨Fs, R'⟩ q => kb _ _ H' R'.kpH R'.drops q, fun τ' σ' H' ⟨Fs, R'⟩ q => kc _ _ H' R'.kpH R'.drops q⟩
def sLv (w : WS) : WS := fun D τ => w { nx := fun τ' => noV τ' = true ∧ D.nx τ', rt := D.rt, bk := fun τ' => noV τ' = true ∧ D.bk τ', ct := fun τ' => noV τ' = true ∧ D.ct τ' } (valV τ)
theorem jlv (h : JSs X rest t) : JFSs X rest (sLv t) := pss_of h fun D σ H ⟨Hs, τ, D0, ⟨Fs, R⟩, hw, kn, kr, kb, kc⟩ =>
  ⟨valV τ, _, R.vals, hw, fun τ' σ' H' K1 R' ⟨n, q⟩ => kn _ _ H' ⟨_, rsf_start R' n (R.kpH.trans K1)⟩ q, kr, fun τ' σ' H' K1 R' ⟨n, q⟩ => kb _ _ H' ⟨_, rsf_start R' n (R.kpH.trans K1)⟩ q, fun τ' σ' H' K1 R' ⟨n, q⟩ => kc _ _ H' ⟨_, rsf_start R' n (R.kpH.trans K1)⟩ q⟩
theorem mt_appendF : MtM X "list.append" (fun x vs H Q => ∃ q xs y o, x = .ref q ∧ vs = [y] ∧ H q = some (.frz o (.lst xs)) ∧ X.H₀ q = none ∧ xs.length < sizeLine ∧ ∀ o', Q .non (upd H q (.frz o' (.lst (xs ++ [y]))))) := by
  intro pins s σ H x vs v us Q I rx rv h
  obtain ⟨q, xs, y, o, e1, e2, hq, h0, hz, k⟩ := h
  have I1 := Inv.unfreeze I hq h0
  refine thn (mt_append pins s σ _ x vs v us (fun v' H' => v' = .non ∧ H' = upd H q (.lst (xs ++ [y]))) I1 rx rv ⟨q, xs, y, e1, e2, upd_same, hz, rfl, by rw [upd_upd]⟩) fun u s1 ⟨v', H1, I2, rv', e3, e4⟩ => ?_
  subst e3 e4
  obtain ⟨o', I3⟩ := Inv.freeze I2 (upd_same (o := .lst (xs ++ [y])))
  rw [upd_upd] at I3
  exact ⟨.non, _, I3, rv', k o'⟩
theorem noLs_app : ∀ {us : List T} {t : T}, noLs us = true → noL t = true → noLs (us ++ [t]) = true
  | [], t, _, n => by simp only [List.nil_append, TL.noLs, n, Bool.and_true]
  | u :: us, t, h, n => by
    simp only [TL.noLs, Bool.and_eq_true] at h
    simp only [List.cons_append, TL.noLs, h.1, noLs_app h.2 n, Bool.and_true]
theorem OTs.at {K : PySem.W.Frag} {H : Hp} : ∀ {ts : List T} {vs : List V} {F : List Addr} {k : Nat} {us : List T}, OTs K H (frzL H) ts vs F → ts[k]? = some (.lst us) → ∃ q ws o, vs[k]? = some (.ref q) ∧ q ∈ F ∧ H q = some (.frz o (.lst ws)) ∧ Reps K H us ws ∧
    ∀ o' y t, noL t = true → Rep K H t y → OTs K (upd H q (.frz o' (.lst (ws ++ [y])))) (frzL (upd H q (.frz o' (.lst (ws ++ [y]))))) (ts.set k (.lst (us ++ [t]))) vs F
  | _, _, _, k, us, .nil, h => by simp at h
  | _, _, _, 0, us, .plain n r ot, h => by
    simp only [List.getElem?_cons_zero, Option.some.injEq] at h
    subst h
    unfold TL.noL at n
    cases n
  | _, _, _, k + 1, us, .plain n r ot, h => by
    simp only [List.getElem?_cons_succ] at h
    obtain ⟨q, ws, o, e1, m, e2, rr, k'⟩ := OTs.at ot h
    refine ⟨q, ws, o, by simpa using e1, m, e2, rr, fun o' y t nt rt => ?_⟩
    have lk : LikeT K H (upd H q (.frz o' (.lst (ws ++ [y])))) := LikeT.but (F := (· = q)) (fun b z => .inr ⟨o, ws, by rw [z]; exact e2⟩) fun b z => upd_ne z
    exact .plain n (Rep.noL lk n r) (k' o' y t nt rt)
  | _, _, _, 0, us, .list (q := q) (ws := ws) (F := F) l n r nq ot, h => by
    simp only [List.getElem?_cons_zero, Option.some.injEq, T.lst.injEq] at h
    subst h
    obtain ⟨o, e2⟩ := l
    refine ⟨q, ws, o, rfl, List.mem_cons_self, e2, r, fun o' y t nt rt => ?_⟩
    have lk : LikeT K H (upd H q (.frz o' (.lst (ws ++ [y])))) := LikeT.but (F := (· = q)) (fun b z => .inr ⟨o, ws, by rw [z]; exact e2⟩) fun b z => upd_ne z
    refine .list ⟨o', upd_same⟩ ?_ ((Reps.noL lk n r).append (.one (Rep.noL lk nt rt))) nq (ot.like lk fun b vs m ⟨o2, z⟩ => ⟨o2, ?_⟩)
    · exact noLs_app n nt
    · rw [upd_ne (fun e => nq (by rw [← e]; exact m))]
      exact z
  | _, _, _, k + 1, us, .list (q := q0) (ws := ws0) (F := F) l n r nq ot, h => by
    simp only [List.getElem?_cons_succ] at h
    obtain ⟨q, ws, o, e1, m, e2, rr, k'⟩ := OTs.at ot h
    refine ⟨q, ws, o, by simpa using e1, List.mem_cons_of_mem _ m, e2, rr, fun o' y t nt rt => ?_⟩
    have lk : LikeT K H (upd H q (.frz o' (.lst (ws ++ [y])))) := LikeT.but (F := (· = q)) (fun b z => .inr ⟨o, ws, by rw [z]; exact e2⟩) fun b z => upd_ne z
    obtain ⟨o0, e0⟩ := l
    exact .list ⟨o0, by rw [upd_ne (fun e => nq (by rw [e]; exact m))]; exact e0⟩ n (Reps.noL lk n r) nq (k' o' y t nt rt)
def sAppT (i k : Nat) (w : WE) : WS := fun D τ => match sget τ i with
  | .vat (.tup ts) v => (match ts[k]? with
    | some (.lst us) => w τ fun t => noL t = true ∧ us.length < 1000 ∧ D.nx (sput τ i (.vat (.tup (ts.set k (.lst (us ++ [t])))) v))
    | _ => False)
  | _ => False
theorem RSF.grow {K : PySem.W.Frag} {H0 Hs H : Hp} {σ : St} {τ : List Slot} {Fs : Nat → List Addr} {i k : Nat} {ts us : List T} {v : V} (R : RSF K H0 Hs H σ τ Fs) (hi : sget τ i = .vat (.tup ts) v) (hk : ts[k]? = some (.lst us)) :
    ∃ p vs q ws o, v = .ref p ∧ SqT K H p vs ∧ vs[k]? = some (.ref q) ∧ vs.length = ts.length ∧ H q = some (.frz o (.lst ws)) ∧ H0 q = none ∧ us.length = ws.length ∧
      ∀ (H1 : Hp) o' y t, Same H H1 → noL t = true → Rep K H1 t y → H1 q = some (.frz o (.lst ws)) ∧ RSF K H0 Hs (upd H1 q (.frz o' (.lst (ws ++ [y])))) σ (sput τ i (.vat (.tup (ts.set k (.lst (us ++ [t])))) v)) Fs := by
  obtain ⟨ev, ts', et, p, vs, e1, sq, ot⟩ := R.vat i _ v hi
  cases et
  obtain ⟨q, ws, o, e2, m, e3, rr, _⟩ := ot.at hk
  refine ⟨p, vs, q, ws, o, e1, sq, e2, ot.length.symm, e3, R.new i q m, rr.length.symm, fun H1 o' y t S nt rt => ⟨S _ _ e3, ?_⟩⟩
  have R1 := R.mono S
  have e3' : H1 q = some (.frz o (.lst ws)) := S _ _ e3
  have lk : LikeT K H1 (upd H1 q (.frz o' (.lst (ws ++ [y])))) := LikeT.but (F := (· = q)) (fun b z => .inr ⟨o, ws, by rw [z]; exact e3'⟩) fun b z => upd_ne z
  have hh : hidH (upd H1 q (.frz o' (.lst (ws ++ [y])))) (inF Fs) = hidH H1 (inF Fs) := hid_upd ⟨i, m⟩
  have hil : i < τ.length := by
    by_cases z : i < τ.length
    · exact z
    · rw [sget_big (by omega)] at hi; cases hi
  have dr : dropV (sput τ i (.vat (.tup (ts.set k (.lst (us ++ [t])))) v)) = dropV τ := by
    unfold dropV
    rw [map_sput]
    have : ∀ (l : List Slot) (j : Nat), drop1 (sget l j) = .no → sput (l.map drop1) j .no = l.map drop1 := fun l => by
      induction l with
      | nil => exact fun _ _ => rfl
      | cons x r ih =>
        intro j z
        cases j with
        | zero => simp only [List.map_cons, sput]; rw [show drop1 x = .no from z]
        | succ j => simp only [List.map_cons, sput]; rw [ih j z]
    exact this τ i (by rw [hi]; rfl)
  refine ⟨by rw [hh]; exact R1.kp, by rw [hh, dr]; exact R1.rep, fun j t' v' e => ?_, fun j z => ?_, R1.new, R1.dis⟩
  · by_cases hj : i = j
    · subst hj
      rw [sget_same hil] at e
      cases e
      obtain ⟨q', ws', o2, f2, _, f3, _, ok⟩ := (ot.like (L' := frzL H1) (.same S) fun b' w' _ ⟨o2, z⟩ => ⟨o2, S _ _ z⟩).at hk
      rw [e2] at f2
      cases f2
      rw [e3'] at f3
      cases f3
      exact ⟨ev, _, rfl, p, vs, e1, lk _ _ (LikeT.same S _ _ sq), ok o' y t nt rt⟩
    · rw [sget_ne hj] at e
      obtain ⟨a, us', b, ot'⟩ := R1.vat j t' v' e
      exact ⟨a, us', b, ot'.like lk fun b' ws' mb ⟨o2, z⟩ => ⟨o2, by rw [upd_ne (fun ee => hj (R1.dis i j q m (by rw [← ee]; exact mb)))]; exact z⟩⟩
  · by_cases hj : i = j
    · subst hj
      rw [sget_same hil] at z
      cases z
    · rw [sget_ne hj] at z
      exact R1.nv j z
theorem jfapp {i k : Nat} {kz : Int} {x : Str} {j} {p1 p2 p3 apos cpos : Pos} (hk : kz = (k : Int)) (hv : PE X (.Name x p1) (tVar i)) (he : JE X e w)
    (hix : PlainIx (.Constant (.int kz) j p2) := by intro _ _; rfl)
    (hs : swapsWith (.Call (.Attribute (.Subscript (.Name x p1) (.Constant (.int kz) j p2) p3) "append" apos) [e] [] cpos) none pos.line X.env = pure false := by rfl)
    (hbase : attributeBase (.Subscript (.Name x p1) (.Constant (.int kz) j p2) p3) "append" X.env (eval (.Subscript (.Name x p1) (.Constant (.int kz) j p2) p3) X.env) = eval (.Subscript (.Name x p1) (.Constant (.int kz) j p2) p3) X.env := by rfl)
    (hfew : ((backTo cpos (starEach [e] X.env)).all (fun x => !x.1) && (backToKw cpos (keywordEach [] X.env)).all (fun x => x.1.isSome)
      && decide ([e].length + ([] : List Keyword).length + (if ([] : List Keyword).isEmpty then 0 else 1) < 30)) = true := by rfl)
    (hline : (apos.endLine == cpos.line) = true := by rfl) (hst : starEach [e] X.env = (false, eval e X.env) :: starEach [] X.env := by rfl) (hplain : (backTo cpos (starEach [] X.env)).any (·.1) = false := by rfl) :
    JFS X (.Expr (.Call (.Attribute (.Subscript (.Name x p1) (.Constant (.int kz) j p2) p3) "append" apos) [e] [] cpos) pos) (sAppT i k w) := by
  refine ps_of (ps_expr (pe_bm PySem.F.plainAttrs_list PySem.F.slot_list_append PySem.F.type_list_append mt_appendF (pe_ix ix_tup hv pe_int hix) (pa_cons he pa_nil hst) hbase hfew hline hst hplain) hs) fun D σ H ⟨Hs, τ, D0, ⟨Fs, R⟩, hw, kn, _⟩ => ?_
  unfold sAppT at hw
  cases own : sget τ i with
  | vat t v =>
    rw [own] at hw
    cases t with
    | tup ts =>
      dsimp only at hw
      cases hk' : ts[k]? with
      | none => rw [hk'] at hw; exact hw.elim
      | some y =>
        rw [hk'] at hw
        cases y with
        | lst us =>
          obtain ⟨p, vs, q, wl, o, e1, sq, e2, el, e3, n0, eu, grow⟩ := R.grow own hk'
          have ev := (R.vat i _ v own).1
          subst e1
          subst hk
          have at1 : atI vs (k : Int) = some (.ref q) := by
            have hkl : k < vs.length := (List.getElem?_eq_some_iff.mp e2).1
            unfold atI ixN
            rw [if_pos (by omega), if_pos (by omega)]
            simpa using e2
          refine ⟨.ref p, ev, p, vs, k, .ref q, rfl, rfl, sq, at1, .inl ⟨rfl, wl, .inl (.inr ⟨o, e3⟩)⟩, τ, _, R.weak, hw, fun t y H1 S1 r1 q1 => ?_⟩
          obtain ⟨nt, hl, q2⟩ := q1
          have g := fun o' => grow H1 o' y t S1 nt r1
          refine ⟨q, wl, y, o, rfl, rfl, (g o).1, n0, by rw [← eu]; exact Nat.lt_of_lt_of_le hl (few (Nat.le_refl _)), fun o' => kn _ σ _ ⟨Fs, (g o').2⟩ q2⟩
        | _ => exact hw.elim
    | _ => exact hw.elim
  | _ => rw [own] at hw; exact hw.elim
end
section
variable {X : Cx} {e b c : Expr} {es : List Expr} {wa wb w : WE} {ws : WA} {pos : Pos} {st : Stmt}
def BlF (X : Cx) (f : Value) (rT : List T → (T → Prop) → Prop) : Prop := ∃ r : List V → Hp → VK → Prop, CallR X f r ∧ ∀ ts vs H (Q0 : List T → Prop) (Q : VK), Reps X.K H ts vs → rT ts (lstQ Q0) →
  (∀ us p o ys, H p = none → Reps X.K H us ys → Q0 us → Q (.ref p) (upd H p (.frz o (.lst ys)))) → r vs H Q
theorem bl_sortedF : BlF X (.builtin "sorted") rSortT := by
  refine ⟨_, call_sortedS, fun ts vs H Q0 Q r q k => ?_⟩
  unfold rSortT at q
  split at q
  · obtain ⟨v, rfl, r1⟩ := reps1 r
    split at q
    · rename_i zs e
      rw [strsOf_eq e, rep_lst] at r1
      obtain ⟨p, ys, rfl, sq, rr⟩ := r1
      rw [reps_strs_inv rr] at sq
      exact ⟨p, zs, rfl, sq.sq, q.1, fun us hp hs l o hl => k _ l o _ hl (reps_strs us) (q.2 us hp hs)⟩
    · exact q.elim
  · exact q.elim
theorem jf_of {rT : List T → (T → Prop) → Prop} {r : List V → Hp → VK → Prop} (hp : PE X e (tCB r (upA X.K X.H₀ ws))) (br : ∀ ts vs H (Q0 : List T → Prop) (Q : VK), Reps X.K H ts vs → rT ts (lstQ Q0) → (∀ us p o ys, H p = none → Reps X.K H us ys → Q0 us → Q (.ref p) (upd H p (.frz o (.lst ys)))) → r vs H Q) : JF X e (wCB rT ws) := by
  intro pins s σ H Q I ⟨τ, Q0, R, hw, k⟩
  refine thn (hp pins s σ H (fun v H' => ∃ us p o ys H1, v = .ref p ∧ H' = upd H1 p (.frz o (.lst ys)) ∧ Same H H1 ∧ H1 p = none ∧ Reps X.K H1 us ys ∧ Q0 us) I ⟨τ, _, R, hw, fun ts vs H1 S1 r1 q1 => br ts vs H1 Q0 _ r1 q1 fun us p o ys hn rr q => ⟨us, p, o, ys, H1, rfl, rfl, S1, hn, rr, q⟩⟩) fun u s1 ⟨v, H2, I2, rv, us, p, o, ys, H1, e1, e2, S1, hn, rr, q⟩ => ?_
  subst e1 e2
  have hH : H p = none := S1.free hn
  have h0 : X.H₀ p = none := R.same.free hH
  have I3 := Inv.unfreeze I2 upd_same h0
  rw [upd_upd] at I3
  have sm : Same H (upd H1 p (.lst ys)) := S1.trans (same_new hn _)
  exact ⟨.ref p, _, I3, rv, k us p ys _ sm h0 hH upd_same (rr.kp (.of (same_new hn _))) q⟩
theorem jbltF {x : Str} {p : Pos} {id : String} {rT : List T → (T → Prop) → Prop} (h : BlF X (.builtin id) rT) (hg : Gl X x) (hm : X.mg x = none) (hv : bootBuiltins x = some (.builtin id)) (ha : JA X (e :: es) ws) (hn : x ≠ "__name__" := by decide)
    (hdb : (x == ("__debug__" : Str)) = false := by decide) (he : starEach (e :: es) X.env = (false, eval e X.env) :: starEach es X.env := by exact star1 rfl) (hpl : (backTo pos (starEach es X.env)).any (·.1) = false := by exact stars rfl) :
    JF X (.Call (.Name x p) (e :: es) [] pos) (wCB rT ws) := by
  obtain ⟨r, hc, br⟩ := h
  exact jf_of (pe_callB hc hg hm hv ha hn hdb he hpl) br
def sOwnW (i : Nat) (w : WE) : WS := fun D τ => w τ (lstQ fun us => D.nx (sput τ i (.own us)))
theorem fnOe {P : Program} {w : World} {K : PySem.W.Frag} {mg : Str → Option Value} {base : Heap} {x qual : Str} {st : Stmt} {f : Addr} {fd : FuncData} {N ps : List Str} {k : Nat} {S : SpO} {W : WS} {we : WE} {ini : List Stmt} {re : Expr} {rpos : Pos} (F : Fun K x qual st f fd) (SC : FnScope N ps (defScope st))
    (hlen : ∀ ts Q, S ts Q → ts.length = ps.length) (hst : defBody st = ini ++ [.Return (some re) rpos])
    (hbody : ∀ (cdv : Value) (A : Around) (outer : List Env) (s : Shared) (H : Hp) (E : XK), Room k (A.deeper (envOfC qual (defScope st) s.heap.objs.size f cdv)) → JSs (cxOf CX0 P w K mg base N qual (defScope st) f cdv A outer s H E).nox ini W ∧ JF (cxOf CX0 P w K mg base N qual (defScope st) f cdv A outer s H E).nox re we)
    (hw : ∀ ts Q, S ts Q → W { nx := fun τ => we τ (lstQ Q), rt := fun _ => False } (startT N.length ts)) : FnO P w K mg base (k + 1) f fd ps S := by
  refine ⟨F.ok SC (fun vs H Q E h => ?_) (fun cdv A outer s H vs Q E hr h => ?_), hlen⟩
  · obtain ⟨_, _, e, _⟩ := h
    exact e
  obtain ⟨ts, Q0, e, r, hS, q⟩ := h
  obtain ⟨b1, b2⟩ := hbody cdv A outer s H E hr
  rw [hst]
  refine ⟨_, pss_app b1 (pss_one (ps_ret b2)), startT N.length ts, _, repSt_start r, hw ts Q0 hS, fun τ' σ' H' _ R n => ?_, fun t v H' S r' n => n.elim, fun τ' σ' H' _ R n => n.elim, fun τ' σ' H' _ R n => n.elim⟩
  exact ⟨τ', Q0, R, n, fun us p ws H2 S2 h0 _ hp rr n2 => q us p ws H2 (R.same.trans S2) h0 hp rr n2⟩
theorem pv_nil : PA X [] (tVars []) := pa_nil
theorem pv_cons {i : Nat} {is : List Nat} (hv : PE X e (tVar i)) (h : PA X es (tVars is)) (hs : starEach (e :: es) X.env = (false, eval e X.env) :: starEach es X.env := by rfl) : PA X (e :: es) (tVars (i :: is)) := pa_cons hv h hs
end
section
variable {X : Cx} {e b c a : Expr} {es : List Expr} {wa wb w : WE} {ws : WA} {pos : Pos}
def sgnT (x : Str) : List T := x.cps.toList.map fun c => .str ⟨#[c]⟩
def iStr (w : WE) : WI := fun τ Q => w τ fun t => match t with
  | .str x => x.cps.all (· < 128) = true ∧ Q (sgnT x)
  | _ => False
def cLeS (x y : T) (Q : Bool → Prop) : Prop := match x, y with
  | .str i, .str j => Q (!(decide (j.cps.toList < i.cps.toList)))
  | _, _ => False
end
end TL
end
section
set_option Elab.async false
set_option linter.all false
set_option maxRecDepth 100000
set_option maxHeartbeats 4000000
namespace TL
open PySem PySem.Spec PyProof.Rows L2
def upOT (K : PySem.W.Frag) (H0 : Hp) (w : WS) : TS := fun D σ H => ∃ (τ : List Slot) (D0 : DT), RepSt K H0 H σ τ ∧ w D0 τ ∧
  (∀ τ' σ' H', Kp H H' → RepSt K H0 H' σ' τ' → D0.nx τ' → D.nx σ' H') ∧ (∀ us v F H', Same H0 H' → (∀ q ∈ F, H0 q = none) → OT K H' (rawL H') us v F → D0.rt (.tup us) → D.rt v H')
def JOT (X : Cx) (st : Stmt) (w : WS) : Prop := PS X st (upOT X.K X.H₀ w)
def JOTs (X : Cx) (st : List Stmt) (w : WS) : Prop := PSs X st (upOT X.K X.H₀ w)
section
variable {X : Cx} {e b c : Expr} {es : List Expr} {wa wb w : WE} {ws : WA} {ua : WT} {t u : WS} {pos : Pos} {st : Stmt} {rest a d : List Stmt}
theorem jot_nil : JOTs X [] sNext := pss_of pss_nil fun D σ H ⟨τ, D0, R, hw, k, _⟩ => k τ σ H (.refl H) R hw
theorem jot_1 (h : JOT X st t) : JOTs X [st] t := pss_of (pss_one h) fun D σ H z => z
theorem jot_c (h1 : JOT X st t) (h2 : JOTs X rest u) : JOTs X (st :: rest) (sSeq t u) := pss_of (pss_cons h1 h2) fun D σ H ⟨τ, D0, R, hw, kn, kr⟩ =>
  ⟨τ, _, R, hw, fun τ' σ' H' K1 R' q => ⟨τ', D0, R', q, fun τ2 σ2 H2 K2 R2 q2 => kn τ2 σ2 H2 (K1.trans K2) R2 q2, kr⟩, kr⟩
def sNoR (w : WS) : WS := fun D τ => w { nx := D.nx, rt := fun _ => False } τ
theorem jot_s (h : JS X st t) : JOT X st (sNoR t) := ps_of h fun D σ H ⟨τ, D0, R, hw, kn, kr⟩ => ⟨τ, _, R, hw, kn, fun t v H' S r n => n.elim, fun τ' σ' H' _ R n => n.elim, fun τ' σ' H' _ R n => n.elim⟩
theorem jot_if (hc : JT X c ua) (ha : JOTs X a t) (hb : JOTs X d u) : JOT X (.If c a d pos) (sIf ua t u) := ps_of (ps_if hc ha hb) fun D σ H ⟨τ, D0, R, hw, kn, kr⟩ => by
  refine ⟨τ, _, R, hw, fun k H1 S1 q => ?_⟩
  cases k with
  | true => exact ⟨τ, D0, R.mono S1, q.1 rfl, fun τ' σ' H' K1 R' n => kn τ' σ' H' ((Kp.of S1).trans K1) R' n, kr⟩
  | false => exact ⟨τ, D0, R.mono S1, q.2 rfl, fun τ' σ' H' K1 R' n => kn τ' σ' H' ((Kp.of S1).trans K1) R' n, kr⟩
def sRetP (ws : WA) : WS := fun D τ => ws τ fun ts => ts.length ≤ 1000 ∧ noLs ts = true ∧ D.rt (.tup ts)
theorem ots_plain {K : PySem.W.Frag} {H : Hp} {L : Addr → List V → Prop} : ∀ {ts : List T} {vs : List V}, Reps K H ts vs → noLs ts = true → OTs K H L ts vs []
  | [], _, h, _ => by rw [reps_nil.mp h]; exact .nil
  | t :: ts, _, h, n => by
    obtain ⟨v, vs, rfl, r, rs⟩ := reps_cons.mp h
    simp only [TL.noLs, Bool.and_eq_true] at n
    exact .plain n.1 r (ots_plain rs n.2)
theorem jot_retP {x1} {tpos : Pos} (h : JA X es ws) : JOT X (.Return (some (.Tuple es x1 tpos)) pos) (sRetP ws) := ps_of (ps_ret (pe_tup h)) fun D σ H ⟨τ, D0, R, hw, kn, kr⟩ =>
  ⟨τ, _, R, hw, fun ts vs H' S r ⟨l, n, q⟩ => ⟨by rw [r.length]; exact few l, fun p hp =>
    have S1 : Same H' (upd H' p (.tup vs)) := same_new hp _
    kr ts (.ref p) [] _ ((R.same.trans S).trans S1) (fun q m => absurd m (by simp)) ⟨p, vs, rfl, SqT.of upd_same, (ots_plain (L := rawL H') r n).like (.same S1) fun b ws m _ => absurd m (by simp)⟩ q⟩⟩
def sRetO (w : WE) (i : Nat) : WS := fun D τ => w τ fun t => noL t = true ∧ match sget τ i with | .own us => noLs us = true ∧ D.rt (.tup [t, .lst us]) | _ => False
theorem jot_retO {i : Nat} {x1} {tpos : Pos} (h : JE X e w) (hv : PE X b (tVar i)) (hs : starEach [e, b] X.env = (false, eval e X.env) :: starEach [b] X.env := by rfl) (hs' : starEach [b] X.env = (false, eval b X.env) :: starEach [] X.env := by rfl) :
    JOT X (.Return (some (.Tuple [e, b] x1 tpos)) pos) (sRetO w i) := ps_of (ps_ret (pe_tup (pa_cons h (pa_cons hv pa_nil hs') hs))) fun D σ H ⟨τ, D0, R, hw, kn, kr⟩ => by
  refine ⟨τ, _, R, hw, fun t v H' S r ⟨n, q⟩ => ?_⟩
  cases own : sget τ i with
  | own us =>
    rw [own] at q
    have sl := R.slot i
    rw [own] at sl
    obtain ⟨p, wl, ev, hp, rr, n0⟩ := sl
    refine ⟨.ref p, ev, few (by show 2 ≤ 1000; decide), fun p' hp' => ?_⟩
    have S1 : Same H' (upd H' p' (.tup [v, .ref p])) := same_new hp' _
    refine kr [t, .lst us] (.ref p') [p] _ ((R.same.trans S).trans S1) (fun q m => by rw [List.mem_singleton.mp m]; exact n0) ⟨p', [v, .ref p], rfl, SqT.of upd_same, ?_⟩ q.2
    exact .plain n (r.kp (Kp.of S1)) (.list ((S.trans S1) _ _ hp) q.1 (rr.kp (Kp.of (S.trans S1))) (by simp) .nil)
  | _ => rw [own] at q; exact q.elim
def sRetC (S : SpOT) (ws : WA) : WS := fun D τ => ws τ fun ts => S ts fun us => D.rt (.tup us)
end
def endR (Q : List T → Prop) : DT := { nx := fun _ => False, rt := fun t => match t with | .tup us => Q us | _ => False }
theorem fnOTr {P : Program} {w : World} {K : PySem.W.Frag} {mg : Str → Option Value} {base : Heap} {x qual : Str} {st : Stmt} {f : Addr} {fd : FuncData} {N ps : List Str} {k : Nat} {S : SpOT} {W : WS} (F : Fun K x qual st f fd) (SC : FnScope N ps (defScope st))
    (hlen : ∀ ts Q, S ts Q → ts.length = ps.length)
    (hbody : ∀ (cdv : Value) (A : Around) (outer : List Env) (s : Shared) (H : Hp) (E : XK), Room k (A.deeper (envOfC qual (defScope st) s.heap.objs.size f cdv)) → JOTs (cxOf CX0 P w K mg base N qual (defScope st) f cdv A outer s H E).nox (defBody st) W)
    (hw : ∀ ts Q, S ts Q → W (endR Q) (startT N.length ts)) : FnOT P w K mg base (k + 1) f fd ps S := by
  refine ⟨F.ok SC (fun vs H Q E h => ?_) (fun cdv A outer s H vs Q E hr h => ?_), hlen⟩
  · obtain ⟨_, _, e, _⟩ := h
    exact e
  obtain ⟨ts, Q0, e, r, hS, q⟩ := h
  exact ⟨_, hbody cdv A outer s H E hr, startT N.length ts, endR Q0, repSt_start r, hw ts Q0 hS, fun τ' σ' H' _ R n => n.elim, fun us v F H' S fr ot n => q us v F H' S fr ot n⟩
end TL
end
set_option Elab.async false
set_option linter.all false
set_option maxRecDepth 100000
set_option maxHeartbeats 4000000
namespace TL
open PySem PySem.Spec PyProof.Rows L2
theorem cpow10 (n : Int) (h : 0 ≤ n ∧ n ≤ 1000000) : CPow 10 n := ⟨h.1, h.2, by decide⟩
theorem Lim.of {n : Nat} {i : Int} (h1 : -(10 ^ n) < i) (h2 : i < 10 ^ n) : Lim n i := by
  unfold Lim
  have : ((10 ^ n : Nat) : Int) = 10 ^ n := by simp
  omega
theorem Lim.mono {m n : Nat} {i : Int} (h : Lim m i) (hn : m ≤ n) : Lim n i := Nat.lt_of_lt_of_le h (Nat.pow_le_pow_right (by decide) hn)
theorem Lim.mul {m n : Nat} {i j : Int} (a : Lim m i) (b : Lim n j) : Lim (m + n) (i * j) := by
  unfold Lim at *
  rw [Int.natAbs_mul, Nat.pow_add]
  exact Nat.mul_lt_mul'' a b
theorem Lim.add {m n : Nat} {i j : Int} (a : Lim m i) (b : Lim n j) : Lim (max m n + 1) (i + j) := by
  have a' := a.mono (Nat.le_max_left m n)
  have b' := b.mono (Nat.le_max_right m n)
  unfold Lim at *
  rw [Nat.pow_succ]
  have := Int.natAbs_add_le i j
  omega
theorem Lim.neg {m : Nat} {i : Int} (a : Lim m i) : Lim m (-i) := by
  unfold Lim at *
  rw [Int.natAbs_neg]
  exact a
theorem Lim.sub {m n : Nat} {i j : Int} (a : Lim m i) (b : Lim n j) : Lim (max m n + 1) (i - j) := by
  rw [Int.sub_eq_add_neg]
  exact a.add b.neg
theorem Lim.le {m : Nat} {i j : Int} (a : Lim m i) (h : j.natAbs ≤ i.natAbs) : Lim m j := Nat.lt_of_le_of_lt h a
theorem mulOk {m n : Nat} {i j : Int} (a : Lim m i) (b : Lim n j) (hm : m ≤ 100000 := by decide) (hn : n ≤ 100000 := by decide) : MulOk i j := .inl ⟨m, n, hm, hn, a, b⟩
theorem divOk {n : Nat} {j : Int} (h : j ≠ 0) (b : Lim n j) (hn : n ≤ 2200 := by decide) : DivOk j := ⟨h, n, hn, b⟩
theorem fmod_pos {b : Int} (a : Int) (h : 0 < b) : 0 ≤ a.fmod b ∧ a.fmod b < b := ⟨Int.fmod_nonneg_of_pos a h, Int.fmod_lt_of_pos a h⟩
theorem small_lim {n : Nat} {i : Int} (h0 : 0 ≤ i) (h1 : i < 10 ^ n) : Lim n i := Lim.of (by have : (0 : Int) < 10 ^ n := Int.pow_pos (by decide); omega) h1
theorem plain_ints : ∀ ns : List Int, PyData.canLayAll0 (pds (ns.map T.int)) = true
  | [] => by simp [pds, PyData.canLayAll0]
  | n :: r => by simp only [List.map, pds, pd, PyData.canLayAll0, PyData.canLay0, plain_ints r, Bool.and_self]
theorem dep_ints : ∀ ns : List Int, PyData.depthAll (pds (ns.map T.int)) = 0
  | [] => by simp [pds, PyData.depthAll]
  | n :: r => by simp only [List.map, pds, pd, PyData.depthAll, PyData.depth, dep_ints r, Nat.max_self]
theorem eqOk_tup (ns ms : List Int) : EqOk (.tup (ns.map T.int)) (.tup (ms.map T.int)) := by
  refine ⟨by simp only [plain, pd, PyData.canLay0, plain_ints], by simp only [plain, pd, PyData.canLay0, plain_ints], by simp only [dep, pd, PyData.depth, dep_ints]; decide⟩
theorem atI0 {α : Type} (a : α) (r : List α) : atI (a :: r) 0 = some a := by
  unfold atI ixN
  rw [if_pos (by decide), if_pos (by simp)]
  rfl
theorem atI1 {α : Type} (a b : α) (r : List α) : atI (a :: b :: r) 1 = some b := by
  unfold atI ixN
  rw [if_pos (by decide), if_pos (by simp; omega)]
  rfl
theorem atI2 {α : Type} (a b c : α) (r : List α) : atI (a :: b :: c :: r) 2 = some c := by
  unfold atI ixN
  rw [if_pos (by decide), if_pos (by simp; omega)]
  rfl
def Within : List Int → List Int → Prop
  | [], [] => True
  | r :: rs, b :: bs => (0 ≤ r ∧ r < b) ∧ Within rs bs
  | _, _ => False
theorem Within.length : ∀ {rs bs : List Int}, Within rs bs → rs.length = bs.length
  | [], [], _ => rfl
  | _ :: _, _ :: _, h => by simp [h.2.length]
  | [], _ :: _, h => h.elim
  | _ :: _, [], h => h.elim
@[elab_as_elim] theorem args0 {α : Type} {M : List α → Prop} {us : List α} (hl : us.length = 0) (h : M []) : M us := by cases us; exact h; cases hl
@[elab_as_elim] theorem argsS {α : Type} {M : List α → Prop} {us : List α} {n : Nat} (hl : us.length = n + 1) (h : ∀ a r, r.length = n → M (a :: r)) : M us := by cases us; cases hl; exact h _ _ (Nat.succ.inj hl)
@[elab_as_elim] theorem args1 {α : Type} {M : List α → Prop} {us : List α} (hl : us.length = 1) (h : ∀ a, M [a]) : M us := argsS (M := M) hl fun a r hl => args0 (M := fun r => M (a :: r)) hl (h a)
@[elab_as_elim] theorem args2 {α : Type} {M : List α → Prop} {us : List α} (hl : us.length = 2) (h : ∀ a b, M [a, b]) : M us := argsS (M := M) hl fun a r hl => args1 (M := fun r => M (a :: r)) hl (h a)
@[elab_as_elim] theorem args3 {α : Type} {M : List α → Prop} {us : List α} (hl : us.length = 3) (h : ∀ a b c, M [a, b, c]) : M us := argsS (M := M) hl fun a r hl => args2 (M := fun r => M (a :: r)) hl (h a)
@[elab_as_elim] theorem args4 {α : Type} {M : List α → Prop} {us : List α} (hl : us.length = 4) (h : ∀ a b c d, M [a, b, c, d]) : M us := argsS (M := M) hl fun a r hl => args3 (M := fun r => M (a :: r)) hl (h a)
local macro_rules | `(tactic| walk_at "tw") => `(tactic| simp only [sSeq, sNext, sSet, sIf, sRet, sOwn, sApp, sFrz, sAsg, sPar, sFor, sNever, sExpr, sRetN, gT, gsC, gs0, gN, wVar, wC, w2, rAddT, rSubT, rMulT, rDivT, rModT, rPowT, wNeg, wCmp, tCmpT, cLtT, cLeT, cGtT, cGeT, cEqT, cNeT, cIsN, cNotN, wChain, tChainT, tAndT, tOrT, tNotT, tVal, wAndV, wOrV, wNotV, wIfE, aNil, aCons, wTup, wLst, rIxTT, wCB, rLenT, rAbsT, rMaxT, rMinT, rTupleT, isK, noExc, wIsi, wCall, sget, sput, iSeq, iRange1, iRange2, iEnum, iZip, seqOf, zipT, wComp, compT, hide, tTrue, rSumT, intsOf, rAllT, boolsOf, rListT, rCatLT, rMin3T, iRange3, wRev, wRevA, wSl, wo, wo0, rSlTT, wOIx, wOLen, tONe, rIxST, rAddST, rMulST, tTruT, cInT, cNotInT, rSortT, strsOf, wDIx, wRepL, sDic, wDis, tNinD, sOwnF, sSetIx, sCatO, iOwn, endO, frO, wFz, tFz, sFzS, vatT, vat1, backT, lone, lone1, noL, noLs, rMulLT, lstQ, wCount, rCountTs, cInTT, sEnt, sLv, sBorn, sSetN, sAppT, sOwnW, frOT, ownsT, endOT, dropV, valV, noV, isV, drop1, val1, iStr, sgnT, cLeS, sNoR, sRetP, sRetO, sRetC, endR, wJoin, rJoinT, rStrT, wSlS, rAddAT, rLenST, sOwnC, Option.map, List.sum_cons, List.sum_nil, rangeT, startT, atI0, atI1, atI2, List.map, List.length_cons, List.length_nil, List.append_nil, List.cons_append, List.nil_append, List.replicate, Nat.reduceAdd, Nat.reduceSub, Nat.reduceLeDiff, Nat.zero_le, Int.reduceToNat, Int.reducePow, Int.reduceMul, Int.reduceAdd, true_and, and_true])
local macro_rules | `(tactic| walk_at "go") => `(tactic| ((conv => whnf); repeat (first | (refine And.intro (by first | rfl | exact trivial | decide | exact Nat.le_of_ble_eq_true rfl | exact mulOk (by assumption) (by assumption) | assumption) ?_; conv => whnf) | (refine And.intro (fun q => Bool.noConfusion q) (fun _ => ?_); conv => whnf) | (refine And.intro (fun _ => ?_) (fun q => Bool.noConfusion q); conv => whnf))))
local macro_rules | `(tactic| walk_at "nf1") => `(tactic| conv => arg 1; simp only [startT, sput, sget, hide, List.map, List.replicate, List.length_cons, List.length_nil, Nat.reduceAdd, Nat.reduceSub, List.cons_append, List.nil_append, List.append_nil])
local macro_rules | `(tactic| walk_at "nf2") => `(tactic| conv => arg 2; simp only [startT, sput, sget, hide, List.map, List.replicate, List.length_cons, List.length_nil, Nat.reduceAdd, Nat.reduceSub, List.cons_append, List.nil_append, List.append_nil])
theorem gcd_step (a b : Int) : Int.gcd b (a.fmod b) = Int.gcd a b := by
  rw [Int.fmod_def, Int.gcd_sub_mul_left_right, Int.gcd_comm]
theorem fmod_abs_lt (a : Int) {b : Int} (h : b ≠ 0) : (a.fmod b).natAbs < b.natAbs := by
  rw [Int.fmod_eq_emod]
  have h1 := Int.emod_nonneg a h
  have h2 := Int.emod_lt a h
  by_cases hb : 0 ≤ b
  · rw [if_pos (Or.inl hb)]
    omega
  · by_cases hd : b ∣ a
    · rw [if_pos (Or.inr hd), Int.emod_eq_zero_of_dvd hd]
      omega
    · have h3 : a % b ≠ 0 := fun e => hd (Int.dvd_of_emod_eq_zero e)
      rw [if_neg (by omega)]
      omega
structure Frac (p q a b : Int) : Prop where
  pos : 0 < q
  cop : Int.gcd p q = 1
  eq : p * b = a * q
  top : p.natAbs ≤ a.natAbs
  bot : q.natAbs ≤ b.natAbs
theorem frac_mk (a : Int) {b f : Int} (hb : b ≠ 0) (hf : (0 < b ∧ f = (Int.gcd a b : Int)) ∨ (b < 0 ∧ f = -(Int.gcd a b : Int))) : Frac (a.fdiv f) (b.fdiv f) a b := by
  have g0 : 0 < Int.gcd a b := Int.gcd_pos_iff.mpr (Or.inr hb)
  have fa : f.natAbs = Int.gcd a b := by rcases hf with ⟨_, e⟩ | ⟨_, e⟩ <;> rw [e] <;> simp
  have fn : f ≠ 0 := by omega
  have da : f ∣ a := by
    have := Int.gcd_dvd_left a b
    rcases hf with ⟨_, e⟩ | ⟨_, e⟩
    · rw [e]; exact this
    · rw [e]; exact Int.neg_dvd.mpr this
  have db : f ∣ b := by
    have := Int.gcd_dvd_right a b
    rcases hf with ⟨_, e⟩ | ⟨_, e⟩
    · rw [e]; exact this
    · rw [e]; exact Int.neg_dvd.mpr this
  obtain ⟨a', ea⟩ := da
  obtain ⟨b', eb⟩ := db
  have e1 : a.fdiv f = a' := by rw [ea]; exact Int.mul_fdiv_cancel_left a' fn
  have e2 : b.fdiv f = b' := by rw [eb]; exact Int.mul_fdiv_cancel_left b' fn
  rw [e1, e2]
  have bn : b' ≠ 0 := by rintro rfl; rw [Int.mul_zero] at eb; exact hb eb
  have cop : Int.gcd a' b' = 1 := by
    have q : Int.gcd a b = f.natAbs * Int.gcd a' b' := by rw [ea, eb, Int.gcd_mul_left]
    rw [fa] at q
    have q' : Int.gcd a b * 1 = Int.gcd a b * Int.gcd a' b' := by rw [Nat.mul_one]; exact q
    exact (Nat.eq_of_mul_eq_mul_left g0 q').symm
  have na : a.natAbs = f.natAbs * a'.natAbs := by rw [ea, Int.natAbs_mul]
  have nb : b.natAbs = f.natAbs * b'.natAbs := by rw [eb, Int.natAbs_mul]
  have f1 : 1 ≤ f.natAbs := by omega
  refine ⟨?_, cop, ?_, ?_, ?_⟩
  · rcases hf with ⟨hp, e⟩ | ⟨hn, e⟩
    · have fp : 0 < f := by omega
      rw [eb] at hp
      rcases Int.lt_trichotomy b' 0 with z | z | z
      · have := Int.mul_neg_of_pos_of_neg fp z
        omega
      · exact absurd z bn
      · exact z
    · have fp : f < 0 := by omega
      rw [eb] at hn
      rcases Int.lt_trichotomy b' 0 with z | z | z
      · have := Int.mul_pos_of_neg_of_neg fp z
        omega
      · exact absurd z bn
      · exact z
  · rw [ea, eb]
    rw [← Int.mul_assoc, Int.mul_comm a' f]
  · rw [na]; exact Nat.le_mul_of_pos_left _ f1
  · rw [nb]; exact Nat.le_mul_of_pos_left _ f1
theorem low_uniq {p q p' q' : Int} (hq : 0 < q) (hq' : 0 < q') (c : Int.gcd p q = 1) (c' : Int.gcd p' q' = 1) (e : p * q' = p' * q) : p = p' ∧ q = q' := by
  have n : p.natAbs * q'.natAbs = p'.natAbs * q.natAbs := by rw [← Int.natAbs_mul, ← Int.natAbs_mul, e]
  have c1 : Nat.Coprime q.natAbs p.natAbs := by
    have : Nat.gcd p.natAbs q.natAbs = 1 := c
    exact (Nat.gcd_comm _ _).trans this
  have c2 : Nat.Coprime q'.natAbs p'.natAbs := by
    have : Nat.gcd p'.natAbs q'.natAbs = 1 := c'
    exact (Nat.gcd_comm _ _).trans this
  have d1 : q.natAbs ∣ q'.natAbs := c1.dvd_of_dvd_mul_left ⟨p'.natAbs, by rw [n, Nat.mul_comm]⟩
  have d2 : q'.natAbs ∣ q.natAbs := c2.dvd_of_dvd_mul_left ⟨p.natAbs, by rw [← n, Nat.mul_comm]⟩
  have qe : q.natAbs = q'.natAbs := Nat.dvd_antisymm d1 d2
  have qq : q = q' := by omega
  subst qq
  exact ⟨Int.eq_of_mul_eq_mul_right (by omega) e, rfl⟩
mutual
theorem eqT_self : ∀ t : T, plain t = true → eqT t t = true
  | .non, _ => rfl
  | .bl b, _ => by rw [eqTb]; exact beq_self_eq_true b
  | .int i, _ => by rw [eqTe]; exact decide_eq_true rfl
  | .str x, _ => by rw [eqTf]; exact beq_self_eq_true x
  | .tup ts, h => by
    simp only [plain, pd, PyData.canLay0] at h
    exact eqTs_self ts h
  | .lst ts, h => by
    simp only [plain, pd, PyData.canLay0] at h
    exact eqTs_self ts h
  | .dct, h => by simp [plain, pd, PyData.canLay0] at h
  | .exc _, h => by simp [plain, pd, PyData.canLay0] at h
theorem eqTs_self : ∀ ts : List T, PyData.canLayAll0 (pds ts) = true → eqTs ts ts = true
  | [], _ => rfl
  | t :: r, h => by
    simp only [pds, PyData.canLayAll0, Bool.and_eq_true] at h
    rw [eqTj, Bool.and_eq_true]
    exact ⟨eqT_self t h.1, eqTs_self r h.2⟩
end
def Pn (n : Nat) (t : T) : Prop := plain t = true ∧ dep t ≤ n
theorem Pn.all {n : Nat} : ∀ {ts : List T}, (∀ t ∈ ts, Pn n t) → PyData.canLayAll0 (pds ts) = true ∧ PyData.depthAll (pds ts) ≤ n
  | [], _ => by simp [pds, PyData.canLayAll0, PyData.depthAll]
  | t :: r, h => by
    have h1 : (pd t).canLay0 = true ∧ (pd t).depth ≤ n := h t List.mem_cons_self
    have ih := Pn.all fun x hx => h x (List.mem_cons_of_mem _ hx)
    simp only [pds, PyData.canLayAll0, PyData.depthAll, Bool.and_eq_true]
    exact ⟨⟨h1.1, ih.1⟩, by omega⟩
theorem Pn.lst {n : Nat} {ts : List T} (h : ∀ t ∈ ts, Pn n t) : Pn (n + 1) (.lst ts) := by
  have := Pn.all h
  refine ⟨by simp only [plain, pd, PyData.canLay0]; exact this.1, ?_⟩
  simp only [dep, pd, PyData.depth]
  omega
theorem Pn.tup {n : Nat} {ts : List T} (h : ∀ t ∈ ts, Pn n t) : Pn (n + 1) (.tup ts) := by
  have := Pn.all h
  refine ⟨by simp only [plain, pd, PyData.canLay0]; exact this.1, ?_⟩
  simp only [dep, pd, PyData.depth]
  omega
theorem Pn.int (i : Int) : Pn 0 (.int i) := by
  refine ⟨by simp [plain, pd, PyData.canLay0], by simp [dep, pd, PyData.depth]⟩
theorem Pn.non : Pn 0 .non := by
  refine ⟨by simp [plain, pd, PyData.canLay0], by simp [dep, pd, PyData.depth]⟩
theorem Pn.up {n m : Nat} {t : T} (h : Pn n t) (hm : n ≤ m) : Pn m t := ⟨h.1, Nat.le_trans h.2 hm⟩
theorem Pn.ok {n m : Nat} {x y : T} (h : Pn n x) (h' : Pn m y) (hn : n ≤ 60) : EqOk x y := ⟨h.1, h'.1, by have := h.2; omega⟩
theorem Pn.self {n : Nat} {x : T} (h : Pn n x) : eqT x x = true := eqT_self x h.1
abbrev fra (a b : Int) : T := .tup [.int a, .int b]
structure Rt (p q n m : Int) : Prop where
  pos : 0 < q
  cop : Int.gcd p q = 1
  eq : p * m = n * q
theorem Frac.rt {p q a b : Int} (F : Frac p q a b) : Rt p q a b := ⟨F.pos, F.cop, F.eq⟩
theorem mul_cl {a b c : Int} (h : a ≠ 0) (e : a * b = a * c) : b = c := Int.eq_of_mul_eq_mul_left h e
theorem Rt.uniq {p q p' q' n m : Int} (hm : m ≠ 0) (A : Rt p q n m) (B : Rt p' q' n m) : p = p' ∧ q = q' := by
  refine low_uniq A.pos B.pos A.cop B.cop (mul_cl hm ?_)
  have e1 := A.eq
  have e2 := B.eq
  have h1 : m * (p * q') = (p * m) * q' := by grind
  have h2 : m * (p' * q) = (p' * m) * q := by grind
  rw [h1, h2, e1, e2]
  grind
theorem Rt.same {p q p' q' n m n' m' : Int} (hm : m ≠ 0) (hm' : m' ≠ 0) (e : n * m' = n' * m) (A : Rt p q n m) (B : Rt p' q' n' m') : p = p' ∧ q = q' := by
  refine low_uniq A.pos B.pos A.cop B.cop (mul_cl (Int.mul_ne_zero hm hm') ?_)
  have e1 := A.eq
  have e2 := B.eq
  have h1 : m * m' * (p * q') = (p * m) * (m' * q') := by grind
  have h2 : m * m' * (p' * q) = (p' * m') * (m * q) := by grind
  rw [h1, h2, e1, e2]
  have h3 : n * q * (m' * q') = (n * m') * (q * q') := by grind
  rw [h3, e]
  grind
theorem Rt.le {p q n m : Int} (hm : m ≠ 0) (A : Rt p q n m) : p.natAbs ≤ n.natAbs ∧ q.natAbs ≤ m.natAbs := by
  have e := A.eq
  have hq := A.pos
  have c1 : Nat.Coprime q.natAbs p.natAbs := by
    have : Nat.gcd p.natAbs q.natAbs = 1 := A.cop
    exact (Nat.gcd_comm _ _).trans this
  have en : p.natAbs * m.natAbs = n.natAbs * q.natAbs := by rw [← Int.natAbs_mul, ← Int.natAbs_mul, e]
  have d : q.natAbs ∣ m.natAbs := c1.dvd_of_dvd_mul_left ⟨n.natAbs, by rw [en, Nat.mul_comm]⟩
  obtain ⟨k, hk⟩ := d
  have hm' : 0 < m.natAbs := by omega
  have k0 : 0 < k := by
    rcases Nat.eq_zero_or_pos k with z | z
    · rw [z, Nat.mul_zero] at hk; omega
    · exact z
  have hq' : 0 < q.natAbs := by omega
  have en2 : n.natAbs = p.natAbs * k := by
    rw [hk] at en
    have : q.natAbs * (p.natAbs * k) = q.natAbs * n.natAbs := by rw [Nat.mul_comm q.natAbs n.natAbs, ← en, Nat.mul_left_comm]
    exact (Nat.eq_of_mul_eq_mul_left hq' this).symm
  exact ⟨by rw [en2]; exact Nat.le_mul_of_pos_right _ k0, by rw [hk]; exact Nat.le_mul_of_pos_right _ k0⟩
theorem Rt.lp {p q n m : Int} {k : Nat} (hm : m ≠ 0) (A : Rt p q n m) (h : Lim k n) : Lim k p := h.le (A.le hm).1
theorem Rt.lq {p q n m : Int} {k : Nat} (hm : m ≠ 0) (A : Rt p q n m) (h : Lim k m) : Lim k q := h.le (A.le hm).2
theorem Rt.sum {p q p' q' n n' m P R : Int} (A : Rt p q n m) (B : Rt p' q' n' m) (F : Frac P R (p * q' + p' * q) (q * q')) : Rt P R (n + n') m := by
  refine ⟨F.pos, F.cop, mul_cl (a := q * q') (by have := Int.mul_pos A.pos B.pos; omega) ?_⟩
  have e1 := A.eq
  have e2 := B.eq
  have e3 := F.eq
  clear A B F
  grind
theorem Rt.whole (x : Int) : Rt x 1 x 1 := ⟨by decide, by simp, rfl⟩
theorem Rt.neg {p q n m w : Int} (hm : 0 < m) (A : Rt p q n m) : (p * w < 0) ↔ (n * w < 0) := by
  have hq := A.pos
  have e : (p * w) * m = (n * w) * q := by have := A.eq; grind
  constructor
  · intro h
    have h1 := Int.mul_neg_of_neg_of_pos h hm
    rw [e] at h1
    rcases Int.lt_or_le (n * w) 0 with z | z
    · exact z
    · have := Int.mul_nonneg z (Int.le_of_lt hq); omega
  · intro h
    have h1 := Int.mul_neg_of_neg_of_pos h hq
    rw [← e] at h1
    rcases Int.lt_or_le (p * w) 0 with z | z
    · exact z
    · have := Int.mul_nonneg z (Int.le_of_lt hm); omega
def frG (n m : Int) : Int := if m < 0 then -(Int.gcd n m : Int) else (Int.gcd n m : Int)
def frN (n m : Int) : Int := n.fdiv (frG n m)
def frD (n m : Int) : Int := m.fdiv (frG n m)
def fr (n m : Int) : T := .tup [.int (frN n m), .int (frD n m)]
theorem fr_frac {n m : Int} (hm : m ≠ 0) : Frac (frN n m) (frD n m) n m := by
  unfold frN frD
  refine frac_mk n hm ?_
  unfold frG
  rcases Int.lt_or_lt_of_ne hm with z | z
  · exact .inr ⟨z, if_pos z⟩
  · exact .inl ⟨z, if_neg (by omega)⟩
theorem fr_rt {n m : Int} (hm : m ≠ 0) : Rt (frN n m) (frD n m) n m := (fr_frac hm).rt
theorem fr_of {p q n m : Int} (hm : m ≠ 0) (A : Rt p q n m) : fra p q = fr n m := by
  obtain ⟨e1, e2⟩ := A.uniq hm (fr_rt hm)
  rw [e1, e2, fr]
theorem fr_eq {n m n' m' : Int} (hm : m ≠ 0) (hm' : m' ≠ 0) (e : n * m' = n' * m) : fr n m = fr n' m' := by
  obtain ⟨e1, e2⟩ := (fr_rt hm).same hm hm' e (fr_rt hm')
  rw [fr, fr, e1, e2]
theorem fr_one (x : Int) : fra x 1 = fr x 1 := fr_of (by decide) (Rt.whole x)
theorem frN_lim {k : Nat} {n m : Int} (hm : m ≠ 0) (h : Lim k n) : Lim k (frN n m) := (fr_rt hm).lp hm h
theorem frD_lim {k : Nat} {n m : Int} (hm : m ≠ 0) (h : Lim k m) : Lim k (frD n m) := (fr_rt hm).lq hm h
theorem frD_pos {n m : Int} (hm : m ≠ 0) : 0 < frD n m := (fr_rt hm).pos
structure Two (k : Nat) (a b c d : Int) : Prop where
  hb : b ≠ 0
  hd : d ≠ 0
  la : Lim k a
  lb : Lim k b
  lc : Lim k c
  ld : Lim k d
theorem Two.mono {k k' : Nat} {a b c d : Int} (h : Two k a b c d) (hk : k ≤ k') : Two k' a b c d := ⟨h.hb, h.hd, h.la.mono hk, h.lb.mono hk, h.lc.mono hk, h.ld.mono hk⟩
theorem fr_sum {a b c d : Int} (hb : b ≠ 0) (hd : d ≠ 0) : fr (frN a b * frD c d + frN c d * frD a b) (frD a b * frD c d) = fr (a * d + c * b) (b * d) := by
  have A := fr_rt (n := a) hb
  have B := fr_rt (n := c) hd
  refine fr_eq (by have := Int.mul_pos A.pos B.pos; omega) (Int.mul_ne_zero hb hd) ?_
  have e1 := A.eq
  have e2 := B.eq
  generalize frN a b = p at e1 ⊢
  generalize frD a b = q at e1 ⊢
  generalize frN c d = r at e2 ⊢
  generalize frD c d = s at e2 ⊢
  clear A B
  have h1 : (p * s + r * q) * (b * d) = (p * b) * (s * d) + (r * d) * (q * b) := by grind
  rw [h1, e1, e2]
  grind
theorem fr_sub {a b c d : Int} (hb : b ≠ 0) (hd : d ≠ 0) : fr (frN a b * frD c d - frN c d * frD a b) (frD a b * frD c d) = fr (a * d - c * b) (b * d) := by
  have A := fr_rt (n := a) hb
  have B := fr_rt (n := c) hd
  refine fr_eq (by have := Int.mul_pos A.pos B.pos; omega) (Int.mul_ne_zero hb hd) ?_
  have e1 := A.eq
  have e2 := B.eq
  generalize frN a b = p at e1 ⊢
  generalize frD a b = q at e1 ⊢
  generalize frN c d = r at e2 ⊢
  generalize frD c d = s at e2 ⊢
  clear A B
  have h1 : (p * s - r * q) * (b * d) = (p * b) * (s * d) - (r * d) * (q * b) := by grind
  rw [h1, e1, e2]
  grind
theorem fr_mul {a b c d : Int} (hb : b ≠ 0) (hd : d ≠ 0) : fr (frN a b * frN c d) (frD a b * frD c d) = fr (a * c) (b * d) := by
  have A := fr_rt (n := a) hb
  have B := fr_rt (n := c) hd
  refine fr_eq (by have := Int.mul_pos A.pos B.pos; omega) (Int.mul_ne_zero hb hd) ?_
  have e1 := A.eq
  have e2 := B.eq
  generalize frN a b = p at e1 ⊢
  generalize frD a b = q at e1 ⊢
  generalize frN c d = r at e2 ⊢
  generalize frD c d = s at e2 ⊢
  clear A B
  have h1 : (p * r) * (b * d) = (p * b) * (r * d) := by grind
  rw [h1, e1, e2]
  grind
theorem frN_ne {c d : Int} (hd : d ≠ 0) (hc : c ≠ 0) : frN c d ≠ 0 := fun z => by
  have e := (fr_rt (n := c) hd).eq
  have q := frD_pos (n := c) hd
  rw [z, Int.zero_mul] at e
  exact Int.mul_ne_zero hc (by omega) e.symm
theorem fr_quo {a b c d : Int} (hb : b ≠ 0) (hd : d ≠ 0) (hc : c ≠ 0) : fr (frN a b * frD c d) (frD a b * frN c d) = fr (a * d) (b * c) := by
  have A := fr_rt (n := a) hb
  have B := fr_rt (n := c) hd
  have nz := frN_ne hd hc
  refine fr_eq (Int.mul_ne_zero (by have := A.pos; omega) nz) (Int.mul_ne_zero hb hc) ?_
  have e1 := A.eq
  have e2 := B.eq
  generalize frN a b = p at e1 ⊢
  generalize frD a b = q at e1 ⊢
  generalize frN c d = r at e2 ⊢
  generalize frD c d = s at e2 ⊢
  clear A B nz
  have h1 : (p * s) * (b * c) = (p * b) * (c * s) := by grind
  rw [h1, e1, ← e2]
  grind
theorem fr_sum1 {a c m : Int} (hm : m ≠ 0) : fr (a * m + c * m) (m * m) = fr (a + c) m := fr_eq (Int.mul_ne_zero hm hm) hm (by grind)
theorem abs_ite (a : Int) : (if a < 0 then -a else a) = (a.natAbs : Int) := by split <;> omega
def isWh : T → Bool
  | .int _ => true
  | _ => false
def sp_P_is_whole : SpT := fun ts Q => ∃ t, ts = [t] ∧ noExc t ∧ Q (.bl (isWh t))
theorem len_P_is_whole : ∀ ts Q, sp_P_is_whole ts Q → ts.length = 1 := by rintro ts Q ⟨_, e, _⟩; subst e; rfl
def w_P_is_whole : WS :=
  (sRet (wAndV (wIsi .int (wVar 0)) (wNotV (wIsi .bool (wVar 0)))))
theorem ok_P_is_whole : ∀ ts Q, sp_P_is_whole ts Q → w_P_is_whole { nx := fun _ => Q .non, rt := Q } (startT 1 ts) := by
  rintro _ Q ⟨t, rfl, ne, h⟩
  unfold w_P_is_whole
  walk_at "tw"
  cases t <;> simp [isK, isWh, noExc] at h ne ⊢ <;> exact h
def sp_P_greatest_factor : SpT := fun ts Q => ∃ a b : Int, ts = [.int a, .int b] ∧ Q (.int (Int.gcd a b))
theorem len_P_greatest_factor : ∀ ts Q, sp_P_greatest_factor ts Q → ts.length = 2 := by rintro ts Q ⟨_, _, e, _⟩; subst e; rfl
def w_P_greatest_factor_b0 : WS :=
  (sSeq (sSet 2 (w2 rModT (wVar 0) (wVar 1)))
    (sSeq (sSet 0 (wVar 1))
    (sSet 1 (wVar 2))))
def w_P_greatest_factor : WS :=
  (sSeq (sWhile (tCmpT cNeT (wVar 1) (wC (.int 0))) w_P_greatest_factor_b0)
    (sRet (wCB rAbsT (aCons (wVar 0) aNil))))
theorem ok_P_greatest_factor : ∀ ts Q, sp_P_greatest_factor ts Q → w_P_greatest_factor { nx := fun _ => Q .non, rt := Q } (startT 3 ts) := by
  rintro _ Q ⟨a, b, rfl, h⟩
  unfold w_P_greatest_factor
  walk_at "tw"
  refine ⟨fun m τ => ∃ (x y : Int) (s : Slot), τ = [.val (.int x), .val (.int y), s] ∧ Int.gcd x y = Int.gcd a b ∧ m = y.natAbs, ⟨_, _, _, _, rfl, rfl, rfl⟩, ?_⟩
  rintro m τ ⟨x, y, s, rfl, hg, rfl⟩
  unfold w_P_greatest_factor_b0
  walk_at "tw"
  refine ⟨fun c => ?_, fun c => ?_⟩
  · have c' : y ≠ 0 := by simpa using c
    exact ⟨c', _, fmod_abs_lt x c', _, _, _, rfl, by rw [gcd_step]; exact hg, rfl⟩
  · have e : y = 0 := by simpa using c
    subst e
    rw [Int.gcd_zero_right] at hg
    rw [abs_ite, hg]
    exact h
def sp_P_ratio_of : SpT := fun ts Q => ∃ a b : Int, ts = [.int a, .int b] ∧ b ≠ 0 ∧ Lim 2000 b ∧ Q (fr a b)
theorem len_P_ratio_of : ∀ ts Q, sp_P_ratio_of ts Q → ts.length = 2 := by rintro ts Q ⟨_, _, e, _⟩; subst e; rfl
def w_P_ratio_of_k0 : WS :=
  (sRet (wTup (aCons (w2 rDivT (wVar 0) (wVar 2)) (aCons (w2 rDivT (wVar 1) (wVar 2)) aNil))))
def w_P_ratio_of : WS :=
  (sSeq (sIf (tOrT (tNotT (tVal (wCall sp_P_is_whole (aCons (wVar 0) aNil)))) (tNotT (tVal (wCall sp_P_is_whole (aCons (wVar 1) aNil))))) sNever sNext)
    (sSeq (sIf (tCmpT cEqT (wVar 1) (wC (.int 0))) sNever sNext)
    (sSeq (sSet 2 (wCall sp_P_greatest_factor (aCons (wVar 0) (aCons (wVar 1) aNil))))
    (sSeq (sIf (tCmpT cLtT (wVar 1) (wC (.int 0))) (sSet 2 (wNeg (wVar 2))) sNext)
    w_P_ratio_of_k0))))
theorem ok_P_ratio_of : ∀ ts Q, sp_P_ratio_of ts Q → w_P_ratio_of { nx := fun _ => Q .non, rt := Q } (startT 3 ts) := by
  rintro _ Q ⟨a, b, rfl, hb, lb, h⟩
  simp only [w_P_ratio_of, w_P_ratio_of_k0]
  walk_at "tw"
  have g0 : 0 < Int.gcd a b := Int.gcd_pos_iff.mpr (Or.inr hb)
  have gl : (Int.gcd a b : Int).natAbs ≤ b.natAbs := by
    have d := Int.gcd_dvd_right a b
    have := Int.natAbs_dvd_natAbs.mpr d
    exact Nat.le_of_dvd (by omega) this
  refine ⟨_, rfl, trivial, ?_⟩
  walk_at "tw"
  simp only [isWh]
  refine ⟨fun z => (by cases z), fun _ => ⟨_, rfl, trivial, ?_⟩⟩
  walk_at "tw"
  simp only [isWh]
  refine ⟨fun z => (by cases z), fun _ => ⟨fun c => hb (of_decide_eq_true c), fun _ => ⟨a, b, rfl, ?_⟩⟩⟩
  walk_at "tw"
  refine ⟨fun c => ?_, fun c => ?_⟩
  · have c' : b < 0 := of_decide_eq_true c
    have dv : DivOk (-(Int.gcd a b : Int)) := divOk (by omega) (lb.le (by omega))
    unfold fr frN frD frG at h
    rw [if_pos c'] at h
    exact ⟨dv, dv, h⟩
  · have c' : ¬ b < 0 := of_decide_eq_false c
    have dv : DivOk (Int.gcd a b : Int) := divOk (by omega) (lb.le gl)
    unfold fr frN frD frG at h
    rw [if_neg c'] at h
    exact ⟨dv, dv, h⟩
def sp_P_ratio_sum : SpT := fun ts Q => ∃ a b c d : Int, ts = [fr a b, fr c d] ∧ Two 900 a b c d ∧ Q (fr (a * d + c * b) (b * d))
theorem len_P_ratio_sum : ∀ ts Q, sp_P_ratio_sum ts Q → ts.length = 2 := by rintro ts Q ⟨_, _, _, _, e, _⟩; subst e; rfl
def w_P_ratio_sum : WS :=
  (sRet (wCall sp_P_ratio_of (aCons (w2 rAddT (w2 rMulT (w2 rIxTT (wVar 0) (wC (.int 0))) (w2 rIxTT (wVar 1) (wC (.int 1)))) (w2 rMulT (w2 rIxTT (wVar 1) (wC (.int 0))) (w2 rIxTT (wVar 0) (wC (.int 1))))) (aCons (w2 rMulT (w2 rIxTT (wVar 0) (wC (.int 1))) (w2 rIxTT (wVar 1) (wC (.int 1)))) aNil))))
theorem ok_P_ratio_sum : ∀ ts Q, sp_P_ratio_sum ts Q → w_P_ratio_sum { nx := fun _ => Q .non, rt := Q } (startT 2 ts) := by
  rintro _ Q ⟨a, b, c, d, rfl, ⟨hb, hd, la, lb, lc, ld⟩, h⟩
  rw [← fr_sum hb hd] at h
  have q := Int.mul_pos (frD_pos (n := a) hb) (frD_pos (n := c) hd)
  have la := frN_lim hb la
  have lb := frD_lim (n := a) hb lb
  have lc := frN_lim hd lc
  have ld := frD_lim (n := c) hd ld
  unfold w_P_ratio_sum fr
  walk_at "tw"
  exact ⟨mulOk la ld, mulOk lc lb, mulOk lb ld, _, _, rfl, by omega, (lb.mul ld).mono (by decide), h⟩
def sp_P_ratio_less : SpT := fun ts Q => ∃ a b c d : Int, ts = [fr a b, fr c d] ∧ Two 900 a b c d ∧ Q (fr (a * d - c * b) (b * d))
theorem len_P_ratio_less : ∀ ts Q, sp_P_ratio_less ts Q → ts.length = 2 := by rintro ts Q ⟨_, _, _, _, e, _⟩; subst e; rfl
def w_P_ratio_less : WS :=
  (sRet (wCall sp_P_ratio_of (aCons (w2 rSubT (w2 rMulT (w2 rIxTT (wVar 0) (wC (.int 0))) (w2 rIxTT (wVar 1) (wC (.int 1)))) (w2 rMulT (w2 rIxTT (wVar 1) (wC (.int 0))) (w2 rIxTT (wVar 0) (wC (.int 1))))) (aCons (w2 rMulT (w2 rIxTT (wVar 0) (wC (.int 1))) (w2 rIxTT (wVar 1) (wC (.int 1)))) aNil))))
theorem ok_P_ratio_less : ∀ ts Q, sp_P_ratio_less ts Q → w_P_ratio_less { nx := fun _ => Q .non, rt := Q } (startT 2 ts) := by
  rintro _ Q ⟨a, b, c, d, rfl, ⟨hb, hd, la, lb, lc, ld⟩, h⟩
  rw [← fr_sub hb hd] at h
  have q := Int.mul_pos (frD_pos (n := a) hb) (frD_pos (n := c) hd)
  have la := frN_lim hb la
  have lb := frD_lim (n := a) hb lb
  have lc := frN_lim hd lc
  have ld := frD_lim (n := c) hd ld
  unfold w_P_ratio_less fr
  walk_at "tw"
  exact ⟨mulOk la ld, mulOk lc lb, mulOk lb ld, _, _, rfl, by omega, (lb.mul ld).mono (by decide), h⟩
def sp_P_ratio_times : SpT := fun ts Q => ∃ a b c d : Int, ts = [fr a b, fr c d] ∧ Two 900 a b c d ∧ Q (fr (a * c) (b * d))
theorem len_P_ratio_times : ∀ ts Q, sp_P_ratio_times ts Q → ts.length = 2 := by rintro ts Q ⟨_, _, _, _, e, _⟩; subst e; rfl
def w_P_ratio_times : WS :=
  (sRet (wCall sp_P_ratio_of (aCons (w2 rMulT (w2 rIxTT (wVar 0) (wC (.int 0))) (w2 rIxTT (wVar 1) (wC (.int 0)))) (aCons (w2 rMulT (w2 rIxTT (wVar 0) (wC (.int 1))) (w2 rIxTT (wVar 1) (wC (.int 1)))) aNil))))
theorem ok_P_ratio_times : ∀ ts Q, sp_P_ratio_times ts Q → w_P_ratio_times { nx := fun _ => Q .non, rt := Q } (startT 2 ts) := by
  rintro _ Q ⟨a, b, c, d, rfl, ⟨hb, hd, la, lb, lc, ld⟩, h⟩
  rw [← fr_mul hb hd] at h
  have q := Int.mul_pos (frD_pos (n := a) hb) (frD_pos (n := c) hd)
  have la := frN_lim hb la
  have lb := frD_lim (n := a) hb lb
  have lc := frN_lim hd lc
  have ld := frD_lim (n := c) hd ld
  unfold w_P_ratio_times fr
  walk_at "tw"
  exact ⟨mulOk la lc, mulOk lb ld, _, _, rfl, by omega, (lb.mul ld).mono (by decide), h⟩
def sp_P_ratio_by : SpT := fun ts Q => ∃ a b c d : Int, ts = [fr a b, fr c d] ∧ Two 900 a b c d ∧ c ≠ 0 ∧ Q (fr (a * d) (b * c))
theorem len_P_ratio_by : ∀ ts Q, sp_P_ratio_by ts Q → ts.length = 2 := by rintro ts Q ⟨_, _, _, _, e, _⟩; subst e; rfl
def w_P_ratio_by : WS :=
  (sRet (wCall sp_P_ratio_of (aCons (w2 rMulT (w2 rIxTT (wVar 0) (wC (.int 0))) (w2 rIxTT (wVar 1) (wC (.int 1)))) (aCons (w2 rMulT (w2 rIxTT (wVar 0) (wC (.int 1))) (w2 rIxTT (wVar 1) (wC (.int 0)))) aNil))))
theorem ok_P_ratio_by : ∀ ts Q, sp_P_ratio_by ts Q → w_P_ratio_by { nx := fun _ => Q .non, rt := Q } (startT 2 ts) := by
  rintro _ Q ⟨a, b, c, d, rfl, ⟨hb, hd, la, lb, lc, ld⟩, hc, h⟩
  rw [← fr_quo hb hd hc] at h
  have q := frD_pos (n := a) hb
  have nz := frN_ne hd hc
  have la := frN_lim hb la
  have lb := frD_lim (n := a) hb lb
  have lc := frN_lim hd lc
  have ld := frD_lim (n := c) hd ld
  unfold w_P_ratio_by fr
  walk_at "tw"
  exact ⟨mulOk la ld, mulOk lb lc, _, _, rfl, Int.mul_ne_zero (by omega) nz, (lb.mul lc).mono (by decide), h⟩
abbrev tri (a b c : Int) : T := .tup [.int a, .int b, .int c]
abbrev plt (a b c d e f x y z : Int) : T := .tup [tri a b c, tri d e f, tri x y z]
abbrev Tr := Int × Int × Int
abbrev trT (d : Tr) : T := tri d.1 d.2.1 d.2.2
abbrev Lim3 (k : Nat) (u v w : Int) : Prop := Lim k u ∧ Lim k v ∧ Lim k w
abbrev LimT (k : Nat) (d : Tr) : Prop := Lim3 k d.1 d.2.1 d.2.2
theorem Lim3.mono {k k' : Nat} {a b c : Int} (h : Lim3 k a b c) (hk : k ≤ k') : Lim3 k' a b c := ⟨h.1.mono hk, h.2.1.mono hk, h.2.2.mono hk⟩
abbrev crs (a b : Tr) : Tr := (a.2.1 * b.2.2 - a.2.2 * b.2.1, a.2.2 * b.1 - a.1 * b.2.2, a.1 * b.2.1 - a.2.1 * b.1)
abbrev dotI (a b : Tr) : Int := a.1 * b.1 + a.2.1 * b.2.1 + a.2.2 * b.2.2
abbrev pt (t : Tr) (m : Int) : T := .tup [fr t.1 m, fr t.2.1 m, fr t.2.2 m]
abbrev hpl (h : Tr) : T := .tup [fr h.1 h.2.2, fr h.2.1 h.2.2]
abbrev ptl (c s o : Tr) : T := .tup [trT c, trT s, trT o]
theorem lim_crs {m n k : Nat} {a b : Tr} (ha : LimT m a) (hb : LimT n b) (hk : m + n + 1 ≤ k) : LimT k (crs a b) := by
  have z : ∀ {p q r s : Int}, Lim m p → Lim m q → Lim n r → Lim n s → Lim k (p * s - q * r) := fun hp hq hr hs => ((hp.mul hs).sub (hq.mul hr)).mono (by simp; omega)
  exact ⟨z ha.2.1 ha.2.2 hb.2.1 hb.2.2, z ha.2.2 ha.1 hb.2.2 hb.1, z ha.1 ha.2.1 hb.1 hb.2.1⟩
theorem lim_dotI {m n k : Nat} {a b : Tr} (ha : LimT m a) (hb : LimT n b) (hk : m + n + 2 ≤ k) : Lim k (dotI a b) := (((ha.1.mul hb.1).add (ha.2.1.mul hb.2.1)).add (ha.2.2.mul hb.2.2)).mono (by simp; omega)
theorem eqOk_tri (a b c d e f : Int) : EqOk (tri a b c) (tri d e f) := eqOk_tup [a, b, c] [d, e, f]
theorem eqT_tri (a b c d e f : Int) : eqT (tri a b c) (tri d e f) = decide (a = d ∧ b = e ∧ c = f) := by
  simp [eqT, eqTs]
abbrev tless (t c : Tr) (m : Int) : Tr := (t.1 - c.1 * m, t.2.1 - c.2.1 * m, t.2.2 - c.2.2 * m)
theorem lim_tless {k j n : Nat} {t c : Tr} {m : Int} (ht : LimT k t) (hc : LimT k c) (hm : Lim j m) (hn : k + j + 1 ≤ n) : LimT n (tless t c m) := by
  have z : ∀ {p q : Int}, Lim k p → Lim k q → Lim n (p - q * m) := fun hp hq => (hp.sub (hq.mul hm)).mono (by simp; omega)
  exact ⟨z ht.1 hc.1, z ht.2.1 hc.2.1, z ht.2.2 hc.2.2⟩
def sp_P_dot_of : SpT := fun ts Q => ∃ a b : Tr, ts = [trT a, trT b] ∧ LimT 2000 a ∧ LimT 2000 b ∧ Q (.int (dotI a b))
theorem len_P_dot_of : ∀ ts Q, sp_P_dot_of ts Q → ts.length = 2 := by rintro ts Q ⟨_, _, e, _⟩; subst e; rfl
def w_P_dot_of : WS :=
  (sRet (w2 rAddT (w2 rAddT (w2 rMulT (w2 rIxTT (wVar 0) (wC (.int 0))) (w2 rIxTT (wVar 1) (wC (.int 0)))) (w2 rMulT (w2 rIxTT (wVar 0) (wC (.int 1))) (w2 rIxTT (wVar 1) (wC (.int 1))))) (w2 rMulT (w2 rIxTT (wVar 0) (wC (.int 2))) (w2 rIxTT (wVar 1) (wC (.int 2))))))
theorem ok_P_dot_of : ∀ ts Q, sp_P_dot_of ts Q → w_P_dot_of { nx := fun _ => Q .non, rt := Q } (startT 2 ts) := by
  rintro _ Q ⟨⟨a, b, c⟩, ⟨d, e, f⟩, rfl, ⟨la, lb, lc⟩, ⟨ld, le, lf⟩, h⟩
  unfold w_P_dot_of
  walk_at "tw"
  exact ⟨mulOk la ld, mulOk lb le, mulOk lc lf, h⟩
def sp_P_cross_of : SpT := fun ts Q => ∃ a b : Tr, ts = [trT a, trT b] ∧ LimT 1000 a ∧ LimT 1000 b ∧ Q (trT (crs a b))
theorem len_P_cross_of : ∀ ts Q, sp_P_cross_of ts Q → ts.length = 2 := by rintro ts Q ⟨_, _, e, _⟩; subst e; rfl
def w_P_cross_of : WS :=
  (sRet (wTup (aCons (w2 rSubT (w2 rMulT (w2 rIxTT (wVar 0) (wC (.int 1))) (w2 rIxTT (wVar 1) (wC (.int 2)))) (w2 rMulT (w2 rIxTT (wVar 0) (wC (.int 2))) (w2 rIxTT (wVar 1) (wC (.int 1))))) (aCons (w2 rSubT (w2 rMulT (w2 rIxTT (wVar 0) (wC (.int 2))) (w2 rIxTT (wVar 1) (wC (.int 0)))) (w2 rMulT (w2 rIxTT (wVar 0) (wC (.int 0))) (w2 rIxTT (wVar 1) (wC (.int 2))))) (aCons (w2 rSubT (w2 rMulT (w2 rIxTT (wVar 0) (wC (.int 0))) (w2 rIxTT (wVar 1) (wC (.int 1)))) (w2 rMulT (w2 rIxTT (wVar 0) (wC (.int 1))) (w2 rIxTT (wVar 1) (wC (.int 0))))) aNil)))))
theorem ok_P_cross_of : ∀ ts Q, sp_P_cross_of ts Q → w_P_cross_of { nx := fun _ => Q .non, rt := Q } (startT 2 ts) := by
  rintro _ Q ⟨⟨a, b, c⟩, ⟨d, e, f⟩, rfl, ⟨la, lb, lc⟩, ⟨ld, le, lf⟩, h⟩
  unfold w_P_cross_of
  walk_at "tw"
  exact ⟨mulOk lb lf, mulOk lc le, mulOk lc ld, mulOk la lf, mulOk la le, mulOk lb ld, h⟩
def sp_P_front_of : SpT := fun ts Q => ∃ (t : T) (s o : Tr), ts = [.tup [t, trT s, trT o]] ∧ LimT 1000 s ∧ LimT 1000 o ∧ Q (trT (crs s o))
theorem len_P_front_of : ∀ ts Q, sp_P_front_of ts Q → ts.length = 1 := by rintro ts Q ⟨_, _, _, e, _⟩; subst e; rfl
def w_P_front_of : WS :=
  (sRet (wCall sp_P_cross_of (aCons (w2 rIxTT (wVar 0) (wC (.int 1))) (aCons (w2 rIxTT (wVar 0) (wC (.int 2))) aNil))))
theorem ok_P_front_of : ∀ ts Q, sp_P_front_of ts Q → w_P_front_of { nx := fun _ => Q .non, rt := Q } (startT 1 ts) := by
  rintro _ Q ⟨t, s, o, rfl, ls, lo, h⟩
  unfold w_P_front_of
  walk_at "go"
  exact ⟨s, o, rfl, ls, lo, h⟩
def sp_P_point_less : SpT := fun ts Q => ∃ (t c : Tr) (m : Int), ts = [pt t m, trT c] ∧ LimT 300 t ∧ LimT 300 c ∧ m ≠ 0 ∧ Lim 300 m ∧ Q (pt (tless t c m) m)
theorem len_P_point_less : ∀ ts Q, sp_P_point_less ts Q → ts.length = 2 := by rintro ts Q ⟨_, _, _, e, _⟩; subst e; rfl
def w_P_point_less_c0 : WE :=
  (wCall sp_P_ratio_less (aCons (w2 rIxTT (wVar 1) (wVar 0)) (aCons (wTup (aCons (w2 rIxTT (wVar 2) (wVar 0)) (aCons (wC (.int 1)) aNil))) aNil)))
def w_P_point_less : WS :=
  (sRet (wCB rTupleT (aCons (wComp (iRange1 (aCons (wC (.int 3)) aNil)) (gN 0) tTrue w_P_point_less_c0 1 [0, 1]) aNil)))
theorem one9 : Lim 900 (1 : Int) := Lim.of (by decide) (by decide)
theorem up900 {i : Int} (h : Lim 300 i) : Lim 900 i := h.mono (by decide)
theorem ok_P_point_less : ∀ ts Q, sp_P_point_less ts Q → w_P_point_less { nx := fun _ => Q .non, rt := Q } (startT 2 ts) := by
  rintro _ Q ⟨⟨t0, t1, t2⟩, ⟨c0, c1, c2⟩, m, rfl, lt, lc, hm, lm, h⟩
  unfold w_P_point_less
  obtain ⟨W0, hW0⟩ : ∃ W, W = w_P_point_less_c0 := ⟨_, rfl⟩
  rw [← hW0]
  have c0 : ∀ {xs cs : List T} {k X C : Int} {Q : T → Prop}, atI xs k = some (fr X m) → atI cs k = some (.int C) → Lim 300 X → Lim 300 C → Q (fr (X - C * m) m) → W0 [.val (.int k), .val (.tup xs), .val (.tup cs)] Q := fun {xs cs k X C Q} ex ec lX lC hQ => by
    rw [hW0]
    unfold w_P_point_less_c0
    walk_at "go"
    rw [ex]
    walk_at "go"
    rw [ec]
    walk_at "go"
    refine ⟨X, m, C, 1, congrArg (fun x => [fr X m, x]) (fr_one C), ⟨hm, by decide, up900 lX, up900 lm, up900 lC, one9⟩, ?_⟩
    rw [Int.mul_one, Int.mul_one]
    exact hQ
  walk_at "go"
  refine c0 (atI0 _ _) (atI0 _ _) lt.1 lc.1 ?_
  walk_at "go"
  refine c0 (atI1 _ _ _) (atI1 _ _ _) lt.2.1 lc.2.1 ?_
  walk_at "go"
  refine c0 (atI2 _ _ _ _) (atI2 _ _ _ _) lt.2.2 lc.2.2 ?_
  walk_at "go"
  exact h
def sp_P_point_dot : SpT := fun ts Q => ∃ (t n : Tr) (m : Int), ts = [pt t m, trT n] ∧ LimT 300 t ∧ LimT 300 n ∧ m ≠ 0 ∧ Lim 300 m ∧ Q (fr (dotI t n) m)
theorem len_P_point_dot : ∀ ts Q, sp_P_point_dot ts Q → ts.length = 2 := by rintro ts Q ⟨_, _, _, e, _⟩; subst e; rfl
def w_P_point_dot_c0 : WE :=
  (wCall sp_P_ratio_times (aCons (w2 rIxTT (wVar 1) (wVar 0)) (aCons (wTup (aCons (w2 rIxTT (wVar 2) (wVar 0)) (aCons (wC (.int 1)) aNil))) aNil)))
def w_P_point_dot : WS :=
  (sSeq (sSet 2 (wComp (iRange1 (aCons (wC (.int 3)) aNil)) (gN 0) tTrue w_P_point_dot_c0 1 [0, 1]))
    (sRet (wCall sp_P_ratio_sum (aCons (w2 rIxTT (wVar 2) (wC (.int 0))) (aCons (wCall sp_P_ratio_sum (aCons (w2 rIxTT (wVar 2) (wC (.int 1))) (aCons (w2 rIxTT (wVar 2) (wC (.int 2))) aNil))) aNil)))))
theorem ok_P_point_dot : ∀ ts Q, sp_P_point_dot ts Q → w_P_point_dot { nx := fun _ => Q .non, rt := Q } (startT 3 ts) := by
  rintro _ Q ⟨⟨t0, t1, t2⟩, ⟨n0, n1, n2⟩, m, rfl, ⟨lt0, lt1, lt2⟩, ⟨ln0, ln1, ln2⟩, hm, lm, h⟩
  simp only at lt0 lt1 lt2 ln0 ln1 ln2
  have up6 : ∀ {i : Int}, Lim (300 + 300) i → Lim 900 i := fun h => h.mono (by decide)
  unfold w_P_point_dot
  obtain ⟨W0, hW0⟩ : ∃ W, W = w_P_point_dot_c0 := ⟨_, rfl⟩
  rw [← hW0]
  have c0 : ∀ {xs cs : List T} {k X C : Int} {Q : T → Prop}, atI xs k = some (fr X m) → atI cs k = some (.int C) → Lim 300 X → Lim 300 C → Q (fr (X * C) m) → W0 [.val (.int k), .val (.tup xs), .val (.tup cs)] Q := fun {xs cs k X C Q} ex ec lX lC hQ => by
    rw [hW0]
    unfold w_P_point_dot_c0
    walk_at "go"
    rw [ex]
    walk_at "go"
    rw [ec]
    walk_at "go"
    refine ⟨X, m, C, 1, congrArg (fun x => [fr X m, x]) (fr_one C), ⟨hm, by decide, up900 lX, up900 lm, up900 lC, one9⟩, ?_⟩
    rw [Int.mul_one]
    exact hQ
  walk_at "go"
  refine c0 (atI0 _ _) (atI0 _ _) lt0 ln0 ?_
  walk_at "go"
  refine c0 (atI1 _ _ _) (atI1 _ _ _) lt1 ln1 ?_
  walk_at "go"
  refine c0 (atI2 _ _ _ _) (atI2 _ _ _ _) lt2 ln2 ?_
  walk_at "go"
  refine ⟨t1 * n1, m, t2 * n2, m, rfl, ⟨hm, hm, up6 (lt1.mul ln1), up900 lm, up6 (lt2.mul ln2), up900 lm⟩, ?_⟩
  rw [fr_sum1 hm]
  walk_at "go"
  refine ⟨t0 * n0, m, t1 * n1 + t2 * n2, m, rfl, ⟨hm, hm, up6 (lt0.mul ln0), up900 lm, ((lt1.mul ln1).add (lt2.mul ln2)).mono (by decide), up900 lm⟩, ?_⟩
  rw [fr_sum1 hm]
  rw [show dotI (t0, t1, t2) (n0, n1, n2) = t0 * n0 + (t1 * n1 + t2 * n2) by simp only [dotI]; omega] at h
  exact h
abbrev meet (c s o t d : Tr) (m : Int) : Tr := (dotI (tless t c m) (crs o d), dotI (tless t c m) (crs d s), m * dotI (crs s o) d)
def sp_P_meeting_of : SpT := fun ts Q => ∃ (c s o t d : Tr) (m : Int), ts = [ptl c s o, pt t m, trT d] ∧ (LimT 50 c ∧ LimT 50 s ∧ LimT 50 o ∧ LimT 100 d) ∧ LimT 150 t ∧ m ≠ 0 ∧ Lim 100 m ∧
  (dotI (crs s o) d = 0 → Q .non) ∧ (dotI (crs s o) d ≠ 0 → Q (hpl (meet c s o t d m)))
theorem len_P_meeting_of : ∀ ts Q, sp_P_meeting_of ts Q → ts.length = 3 := by rintro ts Q ⟨_, _, _, _, _, _, e, _⟩; subst e; rfl
def w_P_meeting_of : WS :=
  (sSeq (sSet 3 (wCall sp_P_dot_of (aCons (wCall sp_P_front_of (aCons (wVar 0) aNil)) (aCons (wVar 2) aNil))))
    (sSeq (sIf (tCmpT cEqT (wVar 3) (wC (.int 0))) (sRet (wC .non)) sNext)
    (sSeq (sSet 4 (wCall sp_P_point_less (aCons (wVar 1) (aCons (w2 rIxTT (wVar 0) (wC (.int 0))) aNil))))
    (sSeq (sSet 5 (wCall sp_P_point_dot (aCons (wVar 4) (aCons (wCall sp_P_cross_of (aCons (w2 rIxTT (wVar 0) (wC (.int 2))) (aCons (wVar 2) aNil))) aNil))))
    (sSeq (sSet 6 (wCall sp_P_point_dot (aCons (wVar 4) (aCons (wCall sp_P_cross_of (aCons (wVar 2) (aCons (w2 rIxTT (wVar 0) (wC (.int 1))) aNil))) aNil))))
    (sRet (wTup (aCons (wCall sp_P_ratio_by (aCons (wVar 5) (aCons (wTup (aCons (wVar 3) (aCons (wC (.int 1)) aNil))) aNil))) (aCons (wCall sp_P_ratio_by (aCons (wVar 6) (aCons (wTup (aCons (wVar 3) (aCons (wC (.int 1)) aNil))) aNil))) aNil)))))))))
theorem ok_P_meeting_of : ∀ ts Q, sp_P_meeting_of ts Q → w_P_meeting_of { nx := fun _ => Q .non, rt := Q } (startT 7 ts) := by
  rintro _ Q ⟨c, s, o, t, d, m, rfl, ⟨lc, ls, lo, ld⟩, lt, hm, lm, h0, h1⟩
  have lF := lim_crs ls lo (k := 101) (by decide)
  have lW := lim_dotI lF ld (k := 203) (by decide)
  have lB := lim_tless (lt.mono (show 150 ≤ 150 by decide)) (lc.mono (show 50 ≤ 150 by decide)) lm (n := 251) (by decide)
  have lod := lim_crs lo ld (k := 151) (by decide)
  have lds := lim_crs ld ls (k := 151) (by decide)
  have lS := lim_dotI lB lod (k := 404) (by decide)
  have lT := lim_dotI lB lds (k := 404) (by decide)
  unfold w_P_meeting_of
  walk_at "go"
  refine ⟨_, s, o, rfl, ls.mono (by decide), lo.mono (by decide), ?_⟩
  walk_at "go"
  refine ⟨crs s o, d, rfl, lF.mono (by decide), ld.mono (by decide), ?_⟩
  walk_at "go"
  refine ⟨fun z => ?_, fun z => ?_⟩
  · walk_at "go"
    exact h0 (of_decide_eq_true z)
  · have hW := of_decide_eq_false z
    have q := h1 hW
    walk_at "go"
    refine ⟨t, c, m, rfl, lt.mono (by decide), lc.mono (by decide), hm, lm.mono (by decide), ?_⟩
    walk_at "go"
    refine ⟨o, d, rfl, lo.mono (by decide), ld.mono (by decide), ?_⟩
    walk_at "go"
    refine ⟨tless t c m, crs o d, m, rfl, lB.mono (by decide), lod.mono (by decide), hm, lm.mono (by decide), ?_⟩
    walk_at "go"
    refine ⟨d, s, rfl, ld.mono (by decide), ls.mono (by decide), ?_⟩
    walk_at "go"
    refine ⟨tless t c m, crs d s, m, rfl, lB.mono (by decide), lds.mono (by decide), hm, lm.mono (by decide), ?_⟩
    walk_at "go"
    refine ⟨_, m, dotI (crs s o) d, 1, congrArg (fun x => [fr (dotI (tless t c m) (crs o d)) m, x]) (fr_one _), ⟨hm, by decide, lS.mono (by decide), lm.mono (by decide), lW.mono (by decide), one9⟩, hW, ?_⟩
    rw [Int.mul_one]
    walk_at "go"
    refine ⟨_, m, dotI (crs s o) d, 1, congrArg (fun x => [fr (dotI (tless t c m) (crs d s)) m, x]) (fr_one _), ⟨hm, by decide, lT.mono (by decide), lm.mono (by decide), lW.mono (by decide), one9⟩, hW, ?_⟩
    rw [Int.mul_one]
    walk_at "go"
    exact q
def sp_P_comes_from_ahead : SpT := fun ts Q => ∃ (t : T) (s o d : Tr), ts = [.tup [t, trT s, trT o], trT d] ∧ (LimT 50 s ∧ LimT 50 o ∧ LimT 100 d) ∧ Q (.bl (decide (0 < dotI (crs s o) d)))
theorem len_P_comes_from_ahead : ∀ ts Q, sp_P_comes_from_ahead ts Q → ts.length = 2 := by rintro ts Q ⟨_, _, _, _, e, _⟩; subst e; rfl
def w_P_comes_from_ahead : WS :=
  (sRet (wCmp cGtT (wCall sp_P_dot_of (aCons (wCall sp_P_front_of (aCons (wVar 0) aNil)) (aCons (wVar 1) aNil))) (wC (.int 0))))
theorem ok_P_comes_from_ahead : ∀ ts Q, sp_P_comes_from_ahead ts Q → w_P_comes_from_ahead { nx := fun _ => Q .non, rt := Q } (startT 2 ts) := by
  rintro _ Q ⟨t, s, o, d, rfl, ⟨ls, lo, ld⟩, h⟩
  have lF := lim_crs ls lo (k := 101) (by decide)
  unfold w_P_comes_from_ahead
  walk_at "go"
  refine ⟨_, s, o, rfl, ls.mono (by decide), lo.mono (by decide), ?_⟩
  walk_at "go"
  refine ⟨crs s o, d, rfl, lF.mono (by decide), ld.mono (by decide), ?_⟩
  walk_at "go"
  exact h
def sp_P_as_point : SpT := fun ts Q => ∃ t : Tr, ts = [trT t] ∧ Q (pt t 1)
theorem len_P_as_point : ∀ ts Q, sp_P_as_point ts Q → ts.length = 1 := by rintro ts Q ⟨_, e, _⟩; subst e; rfl
def w_P_as_point : WS :=
  (sRet (wCB rTupleT (aCons (wComp (iSeq (wVar 0)) (gN 0) tTrue (wTup (aCons (wVar 0) (aCons (wC (.int 1)) aNil))) 1 []) aNil)))
theorem ok_P_as_point : ∀ ts Q, sp_P_as_point ts Q → w_P_as_point { nx := fun _ => Q .non, rt := Q } (startT 1 ts) := by
  rintro _ Q ⟨⟨a, b, c⟩, rfl, h⟩
  simp only [pt, ← fr_one] at h
  unfold w_P_as_point
  walk_at "go"
  exact h
def sp_P_shadow_of : SpT := fun ts Q => ∃ (c s o t d : Tr), ts = [ptl c s o, trT t, trT d] ∧ (LimT 50 c ∧ LimT 50 s ∧ LimT 50 o ∧ LimT 100 d) ∧ LimT 150 t ∧
  (¬ 0 < dotI (crs s o) d → Q .non) ∧ (0 < dotI (crs s o) d → Q (hpl (meet c s o t d 1)))
theorem len_P_shadow_of : ∀ ts Q, sp_P_shadow_of ts Q → ts.length = 3 := by rintro ts Q ⟨_, _, _, _, _, e, _⟩; subst e; rfl
def w_P_shadow_of : WS :=
  (sSeq (sIf (tNotT (tVal (wCall sp_P_comes_from_ahead (aCons (wVar 0) (aCons (wVar 2) aNil))))) (sRet (wC .non)) sNext)
    (sRet (wCall sp_P_meeting_of (aCons (wVar 0) (aCons (wCall sp_P_as_point (aCons (wVar 1) aNil)) (aCons (wVar 2) aNil))))))
theorem ok_P_shadow_of : ∀ ts Q, sp_P_shadow_of ts Q → w_P_shadow_of { nx := fun _ => Q .non, rt := Q } (startT 3 ts) := by
  rintro _ Q ⟨c, s, o, t, d, rfl, ⟨lc, ls, lo, ld⟩, lt, h0, h1⟩
  unfold w_P_shadow_of
  walk_at "go"
  refine ⟨_, s, o, d, rfl, ⟨ls, lo, ld⟩, ?_⟩
  by_cases z : 0 < dotI (crs s o) d
  · rw [decide_eq_true z]
    walk_at "go"
    refine ⟨t, rfl, ?_⟩
    walk_at "go"
    exact ⟨c, s, o, t, d, 1, rfl, ⟨lc, ls, lo, ld⟩, lt, by decide, Lim.of (by decide) (by decide), fun e => absurd z (by omega), fun _ => h1 z⟩
  · rw [decide_eq_false z]
    walk_at "go"
    exact h0 z
abbrev pl2 (s p t q : Int) : T := .tup [fr s p, fr t q]
abbrev spot (a d e s p t q : Int) : Int := a * (p * q) + (s * d * q + t * e * p)
def sp_P_number_at : SpT := fun ts Q => ∃ (as ds es : List T) (s p t q k a d e : Int), ts = [.tup [.tup as, .tup ds, .tup es], pl2 s p t q, .int k] ∧ atI as k = some (.int a) ∧ atI ds k = some (.int d) ∧ atI es k = some (.int e) ∧ Two 100 s p t q ∧ (Lim 100 a ∧ Lim 100 d ∧ Lim 100 e) ∧ Q (fr (spot a d e s p t q) (p * q))
theorem len_P_number_at : ∀ ts Q, sp_P_number_at ts Q → ts.length = 3 := by rintro ts Q ⟨_, _, _, _, _, _, _, _, _, _, _, e, _⟩; subst e; rfl
def w_P_number_at : WS :=
  (sSeq (sSet 3 (wCall sp_P_ratio_times (aCons (w2 rIxTT (wVar 1) (wC (.int 0))) (aCons (wTup (aCons (w2 rIxTT (w2 rIxTT (wVar 0) (wC (.int 1))) (wVar 2)) (aCons (wC (.int 1)) aNil))) aNil))))
    (sSeq (sSet 4 (wCall sp_P_ratio_times (aCons (w2 rIxTT (wVar 1) (wC (.int 1))) (aCons (wTup (aCons (w2 rIxTT (w2 rIxTT (wVar 0) (wC (.int 2))) (wVar 2)) (aCons (wC (.int 1)) aNil))) aNil))))
    (sRet (wCall sp_P_ratio_sum (aCons (wTup (aCons (w2 rIxTT (w2 rIxTT (wVar 0) (wC (.int 0))) (wVar 2)) (aCons (wC (.int 1)) aNil))) (aCons (wCall sp_P_ratio_sum (aCons (wVar 3) (aCons (wVar 4) aNil))) aNil))))))
theorem spot_eq {a d e s p t q : Int} (hp : p ≠ 0) (hq : q ≠ 0) : fr (a * (p * 1 * (q * 1)) + (s * d * (q * 1) + t * e * (p * 1)) * 1) (1 * (p * 1 * (q * 1))) = fr (spot a d e s p t q) (p * q) := by
  simp only [Int.mul_one, Int.one_mul]
theorem ok_P_number_at : ∀ ts Q, sp_P_number_at ts Q → w_P_number_at { nx := fun _ => Q .non, rt := Q } (startT 5 ts) := by
  rintro _ Q ⟨as, ds, es, s, p, t, q, k, a, d, e, rfl, ea, ed, ee, ⟨hp, hq, ls, lp, lt, lq⟩, ⟨la, ld, le⟩, h⟩
  have up : ∀ {i : Int}, Lim 100 i → Lim 900 i := fun h => h.mono (by decide)
  have l1 : Lim 900 (1 : Int) := Lim.of (by decide) (by decide)
  have p1 : p * 1 ≠ 0 := by rw [Int.mul_one]; exact hp
  have q1 : q * 1 ≠ 0 := by rw [Int.mul_one]; exact hq
  have lp1 : Lim 100 (p * 1) := by rw [Int.mul_one]; exact lp
  have lq1 : Lim 100 (q * 1) := by rw [Int.mul_one]; exact lq
  unfold w_P_number_at
  walk_at "go"
  rw [ed]
  walk_at "go"
  refine ⟨s, p, d, 1, congrArg (fun x => [fr s p, x]) (fr_one d), ⟨hp, by decide, up ls, up lp, up ld, l1⟩, ?_⟩
  walk_at "go"
  rw [ee]
  walk_at "go"
  refine ⟨t, q, e, 1, congrArg (fun x => [fr t q, x]) (fr_one e), ⟨hq, by decide, up lt, up lq, up le, l1⟩, ?_⟩
  walk_at "go"
  rw [ea]
  walk_at "go"
  refine ⟨s * d, p * 1, t * e, q * 1, rfl, ⟨p1, q1, (ls.mul ld).mono (by decide), up lp1, (lt.mul le).mono (by decide), up lq1⟩, ?_⟩
  walk_at "go"
  refine ⟨a, 1, _, _, congrArg (fun x => [x, _]) (fr_one a), ⟨by decide, Int.mul_ne_zero p1 q1, up la, l1, (((ls.mul ld).mul lq1).add ((lt.mul le).mul lp1)).mono (by decide), (lp1.mul lq1).mono (by decide)⟩, ?_⟩
  rw [spot_eq hp hq]
  exact h
def sp_P_point_of : SpT := fun ts Q => ∃ (a b c d e f x y z s p t q : Int), ts = [plt a b c d e f x y z, pl2 s p t q] ∧ Two 100 s p t q ∧ (Lim3 100 a b c ∧ Lim3 100 d e f ∧ Lim3 100 x y z) ∧ Q (.tup [fr (spot a d x s p t q) (p * q), fr (spot b e y s p t q) (p * q), fr (spot c f z s p t q) (p * q)])
theorem len_P_point_of : ∀ ts Q, sp_P_point_of ts Q → ts.length = 2 := by rintro ts Q ⟨_, _, _, _, _, _, _, _, _, _, _, _, _, e, _⟩; subst e; rfl
def w_P_point_of : WS :=
  (sRet (wCB rTupleT (aCons (wComp (iRange1 (aCons (wC (.int 3)) aNil)) (gN 0) tTrue (wCall sp_P_number_at (aCons (wVar 1) (aCons (wVar 2) (aCons (wVar 0) aNil)))) 1 [0, 1]) aNil)))
theorem ok_P_point_of : ∀ ts Q, sp_P_point_of ts Q → w_P_point_of { nx := fun _ => Q .non, rt := Q } (startT 2 ts) := by
  rintro _ Q ⟨a, b, c, d, e, f, x, y, z, s, p, t, q, rfl, tw, ⟨⟨la, lb, lc⟩, ⟨ld, le, lf⟩, ⟨lx, ly, lz⟩⟩, h⟩
  unfold w_P_point_of
  walk_at "go"
  refine ⟨_, _, _, s, p, t, q, 0, a, d, x, rfl, atI0 _ _, atI0 _ _, atI0 _ _, tw, ⟨la, ld, lx⟩, ?_⟩
  walk_at "go"
  refine ⟨_, _, _, s, p, t, q, 0 + 1, b, e, y, rfl, atI1 _ _ _, atI1 _ _ _, atI1 _ _ _, tw, ⟨lb, le, ly⟩, ?_⟩
  walk_at "go"
  refine ⟨_, _, _, s, p, t, q, 0 + 1 + 1, c, f, z, rfl, atI2 _ _ _ _, atI2 _ _ _ _, atI2 _ _ _ _, tw, ⟨lc, lf, lz⟩, ?_⟩
  walk_at "go"
  exact h
def on1 (p q : Int) : Bool := decide (0 ≤ p) && decide (p ≤ q)
def onF (h : Tr) : Bool := on1 (frN h.1 h.2.2) (frD h.1 h.2.2) && on1 (frN h.2.1 h.2.2) (frD h.2.1 h.2.2)
def sp_P_lies_on : SpT := fun ts Q => ∃ h : Tr, ts = [hpl h] ∧ Q (.bl (onF h))
theorem len_P_lies_on : ∀ ts Q, sp_P_lies_on ts Q → ts.length = 1 := by rintro ts Q ⟨_, e, _⟩; subst e; rfl
def w_P_lies_on_c0 : WE :=
  (wChain cLeT cLeT (wC (.int 0)) (w2 rIxTT (wVar 0) (wC (.int 0))) (w2 rIxTT (wVar 0) (wC (.int 1))))
def w_P_lies_on : WS :=
  (sRet (wCB rAllT (aCons (wComp (iSeq (wVar 0)) (gN 0) tTrue w_P_lies_on_c0 1 []) aNil)))
theorem lies_c0 {n m : Int} {r : List Slot} {k : T → Prop} (h : k (.bl (on1 (frN n m) (frD n m)))) : w_P_lies_on_c0 (.val (fr n m) :: r) k := by
  unfold w_P_lies_on_c0
  unfold on1 at h
  walk_at "go"
  refine ⟨fun e => ?_, fun e => ?_⟩
  · rw [e] at h
    walk_at "go"
    simpa using h
  · rw [e] at h
    simpa using h
theorem ok_P_lies_on : ∀ ts Q, sp_P_lies_on ts Q → w_P_lies_on { nx := fun _ => Q .non, rt := Q } (startT 1 ts) := by
  rintro _ Q ⟨h, rfl, hQ⟩
  unfold w_P_lies_on
  obtain ⟨W0, hW0⟩ : ∃ W, W = w_P_lies_on_c0 := ⟨_, rfl⟩
  rw [← hW0]
  walk_at "go"
  refine Eq.mpr (congrFun (congrFun hW0 _) _) ?_
  refine lies_c0 ?_
  walk_at "go"
  refine Eq.mpr (congrFun (congrFun hW0 _) _) ?_
  refine lies_c0 ?_
  walk_at "go"
  simpa [onF] using hQ
def goF (c s o t : Tr) (m : Int) (d : Tr) : Bool := decide (frN (dotI (tless t c m) (crs s o)) m * dotI (crs s o) d < 0)
def sp_P_goes_towards : SpT := fun ts Q => ∃ (c s o t d : Tr) (m : Int), ts = [ptl c s o, pt t m, trT d] ∧ (LimT 50 c ∧ LimT 50 s ∧ LimT 50 o ∧ LimT 100 d) ∧ LimT 150 t ∧ m ≠ 0 ∧ Lim 100 m ∧ Q (.bl (goF c s o t m d))
theorem len_P_goes_towards : ∀ ts Q, sp_P_goes_towards ts Q → ts.length = 3 := by rintro ts Q ⟨_, _, _, _, _, _, e, _⟩; subst e; rfl
def w_P_goes_towards : WS :=
  (sSeq (sSet 3 (wCall sp_P_front_of (aCons (wVar 0) aNil)))
    (sSeq (sSet 4 (wCall sp_P_point_dot (aCons (wCall sp_P_point_less (aCons (wVar 1) (aCons (w2 rIxTT (wVar 0) (wC (.int 0))) aNil))) (aCons (wVar 3) aNil))))
    (sRet (wCmp cLtT (w2 rMulT (w2 rIxTT (wVar 4) (wC (.int 0))) (wCall sp_P_dot_of (aCons (wVar 3) (aCons (wVar 2) aNil)))) (wC (.int 0))))))
theorem ok_P_goes_towards : ∀ ts Q, sp_P_goes_towards ts Q → w_P_goes_towards { nx := fun _ => Q .non, rt := Q } (startT 5 ts) := by
  rintro _ Q ⟨c, s, o, t, d, m, rfl, ⟨lc, ls, lo, ld⟩, lt, hm, lm, h⟩
  have lF := lim_crs ls lo (k := 101) (by decide)
  have lW := lim_dotI lF ld (k := 203) (by decide)
  have lB := lim_tless (lt.mono (show 150 ≤ 150 by decide)) (lc.mono (show 50 ≤ 150 by decide)) lm (n := 251) (by decide)
  have lS := lim_dotI lB lF (k := 354) (by decide)
  have lN := frN_lim hm lS
  have mk := mulOk lN lW
  unfold w_P_goes_towards
  walk_at "go"
  refine ⟨_, s, o, rfl, ls.mono (by decide), lo.mono (by decide), ?_⟩
  walk_at "go"
  refine ⟨t, c, m, rfl, lt.mono (by decide), lc.mono (by decide), hm, lm.mono (by decide), ?_⟩
  walk_at "go"
  refine ⟨tless t c m, crs s o, m, rfl, lB.mono (by decide), lF.mono (by decide), hm, lm.mono (by decide), ?_⟩
  walk_at "go"
  refine ⟨crs s o, d, rfl, lF.mono (by decide), ld.mono (by decide), ?_⟩
  walk_at "go"
  exact h
theorem goF_ne {c s o t d : Tr} {m : Int} (h : goF c s o t m d = true) : dotI (crs s o) d ≠ 0 := fun z => by
  unfold goF at h
  rw [z, Int.mul_zero] at h
  exact absurd (of_decide_eq_true h) (by decide)
def hidF (c s o t : Tr) (m : Int) (d : Tr) : Bool := goF c s o t m d && onF (meet c s o t d m)
def sp_P_hides_point : SpT := fun ts Q => ∃ (c s o t d : Tr) (m : Int), ts = [ptl c s o, pt t m, trT d] ∧ (LimT 50 c ∧ LimT 50 s ∧ LimT 50 o ∧ LimT 100 d) ∧ LimT 150 t ∧ m ≠ 0 ∧ Lim 100 m ∧ Q (.bl (hidF c s o t m d))
theorem len_P_hides_point : ∀ ts Q, sp_P_hides_point ts Q → ts.length = 3 := by rintro ts Q ⟨_, _, _, _, _, _, e, _⟩; subst e; rfl
def w_P_hides_point : WS :=
  (sRet (wAndV (wCall sp_P_goes_towards (aCons (wVar 0) (aCons (wVar 1) (aCons (wVar 2) aNil)))) (wCall sp_P_lies_on (aCons (wCall sp_P_meeting_of (aCons (wVar 0) (aCons (wVar 1) (aCons (wVar 2) aNil)))) aNil))))
theorem ok_P_hides_point : ∀ ts Q, sp_P_hides_point ts Q → w_P_hides_point { nx := fun _ => Q .non, rt := Q } (startT 3 ts) := by
  rintro _ Q ⟨c, s, o, t, d, m, rfl, L, lt, hm, lm, h⟩
  unfold hidF at h
  unfold w_P_hides_point
  walk_at "go"
  refine ⟨c, s, o, t, d, m, rfl, L, lt, hm, lm, ?_⟩
  cases e : goF c s o t m d with
  | false =>
    rw [e] at h
    walk_at "go"
    exact h
  | true =>
    rw [e] at h
    walk_at "go"
    refine ⟨c, s, o, t, d, m, rfl, L, lt, hm, lm, fun z => absurd z (goF_ne e), fun _ => ?_⟩
    walk_at "go"
    exact ⟨_, rfl, h⟩
abbrev Pl := Tr × Tr × Tr
abbrev plT (p : Pl) : T := ptl p.1 p.2.1 p.2.2
abbrev PlLim (k : Nat) (p : Pl) : Prop := LimT k p.1 ∧ LimT k p.2.1 ∧ LimT k p.2.2
theorem PlLim.mono {k k' : Nat} {p : Pl} (h : PlLim k p) (hk : k ≤ k') : PlLim k' p := ⟨h.1.mono hk, h.2.1.mono hk, h.2.2.mono hk⟩
abbrev Th := Str × Pl × Option Tr
def thT : Th → T
  | (n, p, none) => .tup [.str n, plT p]
  | (n, p, some t) => .tup [.str n, plT p, trT t]
abbrev sT (e : Int × Tr) : T := .tup [.int e.1, trT e.2]
abbrev SOk (a : Str) : Prop := PyData.strOk a = true
theorem eqOk_str {a b : Str} (ha : SOk a) (hb : SOk b) : EqOk (.str a) (.str b) := by
  refine ⟨by simpa [plain, pd, PyData.canLay0] using ha, by simpa [plain, pd, PyData.canLay0] using hb, by simp [dep, pd, PyData.depth]⟩
theorem eqT_str (a b : Str) : eqT (.str a) (.str b) = decide (a = b) := by
  rw [eqTf]
  by_cases h : a = b
  · subst h; simp
  · rw [decide_eq_false h]; exact beq_eq_false_iff_ne.mpr h
abbrev sunAt (sun : List (Int × Tr)) (h : Int) : Option (Int × Tr) := sun.find? fun e => decide (e.1 = h)
def sp_P_direction_at : SpT := fun ts Q => ∃ (sun : List (Int × Tr)) (h : Int), ts = [.lst (sun.map sT), .int h] ∧ h.natAbs.log2 < 1920 ∧ (match sunAt sun h with | some e => Q (trT e.2) | none => False)
theorem len_P_direction_at : ∀ ts Q, sp_P_direction_at ts Q → ts.length = 2 := by rintro ts Q ⟨_, _, e, _⟩; subst e; rfl
def w_P_direction_at_b0 : WS :=
  (sIf (tCmpT cEqT (w2 rIxTT (wVar 2) (wC (.int 0))) (wVar 1)) (sRet (w2 rIxTT (wVar 2) (wC (.int 1)))) sNext)
def w_P_direction_at_k0 : WS :=
  sNever
def w_P_direction_at : WS :=
  (sSeq (sIf (tVal (wCall sp_P_is_whole (aCons (wVar 1) aNil))) (sFor (iSeq (wVar 0)) (gN 2) w_P_direction_at_b0) sNext)
    w_P_direction_at_k0)
theorem dat_loop {Q : T → Prop} {x : Slot} {g : Int} : ∀ (rs : List (Int × Tr)) (s2 : Slot) (N : List Slot → Prop), (match sunAt rs g with | some r => Q (trT r.2) | none => ∀ s2, N [x, .val (.int g), s2]) →
    forT (gN 2) (w_P_direction_at_b0) (rs.map sT) { nx := N, rt := Q } [x, .val (.int g), s2]
  | [], s2, N, h => by
    simp only [List.map, forT]
    exact h s2
  | r :: rs, s2, N, h => by
    have ih := fun s2 => dat_loop (Q := Q) (x := x) (g := g) rs s2 N
    simp only [List.map, forT]
    generalize forT (gN 2) (w_P_direction_at_b0) (rs.map sT) { nx := N, rt := Q } = F at ih ⊢
    unfold w_P_direction_at_b0
    walk_at "go"
    refine ⟨fun c => ?_, fun c => ?_⟩
    · have e : sunAt (r :: rs) g = some r := List.find?_cons_of_pos c
      rw [e] at h
      walk_at "go"
      exact h
    · have e : sunAt (r :: rs) g = sunAt rs g := List.find?_cons_of_neg (by rw [c]; exact Bool.false_ne_true)
      rw [e] at h
      exact ih _ h
theorem ok_P_direction_at : ∀ ts Q, sp_P_direction_at ts Q → w_P_direction_at { nx := fun _ => Q .non, rt := Q } (startT 3 ts) := by
  rintro _ Q ⟨rs, g, rfl, lg, h⟩
  unfold w_P_direction_at
  obtain ⟨W0, hW0⟩ : ∃ W, W = w_P_direction_at_b0 := ⟨_, rfl⟩
  obtain ⟨W1, hW1⟩ : ∃ W, W = w_P_direction_at_k0 := ⟨_, rfl⟩
  rw [← hW0, ← hW1]
  walk_at "go"
  refine ⟨_, rfl, trivial, ?_⟩
  walk_at "tw"
  rw [hW0]
  refine ⟨fun _ => dat_loop rs _ _ ?_, fun z => by cases z⟩
  cases q : sunAt rs g with
  | some r => rw [q] at h; exact h
  | none =>
    rw [q] at h
    intro s2
    rw [hW1]
    unfold w_P_direction_at_k0
    walk_at "go"
    exact h
def sp_P_is_up : SpT := fun ts Q => ∃ (sun : List (Int × Tr)) (h : Int), ts = [.lst (sun.map sT), .int h] ∧ h.natAbs.log2 < 1920 ∧ (match sunAt sun h with | some e => Q (.bl (decide (e.2.2.2 > 0))) | none => False)
theorem len_P_is_up : ∀ ts Q, sp_P_is_up ts Q → ts.length = 2 := by rintro ts Q ⟨_, _, e, _⟩; subst e; rfl
def w_P_is_up : WS :=
  (sRet (wCmp cGtT (w2 rIxTT (wCall sp_P_direction_at (aCons (wVar 0) (aCons (wVar 1) aNil))) (wC (.int 2))) (wC (.int 0))))
theorem ok_P_is_up : ∀ ts Q, sp_P_is_up ts Q → w_P_is_up { nx := fun _ => Q .non, rt := Q } (startT 2 ts) := by
  rintro _ Q ⟨rs, g, rfl, lg, h⟩
  unfold w_P_is_up
  walk_at "go"
  refine ⟨rs, g, rfl, lg, ?_⟩
  cases q : sunAt rs g with
  | some r =>
    rw [q] at h
    walk_at "go"
    exact h
  | none => rw [q] at h; exact h
abbrev dialAt (ds : List Th) (n : Str) : Option Th := ds.find? fun t => decide (t.1 = n)
def sp_P_dial_of : SpT := fun ts Q => ∃ (s0 s1 : T) (ds : List Th) (n : Str), ts = [.tup [s0, s1, .lst (ds.map thT)], .str n] ∧ SOk n ∧ (∀ t ∈ ds, SOk t.1) ∧ (match dialAt ds n with | some d => Q (thT d) | none => False)
theorem len_P_dial_of : ∀ ts Q, sp_P_dial_of ts Q → ts.length = 2 := by rintro ts Q ⟨_, _, _, _, e, _⟩; subst e; rfl
def w_P_dial_of_b0 : WS :=
  (sIf (tCmpT cEqT (w2 rIxTT (wVar 2) (wC (.int 0))) (wVar 1)) (sRet (wVar 2)) sNext)
def w_P_dial_of_k0 : WS :=
  sNever
def w_P_dial_of : WS :=
  (sSeq (sIf (tVal (wIsi .str (wVar 1))) (sFor (iSeq (w2 rIxTT (wVar 0) (wC (.int 2)))) (gN 2) w_P_dial_of_b0) sNext)
    w_P_dial_of_k0)
theorem dof_loop {Q : T → Prop} {x : Slot} {n : Str} (hn : SOk n) : ∀ (ds : List Th) (s2 : Slot) (N : List Slot → Prop), (∀ t ∈ ds, SOk t.1) → (match dialAt ds n with | some r => Q (thT r) | none => ∀ s2, N [x, .val (.str n), s2]) →
    forT (gN 2) (w_P_dial_of_b0) (ds.map thT) { nx := N, rt := Q } [x, .val (.str n), s2]
  | [], s2, N, _, h => by
    simp only [List.map, forT]
    exact h s2
  | r :: rs, s2, N, hs, h => by
    have hx := hs r List.mem_cons_self
    have ih := fun s2 => dof_loop (Q := Q) (x := x) hn rs s2 N fun t ht => hs t (List.mem_cons_of_mem _ ht)
    simp only [List.map, forT]
    generalize forT (gN 2) (w_P_dial_of_b0) (rs.map thT) { nx := N, rt := Q } = F at ih ⊢
    unfold w_P_dial_of_b0
    have key : (decide (r.1 = n) = true → Q (thT r)) ∧ (decide (r.1 = n) = false → ∀ s2, F [x, .val (.str n), s2]) := by
      refine ⟨fun c => ?_, fun c s2 => ?_⟩
      · have e : dialAt (r :: rs) n = some r := List.find?_cons_of_pos c
        rw [e] at h
        exact h
      · have e : dialAt (r :: rs) n = dialAt rs n := List.find?_cons_of_neg (by rw [c]; exact Bool.false_ne_true)
        rw [e] at h
        exact ih _ h
    obtain ⟨xn, xp, xt⟩ := r
    cases xt <;>
    · simp only [thT] at key ⊢
      walk_at "go"
      refine ⟨eqOk_str hx hn, ?_⟩
      rw [eqT_str]
      refine ⟨fun c => ?_, fun c => ?_⟩
      · have z := key.1 c
        walk_at "go"
        exact z
      · exact key.2 c _
theorem ok_P_dial_of : ∀ ts Q, sp_P_dial_of ts Q → w_P_dial_of { nx := fun _ => Q .non, rt := Q } (startT 3 ts) := by
  rintro _ Q ⟨s0, s1, ds, n, rfl, hn, hs, h⟩
  unfold w_P_dial_of
  obtain ⟨W0, hW0⟩ : ∃ W, W = w_P_dial_of_b0 := ⟨_, rfl⟩
  obtain ⟨W1, hW1⟩ : ∃ W, W = w_P_dial_of_k0 := ⟨_, rfl⟩
  rw [← hW0, ← hW1]
  walk_at "tw"
  rw [hW0]
  refine ⟨fun _ => dof_loop hn ds _ _ hs ?_, fun z => by cases z⟩
  cases q : dialAt ds n with
  | some r => rw [q] at h; exact h
  | none =>
    rw [q] at h
    intro s2
    rw [hW1]
    unfold w_P_dial_of_k0
    walk_at "go"
    exact h
theorem lt_tri : ∀ a b : List Nat, PySem.Spec.ltCps a b = false → PySem.Spec.ltCps b a = false → a = b
  | [], [], _, _ => rfl
  | [], _ :: _, h, _ => by simp [PySem.Spec.ltCps] at h
  | _ :: _, [], _, h => by simp [PySem.Spec.ltCps] at h
  | a :: r, b :: t, h, h' => by
    simp only [PySem.Spec.ltCps, Bool.or_eq_false_iff, Bool.and_eq_false_iff, decide_eq_false_iff_not] at h h'
    have e : a = b := by omega
    subst e
    have h1 := h.2.resolve_left (by simp)
    have h2 := h'.2.resolve_left (by simp)
    rw [lt_tri r t h1 h2]
theorem le_trans3 : ∀ a b c : List Nat, PySem.Spec.ltCps b a = false → PySem.Spec.ltCps c b = false → PySem.Spec.ltCps c a = false
  | [], _, [], _, _ => rfl
  | [], _, _ :: _, _, _ => rfl
  | _ :: _, [], _, h, _ => by simp [PySem.Spec.ltCps] at h
  | _ :: _, _ :: _, [], _, h => by simp [PySem.Spec.ltCps] at h
  | a :: r, b :: t, c :: u, h, h' => by
    simp only [PySem.Spec.ltCps, Bool.or_eq_false_iff, Bool.and_eq_false_iff, decide_eq_false_iff_not] at h h' ⊢
    refine ⟨by omega, ?_⟩
    by_cases e : c = a
    · subst e
      have e2 : b = c := by omega
      subst e2
      exact .inr (le_trans3 r t u (h.2.resolve_left (by simp)) (h'.2.resolve_left (by simp)))
    · exact .inl (by simpa using e)
def LeS (a b : Str) : Prop := PySem.Spec.ltCps b.cps.toList a.cps.toList = false
theorem str_ext {a b : Str} (h : a.cps.toList = b.cps.toList) : a = b := by
  cases a
  cases b
  simpa using h
theorem LeS.anti {a b : Str} (h : LeS a b) (h' : LeS b a) : a = b := str_ext (lt_tri _ _ h' h)
theorem rising_pw : ∀ (l : List Str) (p : Str), risingS p l = true → (p :: l).Pairwise LeS
  | [], p, _ => by simp
  | x :: r, p, h => by
    simp only [risingS, Bool.and_eq_true, Bool.not_eq_true'] at h
    have ih := rising_pw r x h.2
    refine List.pairwise_cons.mpr ⟨fun y hy => ?_, ih⟩
    rcases List.mem_cons.mp hy with e | hy
    · subst e
      exact h.1
    · exact le_trans3 _ _ _ h.1 ((List.pairwise_cons.mp ih).1 y hy)
theorem sorted_pw {l : List Str} (h : sortedS l = true) : l.Pairwise LeS := by
  cases l with
  | nil => exact List.Pairwise.nil
  | cons x r => exact rising_pw r x h
theorem sorted_uniq : ∀ {us vs : List Str}, us.Perm vs → us.Pairwise LeS → vs.Pairwise LeS → us = vs
  | [], vs, h, _, _ => by
    have := h.length_eq
    cases vs with
    | nil => rfl
    | cons v r => simp at this
  | u :: us, [], h, _, _ => by
    have := h.length_eq
    simp at this
  | u :: us, v :: vs, h, hu, hv => by
    have hu' := List.pairwise_cons.mp hu
    have hv' := List.pairwise_cons.mp hv
    have e : u = v := by
      have m1 : u ∈ v :: vs := h.mem_iff.mp List.mem_cons_self
      have m2 : v ∈ u :: us := h.mem_iff.mpr List.mem_cons_self
      rcases List.mem_cons.mp m1 with e | m1
      · exact e
      · rcases List.mem_cons.mp m2 with e | m2
        · exact e.symm
        · exact LeS.anti (hu'.1 v m2) (hv'.1 u m1)
    subst e
    rw [sorted_uniq h.cons_inv hu'.2 hv'.2]
open Classical in
noncomputable def srt (N : List Str) : List Str := if h : ∃ us : List Str, us.Perm N ∧ us.Pairwise LeS then h.choose else []
theorem srt_of {us N : List Str} (hp : us.Perm N) (hs : us.Pairwise LeS) : srt N = us := by
  have h : ∃ us : List Str, us.Perm N ∧ us.Pairwise LeS := ⟨us, hp, hs⟩
  unfold srt
  rw [dif_pos h]
  exact sorted_uniq (h.choose_spec.1.trans hp.symm) h.choose_spec.2 hs
abbrev ptOf (p : Pl) (h : Tr) : Tr := (spot p.1.1 p.2.1.1 p.2.2.1 h.1 h.2.2 h.2.1 h.2.2, spot p.1.2.1 p.2.1.2.1 p.2.2.2.1 h.1 h.2.2 h.2.1 h.2.2, spot p.1.2.2 p.2.1.2.2 p.2.2.2.2 h.1 h.2.2 h.2.1 h.2.2)
abbrev others (n : Str) (L : List Th) : List Th := L.filter fun t => !decide (t.1 = n)
abbrev hidP (p : Tr) (m : Int) (d : Tr) (t : Th) : Bool := hidF t.2.1.1 t.2.1.2.1 t.2.1.2.2 p m d
def hidN (p : Tr) (m : Int) (d : Tr) (n : Str) (L : List Th) : List Str := ((others n L).filter (hidP p m d)).map (·.1)
def sp_P_names_hiding : SpO := fun ts Q => ∃ (s0 : T) (ws ds : List Th) (t : Th) (h d : Tr), ts = [.tup [s0, .lst (ws.map thT), .lst (ds.map thT)], thT t, hpl h, trT d] ∧
  h.2.2 ≠ 0 ∧ LimT 36 h ∧ PlLim 20 t.2.1 ∧ LimT 60 d ∧ SOk t.1 ∧ (∀ t ∈ ws ++ ds, SOk t.1 ∧ PlLim 20 t.2.1) ∧ (ws ++ ds).length < 64 ∧ Q ((srt (hidN (ptOf t.2.1 h) (h.2.2 * h.2.2) d t.1 (ws ++ ds))).map T.str)
theorem len_P_names_hiding : ∀ ts Q, sp_P_names_hiding ts Q → ts.length = 4 := by rintro ts Q ⟨_, _, _, _, _, _, e, _⟩; subst e; rfl
def w_P_names_hiding_r : WE :=
  (wCB rSortT (aCons (wComp (iSeq (wVar 5)) (gN 0) (tVal (wCall sp_P_hides_point (aCons (w2 rIxTT (wVar 0) (wC (.int 1))) (aCons (wVar 1) (aCons (wVar 2) aNil))))) (w2 rIxTT (wVar 0) (wC (.int 0))) 1 [4, 3]) aNil))
def w_P_names_hiding : WS :=
  (sSeq (sSet 4 (wCall sp_P_point_of (aCons (w2 rIxTT (wVar 1) (wC (.int 1))) (aCons (wVar 2) aNil))))
    (sSet 5 (wComp (iSeq (w2 rCatLT (w2 rIxTT (wVar 0) (wC (.int 1))) (w2 rIxTT (wVar 0) (wC (.int 2))))) (gN 0) (tCmpT cNeT (w2 rIxTT (wVar 0) (wC (.int 0))) (w2 rIxTT (wVar 1) (wC (.int 0)))) (wVar 0) 1 [1])))
abbrev tO1 : WT := tCmpT cNeT (w2 rIxTT (wVar 0) (wC (.int 0))) (w2 rIxTT (wVar 1) (wC (.int 0)))
abbrev tO2 : WT := tVal (wCall sp_P_hides_point (aCons (w2 rIxTT (wVar 0) (wC (.int 1))) (aCons (wVar 1) (aCons (wVar 2) aNil))))
theorem oth_comp {Q : List T → Prop} {n : Str} {pl : Pl} {o : Option Tr} (hn : SOk n) : ∀ (L : List Th) (acc : List T) (s : Slot), (∀ t ∈ L, SOk t.1) → Q (acc ++ (others n L).map thT) →
    compT (gN 0) tO1 (wVar 0) (L.map thT) acc [s, .val (thT (n, pl, o))] Q
  | [], acc, s, _, h => by
    simp only [others, List.filter_nil, List.map_nil, List.append_nil] at h
    exact h
  | x :: r, acc, s, hs, h => by
    have hx := hs x List.mem_cons_self
    have ih := fun (acc : List T) (s : Slot) h => oth_comp (Q := Q) (n := n) (pl := pl) (o := o) hn r acc s (fun t ht => hs t (List.mem_cons_of_mem _ ht)) h
    simp only [List.map_cons, compT]
    generalize compT (gN 0) tO1 (wVar 0) (r.map thT) = F at ih ⊢
    obtain ⟨xn, xp, xt⟩ := x
    have fin : (decide (xn = n) = false → Q (acc ++ [thT (xn, xp, xt)] ++ (others n r).map thT)) ∧ (decide (xn = n) = true → Q (acc ++ (others n r).map thT)) := by
      constructor
      · intro e
        have : others n ((xn, xp, xt) :: r) = (xn, xp, xt) :: others n r := by simp only [others]; rw [List.filter_cons_of_pos (by simpa using e)]
        rw [this] at h
        simpa using h
      · intro e
        have : others n ((xn, xp, xt) :: r) = others n r := by simp only [others]; rw [List.filter_cons_of_neg (by simpa using e)]
        rw [this] at h
        exact h
    cases xt <;> cases o <;>
    · simp only [thT] at ih fin ⊢
      walk_at "go"
      refine ⟨eqOk_str hx hn, ?_⟩
      rw [eqT_str]
      refine ⟨fun c => ?_, fun c => ?_⟩
      · walk_at "go"
        exact ih _ _ (fin.1 (by simpa using c))
      · walk_at "go"
        exact ih _ _ (fin.2 (by simpa using c))
theorem hid_comp {Q : List T → Prop} {p d : Tr} {m : Int} (lp : LimT 150 p) (hm : m ≠ 0) (lm : Lim 100 m) (ld : LimT 60 d) : ∀ (L : List Th) (acc : List T) (s : Slot), (∀ t ∈ L, PlLim 20 t.2.1) → Q (acc ++ ((L.filter (hidP p m d)).map (·.1)).map T.str) →
    compT (gN 0) tO2 (w2 rIxTT (wVar 0) (wC (.int 0))) (L.map thT) acc [s, .val (pt p m), .val (trT d)] Q
  | [], acc, s, _, h => by
    simp only [List.filter_nil, List.map_nil, List.append_nil] at h
    exact h
  | x :: r, acc, s, hs, h => by
    have hx := (hs x List.mem_cons_self).mono (k' := 50) (by decide)
    have ih := fun (acc : List T) (s : Slot) h => hid_comp (Q := Q) lp hm lm ld r acc s (fun t ht => hs t (List.mem_cons_of_mem _ ht)) h
    simp only [List.map_cons, compT]
    obtain ⟨SP, hSP⟩ : ∃ S, S = sp_P_hides_point := ⟨_, rfl⟩
    generalize compT (gN 0) tO2 (w2 rIxTT (wVar 0) (wC (.int 0))) (r.map thT) = F at ih ⊢
    have fin : (hidP p m d x = true → Q (acc ++ [T.str x.1] ++ ((r.filter (hidP p m d)).map (·.1)).map T.str)) ∧ (hidP p m d x = false → Q (acc ++ ((r.filter (hidP p m d)).map (·.1)).map T.str)) := by
      constructor
      · intro e
        rw [List.filter_cons_of_pos e] at h
        simpa using h
      · intro e
        rw [List.filter_cons_of_neg (by rw [e]; exact Bool.false_ne_true)] at h
        exact h
    obtain ⟨xn, xp, xt⟩ := x
    cases xt <;>
    · simp only [thT, tO2]
      rw [← hSP]
      walk_at "go"
      refine Eq.mpr (congrFun (congrFun hSP _) _) ?_
      refine ⟨xp.1, xp.2.1, xp.2.2, p, d, m, rfl, ⟨hx.1, hx.2.1, hx.2.2, ld.mono (by decide)⟩, lp, hm, lm, ?_⟩
      refine ⟨fun c => ?_, fun c => ?_⟩
      · walk_at "go"
        exact ih _ _ (fin.1 c)
      · walk_at "go"
        exact ih _ _ (fin.2 c)
theorem lim_spot {a d x : Int} {h : Tr} (la : Lim 20 a) (ld : Lim 20 d) (lx : Lim 20 x) (lh : LimT 36 h) : Lim 150 (spot a d x h.1 h.2.2 h.2.1 h.2.2) :=
  ((la.mul (lh.2.2.mul lh.2.2)).add (((lh.1.mul ld).mul lh.2.2).add ((lh.2.1.mul lx).mul lh.2.2))).mono (by decide)
theorem ok_P_names_hiding : ∀ ts Q, sp_P_names_hiding ts Q → w_P_names_hiding { nx := fun τ => w_P_names_hiding_r τ (lstQ Q), rt := fun _ => False } (startT 6 ts) := by
  rintro _ Q ⟨s0, ws, ds, ⟨n, pl, o⟩, h, d, rfl, h0, lh, lp, ld, hn, hs, hl, hq⟩
  have up : ∀ {t : Tr}, LimT 20 t → LimT 100 t := fun h => h.mono (by decide)
  have lt : LimT 150 (ptOf pl h) := ⟨lim_spot lp.1.1 lp.2.1.1 lp.2.2.1 lh, lim_spot lp.1.2.1 lp.2.1.2.1 lp.2.2.2.1 lh, lim_spot lp.1.2.2 lp.2.1.2.2 lp.2.2.2.2 lh⟩
  have hm : h.2.2 * h.2.2 ≠ 0 := Int.mul_ne_zero h0 h0
  have lm : Lim 100 (h.2.2 * h.2.2) := (lh.2.2.mul lh.2.2).mono (by decide)
  have hlen : (ws.map thT).length + (ds.map thT).length ≤ 1000 := by
    have := hl
    simp only [List.length_append, List.length_map] at this ⊢
    omega
  have hlen2 : (ws.map thT ++ ds.map thT).length ≤ 1000 := by rw [List.length_append]; exact hlen
  unfold w_P_names_hiding w_P_names_hiding_r
  cases o <;>
  · simp only [thT]
    walk_at "go"
    refine ⟨_, _, _, _, _, _, _, _, _, h.1, h.2.2, h.2.1, h.2.2, rfl, ⟨h0, h0, lh.1.mono (by decide), lh.2.2.mono (by decide), lh.2.1.mono (by decide), lh.2.2.mono (by decide)⟩, ⟨up lp.1, up lp.2.1, up lp.2.2⟩, ?_⟩
    walk_at "go"
    rw [← List.map_append]
    first
    | refine oth_comp (pl := pl) (o := none) hn (ws ++ ds) [] _ (fun t ht => (hs t ht).1) ?_
    | refine oth_comp (pl := pl) (o := some _) hn (ws ++ ds) [] _ (fun t ht => (hs t ht).1) ?_
    have hlen3 : ((others n (ws ++ ds)).map thT).length ≤ 1000 := by
      have := List.length_filter_le (fun t : Th => !decide (t.1 = n)) (ws ++ ds)
      simp only [others, List.length_map]
      omega
    walk_at "go"
    refine hid_comp (p := ptOf pl h) (m := h.2.2 * h.2.2) lt hm lm ld (others n (ws ++ ds)) [] _ (fun t ht => (hs t (List.mem_filter.mp ht).1).2) ?_
    walk_at "go"
    rw [List.nil_append, strsOf_map]
    refine ⟨?_, fun us hp hso => ?_⟩
    · have a1 := List.length_filter_le (fun t : Th => !decide (t.1 = n)) (ws ++ ds)
      have a2 := List.length_filter_le (hidP (ptOf pl h) (h.2.2 * h.2.2) d) (others n (ws ++ ds))
      simp only [List.length_map]
      simp only [others] at a2 ⊢
      omega
    · walk_at "go"
      rw [← srt_of hp (sorted_pw hso)]
      exact hq
abbrev sDown : List T := [.str (Str.ofString "down")]
abbrev sBehind : List T := [.str (Str.ofString "behind")]
abbrev sOff (t : T) : List T := [.str (Str.ofString "off"), t]
abbrev sHid (us : List Str) : List T := [.str (Str.ofString "hidden"), .lst (us.map T.str)]
abbrev sRead (t : T) : List T := [.str (Str.ofString "read"), t]
noncomputable def toldM (d : Tr) (t : Th) (M : Tr) (L : List Th) : List T :=
  if 0 < d.2.2 then
    if 0 < dotI (crs t.2.1.2.1 t.2.1.2.2) d then
      if onF M = true then (match srt (hidN (ptOf t.2.1 M) (M.2.2 * M.2.2) d t.1 L) with | [] => sRead (hpl M) | u :: us => sHid (u :: us))
      else sOff (hpl M)
    else sBehind
  else sDown
noncomputable def toldL (d : Tr) (t : Th) (tip : Tr) (L : List Th) : List T := toldM d t (meet t.2.1.1 t.2.1.2.1 t.2.1.2.2 tip d 1) L
structure YOk (sun : List (Int × Tr)) (ws ds : List Th) : Prop where
  sun : ∀ e ∈ sun, LimT 2 e.2
  things : ∀ t ∈ ws ++ ds, SOk t.1 ∧ PlLim 12 t.2.1
  tips : ∀ t ∈ ds, ∃ tip, t.2.2 = some tip ∧ LimT 12 tip
  few : (ws ++ ds).length < 64
abbrev yardT (sun : List (Int × Tr)) (ws ds : List Th) : T := .tup [.lst (sun.map sT), .lst (ws.map thT), .lst (ds.map thT)]
abbrev tipOf (t : Th) : Tr := t.2.2.getD (0, 0, 0)
def sp_P_told_at : SpOT := fun ts Q => ∃ (sun : List (Int × Tr)) (ws ds : List Th) (h : Int) (n : Str), ts = [yardT sun ws ds, .int h, .str n] ∧ YOk sun ws ds ∧ SOk n ∧ h.natAbs.log2 < 1920 ∧
  (match sunAt sun h with
    | none => False
    | some e => (match dialAt ds n with | none => False | some t => Q (toldL e.2 t (tipOf t) (ws ++ ds))))
theorem len_P_told_at : ∀ ts Q, sp_P_told_at ts Q → ts.length = 3 := by rintro ts Q ⟨_, _, _, _, _, e, _⟩; subst e; rfl
def w_P_told_at : WS :=
  (sSeq (sNoR (sSet 3 (wCall sp_P_direction_at (aCons (w2 rIxTT (wVar 0) (wC (.int 0))) (aCons (wVar 1) aNil)))))
    (sSeq (sNoR (sSet 4 (wCall sp_P_dial_of (aCons (wVar 0) (aCons (wVar 2) aNil)))))
    (sSeq (sIf (tNotT (tVal (wCall sp_P_is_up (aCons (w2 rIxTT (wVar 0) (wC (.int 0))) (aCons (wVar 1) aNil))))) (sRetP (aCons (wC (.str (Str.ofString "down"))) aNil)) sNext)
    (sSeq (sNoR (sSet 5 (wCall sp_P_shadow_of (aCons (w2 rIxTT (wVar 4) (wC (.int 1))) (aCons (w2 rIxTT (wVar 4) (wC (.int 2))) (aCons (wVar 3) aNil))))))
    (sSeq (sIf (tCmpT cIsN (wVar 5) (wC .non)) (sRetP (aCons (wC (.str (Str.ofString "behind"))) aNil)) sNext)
    (sSeq (sIf (tNotT (tVal (wCall sp_P_lies_on (aCons (wVar 5) aNil)))) (sRetP (aCons (wC (.str (Str.ofString "off"))) (aCons (wVar 5) aNil))) sNext)
    (sSeq (sNoR (sOwnF 6 sp_P_names_hiding (aCons (wVar 0) (aCons (wVar 4) (aCons (wVar 5) (aCons (wVar 3) aNil))))))
    (sSeq (sIf (tFz 6 (tTruT (wVar 6))) (sRetO (wC (.str (Str.ofString "hidden"))) 6) sNext)
    (sRetP (aCons (wC (.str (Str.ofString "read"))) (aCons (wVar 5) aNil)))))))))))
theorem told_lim {p : Pl} {tip d : Tr} (lp : PlLim 12 p) (lt : LimT 12 tip) (ld : LimT 2 d) : LimT 36 (meet p.1 p.2.1 p.2.2 tip d 1) := by
  have lB := lim_tless lt lp.1 (m := 1) (j := 1) (Lim.of (by decide) (by decide)) (n := 14) (by decide)
  have l1 := lim_crs lp.2.2 ld (k := 15) (by decide)
  have l2 := lim_crs ld lp.2.1 (k := 15) (by decide)
  have lF := lim_crs lp.2.1 lp.2.2 (k := 25) (by decide)
  have lW := lim_dotI lF ld (k := 29) (by decide)
  exact ⟨(lim_dotI lB l1 (k := 31) (by decide)).mono (by decide), (lim_dotI lB l2 (k := 31) (by decide)).mono (by decide), by show Lim 36 (1 * dotI (crs p.2.1 p.2.2) d); rw [Int.one_mul]; exact lW.mono (by decide)⟩
theorem noLs_str : ∀ us : List Str, noLs (us.map T.str) = true
  | [] => by simp only [List.map, noLs]
  | u :: us => by simp only [List.map, noL, noLs, noLs_str us, Bool.and_true]
theorem ok_P_told_at : ∀ ts Q, sp_P_told_at ts Q → w_P_told_at (endR Q) (startT 7 ts) := by
  rintro _ Q ⟨sun, ws, ds, h, n, rfl, Y, hn, lh, hq⟩
  have hsd : ∀ t ∈ ds, SOk t.1 := fun t ht => (Y.things t (List.mem_append_right _ ht)).1
  unfold w_P_told_at
  walk_at "go"
  refine ⟨sun, h, rfl, lh, ?_⟩
  cases hf : sunAt sun h with
  | none => rw [hf] at hq; exact hq
  | some e =>
    rw [hf] at hq
    walk_at "go"
    refine ⟨_, _, ds, n, rfl, hn, hsd, ?_⟩
    cases hg : dialAt ds n with
    | none => rw [hg] at hq; exact hq
    | some t =>
      rw [hg] at hq
      have md := List.mem_of_find?_eq_some hg
      have ld := Y.sun e (List.mem_of_find?_eq_some hf)
      obtain ⟨hn', lp⟩ := Y.things t (List.mem_append_right _ md)
      obtain ⟨tip, et, lt⟩ := Y.tips t md
      obtain ⟨n', p, o⟩ := t
      obtain rfl : o = some tip := et
      have lm := told_lim lp lt ld
      obtain ⟨M, hM⟩ : ∃ M, M = meet p.1 p.2.1 p.2.2 tip e.2 1 := ⟨_, rfl⟩
      replace hq : Q (toldM e.2 (n', p, some tip) M (ws ++ ds)) := by rw [hM]; exact hq
      walk_at "go"
      refine ⟨sun, h, rfl, lh, ?_⟩
      rw [hf]
      unfold toldM at hq
      by_cases up : 0 < e.2.2.2
      · rw [if_pos up] at hq
        dsimp only
        rw [show decide (e.2.2.2 > 0) = true from decide_eq_true up]
        walk_at "go"
        refine ⟨p.1, p.2.1, p.2.2, tip, e.2, rfl, ⟨lp.1.mono (by decide), lp.2.1.mono (by decide), lp.2.2.mono (by decide), ld.mono (by decide)⟩, lt.mono (by decide), fun nb => ?_, fun ha => ?_⟩
        · rw [if_neg nb] at hq
          walk_at "go"
          exact hq
        · rw [if_pos ha] at hq
          walk_at "go"
          refine ⟨_, rfl, ?_⟩
          have h0 : M.2.2 ≠ 0 := by
            rw [hM]
            show 1 * dotI (crs p.2.1 p.2.2) e.2 ≠ 0
            rw [Int.one_mul]
            omega
          rw [← hM] at lm ⊢
          clear hM
          cases ho : onF M with
          | false =>
            rw [if_neg (by rw [ho]; exact Bool.false_ne_true)] at hq
            walk_at "go"
            exact hq
          | true =>
            rw [if_pos ho] at hq
            walk_at "go"
            refine ⟨_, ws, ds, (n', p, some tip), M, e.2, rfl, h0, lm, lp.mono (by decide), ld.mono (by decide), hn', fun t ht => ⟨(Y.things t ht).1, (Y.things t ht).2.mono (by decide)⟩, Y.few, ?_⟩
            dsimp only at hq ⊢
            generalize srt (hidN (ptOf p M) (M.2.2 * M.2.2) e.2 n' (ws ++ ds)) = us at hq ⊢
            cases us with
            | nil =>
              walk_at "go"
              exact hq
            | cons u us =>
              walk_at "go"
              exact ⟨noLs_str (u :: us), hq⟩
      · rw [if_neg up] at hq
        dsimp only
        rw [show decide (e.2.2.2 > 0) = false from decide_eq_false up]
        walk_at "go"
        exact hq
def cellF (ns : List Int) (k : Int) : Int :=
  if k < (ns.length : Int) then ns.getD k.toNat 0 else
  let n0 := k * k * 48271 + 7919 * k + 11
  let n := if (0 : Int) < (ns.length : Int) then n0 + (ns.getD ((k * 7).fmod (ns.length : Int)).toNat 0).fmod 2147483647 * (k * k + 69621) else n0
  (n * n).fmod 2147483629 * 982451653 + n
theorem atI_getD {ns : List Int} {k : Int} (h0 : 0 ≤ k) (h1 : k < ns.length) : atI (ns.map T.int) k = some (.int (ns.getD k.toNat 0)) := by
  have hk : k.toNat < ns.length := by omega
  unfold atI ixN
  rw [List.length_map, if_pos h0, if_pos h1]
  simp only [Option.bind]
  rw [List.getElem?_map, List.getElem?_eq_getElem hk]
  simp [hk]
def sp_L_cell : SpT := fun ts Q => ∃ (ns : List Int) (k : Int), ts = [.lst (ns.map T.int), .int k] ∧ 0 ≤ k ∧ k ≤ 1000 ∧ Q (.int (cellF ns k))
theorem len_L_cell : ∀ ts Q, sp_L_cell ts Q → ts.length = 2 := by rintro ts Q ⟨_, _, e, _⟩; subst e; rfl
def w_L_cell_k0 : WS :=
  (sRet (w2 rAddT (w2 rMulT (w2 rModT (w2 rMulT (wVar 2) (wVar 2)) (wC (.int 2147483629))) (wC (.int 982451653))) (wVar 2)))
def w_L_cell : WS :=
  (sSeq (sIf (tCmpT cLtT (wVar 1) (wCB rLenT (aCons (wVar 0) aNil))) (sRet (w2 rIxTT (wVar 0) (wVar 1))) sNext)
    (sSeq (sSet 2 (w2 rAddT (w2 rAddT (w2 rMulT (w2 rMulT (wVar 1) (wVar 1)) (wC (.int 48271))) (w2 rMulT (wC (.int 7919)) (wVar 1))) (wC (.int 11))))
    (sSeq (sIf (tCmpT cGtT (wCB rLenT (aCons (wVar 0) aNil)) (wC (.int 0))) (sSet 2 (w2 rAddT (wVar 2) (w2 rMulT (w2 rModT (w2 rIxTT (wVar 0) (w2 rModT (w2 rMulT (wVar 1) (wC (.int 7))) (wCB rLenT (aCons (wVar 0) aNil)))) (wC (.int 2147483647))) (w2 rAddT (w2 rMulT (wVar 1) (wVar 1)) (wC (.int 69621)))))) sNext)
    w_L_cell_k0)))
theorem cell_k0 {Q : T → Prop} {n : Int} (h : Q (.int ((n * n).fmod 2147483629 * 982451653 + n))) (ln : Lim 40 n) (s0 s1 : Slot) : w_L_cell_k0 { nx := fun _ => Q .non, rt := Q } [s0, s1, .val (.int n)] := by
  unfold w_L_cell_k0
  walk_at "tw"
  have f := fmod_pos (n * n) (b := 2147483629) (by decide)
  have lf : Lim 10 ((n * n).fmod 2147483629) := small_lim f.1 (by have := f.2; omega)
  have lc : Lim 10 (982451653 : Int) := Lim.of (by decide) (by decide)
  exact ⟨mulOk ln ln, by decide, mulOk lf lc, h⟩
theorem ok_L_cell : ∀ ts Q, sp_L_cell ts Q → w_L_cell { nx := fun _ => Q .non, rt := Q } (startT 3 ts) := by
  rintro _ Q ⟨ns, k, rfl, h0, h1, h⟩
  have k0 := @cell_k0 Q
  unfold w_L_cell
  generalize w_L_cell_k0 = K at k0 ⊢
  walk_at "tw"
  have lk : Lim 4 k := Lim.of (by omega) (by omega)
  have kk := lk.mul lk
  have l1 : Lim 5 (48271 : Int) := Lim.of (by decide) (by decide)
  have l2 : Lim 4 (7919 : Int) := Lim.of (by decide) (by decide)
  have l3 : Lim 2 (11 : Int) := Lim.of (by decide) (by decide)
  have l7 : Lim 1 (7 : Int) := Lim.of (by decide) (by decide)
  have l6 : Lim 5 (69621 : Int) := Lim.of (by decide) (by decide)
  have base := ((kk.mul l1).add (l2.mul lk)).add l3
  rw [List.length_map]
  unfold cellF at h
  refine ⟨fun c => ?_, fun c => ⟨mulOk lk lk, mulOk kk l1, mulOk l2 lk, fun c2 => ⟨mulOk lk l7, ?_, ?_⟩, fun c2 => ?_⟩⟩
  · have c' : k < (ns.length : Int) := of_decide_eq_true c
    rw [if_pos c'] at h
    rw [atI_getD h0 c']
    exact h
  · have c' : (0 : Int) < (ns.length : Int) := of_decide_eq_true c2
    omega
  · have c' : (0 : Int) < (ns.length : Int) := of_decide_eq_true c2
    have nc : ¬ k < (ns.length : Int) := of_decide_eq_false c
    rw [if_neg nc] at h
    simp only [if_pos c'] at h
    have f := fmod_pos (k * 7) c'
    rw [atI_getD f.1 f.2]
    have g := fmod_pos (ns.getD ((k * 7).fmod (ns.length : Int)).toNat 0) (b := 2147483647) (by decide)
    have lg : Lim 10 ((ns.getD ((k * 7).fmod (ns.length : Int)).toNat 0).fmod 2147483647) := small_lim g.1 (by have := g.2; omega)
    have l8 := kk.add l6
    exact ⟨by decide, mulOk lk lk, mulOk lg l8, k0 h ((base.add (lg.mul l8)).mono (by decide)) _ _⟩
  · have c' : ¬ (0 : Int) < (ns.length : Int) := of_decide_eq_false c2
    have nc : ¬ k < (ns.length : Int) := of_decide_eq_false c
    rw [if_neg nc] at h
    simp only [if_neg c'] at h
    exact k0 h (base.mono (by decide)) _ _
theorem Lim.pow {m : Nat} {i : Int} (h : Lim m i) (n : Nat) (hn : n ≠ 0) : Lim (m * n) (i ^ n) := by
  unfold Lim at *
  rw [Int.natAbs_pow, Nat.pow_mul]
  exact Nat.pow_lt_pow_left h hn
theorem fdiv_abs {a b : Int} (h : 0 ≤ a) (hb : 0 < b) : (a.fdiv b).natAbs ≤ a.natAbs := by
  have h0 : 0 ≤ a.fdiv b := Int.fdiv_nonneg h (by omega)
  have h1 : a.fdiv b ≤ a := by
    rw [Int.fdiv_eq_ediv_of_nonneg _ (by omega)]
    exact Int.ediv_le_self _ h
  omega
def wideF (ns : List Int) (k : Int) : Int :=
  if k < (ns.length : Int) ∧ (1000000000000000000 : Int) ≤ cellF ns k then (cellF ns k).fmod (10 ^ 120) else (((cellF ns k).fmod 2147483629 + 48271 + k * k) * 982451653 + 7) ^ 7 |>.fdiv 1000003
theorem mixed_ok {k : Int} (h0 : 0 ≤ k) (h1 : k ≤ 1000) (v : Int) : MulOk k k ∧ MulOk (v.fmod 2147483629 + 48271 + k * k) 982451653 ∧ CPow ((v.fmod 2147483629 + 48271 + k * k) * 982451653 + 7) 7 ∧ 0 ≤ ((((v.fmod 2147483629 + 48271 + k * k) * 982451653 + 7) ^ 7).fdiv 1000003) ∧ Lim 140 ((((v.fmod 2147483629 + 48271 + k * k) * 982451653 + 7) ^ 7).fdiv 1000003) := by
  have lk : Lim 4 k := Lim.of (by omega) (by omega)
  have kk0 : 0 ≤ k * k := Int.mul_nonneg h0 h0
  have kk1 : k * k ≤ 1000 * 1000 := Int.mul_le_mul h1 h1 h0 (by decide)
  have f := fmod_pos v (b := 2147483629) (by decide)
  have lx : Lim 10 (v.fmod 2147483629 + 48271 + k * k) := small_lim (by omega) (by omega)
  have ly : Lim 19 ((v.fmod 2147483629 + 48271 + k * k) * 982451653 + 7) := small_lim (by omega) (by omega)
  have y0 : 0 ≤ (v.fmod 2147483629 + 48271 + k * k) * 982451653 + 7 := by omega
  have p := ly.pow 7 (by decide)
  have p0 : 0 ≤ ((v.fmod 2147483629 + 48271 + k * k) * 982451653 + 7) ^ 7 := Int.pow_nonneg y0
  refine ⟨mulOk lk lk, mulOk lx (n := 10) (Lim.of (by decide) (by decide)), ⟨by decide, by decide, ?_⟩, Int.fdiv_nonneg p0 (by decide), ((p.le (fdiv_abs p0 (by decide))).mono (by decide))⟩
  have : (2 : Nat) ^ 64 = 18446744073709551616 := by decide
  rw [this]
  omega
def sp_L_wide : SpT := fun ts Q => ∃ (ns : List Int) (k : Int), ts = [.lst (ns.map T.int), .int k] ∧ 0 ≤ k ∧ k ≤ 1000 ∧ Q (.int (wideF ns k))
theorem len_L_wide : ∀ ts Q, sp_L_wide ts Q → ts.length = 2 := by rintro ts Q ⟨_, _, e, _⟩; subst e; rfl
def w_L_wide : WS :=
  (sSeq (sSet 2 (wCall sp_L_cell (aCons (wVar 0) (aCons (wVar 1) aNil))))
    (sSeq (sIf (tAndT (tCmpT cLtT (wVar 1) (wCB rLenT (aCons (wVar 0) aNil))) (tCmpT cGeT (wVar 2) (w2 rPowT (wC (.int 10)) (wC (.int 18))))) (sRet (w2 rModT (wVar 2) (w2 rMulT (w2 rPowT (wC (.int 10)) (wC (.int 60))) (w2 rPowT (wC (.int 10)) (wC (.int 60)))))) sNext)
    (sSeq (sSet 3 (w2 rAddT (w2 rAddT (w2 rModT (wVar 2) (wC (.int 2147483629))) (wC (.int 48271))) (w2 rMulT (wVar 1) (wVar 1))))
    (sRet (w2 rDivT (w2 rPowT (w2 rAddT (w2 rMulT (wVar 3) (wC (.int 982451653))) (wC (.int 7))) (wC (.int 7))) (wC (.int 1000003)))))))
theorem ok_L_wide : ∀ ts Q, sp_L_wide ts Q → w_L_wide { nx := fun _ => Q .non, rt := Q } (startT 4 ts) := by
  rintro _ Q ⟨ns, k, rfl, h0, h1, h⟩
  unfold w_L_wide
  walk_at "tw"
  refine ⟨ns, k, rfl, h0, h1, ?_⟩
  obtain ⟨m1, m2, m3, _, _⟩ := mixed_ok h0 h1 (cellF ns k)
  unfold wideF at h
  rw [List.length_map]
  have c18 := cpow10 18 (by decide)
  have c60 := cpow10 60 (by decide)
  have l61 : Lim 61 (1000000000000000000000000000000000000000000000000000000000000 : Int) := Lim.of (by decide) (by decide)
  have d1 : DivOk 1000003 := divOk (by decide) (Lim.of (n := 7) (by decide) (by decide))
  have mixed : ¬ (k < (ns.length : Int) ∧ (1000000000000000000 : Int) ≤ cellF ns k) → (2147483629 : Int) ≠ 0 ∧ MulOk k k ∧ MulOk ((cellF ns k).fmod 2147483629 + 48271 + k * k) 982451653 ∧ CPow (((cellF ns k).fmod 2147483629 + 48271 + k * k) * 982451653 + 7) 7 ∧ DivOk 1000003 ∧ Q (T.int (((((cellF ns k).fmod 2147483629 + 48271 + k * k) * 982451653 + 7) ^ 7).fdiv 1000003)) := fun nc => by
    rw [if_neg nc] at h
    exact ⟨by decide, m1, m2, m3, d1, h⟩
  refine ⟨fun c => ⟨c18, fun c2 => ⟨c60, c60, mulOk l61 l61, by decide, ?_⟩, fun c2 => mixed fun cc => ?_⟩, fun c => ⟨fun z => (by cases z), fun _ => mixed fun cc => ?_⟩⟩
  · rw [if_pos ⟨of_decide_eq_true c, of_decide_eq_true c2⟩] at h
    have big : (10 : Int) ^ 120 = 1000000000000000000000000000000000000000000000000000000000000000000000000000000000000000000000000000000000000000000000000 := by decide
    rw [big] at h
    exact h
  · exact absurd cc.2 (of_decide_eq_false c2)
  · exact absurd cc.1 (of_decide_eq_false c)
def Most (m i : Int) : Prop := -m ≤ i ∧ i ≤ m
def sp_L_triple : SpT := fun ts Q => ∃ n m : Int, ts = [.int n, .int m] ∧ 1 ≤ m ∧ m ≤ 1000000000 ∧ ∀ a b c : Int, Most m a → Most m b → Most m c → Q (tri a b c)
theorem len_L_triple : ∀ ts Q, sp_L_triple ts Q → ts.length = 2 := by rintro ts Q ⟨_, _, e, _⟩; subst e; rfl
def w_L_triple : WS :=
  (sSeq (sSet 2 (w2 rAddT (w2 rMulT (wC (.int 2)) (wVar 1)) (wC (.int 1))))
    (sRet (wTup (aCons (w2 rSubT (w2 rModT (wVar 0) (wVar 2)) (wVar 1)) (aCons (w2 rSubT (w2 rModT (w2 rDivT (wVar 0) (wVar 2)) (wVar 2)) (wVar 1)) (aCons (w2 rSubT (w2 rModT (w2 rDivT (wVar 0) (w2 rPowT (wVar 2) (wC (.int 2)))) (wVar 2)) (wVar 1)) aNil))))))
theorem ok_L_triple : ∀ ts Q, sp_L_triple ts Q → w_L_triple { nx := fun _ => Q .non, rt := Q } (startT 3 ts) := by
  rintro _ Q ⟨n, m, rfl, h0, h1, h⟩
  unfold w_L_triple
  walk_at "tw"
  have lm : Lim 10 m := small_lim (by omega) (by omega)
  have ls : Lim 10 (2 * m + 1) := small_lim (by omega) (by omega)
  have ne : 2 * m + 1 ≠ 0 := by omega
  have q := ls.pow 2 (by decide)
  have ne2 : (2 * m + 1) ^ 2 ≠ 0 := Int.pow_ne_zero ne
  refine ⟨mulOk (m := 1) (Lim.of (by decide) (by decide)) lm, ne, divOk ne ls, ne, ⟨by decide, by decide, ?_⟩, divOk ne2 q, ne, ?_⟩
  · have : (2 : Nat) ^ 64 = 18446744073709551616 := by decide
    rw [this]
    omega
  · have f : ∀ n : Int, Most m (n.fmod (2 * m + 1) - m) := fun n => by
      have := fmod_pos n (b := 2 * m + 1) (by omega)
      exact ⟨by omega, by omega⟩
    exact h _ _ _ (f _) (f _) (f _)
def sp_L_cross : SpT := fun ts Q => ∃ a b c d e f : Int, ts = [tri a b c, tri d e f] ∧ (Lim 1000 a ∧ Lim 1000 b ∧ Lim 1000 c ∧ Lim 1000 d ∧ Lim 1000 e ∧ Lim 1000 f) ∧ Q (tri (b * f - c * e) (c * d - a * f) (a * e - b * d))
theorem len_L_cross : ∀ ts Q, sp_L_cross ts Q → ts.length = 2 := by rintro ts Q ⟨_, _, _, _, _, _, e, _⟩; subst e; rfl
def w_L_cross : WS :=
  (sSeq (sAsg (gT 3 (gsC (gN 2) (gsC (gN 3) (gsC (gN 4) gs0)))) (wVar 0))
    (sSeq (sAsg (gT 3 (gsC (gN 5) (gsC (gN 6) (gsC (gN 7) gs0)))) (wVar 1))
    (sRet (wTup (aCons (w2 rSubT (w2 rMulT (wVar 3) (wVar 7)) (w2 rMulT (wVar 4) (wVar 6))) (aCons (w2 rSubT (w2 rMulT (wVar 4) (wVar 5)) (w2 rMulT (wVar 2) (wVar 7))) (aCons (w2 rSubT (w2 rMulT (wVar 2) (wVar 6)) (w2 rMulT (wVar 3) (wVar 5))) aNil)))))))
theorem ok_L_cross : ∀ ts Q, sp_L_cross ts Q → w_L_cross { nx := fun _ => Q .non, rt := Q } (startT 8 ts) := by
  rintro _ Q ⟨a, b, c, d, e, f, rfl, ⟨la, lb, lc, ld, le, lf⟩, h⟩
  unfold w_L_cross
  walk_at "tw"
  exact ⟨mulOk lb lf, mulOk lc le, mulOk lc ld, mulOk la lf, mulOk la le, mulOk lb ld, h⟩
def sp_L_dot : SpT := fun ts Q => ∃ a b c d e f : Int, ts = [tri a b c, tri d e f] ∧ (Lim 2000 a ∧ Lim 2000 b ∧ Lim 2000 c ∧ Lim 2000 d ∧ Lim 2000 e ∧ Lim 2000 f) ∧ Q (.int (a * d + b * e + c * f))
theorem len_L_dot : ∀ ts Q, sp_L_dot ts Q → ts.length = 2 := by rintro ts Q ⟨_, _, _, _, _, _, e, _⟩; subst e; rfl
def w_L_dot : WS :=
  (sRet (w2 rAddT (w2 rAddT (w2 rMulT (w2 rIxTT (wVar 0) (wC (.int 0))) (w2 rIxTT (wVar 1) (wC (.int 0)))) (w2 rMulT (w2 rIxTT (wVar 0) (wC (.int 1))) (w2 rIxTT (wVar 1) (wC (.int 1))))) (w2 rMulT (w2 rIxTT (wVar 0) (wC (.int 2))) (w2 rIxTT (wVar 1) (wC (.int 2))))))
theorem ok_L_dot : ∀ ts Q, sp_L_dot ts Q → w_L_dot { nx := fun _ => Q .non, rt := Q } (startT 2 ts) := by
  rintro _ Q ⟨a, b, c, d, e, f, rfl, ⟨la, lb, lc, ld, le, lf⟩, h⟩
  unfold w_L_dot
  walk_at "tw"
  exact ⟨mulOk la ld, mulOk lb le, mulOk lc lf, h⟩
def sp_L_on : SpT := fun ts Q => ∃ a b c d e f m : Int, ts = [tri a b c, tri d e f, .int m] ∧ (Lim 2000 d ∧ Lim 2000 e ∧ Lim 2000 f ∧ Lim 2000 m) ∧ Q (tri (a + m * d) (b + m * e) (c + m * f))
theorem len_L_on : ∀ ts Q, sp_L_on ts Q → ts.length = 3 := by rintro ts Q ⟨_, _, _, _, _, _, _, e, _⟩; subst e; rfl
def w_L_on : WS :=
  (sRet (wTup (aCons (w2 rAddT (w2 rIxTT (wVar 0) (wC (.int 0))) (w2 rMulT (wVar 2) (w2 rIxTT (wVar 1) (wC (.int 0))))) (aCons (w2 rAddT (w2 rIxTT (wVar 0) (wC (.int 1))) (w2 rMulT (wVar 2) (w2 rIxTT (wVar 1) (wC (.int 1))))) (aCons (w2 rAddT (w2 rIxTT (wVar 0) (wC (.int 2))) (w2 rMulT (wVar 2) (w2 rIxTT (wVar 1) (wC (.int 2))))) aNil)))))
theorem ok_L_on : ∀ ts Q, sp_L_on ts Q → w_L_on { nx := fun _ => Q .non, rt := Q } (startT 3 ts) := by
  rintro _ Q ⟨a, b, c, d, e, f, m, rfl, ⟨ld, le, lf, lm⟩, h⟩
  unfold w_L_on
  walk_at "tw"
  exact ⟨mulOk lm ld, mulOk lm le, mulOk lm lf, h⟩
theorem Most.lim {m i : Int} (h : Most m i) (hm : m ≤ 1000000000) : Lim 10 i := Lim.of (by have := h.1; omega) (by have := h.2; omega)
theorem Most.up {m m' i : Int} (h : Most m i) (hm : m ≤ m') : Most m' i := ⟨by have := h.1; omega, by have := h.2; omega⟩
abbrev Most3 (m a b c : Int) : Prop := Most m a ∧ Most m b ∧ Most m c
abbrev NoFlat (d e f x y z : Int) : Prop := ¬ (e * z - f * y = 0 ∧ f * x - d * z = 0 ∧ d * y - e * x = 0)
def sp_L_pair : SpT := fun ts Q => ∃ n m : Int, ts = [.int n, .int m] ∧ 1 ≤ m ∧ m ≤ 1000000000 ∧ ∀ d e f x y z : Int, Most3 m d e f → Most3 m x y z → NoFlat d e f x y z → Q (.tup [tri d e f, tri x y z])
theorem len_L_pair : ∀ ts Q, sp_L_pair ts Q → ts.length = 2 := by rintro ts Q ⟨_, _, e, _⟩; subst e; rfl
def w_L_pair : WS :=
  (sSeq (sSet 2 (wCall sp_L_triple (aCons (wVar 0) (aCons (wVar 1) aNil))))
    (sSeq (sSet 3 (wCall sp_L_triple (aCons (w2 rDivT (wVar 0) (w2 rPowT (w2 rAddT (w2 rMulT (wC (.int 2)) (wVar 1)) (wC (.int 1))) (wC (.int 3)))) (aCons (wVar 1) aNil))))
    (sSeq (sIf (tCmpT cEqT (wCall sp_L_cross (aCons (wVar 2) (aCons (wVar 3) aNil))) (wTup (aCons (wC (.int 0)) (aCons (wC (.int 0)) (aCons (wC (.int 0)) aNil))))) (sRet (wTup (aCons (wTup (aCons (wVar 1) (aCons (wC (.int 0)) (aCons (wC (.int 0)) aNil)))) (aCons (wTup (aCons (wC (.int 0)) (aCons (wVar 1) (aCons (wC (.int 0)) aNil)))) aNil)))) sNext)
    (sRet (wTup (aCons (wVar 2) (aCons (wVar 3) aNil)))))))
theorem ok_L_pair : ∀ ts Q, sp_L_pair ts Q → w_L_pair { nx := fun _ => Q .non, rt := Q } (startT 4 ts) := by
  rintro _ Q ⟨n, m, rfl, h0, h1, h⟩
  have lm : Lim 10 m := small_lim (by omega) (by omega)
  have ls : Lim 10 (2 * m + 1) := small_lim (by omega) (by omega)
  have ne : 2 * m + 1 ≠ 0 := by omega
  have q := ls.pow 3 (by decide)
  have ne2 : (2 * m + 1) ^ 3 ≠ 0 := Int.pow_ne_zero ne
  have cp : CPow (2 * m + 1) 3 := ⟨by decide, by decide, by
    have : (2 : Nat) ^ 64 = 18446744073709551616 := by decide
    rw [this]
    omega⟩
  have up : ∀ {i : Int}, Most m i → Lim 1000 i := fun h => (h.lim h1).mono (by decide)
  unfold w_L_pair
  walk_at "tw"
  refine ⟨n, m, rfl, h0, h1, fun a b c A B C => ⟨mulOk (m := 1) (Lim.of (by decide) (by decide)) lm, cp, divOk ne2 q, _, m, rfl, h0, h1, fun d e f D E F => ?_⟩⟩
  try walk_at "tw"
  refine ⟨_, _, _, _, _, _, rfl, ⟨up A, up B, up C, up D, up E, up F⟩, eqOk_tri _ _ _ _ _ _, fun _ => ?_, fun zz => ?_⟩
  · have z0 : Most m 0 := ⟨by omega, by omega⟩
    have zm : Most m m := ⟨by omega, by omega⟩
    refine h _ _ _ _ _ _ ⟨zm, z0, z0⟩ ⟨z0, zm, z0⟩ ?_
    rintro ⟨_, _, k⟩
    have : 0 < m * m := Int.mul_pos (by omega) (by omega)
    simp at k
    omega
  · rw [eqT_tri] at zz
    have zz' := of_decide_eq_false zz
    exact h _ _ _ _ _ _ ⟨A, B, C⟩ ⟨D, E, F⟩ zz'
theorem lim_cross3 {m n k : Nat} {d e f x y z : Int} (hd : Lim3 m d e f) (hx : Lim3 n x y z) (hk : m + n + 1 ≤ k) : Lim3 k (e * z - f * y) (f * x - d * z) (d * y - e * x) := lim_crs (a := (d, e, f)) (b := (x, y, z)) hd hx hk
theorem lim6 {m n k : Nat} {d e f x y z : Int} (ld : Lim3 m d e f) (lx : Lim3 n x y z) (hm : m ≤ k) (hn : n ≤ k) : Lim k d ∧ Lim k e ∧ Lim k f ∧ Lim k x ∧ Lim k y ∧ Lim k z := ⟨ld.1.mono hm, ld.2.1.mono hm, ld.2.2.mono hm, lx.1.mono hn, lx.2.1.mono hn, lx.2.2.mono hn⟩
theorem lim4 {m n k : Nat} {d e f i : Int} (ld : Lim3 m d e f) (li : Lim n i) (hm : m ≤ k) (hn : n ≤ k) : Lim k d ∧ Lim k e ∧ Lim k f ∧ Lim k i := ⟨ld.1.mono hm, ld.2.1.mono hm, ld.2.2.mono hm, li.mono hn⟩
theorem z3 : Lim3 1 (0 : Int) 0 0 := ⟨Lim.of (by decide) (by decide), Lim.of (by decide) (by decide), Lim.of (by decide) (by decide)⟩
theorem on3 {m n o k : Nat} {a b c d e f i : Int} (h : Lim3 m a b c) (h2 : Lim3 n d e f) (li : Lim o i) (h1 : m + 1 ≤ k) (hk : n + o + 1 ≤ k) : Lim3 k (a + i * d) (b + i * e) (c + i * f) :=
  have g : ∀ {p q : Int}, Lim m p → Lim n q → Lim k (p + i * q) := fun hp hq => (hp.add (li.mul hq)).mono (by omega)
  ⟨g h.1 h2.1, g h.2.1 h2.2.1, g h.2.2 h2.2.2⟩
theorem pow_div (n : Nat) (hn : n ≤ 60) : DivOk (10 ^ n) := by
  refine divOk (n := n + 1) (Int.pow_ne_zero (by decide)) (Lim.of ?_ ?_) (by omega)
  · have : (0 : Int) < 10 ^ n := Int.pow_pos (by decide)
    have : (0 : Int) < 10 ^ (n + 1) := Int.pow_pos (by decide)
    omega
  · rw [Int.pow_succ]
    have : (0 : Int) < 10 ^ n := Int.pow_pos (by decide)
    omega
theorem atI_mapG {α : Type} {f : α → T} {l : List α} {k : Int} (h0 : 0 ≤ k) (h1 : k < l.length) : ∃ x, x ∈ l ∧ atI (l.map f) k = some (f x) := by
  have hk : k.toNat < l.length := by omega
  refine ⟨l[k.toNat], List.getElem_mem hk, ?_⟩
  unfold atI ixN
  rw [List.length_map, if_pos h0, if_pos h1]
  simp only [Option.bind]
  rw [List.getElem?_map, List.getElem?_eq_getElem hk]
  rfl
theorem pick_two (x y : Int) {i : Int} (h : i = 0 ∨ i = 1) : ∃ v, (v = x ∨ v = y) ∧ atI [T.int x, T.int y] i = some (.int v) := by
  rcases h with rfl | rfl
  · exact ⟨x, .inl rfl, atI0 _ _⟩
  · exact ⟨y, .inr rfl, atI1 _ _ _⟩
theorem dv {n : Int} (h0 : 0 < n) (h1 : n < 10 ^ 6 := by decide) : DivOk n := divOk (n := 6) (by omega) (Lim.of (by omega) h1)
def SunOk (sun : List (Int × Tr)) (hour : Int) : Prop := sun.Pairwise (fun a b => a.1 < b.1) ∧ ∀ e ∈ sun, (e.1 < hour ∧ LimT 2 e.2 ∧ e.2 ≠ (0, 0, 0)) ∧ 0 ≤ e.1 ∧ hour ≤ 30 + 5 * (sun.length : Int)
def sp_L_sun : SpO := fun ts Q => ∃ (ns : List Int) (m : Nat), ts = [.lst (ns.map T.int), .int m] ∧ m ≤ 100 ∧ ∀ (sun : List (Int × Tr)) (h : Int), sun.length = m → SunOk sun h → Q (sun.map sT)
theorem len_L_sun : ∀ ts Q, sp_L_sun ts Q → ts.length = 2 := by rintro ts Q ⟨_, _, e, _⟩; subst e; rfl
def w_L_sun_k0 : WS :=
  (sSeq (sApp 2 (wTup (aCons (wVar 3) (aCons (wVar 7) aNil))))
    (sSet 3 (w2 rAddT (w2 rAddT (wVar 3) (wC (.int 1))) (w2 rModT (w2 rDivT (wVar 5) (wC (.int 2205))) (wC (.int 5))))))
def w_L_sun_b0 : WS :=
  (sSeq (sSet 5 (wCall sp_L_wide (aCons (wVar 0) (aCons (w2 rAddT (wC (.int 2)) (wVar 4)) aNil))))
    (sSeq (sSet 6 (w2 rIxTT (wLst (aCons (w2 rAddT (w2 rModT (w2 rDivT (wVar 5) (wC (.int 441))) (wC (.int 4))) (wC (.int 1))) (aCons (w2 rSubT (w2 rModT (w2 rDivT (wVar 5) (wC (.int 441))) (wC (.int 5))) (wC (.int 3))) aNil))) (w2 rDivT (w2 rModT (wVar 5) (wC (.int 9))) (wC (.int 7)))))
    (sSeq (sSet 7 (wTup (aCons (w2 rSubT (w2 rModT (w2 rDivT (wVar 5) (wC (.int 9))) (wC (.int 7))) (wC (.int 3))) (aCons (w2 rSubT (w2 rModT (w2 rDivT (wVar 5) (wC (.int 63))) (wC (.int 7))) (wC (.int 3))) (aCons (wVar 6) aNil)))))
    (sSeq (sIf (tCmpT cEqT (wVar 7) (wTup (aCons (wC (.int 0)) (aCons (wC (.int 0)) (aCons (wC (.int 0)) aNil))))) (sSet 7 (wTup (aCons (wC (.int 0)) (aCons (wC (.int 0)) (aCons (wC (.int 1)) aNil))))) sNext)
    w_L_sun_k0))))
def w_L_sun : WS :=
  (sSeq (sOwn 2 aNil)
    (sSeq (sSet 3 (w2 rModT (wCall sp_L_wide (aCons (wVar 0) (aCons (wC (.int 1)) aNil))) (wC (.int 24))))
    (sFor (iRange1 (aCons (wVar 1) aNil)) (gN 4) w_L_sun_b0)))
theorem sun_k0 {D : DT} {sun : List (Int × Tr)} {hour n : Int} {s0 s1 s4 s6 : Slot} {d : Tr} (hl : sun.length < 900) (hs : SunOk sun hour) (h0 : 0 ≤ hour) (h3 : hour ≤ 30 + 5 * (sun.length : Int)) (ld : LimT 2 d ∧ d ≠ (0, 0, 0))
    (h : ∀ hour', SunOk (sun ++ [(hour, d)]) hour' → 0 ≤ hour' → hour' ≤ 30 + 5 * ((sun ++ [(hour, d)]).length : Int) → D.nx [s0, s1, .own ((sun ++ [(hour, d)]).map sT), .val (.int hour'), s4, .val (.int n), s6, .val (trT d)]) :
    w_L_sun_k0 D [s0, s1, .own (sun.map sT), .val (.int hour), s4, .val (.int n), s6, .val (trT d)] := by
  have d1 : DivOk 2205 := dv (by decide)
  have f := fmod_pos (n.fdiv 2205) (b := 5) (by decide)
  have hlen : (sun.map sT).length < 1000 := by rw [List.length_map]; omega
  unfold w_L_sun_k0
  walk_at "go"
  have el : ((sun ++ [(hour, d)]).length : Int) = sun.length + 1 := by simp
  have h2 := h (hour + 1 + (n.fdiv 2205).fmod 5) ⟨?_, ?_⟩ (by omega) (by omega)
  · rw [List.map_append] at h2
    exact h2
  · refine List.pairwise_append.mpr ⟨hs.1, by simp, fun a ha b hb => ?_⟩
    rw [List.mem_singleton.mp hb]
    exact (hs.2 a ha).1.1
  · intro e he
    rcases List.mem_append.mp he with he | he
    · have := hs.2 e he
      exact ⟨⟨by omega, this.1.2⟩, this.2.1, by omega⟩
    · rw [List.mem_singleton.mp he]
      exact ⟨⟨by show hour < _; omega, ld⟩, h0, by omega⟩
theorem sun_loop {D : DT} {ns : List Int} {s1 : Slot} : ∀ (n : Nat) (lo : Int) (sun : List (Int × Tr)) (hour : Int) (s4 s5 s6 s7 : Slot), 0 ≤ lo → lo + n ≤ 500 → sun.length + n ≤ 500 → SunOk sun hour → 0 ≤ hour → hour ≤ 30 + 5 * (sun.length : Int) →
    (∀ (sun' : List (Int × Tr)) (hour : Int) (s4 s5 s6 s7 : Slot), sun'.length = sun.length + n → SunOk sun' hour → D.nx [.val (.lst (ns.map T.int)), s1, .own (sun'.map sT), .val (.int hour), s4, s5, s6, s7]) →
    forT (gN 4) w_L_sun_b0 (rangeT lo n) D [.val (.lst (ns.map T.int)), s1, .own (sun.map sT), .val (.int hour), s4, s5, s6, s7]
  | 0, lo, sun, hour, s4, s5, s6, s7, _, _, _, hs, _, _, h => by
    simp only [rangeT, forT]
    exact h sun hour _ _ _ _ (by simp) hs
  | n + 1, lo, sun, hour, s4, s5, s6, s7, h0, h1, hl, hs, g0, g3, h => by
    have ih := fun (d : Tr) (hour' : Int) (hs' : SunOk (sun ++ [(hour, d)]) hour') (g0' : 0 ≤ hour') (g3' : hour' ≤ 30 + 5 * ((sun ++ [(hour, d)]).length : Int)) (s4 s5 s6 s7 : Slot) => sun_loop (D := D) (ns := ns) (s1 := s1) n (lo + 1) (sun ++ [(hour, d)]) hour' s4 s5 s6 s7 (by omega) (by omega) (by simp; omega) hs' g0' g3' (fun sun' hour s4 s5 s6 s7 e hs => h sun' hour s4 s5 s6 s7 (by rw [e]; simp; omega) hs)
    simp only [rangeT, forT]
    generalize forT (gN 4) w_L_sun_b0 (rangeT (lo + 1) n) D = F at ih ⊢
    unfold w_L_sun_b0
    obtain ⟨W0, hW0⟩ : ∃ W, W = w_L_sun_k0 := ⟨_, rfl⟩
    rw [← hW0]
    have d441 : DivOk 441 := dv (by decide)
    have d7 : DivOk 7 := dv (by decide)
    have d9 : DivOk 9 := dv (by decide)
    have d63 : DivOk 63 := dv (by decide)
    walk_at "go"
    refine ⟨ns, 2 + lo, rfl, by omega, by omega, ?_⟩
    generalize wideF ns (2 + lo) = N
    have f9 := fmod_pos N (b := 9) (by decide)
    have f4 := fmod_pos (N.fdiv 441) (b := 4) (by decide)
    have f5 := fmod_pos (N.fdiv 441) (b := 5) (by decide)
    have g1 := fmod_pos (N.fdiv 9) (b := 7) (by decide)
    have g2 := fmod_pos (N.fdiv 63) (b := 7) (by decide)
    have ix : (N.fmod 9).fdiv 7 = 0 ∨ (N.fmod 9).fdiv 7 = 1 := by
      rw [Int.fdiv_eq_ediv_of_nonneg _ (by decide : (0 : Int) ≤ 7)]
      omega
    obtain ⟨v, hv, ev⟩ := pick_two ((N.fdiv 441).fmod 4 + 1) ((N.fdiv 441).fmod 5 - 3) ix
    have lv : Lim 2 v := by rcases hv with rfl | rfl <;> exact Lim.of (by omega) (by omega)
    have lx1 : Lim 2 ((N.fdiv 9).fmod 7 - 3) := Lim.of (by omega) (by omega)
    have lx2 : Lim 2 ((N.fdiv 63).fmod 7 - 3) := Lim.of (by omega) (by omega)
    have ld : LimT 2 ((N.fdiv 9).fmod 7 - 3, (N.fdiv 63).fmod 7 - 3, v) := ⟨lx1, lx2, lv⟩
    walk_at "go"
    rw [ev]
    walk_at "go"
    refine ⟨eqOk_tri _ _ _ _ _ _, fun _ => ?_, fun zz => ?_⟩
    · walk_at "go"
      refine Eq.mpr (congrFun (congrFun hW0 _) _) ?_
      refine sun_k0 (d := ((0 : Int), (0 : Int), (1 : Int))) (by omega) hs g0 g3 ⟨⟨Lim.of (by decide) (by decide), Lim.of (by decide) (by decide), Lim.of (by decide) (by decide)⟩, by decide⟩ fun hour' hs' a b => ih _ _ hs' a b _ _ _ _
    · rw [eqT_tri] at zz
      have nz : ((N.fdiv 9).fmod 7 - 3, (N.fdiv 63).fmod 7 - 3, v) ≠ ((0 : Int), (0 : Int), (0 : Int)) := fun q => of_decide_eq_false zz ⟨congrArg (·.1) q, congrArg (·.2.1) q, congrArg (·.2.2) q⟩
      walk_at "go"
      refine Eq.mpr (congrFun (congrFun hW0 _) _) ?_
      exact sun_k0 (d := ((N.fdiv 9).fmod 7 - 3, (N.fdiv 63).fmod 7 - 3, v)) (by omega) hs g0 g3 ⟨ld, nz⟩ fun hour' hs' a b => ih _ _ hs' a b _ _ _ _
theorem ok_L_sun : ∀ ts Q, sp_L_sun ts Q → w_L_sun (endO 2 Q) (startT 8 ts) := by
  rintro _ Q ⟨ns, m, rfl, hm, h⟩
  unfold w_L_sun
  obtain ⟨W0, hW0⟩ : ∃ W, W = w_L_sun_b0 := ⟨_, rfl⟩
  rw [← hW0]
  walk_at "tw"
  refine ⟨ns, 1, rfl, by decide, by decide, by decide, by omega, ?_⟩
  rw [hW0]
  have z := sun_loop (D := endO 2 Q) (ns := ns) (s1 := .val (.int (m : Int))) m 0 [] ((wideF ns 1).fmod 24) .no .no .no .no (by decide) (by omega) (by simp; omega) ⟨List.Pairwise.nil, fun e he => absurd he (by simp)⟩ (fmod_pos _ (by decide)).1 (by have := (fmod_pos (wideF ns 1) (b := 24) (by decide)).2; simp; omega) (fun sun hour s4 s5 s6 s7 e hs => by
    exact h sun hour (by simpa using e) hs)
  rw [show ((m : Int)).toNat = m from Int.toNat_natCast m]
  exact z
theorem Most3.lim1 {m a b c : Int} (h : Most3 m a b c) (hm : m ≤ 9) : Lim3 1 a b c := by
  have g : ∀ {i : Int}, Most m i → Lim 1 i := fun h => Lim.of (by have := h.1; omega) (by have := h.2; omega)
  exact ⟨g h.1, g h.2.1, g h.2.2⟩
abbrev Good (p : Pl) : Prop := PlLim 7 p ∧ crs p.2.1 p.2.2 ≠ (0, 0, 0)
abbrev subT (a b : Tr) : Tr := (a.1 - b.1, a.2.1 - b.2.1, a.2.2 - b.2.2)
abbrev TipOk (p : Pl) (t : Tr) : Prop := LimT 7 t ∧ 0 < dotI (crs p.2.1 p.2.2) (subT t p.1)
theorem flat_by {m d e f x y z : Int} (hm : 1 ≤ m) (h : NoFlat d e f x y z) : crs (0 + m * d, 0 + m * e, 0 + m * f) (0 + m * x, 0 + m * y, 0 + m * z) ≠ (0, 0, 0) := by
  intro q
  have mm : m * m ≠ 0 := Int.mul_ne_zero (by omega) (by omega)
  have g : ∀ {a : Int}, m * m * a = 0 → a = 0 := fun k => (Int.mul_eq_zero.mp k).resolve_left mm
  have q1 : (0 + m * e) * (0 + m * z) - (0 + m * f) * (0 + m * y) = 0 := congrArg (·.1) q
  have q2 : (0 + m * f) * (0 + m * x) - (0 + m * d) * (0 + m * z) = 0 := congrArg (·.2.1) q
  have q3 : (0 + m * d) * (0 + m * y) - (0 + m * e) * (0 + m * x) = 0 := congrArg (·.2.2) q
  exact h ⟨g (by grind), g (by grind), g (by grind)⟩
theorem ahead_by {m i j k a b c d e f x y z u v w : Int} (hm : 1 ≤ m) (hk : 1 ≤ k) (h : 0 < (e * z - f * y) * u + (f * x - d * z) * v + (d * y - e * x) * w) :
    0 < dotI (crs (0 + m * d, 0 + m * e, 0 + m * f) (0 + m * x, 0 + m * y, 0 + m * z)) (subT (a + i * d + j * x + k * u, b + i * e + j * y + k * v, c + i * f + j * z + k * w) (a, b, c)) := by
  have e1 : dotI (crs (0 + m * d, 0 + m * e, 0 + m * f) (0 + m * x, 0 + m * y, 0 + m * z)) (subT (a + i * d + j * x + k * u, b + i * e + j * y + k * v, c + i * f + j * z + k * w) (a, b, c)) = m * m * k * ((e * z - f * y) * u + (f * x - d * z) * v + (d * y - e * x) * w) := by
    simp only [dotI, crs, subT]
    grind
  rw [e1]
  exact Int.mul_pos (Int.mul_pos (Int.mul_pos (by omega) (by omega)) (by omega)) h
theorem sq_pos {a b c : Int} (h : ¬ (a = 0 ∧ b = 0 ∧ c = 0)) : 0 < a * a + b * b + c * c := by
  have g : ∀ a : Int, 0 ≤ a * a := fun a => by
    rcases Int.le_total 0 a with k | k
    · exact Int.mul_nonneg k k
    · exact Int.mul_nonneg_of_nonpos_of_nonpos k k
  have z : ∀ a : Int, a * a = 0 → a = 0 := fun a k => (Int.mul_eq_zero.mp k).elim id id
  have ga := g a
  have gb := g b
  have gc := g c
  by_cases q : 0 < a * a + b * b + c * c
  · exact q
  · exact absurd ⟨z a (by omega), z b (by omega), z c (by omega)⟩ h
abbrev DialOk (x : Pl × Tr × Tr) : Prop := Good x.1 ∧ TipOk x.1 x.2.1 ∧ LimT 4 x.2.2
abbrev dcT (x : Pl × Tr × Tr) : T := .tup [plT x.1, trT x.2.1, trT x.2.2]
def sp_L_dial : SpT := fun ts Q => ∃ (n : Int) (sun : List (Int × Tr)), ts = [.int n, .lst (sun.map sT)] ∧ 0 < sun.length ∧ (∀ e ∈ sun, LimT 2 e.2) ∧ ∀ x : Pl × Tr × Tr, DialOk x → Q (dcT x)
theorem len_L_dial : ∀ ts Q, sp_L_dial ts Q → ts.length = 2 := by rintro ts Q ⟨_, _, e, _⟩; subst e; rfl
def w_L_dial_k0 : WS :=
  (sSeq (sSet 0 (w2 rDivT (wVar 0) (w2 rPowT (wC (.int 10)) (wC (.int 10)))))
    (sSeq (sSet 5 (wCall sp_L_triple (aCons (wVar 0) (aCons (wC (.int 6)) aNil))))
    (sSeq (sSet 0 (w2 rDivT (wVar 0) (w2 rPowT (wC (.int 13)) (wC (.int 3)))))
    (sSeq (sSet 6 (w2 rIxTT (wLst (aCons (w2 rModT (wVar 0) (w2 rAddT (wVar 2) (wC (.int 1)))) (aCons (w2 rSubT (w2 rModT (wVar 0) (w2 rAddT (wVar 2) (wC (.int 3)))) (wC (.int 1))) aNil))) (w2 rDivT (w2 rModT (w2 rDivT (wVar 0) (wC (.int 30))) (wC (.int 4))) (wC (.int 3)))))
    (sSeq (sSet 7 (w2 rIxTT (wLst (aCons (w2 rModT (w2 rDivT (wVar 0) (wC (.int 120))) (w2 rAddT (wVar 2) (wC (.int 1)))) (aCons (w2 rSubT (w2 rModT (w2 rDivT (wVar 0) (wC (.int 120))) (w2 rAddT (wVar 2) (wC (.int 3)))) (wC (.int 1))) aNil))) (w2 rDivT (w2 rModT (w2 rDivT (wVar 0) (wC (.int 3600))) (wC (.int 4))) (wC (.int 3)))))
    (sSeq (sSet 8 (wCall sp_L_on (aCons (wCall sp_L_on (aCons (wVar 5) (aCons (wVar 10) (aCons (wVar 6) aNil)))) (aCons (wVar 11) (aCons (wVar 7) aNil)))))
    (sSeq (sSet 9 (wCall sp_L_on (aCons (wVar 8) (aCons (wVar 3) (aCons (w2 rAddT (wC (.int 1)) (w2 rModT (w2 rDivT (wVar 0) (wC (.int 14400))) (wC (.int 6)))) aNil)))))
    (sRet (wTup (aCons (wTup (aCons (wVar 5) (aCons (wCall sp_L_on (aCons (wTup (aCons (wC (.int 0)) (aCons (wC (.int 0)) (aCons (wC (.int 0)) aNil)))) (aCons (wVar 10) (aCons (wVar 2) aNil)))) (aCons (wCall sp_L_on (aCons (wTup (aCons (wC (.int 0)) (aCons (wC (.int 0)) (aCons (wC (.int 0)) aNil)))) (aCons (wVar 11) (aCons (wVar 2) aNil)))) aNil)))) (aCons (wVar 9) (aCons (wVar 8) aNil))))))))))))
def w_L_dial_k1 : WS :=
  (sSeq (sIf (tCmpT cEqT (wVar 4) (wC (.int 0))) (sSet 3 (wCall sp_L_cross (aCons (wVar 10) (aCons (wVar 11) aNil)))) sNext)
    w_L_dial_k0)
def w_L_dial : WS :=
  (sSeq (sSet 2 (w2 rAddT (wC (.int 1)) (w2 rModT (wVar 0) (wC (.int 4)))))
    (sSeq (sSet 0 (w2 rDivT (wVar 0) (wC (.int 4))))
    (sSeq (sAsg (gT 2 (gsC (gN 10) (gsC (gN 11) gs0))) (wCall sp_L_pair (aCons (w2 rDivT (wVar 0) (wC (.int 2000))) (aCons (wC (.int 2)) aNil))))
    (sSeq (sSet 3 (w2 rIxTT (w2 rIxTT (wVar 1) (w2 rModT (wVar 0) (wCB rLenT (aCons (wVar 1) aNil)))) (wC (.int 1))))
    (sSeq (sSet 4 (wCall sp_L_dot (aCons (wCall sp_L_cross (aCons (wVar 10) (aCons (wVar 11) aNil))) (aCons (wVar 3) aNil))))
    (sSeq (sIf (tCmpT cLtT (wVar 4) (wC (.int 0))) (sPar 10 11 (aCons (wVar 11) (aCons (wVar 10) aNil))) sNext)
    w_L_dial_k1))))))
theorem dial_k0 {Q : T → Prop} {n m d e f x y z u v w : Int} {s1 s4 s5 s6 s7 s8 s9 : Slot} (hm0 : 1 ≤ m) (hm1 : m ≤ 4) (ld : Lim3 1 d e f) (lx : Lim3 1 x y z) (lu : Lim3 3 u v w) (NF : NoFlat d e f x y z) (hA : 0 < (e * z - f * y) * u + (f * x - d * z) * v + (d * y - e * x) * w) (h : ∀ x : Pl × Tr × Tr, DialOk x → Q (dcT x)) :
    w_L_dial_k0 { nx := fun _ => Q .non, rt := Q } [.val (.int n), s1, .val (.int m), .val (tri u v w), s4, s5, s6, s7, s8, s9, .val (tri d e f), .val (tri x y z)] := by
  have c10 := cpow10 10 (by decide)
  have d10 := pow_div 10 (by decide)
  have c13 : CPow 13 3 := ⟨by decide, by decide, by decide⟩
  have d13 : DivOk (13 ^ 3) := divOk (n := 6) (by decide) (Lim.of (by decide) (by decide))
  have d30 : DivOk 30 := dv (by decide)
  have d3 : DivOk 3 := dv (by decide)
  have d120 : DivOk 120 := dv (by decide)
  have d3600 : DivOk 3600 := dv (by decide)
  have d14400 : DivOk 14400 := dv (by decide)
  have lm : Lim 1 m := Lim.of (by omega) (by omega)
  have nz1 : m + 1 ≠ 0 := by omega
  have nz3 : m + 3 ≠ 0 := by omega
  unfold w_L_dial_k0
  walk_at "go"
  refine ⟨_, 6, rfl, by decide, by decide, fun a b c A B C => ?_⟩
  have la : Lim3 1 a b c := Most3.lim1 ⟨A, B, C⟩ (by decide)
  generalize hN : (n.fdiv (10 ^ Int.toNat 10)).fdiv (13 ^ Int.toNat 3) = N
  have ixf : ∀ X : Int, (X.fmod 4).fdiv 3 = 0 ∨ (X.fmod 4).fdiv 3 = 1 := fun X => by
    have := fmod_pos X (b := 4) (by decide)
    rw [Int.fdiv_eq_ediv_of_nonneg _ (by decide : (0 : Int) ≤ 3)]
    omega
  obtain ⟨i, hi, ei⟩ := pick_two (N.fmod (m + 1)) (N.fmod (m + 3) - 1) (ixf (N.fdiv 30))
  obtain ⟨j, hj, ej⟩ := pick_two ((N.fdiv 120).fmod (m + 1)) ((N.fdiv 120).fmod (m + 3) - 1) (ixf (N.fdiv 3600))
  have li : Lim 1 i := by
    have g1 := fmod_pos N (b := m + 1) (by omega)
    have g2 := fmod_pos N (b := m + 3) (by omega)
    rcases hi with rfl | rfl <;> exact Lim.of (by omega) (by omega)
  have lj : Lim 1 j := by
    have g1 := fmod_pos (N.fdiv 120) (b := m + 1) (by omega)
    have g2 := fmod_pos (N.fdiv 120) (b := m + 3) (by omega)
    rcases hj with rfl | rfl <;> exact Lim.of (by omega) (by omega)
  walk_at "go"
  rw [hN, ei]
  walk_at "go"
  try rw [hN]
  rw [ej]
  walk_at "go"
  refine ⟨_, _, _, _, _, _, _, rfl, lim4 ld li (by decide) (by decide), ?_⟩
  walk_at "go"
  refine ⟨_, _, _, _, _, _, _, rfl, lim4 lx lj (by decide) (by decide), ?_⟩
  have p1 := on3 la ld li (k := 3) (by decide) (by decide)
  have p2 := on3 p1 lx lj (k := 4) (by decide) (by decide)
  have f6 := fmod_pos (N.fdiv 14400) (b := 6) (by decide)
  have lk : Lim 1 (1 + (N.fdiv 14400).fmod 6) := Lim.of (by omega) (by omega)
  have p3 := on3 p2 lu lk (k := 7) (by decide) (by decide)
  walk_at "go"
  refine ⟨_, _, _, _, _, _, _, rfl, lim4 lu lk (by decide) (by decide), ?_⟩
  walk_at "go"
  refine ⟨_, _, _, _, _, _, _, rfl, lim4 ld lm (by decide) (by decide), ?_⟩
  walk_at "go"
  refine ⟨_, _, _, _, _, _, _, rfl, lim4 lx lm (by decide) (by decide), ?_⟩
  have lD := on3 z3 ld lm (k := 7) (by decide) (by decide)
  have lX := on3 z3 lx lm (k := 7) (by decide) (by decide)
  have la' := la.mono (k' := 7) (by decide)
  walk_at "go"
  exact h (((a, b, c), (0 + m * d, 0 + m * e, 0 + m * f), (0 + m * x, 0 + m * y, 0 + m * z)), (_, _, _), (_, _, _)) ⟨⟨⟨la', lD, lX⟩, flat_by hm0 NF⟩, ⟨p3, ahead_by hm0 (by omega) hA⟩, p2⟩
theorem dial_k1 {Q : T → Prop} {n m d e f x y z u v w a : Int} {s1 s5 s6 s7 s8 s9 : Slot} (hm0 : 1 ≤ m) (hm1 : m ≤ 4) (ld : Lim3 1 d e f) (lx : Lim3 1 x y z) (lu : Lim3 2 u v w) (NF : NoFlat d e f x y z) (hA : a = 0 ∨ 0 < (e * z - f * y) * u + (f * x - d * z) * v + (d * y - e * x) * w) (h : ∀ x : Pl × Tr × Tr, DialOk x → Q (dcT x)) :
    w_L_dial_k1 { nx := fun _ => Q .non, rt := Q } [.val (.int n), s1, .val (.int m), .val (tri u v w), .val (.int a), s5, s6, s7, s8, s9, .val (tri d e f), .val (tri x y z)] := by
  unfold w_L_dial_k1
  obtain ⟨W0, hW0⟩ : ∃ W, W = w_L_dial_k0 := ⟨_, rfl⟩
  rw [← hW0]
  walk_at "go"
  refine ⟨fun _ => ?_, fun c => ?_⟩
  · walk_at "go"
    refine ⟨_, _, _, _, _, _, rfl, lim6 ld lx (by decide) (by decide), ?_⟩
    walk_at "go"
    refine Eq.mpr (congrFun (congrFun hW0 _) _) ?_
    exact dial_k0 hm0 hm1 ld lx (lim_cross3 ld lx (by decide)) NF (sq_pos NF) h
  · have ne : a ≠ 0 := of_decide_eq_false c
    walk_at "go"
    refine Eq.mpr (congrFun (congrFun hW0 _) _) ?_
    exact dial_k0 hm0 hm1 ld lx (lu.mono (by decide)) NF (hA.resolve_left ne) h
theorem ok_L_dial : ∀ ts Q, sp_L_dial ts Q → w_L_dial { nx := fun _ => Q .non, rt := Q } (startT 12 ts) := by
  rintro _ Q ⟨n, sun, rfl, hl, hs, h⟩
  have d4 : DivOk 4 := dv (by decide)
  have d2000 : DivOk 2000 := dv (by decide)
  have f4 := fmod_pos n (b := 4) (by decide)
  have hlz : ((sun.map sT).length : Int) ≠ 0 := by rw [List.length_map]; omega
  unfold w_L_dial
  obtain ⟨W0, hW0⟩ : ∃ W, W = w_L_dial_k1 := ⟨_, rfl⟩
  rw [← hW0]
  walk_at "go"
  refine ⟨_, 2, rfl, by decide, by decide, fun d e f x y z A B NF => ?_⟩
  have ld := A.lim1 (by decide)
  have lx := B.lim1 (by decide)
  have fl := fmod_pos (n.fdiv 4) (b := ((sun.map sT).length : Int)) (by rw [List.length_map]; omega)
  obtain ⟨en, me, ee⟩ := atI_mapG (f := sT) (l := sun) fl.1 (by have := fl.2; rw [List.length_map] at this ⊢; exact this)
  have lu := hs en me
  walk_at "go"
  rw [ee]
  walk_at "go"
  refine ⟨_, _, _, _, _, _, rfl, lim6 ld lx (by decide) (by decide), ?_⟩
  have lF := lim_cross3 ld lx (k := 3) (by decide)
  walk_at "go"
  refine ⟨_, _, _, _, _, _, rfl, lim6 lF lu (by decide) (by decide), ?_⟩
  walk_at "go"
  refine ⟨fun c => ?_, fun c => ?_⟩
  · have lt := of_decide_eq_true c
    have NF' : NoFlat x y z d e f := fun q => NF ⟨by have := q.1; grind, by have := q.2.1; grind, by have := q.2.2; grind⟩
    walk_at "go"
    refine Eq.mpr (congrFun (congrFun hW0 _) _) ?_
    exact dial_k1 (by omega) (by omega) lx ld lu NF' (.inr (by clear NF NF' h; grind)) h
  · have ge := of_decide_eq_false c
    walk_at "go"
    refine Eq.mpr (congrFun (congrFun hW0 _) _) ?_
    exact dial_k1 (by omega) (by omega) ld lx lu NF (by omega) h
theorem pn_tr (t : Tr) : Pn 1 (trT t) := Pn.tup fun x hx => by
  simp only [List.mem_cons, List.not_mem_nil, or_false] at hx
  rcases hx with rfl | rfl | rfl <;> exact Pn.int _
theorem pn_pl (p : Pl) : Pn 2 (plT p) := Pn.tup fun x hx => by
  simp only [List.mem_cons, List.not_mem_nil, or_false] at hx
  rcases hx with rfl | rfl | rfl <;> exact pn_tr _
theorem eqOk_dcs (l : List (Pl × Tr × Tr)) : EqOk (.lst (l.map dcT)) (.lst []) := by
  refine (Pn.lst (n := 3) fun x hx => ?_).ok (Pn.lst (n := 0) fun x hx => absurd hx (by simp)) (by decide)
  obtain ⟨y, _, rfl⟩ := List.mem_map.mp hx
  refine Pn.tup fun x hx => ?_
  simp only [List.mem_cons, List.not_mem_nil, or_false] at hx
  rcases hx with rfl | rfl | rfl
  · exact pn_pl _
  · exact (pn_tr _).up (by decide)
  · exact (pn_tr _).up (by decide)
theorem eqT_nilG {α : Type} (f : α → T) (l : List α) : eqT (.lst (l.map f)) (.lst []) = decide (l = []) := by
  cases l with
  | nil => rfl
  | cons x r => exact (decide_eq_false (by simp)).symm
def sp_L_fence : SpT := fun ts Q => ∃ (n : Int) (sun : List (Int × Tr)) (ds : List (Pl × Tr × Tr)), ts = [.int n, .lst (sun.map sT), .lst (ds.map dcT)] ∧ 0 < sun.length ∧ (∀ e ∈ sun, LimT 2 e.2) ∧ (∀ x ∈ ds, LimT 4 x.2.2) ∧ ∀ p : Pl, Good p → Q (plT p)
theorem len_L_fence : ∀ ts Q, sp_L_fence ts Q → ts.length = 3 := by rintro ts Q ⟨_, _, _, e, _⟩; subst e; rfl
def w_L_fence_k0 : WS :=
  (sSeq (sSet 4 (w2 rIxTT (w2 rIxTT (wVar 1) (w2 rModT (w2 rDivT (wVar 0) (wC (.int 60))) (wCB rLenT (aCons (wVar 1) aNil)))) (wC (.int 1))))
    (sSeq (sSet 0 (w2 rDivT (wVar 0) (wC (.int 3600))))
    (sSeq (sSet 5 (w2 rAddT (wC (.int 1)) (w2 rModT (wVar 0) (wC (.int 3)))))
    (sSeq (sAsg (gT 2 (gsC (gN 10) (gsC (gN 11) gs0))) (wCall sp_L_pair (aCons (w2 rDivT (wVar 0) (wC (.int 3))) (aCons (wC (.int 2)) aNil))))
    (sSeq (sSet 0 (w2 rDivT (wVar 0) (w2 rPowT (wC (.int 10)) (wC (.int 6)))))
    (sSeq (sSet 6 (wCall sp_L_on (aCons (wVar 3) (aCons (wVar 4) (aCons (w2 rSubT (w2 rModT (wVar 0) (wC (.int 9))) (wC (.int 1))) aNil)))))
    (sSeq (sSet 7 (w2 rSubT (w2 rModT (w2 rDivT (wVar 0) (wC (.int 9))) (w2 rAddT (wVar 5) (wC (.int 2)))) (wC (.int 1))))
    (sSeq (sSet 8 (w2 rSubT (w2 rModT (w2 rDivT (wVar 0) (wC (.int 60))) (w2 rAddT (wVar 5) (wC (.int 2)))) (wC (.int 1))))
    (sSeq (sSet 9 (wCall sp_L_on (aCons (wCall sp_L_on (aCons (wVar 6) (aCons (wVar 10) (aCons (w2 rSubT (wC (.int 0)) (wVar 7)) aNil)))) (aCons (wVar 11) (aCons (w2 rSubT (wC (.int 0)) (wVar 8)) aNil)))))
    (sRet (wTup (aCons (wVar 9) (aCons (wCall sp_L_on (aCons (wTup (aCons (wC (.int 0)) (aCons (wC (.int 0)) (aCons (wC (.int 0)) aNil)))) (aCons (wVar 10) (aCons (wVar 5) aNil)))) (aCons (wCall sp_L_on (aCons (wTup (aCons (wC (.int 0)) (aCons (wC (.int 0)) (aCons (wC (.int 0)) aNil)))) (aCons (wVar 11) (aCons (wVar 5) aNil)))) aNil))))))))))))))
def w_L_fence : WS :=
  (sSeq (sSet 3 (wTup (aCons (wC (.int 0)) (aCons (wC (.int 0)) (aCons (wC (.int 1)) aNil)))))
    (sSeq (sIf (tCmpT cNeT (wVar 2) (wLst aNil)) (sSet 3 (w2 rIxTT (w2 rIxTT (wVar 2) (w2 rModT (wVar 0) (wCB rLenT (aCons (wVar 2) aNil)))) (wC (.int 2)))) sNext)
    w_L_fence_k0))
theorem fence_k0 {Q : T → Prop} {n t0 t1 t2 : Int} {sun : List (Int × Tr)} {s2 s4 s5 s6 s7 s8 s9 s10 s11 : Slot} (hl : 0 < sun.length) (hs : ∀ e ∈ sun, LimT 2 e.2) (lt : Lim3 4 t0 t1 t2) (h : ∀ p : Pl, Good p → Q (plT p)) :
    w_L_fence_k0 { nx := fun _ => Q .non, rt := Q } [.val (.int n), .val (.lst (sun.map sT)), s2, .val (tri t0 t1 t2), s4, s5, s6, s7, s8, s9, s10, s11] := by
  have c6 := cpow10 6 (by decide)
  have d6 := pow_div 6 (by decide)
  have d60 : DivOk 60 := dv (by decide)
  have d3600 : DivOk 3600 := dv (by decide)
  have d3 : DivOk 3 := dv (by decide)
  have d9 : DivOk 9 := dv (by decide)
  have hlz : ((sun.map sT).length : Int) ≠ 0 := by rw [List.length_map]; omega
  have fl := fmod_pos (n.fdiv 60) (b := ((sun.map sT).length : Int)) (by rw [List.length_map]; omega)
  obtain ⟨en, me, ee⟩ := atI_mapG (f := sT) (l := sun) fl.1 (by have := fl.2; rw [List.length_map] at this ⊢; exact this)
  have lu := hs en me
  have f3 := fmod_pos (n.fdiv 3600) (b := 3) (by decide)
  unfold w_L_fence_k0
  walk_at "go"
  rw [ee]
  walk_at "go"
  refine ⟨_, 2, rfl, by decide, by decide, fun d e f x y z A B NF => ?_⟩
  have ld := A.lim1 (by decide)
  have lx := B.lim1 (by decide)
  generalize hm : 1 + (n.fdiv 3600).fmod 3 = m
  have lm : Lim 1 m := Lim.of (by omega) (by omega)
  have nz2 : m + 2 ≠ 0 := by omega
  generalize hN : (n.fdiv 3600).fdiv (10 ^ Int.toNat 6) = N
  have f9 := fmod_pos N (b := 9) (by decide)
  have l9 : Lim 1 (N.fmod 9 - 1) := Lim.of (by omega) (by omega)
  have fi := fmod_pos (N.fdiv 9) (b := m + 2) (by omega)
  have fj := fmod_pos (N.fdiv 60) (b := m + 2) (by omega)
  have li : Lim 1 (0 - ((N.fdiv 9).fmod (m + 2) - 1)) := Lim.of (by omega) (by omega)
  have lj : Lim 1 (0 - ((N.fdiv 60).fmod (m + 2) - 1)) := Lim.of (by omega) (by omega)
  have p1 := on3 lt lu l9 (k := 5) (by decide) (by decide)
  have p2 := on3 p1 ld li (k := 6) (by decide) (by decide)
  have p3 := on3 p2 lx lj (k := 7) (by decide) (by decide)
  have lD := on3 z3 ld lm (k := 7) (by decide) (by decide)
  have lX := on3 z3 lx lm (k := 7) (by decide) (by decide)
  walk_at "go"
  rw [hN]
  refine ⟨_, _, _, _, _, _, _, rfl, lim4 lu l9 (by decide) (by decide), ?_⟩
  walk_at "go"
  refine ⟨_, _, _, _, _, _, _, rfl, lim4 ld li (by decide) (by decide), ?_⟩
  walk_at "go"
  refine ⟨_, _, _, _, _, _, _, rfl, lim4 lx lj (by decide) (by decide), ?_⟩
  walk_at "go"
  refine ⟨_, _, _, _, _, _, _, rfl, lim4 ld lm (by decide) (by decide), ?_⟩
  walk_at "go"
  refine ⟨_, _, _, _, _, _, _, rfl, lim4 lx lm (by decide) (by decide), ?_⟩
  walk_at "go"
  exact h ((_, _, _), (0 + m * d, 0 + m * e, 0 + m * f), (0 + m * x, 0 + m * y, 0 + m * z)) ⟨⟨p3, lD, lX⟩, flat_by (by omega) NF⟩
theorem ok_L_fence : ∀ ts Q, sp_L_fence ts Q → w_L_fence { nx := fun _ => Q .non, rt := Q } (startT 12 ts) := by
  rintro _ Q ⟨n, sun, ds, rfl, hl, hs, hd, h⟩
  unfold w_L_fence
  obtain ⟨W0, hW0⟩ : ∃ W, W = w_L_fence_k0 := ⟨_, rfl⟩
  rw [← hW0]
  walk_at "go"
  refine ⟨eqOk_dcs ds, ?_⟩
  rw [eqT_nilG]
  refine ⟨fun c => ?_, fun c => ?_⟩
  · have ne : ds ≠ [] := by simpa using c
    have hp : 0 < ds.length := List.length_pos_iff.mpr ne
    have hlz : ((ds.map dcT).length : Int) ≠ 0 := by rw [List.length_map]; omega
    have fl := fmod_pos n (b := ((ds.map dcT).length : Int)) (by rw [List.length_map]; omega)
    obtain ⟨en, me, ee⟩ := atI_mapG (f := dcT) (l := ds) fl.1 (by have := fl.2; rw [List.length_map] at this ⊢; exact this)
    walk_at "go"
    rw [ee]
    walk_at "go"
    refine Eq.mpr (congrFun (congrFun hW0 _) _) ?_
    exact fence_k0 hl hs (hd en me) h
  · walk_at "go"
    refine Eq.mpr (congrFun (congrFun hW0 _) _) ?_
    exact fence_k0 hl hs ⟨Lim.of (by decide) (by decide), Lim.of (by decide) (by decide), Lim.of (by decide) (by decide)⟩ h
abbrev chS (c : Nat) : Str := ⟨#[c]⟩
def nameF (pad k : Int) : Str := repS (Str.ofString "x") (pad.fmod 5) ++ (chS (97 + ((k + pad.fdiv 20).fmod 26).toNat) ++ chS 97) ++ repS (Str.ofString "q") ((pad.fdiv 4).fmod 3)
theorem letters_at : ∀ j : Fin 26, atI (Str.ofString "abcdefghijklmnopqrstuvwxyz").cps.toList ((j : Nat) : Int) = some (97 + (j : Nat)) := by decide +kernel
theorem letter_at {i : Int} (h0 : 0 ≤ i) (h1 : i < 26) : atI (Str.ofString "abcdefghijklmnopqrstuvwxyz").cps.toList i = some (97 + i.toNat) := by
  have := letters_at ⟨i.toNat, by omega⟩
  rw [show ((i.toNat : Nat) : Int) = i by omega] at this
  exact this
theorem repx {n : Int} (h0 : 0 ≤ n) (h1 : n ≤ 4) : SOk (repS (Str.ofString "x") n) ∧ (repS (Str.ofString "x") n).length ≤ 4 := by
  have : n = 0 ∨ n = 1 ∨ n = 2 ∨ n = 3 ∨ n = 4 := by omega
  rcases this with rfl | rfl | rfl | rfl | rfl <;> exact ⟨by decide +kernel, by decide +kernel⟩
theorem repq {n : Int} (h0 : 0 ≤ n) (h1 : n ≤ 4) : SOk (repS (Str.ofString "q") n) ∧ (repS (Str.ofString "q") n).length ≤ 4 := by
  have : n = 0 ∨ n = 1 ∨ n = 2 ∨ n = 3 ∨ n = 4 := by omega
  rcases this with rfl | rfl | rfl | rfl | rfl <;> exact ⟨by decide +kernel, by decide +kernel⟩
theorem cps_app (a b : Str) : (a ++ b).cps = a.cps ++ b.cps := rfl
theorem sok_app {a b : Str} (ha : SOk a) (hb : SOk b) : SOk (a ++ b) := by
  unfold SOk PyData.strOk at *
  rw [cps_app, Array.all_append, ha, hb]
  rfl
theorem len_app (a b : Str) : (a ++ b).length = a.length + b.length := by
  simp [Str.length, cps_app]
theorem sok_ch {c : Nat} (h : c < 1000) : SOk (chS c) := by
  unfold SOk PyData.strOk
  simp
  omega
theorem nameF_ok (pad k : Int) : SOk (nameF pad k) := by
  have f1 := fmod_pos pad (b := 5) (by decide)
  have f2 := fmod_pos (pad.fdiv 4) (b := 3) (by decide)
  have f3 := fmod_pos (k + pad.fdiv 20) (b := 26) (by decide)
  exact sok_app (sok_app (repx f1.1 (by omega)).1 (sok_app (sok_ch (by omega)) (sok_ch (by decide)))) (repq f2.1 (by omega)).1
theorem nameF_inj {pad k k' : Int} (h0 : 0 ≤ k) (h1 : k < 26) (h0' : 0 ≤ k') (h1' : k' < 26) (e : nameF pad k = nameF pad k') : k = k' := by
  have e2 : (nameF pad k).cps.toList = (nameF pad k').cps.toList := by rw [e]
  unfold nameF at e2
  simp only [cps_app, Array.toList_append, List.append_assoc] at e2
  have e3 := List.append_cancel_left e2
  have e5 : (97 + ((k + pad.fdiv 20).fmod 26).toNat) = (97 + ((k' + pad.fdiv 20).fmod 26).toNat) := by
    simpa using e3
  have f := fmod_pos (k + pad.fdiv 20) (b := 26) (by decide)
  have f' := fmod_pos (k' + pad.fdiv 20) (b := 26) (by decide)
  have e6 : (k + pad.fdiv 20).fmod 26 = (k' + pad.fdiv 20).fmod 26 := by omega
  rw [Int.fmod_eq_emod_of_nonneg _ (by decide), Int.fmod_eq_emod_of_nonneg _ (by decide)] at e6
  omega
def sp_L_name : SpT := fun ts Q => ∃ (ns : List Int) (k : Int), ts = [.lst (ns.map T.int), .int k] ∧ 0 ≤ k ∧ k < 26 ∧ Q (.str (nameF (wideF ns 60) k))
theorem len_L_name : ∀ ts Q, sp_L_name ts Q → ts.length = 2 := by rintro ts Q ⟨_, _, e, _⟩; subst e; rfl
def w_L_name : WS :=
  (sSeq (sSet 2 (wC (.str (Str.ofString "abcdefghijklmnopqrstuvwxyz"))))
    (sSeq (sSet 3 (wCall sp_L_wide (aCons (wVar 0) (aCons (wC (.int 60)) aNil))))
    (sSeq (sSet 4 (w2 rAddST (w2 rIxST (wVar 2) (w2 rModT (w2 rAddT (wVar 1) (w2 rDivT (wVar 3) (wC (.int 20)))) (wC (.int 26)))) (w2 rIxST (wVar 2) (w2 rDivT (wVar 1) (wC (.int 26))))))
    (sRet (w2 rAddST (w2 rAddST (w2 rMulST (wC (.str (Str.ofString "x"))) (w2 rModT (wVar 3) (wC (.int 5)))) (wVar 4)) (w2 rMulST (wC (.str (Str.ofString "q"))) (w2 rModT (w2 rDivT (wVar 3) (wC (.int 4))) (wC (.int 3)))))))))
theorem ok_L_name : ∀ ts Q, sp_L_name ts Q → w_L_name { nx := fun _ => Q .non, rt := Q } (startT 5 ts) := by
  rintro _ Q ⟨ns, k, rfl, h0, h1, h⟩
  have d20 : DivOk 20 := dv (by decide)
  have d26 : DivOk 26 := dv (by decide)
  have d4 : DivOk 4 := dv (by decide)
  unfold w_L_name
  walk_at "go"
  refine ⟨ns, 60, rfl, by decide, by decide, ?_⟩
  generalize wideF ns 60 = P at *
  have f1 := fmod_pos P (b := 5) (by decide)
  have f2 := fmod_pos (P.fdiv 4) (b := 3) (by decide)
  have f3 := fmod_pos (k + P.fdiv 20) (b := 26) (by decide)
  have l26 : (Str.ofString "abcdefghijklmnopqrstuvwxyz").length ≤ 1000 := by decide +kernel
  have lx : (Str.ofString "x").length ≤ 1 := by decide +kernel
  have lq : (Str.ofString "q").length ≤ 1 := by decide +kernel
  have k0 : k.fdiv 26 = 0 := by
    rw [Int.fdiv_eq_ediv_of_nonneg _ (by decide : (0 : Int) ≤ 26)]
    omega
  walk_at "go"
  rw [letter_at f3.1 f3.2]
  walk_at "go"
  rw [k0, letter_at (by decide) (by decide)]
  have rx := repx f1.1 (by omega)
  have rq := repq f2.1 (by omega)
  have g1 : 0 ≤ P.fmod 5 := f1.1
  have g2 : P.fmod 5 ≤ 1000 := by omega
  have g3 : 0 ≤ (P.fdiv 4).fmod 3 := f2.1
  have g4 : (P.fdiv 4).fmod 3 ≤ 1000 := by omega
  have m2 : (chS (97 + ((k + P.fdiv 20).fmod 26).toNat) ++ chS 97).length = 2 := rfl
  have hA : (repS (Str.ofString "x") (P.fmod 5)).length + (chS (97 + ((k + P.fdiv 20).fmod 26).toNat) ++ chS 97).length ≤ 1000 := by rw [m2]; omega
  have hB : (repS (Str.ofString "x") (P.fmod 5) ++ (chS (97 + ((k + P.fdiv 20).fmod 26).toNat) ++ chS 97)).length + (repS (Str.ofString "q") ((P.fdiv 4).fmod 3)).length ≤ 1000 := by rw [len_app, m2]; omega
  walk_at "go"
  exact h
def wTh (pad : Int) : Int → List Pl → List Th
  | _, [] => []
  | k, p :: r => (nameF pad k, p, none) :: wTh pad (k + 1) r
def dTh (pad : Int) : Int → List (Pl × Tr × Tr) → List Th
  | _, [] => []
  | k, x :: r => (nameF pad k, x.1, some x.2.1) :: dTh pad (k + 1) r
theorem noLs_map {α : Type} {f : α → T} (h : ∀ x, noL (f x) = true) : ∀ l : List α, noLs (l.map f) = true
  | [] => by simp only [List.map, noLs]
  | x :: r => by simp only [List.map, noLs, h x, noLs_map h r, Bool.and_true]
theorem noL_s (e : Int × Tr) : noL (sT e) = true := by simp only [sT, trT, tri, noL, noLs, Bool.and_true]
theorem noL_dc (x : Pl × Tr × Tr) : noL (dcT x) = true := by simp only [dcT, plT, ptl, trT, tri, noL, noLs, Bool.and_true]
theorem noL_pl (x : Pl) : noL (plT x) = true := by simp only [plT, ptl, trT, tri, noL, noLs, Bool.and_true]
theorem noL_th (x : Th) : noL (thT x) = true := by
  obtain ⟨n, p, o⟩ := x
  cases o <;> simp only [thT, plT, ptl, trT, tri, noL, noLs, Bool.and_true]
def sp_L_yard : SpOT := fun ts Q => ∃ (ns : List Int) (md ms mh : Int), ts = [.lst (ns.map T.int), .int md, .int ms, .int mh] ∧ (0 ≤ md ∧ md ≤ 6) ∧ (0 ≤ ms ∧ ms ≤ 6) ∧ (1 ≤ mh ∧ mh ≤ 20) ∧
  ∀ (sun : List (Int × Tr)) (h : Int) (ws : List Pl) (ds : List (Pl × Tr × Tr)), 0 < sun.length → sun.length ≤ 30 → SunOk sun h → (ws.length : Int) ≤ ms → (ds.length : Int) ≤ md → (∀ p ∈ ws, Good p) → (∀ x ∈ ds, DialOk x) →
    Q [.lst (sun.map sT), .lst ((wTh (wideF ns 60) 0 ws).map thT), .lst ((dTh (wideF ns 60) 20 ds).map thT)]
theorem len_L_yard : ∀ ts Q, sp_L_yard ts Q → ts.length = 4 := by rintro ts Q ⟨_, _, _, _, e, _⟩; subst e; rfl
def w_L_yard_c0 : WE :=
  (wTup (aCons (wCall sp_L_name (aCons (wVar 1) (aCons (wVar 0) aNil))) (aCons (w2 rIxTT (wVar 2) (wVar 0)) aNil)))
def w_L_yard_c1 : WE :=
  (wTup (aCons (wCall sp_L_name (aCons (wVar 1) (aCons (w2 rAddT (wC (.int 20)) (wVar 0)) aNil))) (aCons (w2 rIxTT (w2 rIxTT (wVar 2) (wVar 0)) (wC (.int 0))) (aCons (w2 rIxTT (w2 rIxTT (wVar 2) (wVar 0)) (wC (.int 1))) aNil))))
def w_L_yard_b0 : WS :=
  (sApp 6 (wFz 5 (wCall sp_L_dial (aCons (wCall sp_L_wide (aCons (wVar 0) (aCons (w2 rAddT (wC (.int 20)) (wVar 7)) aNil))) (aCons (wVar 5) aNil)))))
def w_L_yard_b1 : WS :=
  (sApp 8 (wFz 5 (wCall sp_L_fence (aCons (wCall sp_L_wide (aCons (wVar 0) (aCons (w2 rAddT (wC (.int 40)) (wVar 7)) aNil))) (aCons (wVar 5) (aCons (wVar 6) aNil))))))
def w_L_yard : WS :=
  (sSeq (sSet 4 (w2 rDivT (wCall sp_L_wide (aCons (wVar 0) (aCons (wC (.int 0)) aNil))) (wC (.int 2))))
    (sSeq (sOwnF 5 sp_L_sun (aCons (wVar 0) (aCons (w2 rAddT (wC (.int 1)) (w2 rModT (wVar 4) (wVar 3))) aNil)))
    (sSeq (sOwn 6 aNil)
    (sSeq (sFor (iRange1 (aCons (w2 rModT (w2 rDivT (wVar 4) (wC (.int 100))) (w2 rAddT (wVar 1) (wC (.int 1)))) aNil)) (gN 7) w_L_yard_b0)
    (sSeq (sOwn 8 aNil)
    (sFrz 6 (sSeq (sFor (iRange1 (aCons (w2 rModT (w2 rDivT (wVar 4) (wC (.int 10000))) (w2 rAddT (wVar 2) (wC (.int 1)))) aNil)) (gN 7) w_L_yard_b1)
    (sFrz 8 (sSeq (sOwnC 9 (wComp (iRange1 (aCons (wCB rLenT (aCons (wVar 8) aNil)) aNil)) (gN 0) tTrue w_L_yard_c0 1 [0, 8]))
    (sOwnC 10 (wComp (iRange1 (aCons (wCB rLenT (aCons (wVar 6) aNil)) aNil)) (gN 0) tTrue w_L_yard_c1 1 [0, 6])))))))))))
theorem atI_drop {α : Type} {f : α → T} {l : List α} {i : Nat} (h : i < l.length) : atI (l.map f) (i : Int) = some (f l[i]) ∧ l.drop i = l[i] :: l.drop (i + 1) := by
  refine ⟨?_, List.drop_eq_getElem_cons h⟩
  unfold atI ixN
  rw [List.length_map, if_pos (by omega), if_pos (by omega)]
  simp only [Option.bind, Int.toNat_natCast]
  rw [List.getElem?_map, List.getElem?_eq_getElem h]
  rfl
theorem named_comp {Q : List T → Prop} {ns : List Int} {ps : List Pl} (hl : ps.length ≤ 20) : ∀ (n lo : Nat) (acc : List T) (s : Slot), lo + n = ps.length → Q (acc ++ (wTh (wideF ns 60) lo (ps.drop lo)).map thT) →
    compT (gN 0) tTrue w_L_yard_c0 (rangeT lo n) acc [s, .val (.lst (ns.map T.int)), .val (.lst (ps.map plT))] Q
  | 0, lo, acc, s, e, h => by
    rw [List.drop_of_length_le (by omega)] at h
    simp only [wTh, List.map_nil, List.append_nil] at h
    exact h
  | n + 1, lo, acc, s, e, h => by
    have ih := fun (acc : List T) (s : Slot) h => named_comp (Q := Q) (ns := ns) hl n (lo + 1) acc s (by omega) h
    obtain ⟨e1, e2⟩ := atI_drop (f := plT) (l := ps) (i := lo) (by omega)
    rw [e2] at h
    simp only [wTh, List.map_cons] at h
    simp only [rangeT, compT]
    rw [show ((lo : Int) + 1) = ((lo + 1 : Nat) : Int) by simp] at h ⊢
    generalize compT (gN 0) tTrue w_L_yard_c0 (rangeT ((lo + 1 : Nat) : Int) n) = F at ih ⊢
    unfold w_L_yard_c0
    walk_at "go"
    refine ⟨ns, lo, rfl, by omega, by omega, ?_⟩
    walk_at "go"
    rw [e1]
    walk_at "go"
    refine ih _ _ ?_
    simpa [thT] using h
theorem faces_comp {Q : List T → Prop} {ns : List Int} {ps : List (Pl × Tr × Tr)} (hl : ps.length ≤ 6) : ∀ (n lo : Nat) (acc : List T) (s : Slot), lo + n = ps.length → Q (acc ++ (dTh (wideF ns 60) (20 + lo) (ps.drop lo)).map thT) →
    compT (gN 0) tTrue w_L_yard_c1 (rangeT lo n) acc [s, .val (.lst (ns.map T.int)), .val (.lst (ps.map dcT))] Q
  | 0, lo, acc, s, e, h => by
    rw [List.drop_of_length_le (by omega)] at h
    simp only [dTh, List.map_nil, List.append_nil] at h
    exact h
  | n + 1, lo, acc, s, e, h => by
    have ih := fun (acc : List T) (s : Slot) h => faces_comp (Q := Q) (ns := ns) hl n (lo + 1) acc s (by omega) h
    obtain ⟨e1, e2⟩ := atI_drop (f := dcT) (l := ps) (i := lo) (by omega)
    rw [e2] at h
    simp only [dTh, List.map_cons] at h
    simp only [rangeT, compT]
    rw [show (20 + (lo : Int) + 1) = 20 + ((lo + 1 : Nat) : Int) by omega] at h
    rw [show ((lo : Int) + 1) = ((lo + 1 : Nat) : Int) by simp]
    generalize compT (gN 0) tTrue w_L_yard_c1 (rangeT ((lo + 1 : Nat) : Int) n) = F at ih ⊢
    unfold w_L_yard_c1
    walk_at "go"
    refine ⟨ns, 20 + lo, rfl, by omega, by omega, ?_⟩
    walk_at "go"
    rw [e1]
    walk_at "go"
    rw [e1]
    walk_at "go"
    refine ih _ _ ?_
    simpa [thT] using h
theorem dials_loop {D : DT} {ns : List Int} {sun : List (Int × Tr)} {s1 s2 s3 s4 s8 s9 s10 : Slot} (hl : 0 < sun.length) (hs : ∀ e ∈ sun, LimT 2 e.2) : ∀ (n : Nat) (lo : Int) (ds : List (Pl × Tr × Tr)) (s7 : Slot), 0 ≤ lo → lo + n ≤ 100 → ds.length + n ≤ 100 → (∀ x ∈ ds, DialOk x) →
    (∀ (ds' : List (Pl × Tr × Tr)) (s7 : Slot), ds'.length = ds.length + n → (∀ x ∈ ds', DialOk x) → D.nx [.val (.lst (ns.map T.int)), s1, s2, s3, s4, .own (sun.map sT), .own (ds'.map dcT), s7, s8, s9, s10]) →
    forT (gN 7) w_L_yard_b0 (rangeT lo n) D [.val (.lst (ns.map T.int)), s1, s2, s3, s4, .own (sun.map sT), .own (ds.map dcT), s7, s8, s9, s10]
  | 0, lo, ds, s7, _, _, _, hd, h => by
    simp only [rangeT, forT]
    exact h ds s7 (by simp) hd
  | n + 1, lo, ds, s7, h0, h1, h2, hd, h => by
    have ih := fun (x : Pl × Tr × Tr) (hx : DialOk x) (s7 : Slot) => dials_loop (D := D) (ns := ns) (s1 := s1) (s2 := s2) (s3 := s3) (s4 := s4) (s8 := s8) (s9 := s9) (s10 := s10) hl hs n (lo + 1) (ds ++ [x]) s7 (by omega) (by omega) (by simp; omega) (fun y hy => by
      rcases List.mem_append.mp hy with hy | hy
      · exact hd y hy
      · rw [List.mem_singleton.mp hy]; exact hx) (fun ds' s7 e hd => h ds' s7 (by rw [e]; simp; omega) hd)
    simp only [List.map_append, List.map_cons, List.map_nil] at ih
    simp only [rangeT, forT]
    generalize forT (gN 7) w_L_yard_b0 (rangeT (lo + 1) n) D = F at ih ⊢
    have hlen : (ds.map dcT).length < 1000 := by rw [List.length_map]; omega
    unfold w_L_yard_b0
    walk_at "go"
    refine ⟨ns, 20 + lo, rfl, by omega, by omega, ?_⟩
    walk_at "go"
    refine ⟨_, sun, rfl, hl, hs, fun x a => ⟨noL_dc x, ?_⟩⟩
    walk_at "go"
    exact ih x a _
theorem shuts_loop {D : DT} {ns : List Int} {sun : List (Int × Tr)} {ds : List (Pl × Tr × Tr)} {s1 s2 s3 s4 s9 s10 : Slot} (hl : 0 < sun.length) (hs : ∀ e ∈ sun, LimT 2 e.2) (hd : ∀ x ∈ ds, LimT 4 x.2.2) : ∀ (n : Nat) (lo : Int) (ps : List Pl) (s7 : Slot), 0 ≤ lo → lo + n ≤ 100 → ps.length + n ≤ 100 → (∀ p ∈ ps, Good p) →
    (∀ (ps' : List Pl) (s7 : Slot), ps'.length = ps.length + n → (∀ p ∈ ps', Good p) → D.nx [.val (.lst (ns.map T.int)), s1, s2, s3, s4, .own (sun.map sT), .val (.lst (ds.map dcT)), s7, .own (ps'.map plT), s9, s10]) →
    forT (gN 7) w_L_yard_b1 (rangeT lo n) D [.val (.lst (ns.map T.int)), s1, s2, s3, s4, .own (sun.map sT), .val (.lst (ds.map dcT)), s7, .own (ps.map plT), s9, s10]
  | 0, lo, ps, s7, _, _, _, hp, h => by
    simp only [rangeT, forT]
    exact h ps s7 (by simp) hp
  | n + 1, lo, ps, s7, h0, h1, h2, hp, h => by
    have ih := fun (x : Pl) (hx : Good x) (s7 : Slot) => shuts_loop (D := D) (ns := ns) (s1 := s1) (s2 := s2) (s3 := s3) (s4 := s4) (s9 := s9) (s10 := s10) hl hs hd n (lo + 1) (ps ++ [x]) s7 (by omega) (by omega) (by simp; omega) (fun y hy => by
      rcases List.mem_append.mp hy with hy | hy
      · exact hp y hy
      · rw [List.mem_singleton.mp hy]; exact hx) (fun ps' s7 e hp => h ps' s7 (by rw [e]; simp; omega) hp)
    simp only [List.map_append, List.map_cons, List.map_nil] at ih
    simp only [rangeT, forT]
    generalize forT (gN 7) w_L_yard_b1 (rangeT (lo + 1) n) D = F at ih ⊢
    have hlen : (ps.map plT).length < 1000 := by rw [List.length_map]; omega
    unfold w_L_yard_b1
    walk_at "go"
    refine ⟨ns, 40 + lo, rfl, by omega, by omega, ?_⟩
    walk_at "go"
    refine ⟨_, sun, ds, rfl, hl, hs, hd, fun p lp => ⟨noL_pl p, ?_⟩⟩
    walk_at "go"
    exact ih p lp _
theorem ok_L_yard : ∀ ts Q, sp_L_yard ts Q → w_L_yard (endOT [5, 9, 10] Q) (startT 11 ts) := by
  rintro _ Q ⟨ns, md, ms, mh, rfl, hmd, hms, hmh, h⟩
  have d2 : DivOk 2 := dv (by decide)
  have d100 : DivOk 100 := dv (by decide)
  have d10000 : DivOk 10000 := dv (by decide)
  have nz1 : mh ≠ 0 := by omega
  have nz2 : md + 1 ≠ 0 := by omega
  have nz3 : ms + 1 ≠ 0 := by omega
  unfold w_L_yard
  obtain ⟨W0, hW0⟩ : ∃ W, W = w_L_yard_b0 := ⟨_, rfl⟩
  obtain ⟨W1, hW1⟩ : ∃ W, W = w_L_yard_b1 := ⟨_, rfl⟩
  rw [← hW0, ← hW1]
  walk_at "go"
  refine ⟨ns, 0, rfl, by decide, by decide, ?_⟩
  generalize hX : (wideF ns 0).fdiv 2 = X
  have f1 := fmod_pos X (b := mh) (by omega)
  have f2 := fmod_pos (X.fdiv 100) (b := md + 1) (by omega)
  have f3 := fmod_pos (X.fdiv 10000) (b := ms + 1) (by omega)
  walk_at "go"
  rw [hX]
  refine ⟨ns, (1 + X.fmod mh).toNat, by rw [show (((1 + X.fmod mh).toNat : Nat) : Int) = 1 + X.fmod mh by omega], by omega, fun sun hr hlen hs => ?_⟩
  have hsun : 0 < sun.length := by omega
  have hdir : ∀ e ∈ sun, LimT 2 e.2 := fun e he => (hs.2 e he).1.2.1
  have r2 : -(2 ^ 62) ≤ (X.fdiv 100).fmod (md + 1) ∧ (X.fdiv 100).fmod (md + 1) < 2 ^ 62 := ⟨Int.le_trans (by decide) f2.1, Int.lt_of_lt_of_le f2.2 (by clear f1 f2 f3 hlen hsun; omega)⟩
  have r3 : -(2 ^ 62) ≤ (X.fdiv 10000).fmod (ms + 1) ∧ (X.fdiv 10000).fmod (ms + 1) < 2 ^ 62 := ⟨Int.le_trans (by decide) f3.1, Int.lt_of_lt_of_le f3.2 (by clear f1 f2 f3 hlen hsun; omega)⟩
  walk_at "tw"
  refine ⟨d100, nz2, r2, ?_⟩
  rw [hW0]
  refine dials_loop hsun hdir _ 0 [] _ (by decide) (by omega) (by simp; omega) (fun x hx => absurd hx (by simp)) fun ds s7 el hd => ?_
  walk_at "tw"
  refine ⟨d10000, nz3, r3, ?_⟩
  rw [hW1]
  refine shuts_loop hsun hdir (fun x hx => (hd x hx).2.2) _ 0 [] _ (by decide) (by omega) (by simp; omega) (fun p hp => absurd hp (by simp)) fun ps s7 ep hp => ?_
  obtain ⟨C0, hC0⟩ : ∃ C, C = w_L_yard_c0 := ⟨_, rfl⟩
  obtain ⟨C1, hC1⟩ : ∃ C, C = w_L_yard_c1 := ⟨_, rfl⟩
  rw [← hC0, ← hC1]
  walk_at "tw"
  have e1 : (((ps.map plT).length : Nat) : Int).toNat = ps.length := by simp
  have e2 : (((ds.map dcT).length : Nat) : Int).toNat = ds.length := by simp
  have b1 : ps.length ≤ 6 := by rw [ep]; simp; omega
  have b2 : ds.length ≤ 6 := by rw [el]; simp; omega
  have b3 : (ps.length : Int) ≤ ms := by rw [ep]; simp; omega
  have b4 : (ds.length : Int) ≤ md := by rw [el]; simp; omega
  rw [e1, e2, hC0, hC1]
  refine ⟨by rw [List.length_map]; omega, by rw [rangeT_length]; omega, ?_⟩
  refine named_comp (ns := ns) (ps := ps) (by omega) ps.length 0 [] _ (by omega) ?_
  refine ⟨by rw [List.length_map]; omega, by rw [rangeT_length]; omega, ?_⟩
  refine faces_comp (ns := ns) (ps := ds) b2 ds.length 0 [] _ (by omega) ?_
  exact ⟨noLs_map noL_s sun, noLs_map noL_th _, noLs_map noL_th _, h sun hr ps ds hsun (by omega) hs b3 b4 hp hd⟩
theorem abs_ite2 (a : Int) : (if a < 0 then -a else a) = (a.natAbs : Int) := by split <;> omega
def sp_L_ratio : SpT := fun ts Q => ∃ a b : Int, ts = [.int a, .int b] ∧ b ≠ 0 ∧ Lim 1900 b ∧ Q (fr a b)
theorem len_L_ratio : ∀ ts Q, sp_L_ratio ts Q → ts.length = 2 := by rintro ts Q ⟨_, _, e, _⟩; subst e; rfl
def w_L_ratio_b0 : WS :=
  (sPar 2 3 (aCons (wVar 3) (aCons (w2 rModT (wVar 2) (wVar 3)) aNil)))
def w_L_ratio : WS :=
  (sSeq (sSet 2 (wCB rAbsT (aCons (wVar 0) aNil)))
    (sSeq (sSet 3 (wCB rAbsT (aCons (wVar 1) aNil)))
    (sSeq (sWhile (tCmpT cGtT (wVar 3) (wC (.int 0))) w_L_ratio_b0)
    (sSeq (sIf (tCmpT cLtT (wVar 1) (wC (.int 0))) (sRet (wTup (aCons (w2 rDivT (wNeg (wVar 0)) (wVar 2)) (aCons (w2 rDivT (wNeg (wVar 1)) (wVar 2)) aNil)))) sNext)
    (sRet (wTup (aCons (w2 rDivT (wVar 0) (wVar 2)) (aCons (w2 rDivT (wVar 1) (wVar 2)) aNil))))))))
theorem ok_L_ratio : ∀ ts Q, sp_L_ratio ts Q → w_L_ratio { nx := fun _ => Q .non, rt := Q } (startT 4 ts) := by
  rintro _ Q ⟨a, b, rfl, hb, lb, hq⟩
  have h : ∀ p q : Int, Rt p q a b → Q (fra p q) := fun p q A => by rw [fr_of hb A]; exact hq
  have g0 : 0 < Int.gcd a b := Int.gcd_pos_iff.mpr (Or.inr hb)
  have gl : (Int.gcd a b : Int).natAbs ≤ b.natAbs := by
    have d := Int.gcd_dvd_right a b
    have := Int.natAbs_dvd_natAbs.mpr d
    exact Nat.le_of_dvd (by omega) this
  have dv : DivOk (Int.gcd a b : Int) := divOk (by omega) (lb.le gl)
  unfold w_L_ratio
  walk_at "tw"
  refine ⟨fun m τ => ∃ x y : Int, τ = [.val (.int a), .val (.int b), .val (.int x), .val (.int y)] ∧ 0 ≤ x ∧ 0 ≤ y ∧ Int.gcd x y = Int.gcd a b ∧ m = y.natAbs, ⟨_, _, _, rfl, ?_, ?_, ?_, rfl⟩, ?_⟩
  · rw [abs_ite2]; omega
  · rw [abs_ite2]; omega
  · rw [abs_ite2, abs_ite2]; simp [Int.gcd]
  rintro m τ ⟨x, y, rfl, hx, hy, hg, rfl⟩
  unfold w_L_ratio_b0
  walk_at "tw"
  refine ⟨fun c => ?_, fun c => ?_⟩
  · have c' : 0 < y := of_decide_eq_true c
    have f := fmod_pos x c'
    exact ⟨by omega, _, fmod_abs_lt x (by omega), _, _, rfl, by omega, f.1, by rw [gcd_step]; exact hg, rfl⟩
  · have e : y = 0 := by have := of_decide_eq_false c; omega
    subst e
    rw [Int.gcd_zero_right] at hg
    have hx' : x = (Int.gcd a b : Int) := by omega
    subst hx'
    refine ⟨fun c => ?_, fun c => ?_⟩
    · have c' : b < 0 := of_decide_eq_true c
      have F := frac_mk (-a) (b := -b) (f := (Int.gcd a b : Int)) (by omega) (.inl ⟨by omega, by simp⟩)
      refine ⟨dv, dv, h _ _ ⟨F.pos, F.cop, ?_⟩⟩
      have := F.eq
      grind
    · have c' : ¬ b < 0 := of_decide_eq_false c
      have F := frac_mk a (b := b) (f := (Int.gcd a b : Int)) hb (.inl ⟨by omega, rfl⟩)
      exact ⟨dv, dv, h _ _ F.rt⟩
def sp_L_places : SpT := fun ts Q => ∃ (c s o g d h : Tr) (b : Int), ts = [ptl c s o, trT g, .int b, trT d] ∧ h = (dotI g (crs o d), dotI g (crs d s), dotI (crs s o) d * b) ∧ (LimT 50 s ∧ LimT 50 o ∧ LimT 50 d ∧ LimT 400 g) ∧ b ≠ 0 ∧ Lim 400 b ∧ (dotI (crs s o) d = 0 → Q .non) ∧ (dotI (crs s o) d ≠ 0 → Q (hpl h))
theorem len_L_places : ∀ ts Q, sp_L_places ts Q → ts.length = 4 := by rintro ts Q ⟨_, _, _, _, _, _, _, e, _⟩; subst e; rfl
def w_L_places : WS :=
  (sSeq (sAsg (gT 3 (gsC (gN 7) (gsC (gN 8) (gsC (gN 9) gs0)))) (wVar 0))
    (sSeq (sSet 4 (wCall sp_L_dot (aCons (wCall sp_L_cross (aCons (wVar 8) (aCons (wVar 9) aNil))) (aCons (wVar 3) aNil))))
    (sSeq (sIf (tCmpT cEqT (wVar 4) (wC (.int 0))) (sRet (wC .non)) sNext)
    (sSeq (sSet 5 (wCall sp_L_dot (aCons (wVar 1) (aCons (wCall sp_L_cross (aCons (wVar 9) (aCons (wVar 3) aNil))) aNil))))
    (sSeq (sSet 6 (wCall sp_L_dot (aCons (wVar 1) (aCons (wCall sp_L_cross (aCons (wVar 3) (aCons (wVar 8) aNil))) aNil))))
    (sRet (wTup (aCons (wCall sp_L_ratio (aCons (wVar 5) (aCons (w2 rMulT (wVar 4) (wVar 2)) aNil))) (aCons (wCall sp_L_ratio (aCons (wVar 6) (aCons (w2 rMulT (wVar 4) (wVar 2)) aNil))) aNil)))))))))
theorem l6 {m n k : Nat} {a b : Tr} (ha : LimT m a) (hb : LimT n b) (hm : m ≤ k) (hn : n ≤ k) : Lim k a.1 ∧ Lim k a.2.1 ∧ Lim k a.2.2 ∧ Lim k b.1 ∧ Lim k b.2.1 ∧ Lim k b.2.2 := ⟨ha.1.mono hm, ha.2.1.mono hm, ha.2.2.mono hm, hb.1.mono hn, hb.2.1.mono hn, hb.2.2.mono hn⟩
theorem ok_L_places : ∀ ts Q, sp_L_places ts Q → w_L_places { nx := fun _ => Q .non, rt := Q } (startT 10 ts) := by
  rintro _ Q ⟨c, s, o, g, d, h, b, rfl, rfl, ⟨ls, lo, ld, lg⟩, hb, lb, q0, q1⟩
  have lF := lim_crs ls lo (k := 101) (by decide)
  have lW := lim_dotI lF ld (k := 203) (by decide)
  have l1 := lim_crs lo ld (k := 101) (by decide)
  have l2 := lim_crs ld ls (k := 101) (by decide)
  have mk := mulOk lW lb
  have lWb : Lim 1900 (dotI (crs s o) d * b) := (lW.mul lb).mono (by decide)
  unfold w_L_places
  walk_at "go"
  refine ⟨_, _, _, _, _, _, rfl, l6 ls lo (by decide) (by decide), ?_⟩
  walk_at "go"
  refine ⟨_, _, _, _, _, _, rfl, l6 lF ld (by decide) (by decide), ?_⟩
  walk_at "go"
  refine ⟨fun z => ?_, fun z => ?_⟩
  · walk_at "go"
    exact q0 (of_decide_eq_true z)
  · have nz : dotI (crs s o) d ≠ 0 := of_decide_eq_false z
    have nb : dotI (crs s o) d * b ≠ 0 := Int.mul_ne_zero nz hb
    walk_at "go"
    refine ⟨_, _, _, _, _, _, rfl, l6 lo ld (by decide) (by decide), ?_⟩
    walk_at "go"
    refine ⟨_, _, _, _, _, _, rfl, l6 lg l1 (by decide) (by decide), ?_⟩
    walk_at "go"
    refine ⟨_, _, _, _, _, _, rfl, l6 ld ls (by decide) (by decide), ?_⟩
    walk_at "go"
    refine ⟨_, _, _, _, _, _, rfl, l6 lg l2 (by decide) (by decide), ?_⟩
    walk_at "go"
    refine ⟨_, _, rfl, nb, lWb, ?_⟩
    walk_at "go"
    refine ⟨_, _, rfl, nb, lWb, ?_⟩
    walk_at "go"
    exact q1 nz
def sp_L_within : SpT := fun ts Q => ∃ h : Tr, ts = [hpl h] ∧ Q (.bl (onF h))
theorem len_L_within : ∀ ts Q, sp_L_within ts Q → ts.length = 1 := by rintro ts Q ⟨_, e, _⟩; subst e; rfl
def w_L_within_b0 : WS :=
  (sIf (tOrT (tCmpT cLtT (wVar 1) (wC (.int 0))) (tCmpT cGtT (wVar 1) (wVar 2))) (sRet (wC (.bl false))) sNext)
def w_L_within : WS :=
  (sSeq (sFor (iSeq (wVar 0)) (gT 2 (gsC (gN 1) (gsC (gN 2) gs0))) w_L_within_b0)
    (sRet (wC (.bl true))))
theorem within_b0 {D : DT} {p q : Int} {s0 : Slot} (h0 : on1 p q = false → D.rt (.bl false)) (h1 : on1 p q = true → D.nx [s0, .val (.int p), .val (.int q)]) : w_L_within_b0 D [s0, .val (.int p), .val (.int q)] := by
  unfold on1 at h0 h1
  unfold w_L_within_b0
  walk_at "go"
  refine ⟨fun c => ?_, fun c => ?_⟩
  · have c' : p < 0 := of_decide_eq_true c
    walk_at "go"
    exact h0 (by rw [decide_eq_false (by omega)]; rfl)
  · have c' : ¬ p < 0 := of_decide_eq_false c
    walk_at "go"
    refine ⟨fun k => ?_, fun k => ?_⟩
    · have k' : p > q := of_decide_eq_true k
      walk_at "go"
      exact h0 (by rw [decide_eq_false (show ¬ p ≤ q by omega), Bool.and_false])
    · have k' : ¬ p > q := of_decide_eq_false k
      walk_at "go"
      exact h1 (by rw [decide_eq_true (show 0 ≤ p by omega), decide_eq_true (show p ≤ q by omega)]; rfl)
theorem ok_L_within : ∀ ts Q, sp_L_within ts Q → w_L_within { nx := fun _ => Q .non, rt := Q } (startT 3 ts) := by
  rintro _ Q ⟨h, rfl, q⟩
  unfold onF at q
  unfold w_L_within
  obtain ⟨W0, hW0⟩ : ∃ W, W = w_L_within_b0 := ⟨_, rfl⟩
  rw [← hW0]
  walk_at "go"
  refine Eq.mpr (congrFun (congrFun hW0 _) _) ?_
  refine within_b0 (fun c => ?_) fun c => ?_
  · rw [c] at q
    exact q
  · rw [c] at q
    walk_at "go"
    refine Eq.mpr (congrFun (congrFun hW0 _) _) ?_
    refine within_b0 (fun c => ?_) fun c => ?_
    · rw [c] at q
      exact q
    · rw [c] at q
      walk_at "go"
      exact q
theorem neg_sc {k y : Int} (hk : 0 < k) : k * y < 0 ↔ y < 0 := by
  constructor
  · intro h
    rcases Int.lt_trichotomy y 0 with z | z | z
    · exact z
    · rw [z, Int.mul_zero] at h; omega
    · have := Int.mul_pos hk z; omega
  · exact fun h => Int.mul_neg_of_pos_of_neg hk h
theorem frN_sg {n m x : Int} (hm : 0 < m) : frN n m * x < 0 ↔ n * x < 0 := by
  have e := (fr_rt (n := n) (m := m) (by omega)).eq
  have p := frD_pos (n := n) (m := m) (by omega)
  generalize frN n m = a at *
  generalize frD n m = b at *
  have e2 : m * (a * x) = b * (n * x) := by grind
  rw [← neg_sc hm, e2, neg_sc p]
theorem frND {k n m : Int} (hk : k ≠ 0) (hm : m ≠ 0) : frN (k * n) (k * m) = frN n m ∧ frD (k * n) (k * m) = frD n m := by
  have e : fr (k * n) (k * m) = fr n m := fr_eq (Int.mul_ne_zero hk hm) hm (by grind)
  unfold fr at e
  simp only [T.tup.injEq, List.cons.injEq, T.int.injEq, and_true] at e
  exact e
theorem tless_sc (k : Int) (t c : Tr) (m : Int) : tless (k * t.1, k * t.2.1, k * t.2.2) c (k * m) = (k * (tless t c m).1, k * (tless t c m).2.1, k * (tless t c m).2.2) := by
  simp only [tless]
  refine Prod.ext ?_ (Prod.ext ?_ ?_) <;> dsimp only <;> grind
theorem dot_sc (k : Int) (a b : Tr) : dotI (k * a.1, k * a.2.1, k * a.2.2) b = k * dotI a b := by
  simp only [dotI]
  grind
theorem hid_mul {c s o t d : Tr} {m k : Int} (hm : 0 < m) (hk : 0 < k) : hidF c s o (k * t.1, k * t.2.1, k * t.2.2) (k * m) d = hidF c s o t m d := by
  have g : goF c s o (k * t.1, k * t.2.1, k * t.2.2) (k * m) d = goF c s o t m d := by
    unfold goF
    refine decide_eq_decide.mpr ?_
    rw [frN_sg (Int.mul_pos hk hm), frN_sg hm, tless_sc, dot_sc, Int.mul_assoc, neg_sc hk]
  unfold hidF
  rw [g]
  cases e : goF c s o t m d with
  | false => rfl
  | true =>
    have nz := goF_ne e
    have e3 : meet c s o (k * t.1, k * t.2.1, k * t.2.2) d (k * m) = (k * (meet c s o t d m).1, k * (meet c s o t d m).2.1, k * (meet c s o t d m).2.2) := by
      have a1 := dot_sc k (tless t c m) (crs o d)
      have a2 := dot_sc k (tless t c m) (crs d s)
      rw [← tless_sc] at a1 a2
      exact Prod.ext a1 (Prod.ext a2 (Int.mul_assoc _ _ _))
    have nm : (meet c s o t d m).2.2 ≠ 0 := Int.mul_ne_zero (by omega) nz
    rw [e3]
    unfold onF
    dsimp only
    rw [(frND (by omega) nm).1, (frND (by omega) nm).2, (frND (by omega) nm).1, (frND (by omega) nm).2]
theorem hid_same2 {c s o t t' d : Tr} {m m' : Int} (hm : 0 < m) (hm' : 0 < m') (e1 : t.1 * m' = t'.1 * m) (e2 : t.2.1 * m' = t'.2.1 * m) (e3 : t.2.2 * m' = t'.2.2 * m) : hidF c s o t m d = hidF c s o t' m' d := by
  rw [← hid_mul (t := t) hm hm', ← hid_mul (t := t') hm' hm]
  have q : (m' * t.1, m' * t.2.1, m' * t.2.2) = (m * t'.1, m * t'.2.1, m * t'.2.2) := by
    refine Prod.ext ?_ (Prod.ext ?_ ?_) <;> dsimp only <;> grind
  rw [q, Int.mul_comm m' m]
def sp_L_hides : SpT := fun ts Q => ∃ (c s o t d : Tr) (m : Int), ts = [ptl c s o, trT t, .int m, trT d] ∧ (LimT 50 c ∧ LimT 50 s ∧ LimT 50 o ∧ LimT 50 d) ∧ LimT 150 t ∧ 0 < m ∧ Lim 100 m ∧ Q (.bl (hidF c s o t m d))
theorem len_L_hides : ∀ ts Q, sp_L_hides ts Q → ts.length = 4 := by rintro ts Q ⟨_, _, _, _, _, _, e, _⟩; subst e; rfl
def w_L_hides : WS :=
  (sSeq (sAsg (gT 3 (gsC (gN 7) (gsC (gN 8) (gsC (gN 9) gs0)))) (wVar 0))
    (sSeq (sSet 4 (wCall sp_L_cross (aCons (wVar 8) (aCons (wVar 9) aNil))))
    (sSeq (sSet 5 (wCall sp_L_on (aCons (wVar 1) (aCons (wVar 7) (aCons (w2 rSubT (wC (.int 0)) (wVar 2)) aNil)))))
    (sSeq (sSet 6 (wCall sp_L_places (aCons (wVar 0) (aCons (wVar 5) (aCons (wVar 2) (aCons (wVar 3) aNil))))))
    (sSeq (sIf (tOrT (tCmpT cIsN (wVar 6) (wC .non)) (tNotT (tVal (wCall sp_L_within (aCons (wVar 6) aNil))))) (sRet (wC (.bl false))) sNext)
    (sRet (wCmp cLtT (w2 rMulT (wCall sp_L_dot (aCons (wVar 5) (aCons (wVar 4) aNil))) (wCall sp_L_dot (aCons (wVar 4) (aCons (wVar 3) aNil)))) (wC (.int 0)))))))))
theorem ok_L_hides : ∀ ts Q, sp_L_hides ts Q → w_L_hides { nx := fun _ => Q .non, rt := Q } (startT 10 ts) := by
  rintro _ Q ⟨c, s, o, t, d, m, rfl, ⟨lc, ls, lo, ld⟩, lt, hm, lm, q⟩
  have lF := lim_crs ls lo (k := 101) (by decide)
  have lW := lim_dotI lF ld (k := 203) (by decide)
  have lB := lim_tless (lt.mono (show 150 ≤ 150 by decide)) (lc.mono (show 50 ≤ 150 by decide)) lm (n := 251) (by decide)
  have lS := lim_dotI lB lF (k := 354) (by decide)
  have mk := mulOk lS lW
  have lm0 : Lim 2000 (0 - m) := by rw [Int.zero_sub]; exact lm.neg.mono (by decide)
  have eg : (t.1 + (0 - m) * c.1, t.2.1 + (0 - m) * c.2.1, t.2.2 + (0 - m) * c.2.2) = tless t c m := by
    simp only [tless]
    refine Prod.ext ?_ (Prod.ext ?_ ?_) <;> dsimp only <;> grind
  have eg2 : tri (t.1 + (0 - m) * c.1) (t.2.1 + (0 - m) * c.2.1) (t.2.2 + (0 - m) * c.2.2) = trT (tless t c m) := congrArg trT eg
  unfold hidF at q
  unfold w_L_hides
  walk_at "go"
  refine ⟨_, _, _, _, _, _, rfl, l6 ls lo (by decide) (by decide), ?_⟩
  walk_at "go"
  refine ⟨_, _, _, _, _, _, _, rfl, ⟨lc.1.mono (by decide), lc.2.1.mono (by decide), lc.2.2.mono (by decide), lm0⟩, ?_⟩
  rw [eg2]
  generalize hG : tless t c m = G at *
  walk_at "go"
  refine ⟨c, s, o, G, d, meet c s o t d m, m, rfl, ?_, ⟨ls, lo, ld, lB.mono (by decide)⟩, by omega, lm.mono (by decide), fun z => ?_, fun z => ?_⟩
  · show (dotI (tless t c m) (crs o d), dotI (tless t c m) (crs d s), m * dotI (crs s o) d) = _
    rw [hG, Int.mul_comm m]
  · have g0 : goF c s o t m d = false := by
      cases e : goF c s o t m d with
      | false => rfl
      | true => exact absurd z (goF_ne e)
    rw [g0] at q
    walk_at "go"
    exact q
  · walk_at "go"
    refine ⟨_, rfl, ?_⟩
    cases ho : onF (meet c s o t d m) with
    | false =>
      rw [ho, Bool.and_false] at q
      walk_at "go"
      exact q
    | true =>
      rw [ho, Bool.and_true] at q
      walk_at "go"
      refine ⟨_, _, _, _, _, _, rfl, l6 lB lF (by decide) (by decide), ?_⟩
      walk_at "go"
      refine ⟨_, _, _, _, _, _, rfl, l6 lF ld (by decide) (by decide), ?_⟩
      walk_at "go"
      have e : decide (dotI G (crs s o) * dotI (crs s o) d < 0) = goF c s o t m d := by
        unfold goF
        rw [hG]
        exact decide_eq_decide.mpr (frN_sg hm).symm
      rw [← e] at q
      exact q
set_option exponentiation.threshold 4000 in
theorem log_of {g : Int} (h : Lim 200 g) : g.natAbs.log2 < 1920 := by
  by_cases z : g.natAbs = 0
  · rw [z]; decide
  · refine (Nat.log2_lt z).mpr (Nat.lt_of_lt_of_le h ?_)
    decide
theorem Pn.str {a : Str} (h : SOk a) : Pn 0 (.str a) := ⟨h, Nat.le_refl 0⟩
theorem pn_fr (n m : Int) : Pn 1 (fr n m) := Pn.tup fun x hx => by
  simp only [List.mem_cons, List.not_mem_nil, or_false] at hx
  rcases hx with rfl | rfl <;> exact Pn.int _
theorem pn_hpl (h : Tr) : Pn 2 (hpl h) := Pn.tup fun x hx => by
  simp only [List.mem_cons, List.not_mem_nil, or_false] at hx
  rcases hx with rfl | rfl <;> exact pn_fr _ _
theorem pn_two {n : Nat} {a : Str} {t : T} (h : SOk a) (ht : Pn n t) : Pn (n + 1) (.tup [.str a, t]) := Pn.tup fun x hx => by
  simp only [List.mem_cons, List.not_mem_nil, or_false] at hx
  rcases hx with rfl | rfl
  · exact (Pn.str h).up (Nat.zero_le _)
  · exact ht
theorem pn_one {a : Str} (h : SOk a) : Pn 1 (.tup [.str a]) := Pn.tup fun x hx => by
  rw [List.mem_singleton.mp hx]
  exact Pn.str h
theorem srt_nil : srt [] = [] := srt_of (List.Perm.refl _) List.Pairwise.nil
theorem filter_find {α : Type} {p : α → Bool} : ∀ {l : List α} {x : α}, l.find? p = some x → ∃ r, l.filter p = x :: r
  | [], _, h => by simp at h
  | y :: l, x, h => by
    by_cases z : p y = true
    · rw [List.find?_cons_of_pos z] at h
      cases h
      exact ⟨l.filter p, List.filter_cons_of_pos z⟩
    · rw [List.find?_cons_of_neg z] at h
      obtain ⟨r, e⟩ := filter_find h
      exact ⟨r, by rw [List.filter_cons_of_neg z]; exact e⟩
abbrev tH : WT := tCmpT cEqT (w2 rIxTT (wVar 0) (wC (.int 0))) (wVar 1)
theorem hour_comp {Q : List T → Prop} {h : Int} : ∀ (L : List (Int × Tr)) (acc : List T) (s : Slot), Q (acc ++ (L.filter fun e => decide (e.1 = h)).map fun e => trT e.2) → compT (gN 0) tH (w2 rIxTT (wVar 0) (wC (.int 1))) (L.map sT) acc [s, .val (.int h)] Q
  | [], acc, s, q => by
    simp only [List.filter_nil, List.map_nil, List.append_nil] at q
    exact q
  | x :: r, acc, s, q => by
    have ih := fun (acc : List T) (s : Slot) q => hour_comp (Q := Q) (h := h) r acc s q
    simp only [List.map_cons, compT]
    generalize compT (gN 0) tH (w2 rIxTT (wVar 0) (wC (.int 1))) (r.map sT) = F at ih ⊢
    walk_at "go"
    refine ⟨fun c => ?_, fun c => ?_⟩
    · walk_at "go"
      refine ih _ _ ?_
      rw [show (x :: r).filter (fun e => decide (e.1 = h)) = x :: r.filter (fun e => decide (e.1 = h)) from List.filter_cons_of_pos c] at q
      simpa using q
    · refine ih _ _ ?_
      rw [List.filter_cons_of_neg (by rw [c]; exact Bool.false_ne_true)] at q
      exact q
theorem dial_comp {Q : List T → Prop} {n : Str} (hn : SOk n) : ∀ (L : List Th) (acc : List T) (s : Slot), (∀ t ∈ L, SOk t.1) → Q (acc ++ (L.filter fun e => decide (e.1 = n)).map thT) → compT (gN 0) tH (wVar 0) (L.map thT) acc [s, .val (.str n)] Q
  | [], acc, s, _, q => by
    simp only [List.filter_nil, List.map_nil, List.append_nil] at q
    exact q
  | x :: r, acc, s, hs, q => by
    have ih := fun (acc : List T) (s : Slot) q => dial_comp (Q := Q) hn r acc s (fun t ht => hs t (List.mem_cons_of_mem _ ht)) q
    have hx := hs x List.mem_cons_self
    simp only [List.map_cons, compT]
    generalize compT (gN 0) tH (wVar 0) (r.map thT) = F at ih ⊢
    have fin : (decide (x.1 = n) = true → Q (acc ++ [thT x] ++ (r.filter fun e => decide (e.1 = n)).map thT)) ∧ (decide (x.1 = n) = false → Q (acc ++ (r.filter fun e => decide (e.1 = n)).map thT)) := by
      refine ⟨fun c => ?_, fun c => ?_⟩
      · rw [show (x :: r).filter (fun e => decide (e.1 = n)) = x :: r.filter (fun e => decide (e.1 = n)) from List.filter_cons_of_pos c] at q
        simpa using q
      · rw [List.filter_cons_of_neg (by rw [c]; exact Bool.false_ne_true)] at q
        exact q
    obtain ⟨xn, xp, xt⟩ := x
    cases xt <;>
    · simp only [thT] at fin ⊢
      walk_at "go"
      refine ⟨eqOk_str hx hn, ?_⟩
      rw [eqT_str]
      refine ⟨fun c => ?_, fun c => ?_⟩
      · walk_at "go"
        exact ih _ _ (fin.1 c)
      · exact ih _ _ (fin.2 c)
def sp_L_told : SpT := fun ts Q => ∃ (sun : List (Int × Tr)) (ws ds : List Th) (h : Int) (n : Str) (p : Pl) (tip : Tr) (e : Int × Tr), ts = [yardT sun ws ds, .int h, .str n] ∧ YOk sun ws ds ∧ SOk n ∧ sun.length ≤ 100 ∧ sunAt sun h = some e ∧ dialAt ds n = some (n, p, some tip) ∧ Q (.tup (toldL e.2 (n, p, some tip) tip (ws ++ ds)))
theorem len_L_told : ∀ ts Q, sp_L_told ts Q → ts.length = 3 := by rintro ts Q ⟨_, _, _, _, _, _, _, _, e, _⟩; subst e; rfl
def w_L_told_b0 : WS :=
  (sIf (tAndT (tCmpT cNeT (w2 rIxTT (wVar 8) (wC (.int 0))) (wVar 2)) (tVal (wCall sp_L_hides (aCons (w2 rIxTT (wVar 8) (wC (.int 1))) (aCons (wVar 6) (aCons (wVar 5) (aCons (wVar 3) aNil))))))) (sApp 7 (w2 rIxTT (wVar 8) (wC (.int 0)))) sNext)
def w_L_told : WS :=
  (sSeq (sSet 3 (w2 rIxTT (wComp (iSeq (w2 rIxTT (wVar 0) (wC (.int 0)))) (gN 0) (tCmpT cEqT (w2 rIxTT (wVar 0) (wC (.int 0))) (wVar 1)) (w2 rIxTT (wVar 0) (wC (.int 1))) 1 [1]) (wC (.int 0))))
    (sSeq (sAsg (gT 3 (gsC (gN 9) (gsC (gN 10) (gsC (gN 11) gs0)))) (w2 rIxTT (wComp (iSeq (w2 rIxTT (wVar 0) (wC (.int 2)))) (gN 0) (tCmpT cEqT (w2 rIxTT (wVar 0) (wC (.int 0))) (wVar 1)) (wVar 0) 1 [2]) (wC (.int 0))))
    (sSeq (sIf (tCmpT cLeT (w2 rIxTT (wVar 3) (wC (.int 2))) (wC (.int 0))) (sRet (wTup (aCons (wC (.str (Str.ofString "down"))) aNil))) sNext)
    (sSeq (sIf (tCmpT cLeT (wCall sp_L_dot (aCons (wCall sp_L_cross (aCons (w2 rIxTT (wVar 10) (wC (.int 1))) (aCons (w2 rIxTT (wVar 10) (wC (.int 2))) aNil))) (aCons (wVar 3) aNil))) (wC (.int 0))) (sRet (wTup (aCons (wC (.str (Str.ofString "behind"))) aNil))) sNext)
    (sSeq (sSet 4 (wCall sp_L_places (aCons (wVar 10) (aCons (wCall sp_L_on (aCons (wVar 11) (aCons (w2 rIxTT (wVar 10) (wC (.int 0))) (aCons (wNeg (wC (.int 1))) aNil)))) (aCons (wC (.int 1)) (aCons (wVar 3) aNil))))))
    (sSeq (sIf (tNotT (tVal (wCall sp_L_within (aCons (wVar 4) aNil)))) (sRet (wTup (aCons (wC (.str (Str.ofString "off"))) (aCons (wVar 4) aNil)))) sNext)
    (sSeq (sSet 5 (w2 rMulT (w2 rIxTT (w2 rIxTT (wVar 4) (wC (.int 0))) (wC (.int 1))) (w2 rIxTT (w2 rIxTT (wVar 4) (wC (.int 1))) (wC (.int 1)))))
    (sSeq (sSet 6 (wCall sp_L_on (aCons (wTup (aCons (wC (.int 0)) (aCons (wC (.int 0)) (aCons (wC (.int 0)) aNil)))) (aCons (w2 rIxTT (wVar 10) (wC (.int 0))) (aCons (wVar 5) aNil)))))
    (sSeq (sSet 6 (wCall sp_L_on (aCons (wVar 6) (aCons (w2 rIxTT (wVar 10) (wC (.int 1))) (aCons (w2 rMulT (w2 rIxTT (w2 rIxTT (wVar 4) (wC (.int 0))) (wC (.int 0))) (w2 rIxTT (w2 rIxTT (wVar 4) (wC (.int 1))) (wC (.int 1)))) aNil)))))
    (sSeq (sSet 6 (wCall sp_L_on (aCons (wVar 6) (aCons (w2 rIxTT (wVar 10) (wC (.int 2))) (aCons (w2 rMulT (w2 rIxTT (w2 rIxTT (wVar 4) (wC (.int 1))) (wC (.int 0))) (w2 rIxTT (w2 rIxTT (wVar 4) (wC (.int 0))) (wC (.int 1)))) aNil)))))
    (sSeq (sOwn 7 aNil)
    (sSeq (sFor (iSeq (w2 rCatLT (w2 rIxTT (wVar 0) (wC (.int 1))) (w2 rIxTT (wVar 0) (wC (.int 2))))) (gN 8) w_L_told_b0)
    (sFrz 7 (sSeq (sIf (tCmpT cNeT (wVar 7) (wLst aNil)) (sRet (wTup (aCons (wC (.str (Str.ofString "hidden"))) (aCons (wCB rSortT (aCons (wVar 7) aNil)) aNil)))) sNext)
    (sRet (wTup (aCons (wC (.str (Str.ofString "read"))) (aCons (wVar 4) aNil))))))))))))))))))
theorem told_loop {D : DT} {n : Str} {d tL P : Tr} {mL m : Int} {y0 y1 y4 y9 y10 y11 : Slot} (hn : SOk n) (ld : LimT 50 d) (lt : LimT 150 tL) (h0 : 0 < mL) (lm : Lim 100 mL) (heq : ∀ x : Th, hidF x.2.1.1 x.2.1.2.1 x.2.1.2.2 tL mL d = hidP P m d x) : ∀ (L : List Th) (acc : List Str) (s8 : Slot), acc.length + L.length ≤ 500 → (∀ t ∈ L, SOk t.1 ∧ PlLim 20 t.2.1) →
    (∀ s8, D.nx [y0, y1, .val (.str n), .val (trT d), y4, .val (.int mL), .val (trT tL), .own ((acc ++ hidN P m d n L).map T.str), s8, y9, y10, y11]) →
    forT (gN 8) w_L_told_b0 (L.map thT) D [y0, y1, .val (.str n), .val (trT d), y4, .val (.int mL), .val (trT tL), .own (acc.map T.str), s8, y9, y10, y11]
  | [], acc, s8, _, _, h => by
    simp only [List.map, forT]
    simpa [hidN, others] using h s8
  | x :: r, acc, s8, hl, hs, h => by
    simp only [List.length_cons] at hl
    obtain ⟨ox, lx⟩ := hs x List.mem_cons_self
    have hx := lx.mono (k' := 50) (by decide)
    have ih := fun (acc : List Str) (s8 : Slot) (ha : acc.length + r.length ≤ 500) h => told_loop (D := D) (y0 := y0) (y1 := y1) (y4 := y4) (y9 := y9) (y10 := y10) (y11 := y11) hn ld lt h0 lm heq r acc s8 ha (fun t ht => hs t (List.mem_cons_of_mem _ ht)) h
    have hlen : (acc.map T.str).length < 1000 := by rw [List.length_map]; omega
    simp only [List.map, forT]
    generalize forT (gN 8) w_L_told_b0 (r.map thT) D = F at ih ⊢
    have fin : (decide (x.1 = n) = false → hidP P m d x = true → ∀ s8, F [y0, y1, .val (.str n), .val (trT d), y4, .val (.int mL), .val (trT tL), .own (acc.map T.str ++ [.str x.1]), s8, y9, y10, y11]) ∧ (decide (x.1 = n) = true ∨ hidP P m d x = false → ∀ s8, F [y0, y1, .val (.str n), .val (trT d), y4, .val (.int mL), .val (trT tL), .own (acc.map T.str), s8, y9, y10, y11]) := by
      constructor
      · intro e1 e2 s8
        have e3 : hidN P m d n (x :: r) = x.1 :: hidN P m d n r := by
          unfold hidN others
          rw [List.filter_cons_of_pos (by simpa using e1), List.filter_cons_of_pos e2]
          rfl
        rw [e3] at h
        have := ih (acc ++ [x.1]) s8 (by simp; omega) (by simpa using h)
        simpa using this
      · intro e s8
        have e3 : hidN P m d n (x :: r) = hidN P m d n r := by
          unfold hidN others
          by_cases e1 : x.1 = n
          · rw [List.filter_cons_of_neg (by simpa using e1)]
          · rcases e with e | e
            · exact absurd (of_decide_eq_true e) e1
            · rw [List.filter_cons_of_pos (by simpa using e1), List.filter_cons_of_neg (by rw [e]; exact Bool.false_ne_true)]
        rw [e3] at h
        exact ih acc s8 (by omega) h
    have hq := heq x
    unfold w_L_told_b0
    obtain ⟨SP, hSP⟩ : ∃ S, S = sp_L_hides := ⟨_, rfl⟩
    rw [← hSP]
    obtain ⟨xn, xp, xt⟩ := x
    have hid : ∀ Q : T → Prop, Q (.bl (hidP P m d (xn, xp, xt))) → SP [plT xp, trT tL, .int mL, trT d] Q := fun Q q => by
      rw [hSP]
      exact ⟨xp.1, xp.2.1, xp.2.2, tL, d, mL, rfl, ⟨hx.1, hx.2.1, hx.2.2, ld⟩, lt, h0, lm, by rw [hq]; exact q⟩
    clear hSP hq
    generalize hidP P m d (xn, xp, xt) = B at fin hid
    cases xt <;>
    · simp only [thT]
      walk_at "go"
      refine ⟨eqOk_str ox hn, ?_⟩
      rw [eqT_str]
      refine ⟨fun c => ?_, fun c => ?_⟩
      · have c' : decide (xn = n) = false := by simpa using c
        walk_at "go"
        refine hid _ ?_
        cases B with
        | true =>
          walk_at "go"
          exact fin.1 c' rfl _
        | false =>
          walk_at "go"
          exact fin.2 (.inr rfl) _
      · have c' : decide (xn = n) = true := by simpa using c
        walk_at "go"
        exact fin.2 (.inl c') _
theorem spot_eq2 {c s o n1 m1 n2 m2 a b w : Int} (e1 : n1 * w = a * m1) (e2 : n2 * w = b * m2) : (0 + m1 * m2 * c + n1 * m2 * s + n2 * m1 * o) * (w * w) = spot c s o a w b w * (m1 * m2) := by
  have h1 : (0 + m1 * m2 * c + n1 * m2 * s + n2 * m1 * o) * (w * w) = m1 * m2 * c * (w * w) + (n1 * w) * (m2 * s * w) + (n2 * w) * (m1 * o * w) := by grind
  rw [h1, e1, e2]
  unfold spot
  grind
theorem lim_law {c s o n1 m1 n2 m2 : Int} (lc : Lim 20 c) (ls : Lim 20 s) (lo : Lim 20 o) (a1 : Lim 36 n1) (b1 : Lim 36 m1) (a2 : Lim 36 n2) (b2 : Lim 36 m2) : Lim 150 (0 + m1 * m2 * c + n1 * m2 * s + n2 * m1 * o) := by
  rw [Int.zero_add]
  exact ((((b1.mul b2).mul lc).add ((a1.mul b2).mul ls)).add ((a2.mul b1).mul lo)).mono (by decide)
theorem ok_L_told : ∀ ts Q, sp_L_told ts Q → w_L_told { nx := fun _ => Q .non, rt := Q } (startT 12 ts) := by
  rintro _ Q ⟨sun, ws, ds, h, n, p, tip, e, rfl, Y, hn, hl, hf, hg, q⟩
  have ld := Y.sun e (List.mem_of_find?_eq_some hf)
  have md := List.mem_of_find?_eq_some hg
  obtain ⟨_, lp⟩ := Y.things _ (List.mem_append_right _ md)
  replace lp : PlLim 12 p := lp
  obtain ⟨tip', et, lt⟩ := Y.tips _ md
  obtain rfl : tip = tip' := by simpa using et
  have lm := told_lim lp lt ld
  have up : ∀ {t : Tr}, LimT 12 t → LimT 50 t := fun h => h.mono (by decide)
  have hL : ∀ t ∈ ws ++ ds, SOk t.1 ∧ PlLim 20 t.2.1 := fun t ht => ⟨(Y.things t ht).1, (Y.things t ht).2.mono (by decide)⟩
  have few := Y.few
  have lens : (ws.map thT).length + (ds.map thT).length ≤ 1000 := by
    simp only [List.length_append, List.length_map] at few ⊢
    omega
  have lsun : (sun.map sT).length ≤ 1000 := by rw [List.length_map]; omega
  have lds : (ds.map thT).length ≤ 1000 := by
    simp only [List.length_append, List.length_map] at few ⊢
    omega
  have lens2 : (ws.map thT ++ ds.map thT).length ≤ 1000 := by rw [List.length_append]; exact lens
  obtain ⟨r1, f1⟩ := filter_find hf
  obtain ⟨r2, f2⟩ := filter_find hg
  obtain ⟨M, hM⟩ : ∃ M, M = meet p.1 p.2.1 p.2.2 tip e.2 1 := ⟨_, rfl⟩
  obtain ⟨TF, hT⟩ : ∃ t, t = toldM e.2 (n, p, some tip) M (ws ++ ds) := ⟨_, rfl⟩
  replace q : Q (.tup TF) := by rw [hT, hM]; exact q
  unfold toldM at hT
  dsimp only at hT
  unfold w_L_told
  obtain ⟨W0, hW0⟩ : ∃ R, R = w_L_told_b0 := ⟨_, rfl⟩
  rw [← hW0]
  walk_at "go"
  refine hour_comp (h := h) sun [] _ ?_
  rw [show sun.filter (fun e => decide (e.1 = h)) = e :: r1 from f1]
  walk_at "go"
  rw [show atI ([] ++ List.map (fun e : Int × Tr => trT e.2) (e :: r1)) 0 = some (trT e.2) from atI0 _ _]
  walk_at "go"
  refine dial_comp hn ds [] _ (fun t ht => (hL t (List.mem_append_right _ ht)).1) ?_
  rw [show ds.filter (fun e => decide (e.1 = n)) = (n, p, some tip) :: r2 from f2]
  walk_at "go"
  rw [show atI ([] ++ List.map thT ((n, p, some tip) :: r2)) 0 = some (thT (n, p, some tip)) from atI0 _ _]
  walk_at "go"
  refine ⟨fun c => ?_, fun c => ?_⟩
  · have c' : ¬ 0 < e.2.2.2 := by have := of_decide_eq_true c; omega
    rw [if_neg c'] at hT
    walk_at "go"
    rw [hT] at q
    exact q
  · have c' : 0 < e.2.2.2 := by have := of_decide_eq_false c; omega
    rw [if_pos c'] at hT
    have lF := lim_crs lp.2.1 lp.2.2 (k := 25) (by decide)
    walk_at "go"
    refine ⟨_, _, _, _, _, _, rfl, l6 lp.2.1 lp.2.2 (by decide) (by decide), ?_⟩
    walk_at "go"
    refine ⟨_, _, _, _, _, _, rfl, l6 lF ld (by decide) (by decide), ?_⟩
    walk_at "go"
    refine ⟨fun k => ?_, fun k => ?_⟩
    · have k' : ¬ 0 < dotI (crs p.2.1 p.2.2) e.2 := by
        have : dotI (crs p.2.1 p.2.2) e.2 ≤ 0 := of_decide_eq_true k
        omega
      rw [if_neg k'] at hT
      walk_at "go"
      rw [hT] at q
      exact q
    · have ha : 0 < dotI (crs p.2.1 p.2.2) e.2 := by
        have : ¬ dotI (crs p.2.1 p.2.2) e.2 ≤ 0 := of_decide_eq_false k
        omega
      rw [if_pos ha] at hT
      have lm1 : Lim 2000 (-1 : Int) := (Lim.of (n := 1) (by decide) (by decide)).mono (by decide)
      walk_at "go"
      refine ⟨_, _, _, _, _, _, _, rfl, ⟨lp.1.1.mono (by decide), lp.1.2.1.mono (by decide), lp.1.2.2.mono (by decide), lm1⟩, ?_⟩
      have eg : (tip.1 + -1 * p.1.1, tip.2.1 + -1 * p.1.2.1, tip.2.2 + -1 * p.1.2.2) = tless tip p.1 1 := by
        simp only [tless]
        refine Prod.ext ?_ (Prod.ext ?_ ?_) <;> dsimp only <;> omega
      have lB := lim_tless lt lp.1 (m := 1) (j := 1) (Lim.of (by decide) (by decide)) (n := 14) (by decide)
      rw [show tri (tip.1 + -1 * p.1.1) (tip.2.1 + -1 * p.1.2.1) (tip.2.2 + -1 * p.1.2.2) = trT (tless tip p.1 1) from congrArg trT eg]
      have h0 : 0 < M.2.2 := by
        rw [hM]
        show 0 < 1 * dotI (crs p.2.1 p.2.2) e.2
        rw [Int.one_mul]
        exact ha
      have eM : M = (dotI (tless tip p.1 1) (crs p.2.2 e.2), dotI (tless tip p.1 1) (crs e.2 p.2.1), dotI (crs p.2.1 p.2.2) e.2 * 1) := by
        rw [hM, Int.mul_one]
        show (_, _, 1 * _) = _
        rw [Int.one_mul]
      rw [← hM] at lm
      clear hM
      generalize tless tip p.1 1 = G at *
      walk_at "go"
      refine ⟨p.1, p.2.1, p.2.2, G, e.2, M, 1, rfl, eM, ⟨up lp.2.1, up lp.2.2, ld.mono (by decide), lB.mono (by decide)⟩, by decide, Lim.of (by decide) (by decide), fun z => absurd z (by omega), fun _ => ?_⟩
      clear eM
      walk_at "go"
      refine ⟨_, rfl, ?_⟩
      cases ho : onF M with
      | false =>
        rw [if_neg (by rw [ho]; exact Bool.false_ne_true)] at hT
        walk_at "go"
        rw [hT] at q
        exact q
      | true =>
        rw [if_pos ho] at hT
        have w0 : M.2.2 ≠ 0 := by omega
        have q1 := (fr_rt (n := M.1) w0).eq
        have q2 := (fr_rt (n := M.2.1) w0).eq
        have p1 := frD_pos (n := M.1) w0
        have p2 := frD_pos (n := M.2.1) w0
        have a1 := frN_lim w0 lm.1
        have b1 := frD_lim (n := M.1) w0 lm.2.2
        have a2 := frN_lim w0 lm.2.1
        have b2 := frD_lim (n := M.2.1) w0 lm.2.2
        have e0 : hpl M = .tup [.tup [.int (frN M.1 M.2.2), .int (frD M.1 M.2.2)], .tup [.int (frN M.2.1 M.2.2), .int (frD M.2.1 M.2.2)]] := rfl
        generalize hn1 : frN M.1 M.2.2 = n1 at *
        generalize hm1 : frD M.1 M.2.2 = m1 at *
        generalize hn2 : frN M.2.1 M.2.2 = n2 at *
        generalize hm2 : frD M.2.1 M.2.2 = m2 at *
        have mmL : Lim 100 (m1 * m2) := (b1.mul b2).mono (by decide)
        have k1 : Lim 2000 (m1 * m2) := mmL.mono (by decide)
        have k2 : Lim 2000 (n1 * m2) := (a1.mul b2).mono (by decide)
        have k3 : Lim 2000 (n2 * m1) := (a2.mul b1).mono (by decide)
        have o1 := mulOk b1 b2
        have o2 := mulOk a1 b2
        have o3 := mulOk a2 b1
        have lp20 := lp.mono (k' := 20) (by decide)
        have on4 : ∀ {t : Tr} {i : Int}, LimT 12 t → Lim 2000 i → Lim 2000 t.1 ∧ Lim 2000 t.2.1 ∧ Lim 2000 t.2.2 ∧ Lim 2000 i := fun h k => ⟨h.1.mono (by decide), h.2.1.mono (by decide), h.2.2.mono (by decide), k⟩
        obtain ⟨PL, hPL⟩ : ∃ t, t = hpl M := ⟨_, rfl⟩
        rw [← hPL]
        rw [← hPL] at hT
        obtain ⟨A, hA⟩ : ∃ A : T, A = PL := ⟨_, rfl⟩
        rw [hPL] at hA
        rw [e0] at hPL
        subst hPL
        walk_at "go"
        refine ⟨_, _, _, _, _, _, _, rfl, on4 lp.1 k1, ?_⟩
        walk_at "go"
        refine ⟨_, _, _, _, _, _, _, rfl, on4 lp.2.1 k2, ?_⟩
        walk_at "go"
        refine ⟨_, _, _, _, _, _, _, rfl, on4 lp.2.2 k3, ?_⟩
        walk_at "go"
        rw [← List.map_append, hW0]
        have lP : LimT 150 ((0 + m1 * m2 * p.1.1 + n1 * m2 * p.2.1.1 + n2 * m1 * p.2.2.1, 0 + m1 * m2 * p.1.2.1 + n1 * m2 * p.2.1.2.1 + n2 * m1 * p.2.2.2.1, 0 + m1 * m2 * p.1.2.2 + n1 * m2 * p.2.1.2.2 + n2 * m1 * p.2.2.2.2) : Tr) :=
          ⟨lim_law lp20.1.1 lp20.2.1.1 lp20.2.2.1 a1 b1 a2 b2, lim_law lp20.1.2.1 lp20.2.1.2.1 lp20.2.2.2.1 a1 b1 a2 b2, lim_law lp20.1.2.2 lp20.2.1.2.2 lp20.2.2.2.2 a1 b1 a2 b2⟩
        have heq : ∀ x : Th, hidF x.2.1.1 x.2.1.2.1 x.2.1.2.2 (0 + m1 * m2 * p.1.1 + n1 * m2 * p.2.1.1 + n2 * m1 * p.2.2.1, 0 + m1 * m2 * p.1.2.1 + n1 * m2 * p.2.1.2.1 + n2 * m1 * p.2.2.2.1, 0 + m1 * m2 * p.1.2.2 + n1 * m2 * p.2.1.2.2 + n2 * m1 * p.2.2.2.2) (m1 * m2) e.2 = hidP (ptOf p M) (M.2.2 * M.2.2) e.2 x :=
          fun x => hid_same2 (Int.mul_pos p1 p2) (Int.mul_pos h0 h0) (spot_eq2 q1 q2) (spot_eq2 q1 q2) (spot_eq2 q1 q2)
        refine told_loop (P := ptOf p M) (m := M.2.2 * M.2.2) hn (ld.mono (by decide)) lP (Int.mul_pos p1 p2) mmL heq (ws ++ ds) [] _ (by simp only [List.length_nil]; omega) hL fun s8 => ?_
        rw [List.nil_append]
        generalize hN : hidN (ptOf p M) (M.2.2 * M.2.2) e.2 n (ws ++ ds) = N at hT ⊢
        have sN : ∀ z ∈ N, SOk z := fun z hz => by
          rw [← hN] at hz
          unfold hidN at hz
          obtain ⟨y, hy, rfl⟩ := List.mem_map.mp hz
          exact (hL y (List.mem_filter.mp (List.mem_filter.mp hy).1).1).1
        have pN : Pn 1 (.lst (N.map T.str)) := Pn.lst (n := 0) fun x hx => by
          obtain ⟨v, hv, rfl⟩ := List.mem_map.mp hx
          exact Pn.str (sN v hv)
        have lN : N.length < 64 := by
          rw [← hN]
          unfold hidN others
          have c1 := List.length_filter_le (fun t : Th => !decide (t.1 = n)) (ws ++ ds)
          have c2 := List.length_filter_le (hidP (ptOf p M) (M.2.2 * M.2.2) e.2) ((ws ++ ds).filter fun t : Th => !decide (t.1 = n))
          rw [List.length_map]
          omega
        walk_at "go"
        refine ⟨pN.ok (Pn.lst (n := 0) fun x hx => absurd hx (by simp)) (by decide), ?_⟩
        rw [eqT_nilG]
        cases N with
        | nil =>
          rw [srt_nil] at hT
          refine ⟨fun c => absurd c (by simp), fun _ => ?_⟩
          walk_at "go"
          rw [hT] at q
          exact q
        | cons u us =>
          refine ⟨fun _ => ?_, fun c => absurd c (by simp)⟩
          walk_at "go"
          rw [strsOf_map]
          refine ⟨lN, fun vs hp hso => ?_⟩
          have es := srt_of hp (sorted_pw hso)
          rw [es] at hT
          walk_at "go"
          cases vs with
          | nil => exact absurd hp.length_eq (by simp)
          | cons v vs =>
            rw [show TF = sHid (v :: vs) from hT] at q
            exact q
inductive TForm : List T → Prop
  | down : TForm sDown
  | behind : TForm sBehind
  | off (h : Tr) : TForm (sOff (hpl h))
  | hid (us : List Str) : (∀ z ∈ us, SOk z) → us.length < 64 → TForm (sHid us)
  | read (h : Tr) : TForm (sRead (hpl h))
theorem srt_perm {N : List Str} : (srt N).Perm N ∨ srt N = [] := by
  unfold srt
  split
  · rename_i h
    exact .inl h.choose_spec.1
  · exact .inr rfl
theorem told_form {d : Tr} {t : Th} {tip : Tr} {L : List Th} (hL : ∀ t ∈ L, SOk t.1) (few : L.length < 64) : TForm (toldL d t tip L) := by
  unfold toldL toldM
  split
  · split
    · split
      · split
        · exact .read _
        · rename_i u us e
          generalize hN : hidN (ptOf t.2.1 (meet t.2.1.1 t.2.1.2.1 t.2.1.2.2 tip d 1)) ((meet t.2.1.1 t.2.1.2.1 t.2.1.2.2 tip d 1).2.2 * (meet t.2.1.1 t.2.1.2.1 t.2.1.2.2 tip d 1).2.2) d t.1 L = N at e
          have hp : (u :: us).Perm N := by
            rcases srt_perm (N := N) with h | h
            · rw [e] at h; exact h
            · rw [e] at h; cases h
          refine .hid _ (fun z hz => ?_) ?_
          · have hz := hp.mem_iff.mp hz
            rw [← hN] at hz
            unfold hidN at hz
            obtain ⟨y, hy, rfl⟩ := List.mem_map.mp hz
            exact hL y (List.mem_filter.mp (List.mem_filter.mp hy).1).1
          · rw [hp.length_eq, ← hN]
            unfold hidN others
            have c1 := List.length_filter_le (fun x : Th => !decide (x.1 = t.1)) L
            rw [List.length_map]
            exact Nat.lt_of_le_of_lt (Nat.le_trans (List.length_filter_le _ _) c1) few
      · exact .off _
    · exact .behind
  · exact .down
theorem TForm.pn {us : List T} (h : TForm us) : Pn 4 (.tup us) := by
  cases h with
  | down => exact (pn_one (by decide +kernel)).up (by decide)
  | behind => exact (pn_one (by decide +kernel)).up (by decide)
  | off h => exact (pn_two (by decide +kernel) (pn_hpl _)).up (by decide)
  | hid us hs _ =>
    refine (pn_two (by decide +kernel) (Pn.lst (n := 0) fun x hx => ?_)).up (by decide)
    obtain ⟨v, hv, rfl⟩ := List.mem_map.mp hx
    exact Pn.str (hs v hv)
  | read h => exact (pn_two (by decide +kernel) (pn_hpl _)).up (by decide)
theorem sok_hidden : SOk (Str.ofString "hidden") := by decide +kernel
theorem TForm.word {us : List T} (h : TForm us) : ∃ a r, us = .str a :: r ∧ SOk a ∧ (a = Str.ofString "hidden" → ∃ vs : List Str, r = [.lst (vs.map T.str)] ∧ vs.length < 64) := by
  cases h with
  | down => exact ⟨_, _, rfl, by decide +kernel, fun e => absurd e (by decide +kernel)⟩
  | behind => exact ⟨_, _, rfl, by decide +kernel, fun e => absurd e (by decide +kernel)⟩
  | off h => exact ⟨_, _, rfl, by decide +kernel, fun e => absurd e (by decide +kernel)⟩
  | hid us hs l => exact ⟨_, _, rfl, sok_hidden, fun _ => ⟨us, rfl, l⟩⟩
  | read h => exact ⟨_, _, rfl, by decide +kernel, fun e => absurd e (by decide +kernel)⟩
def sp_L_same : SpT := fun ts Q => ∃ us : List T, ts = [.tup us, .tup us] ∧ TForm us ∧ Q (.bl true)
theorem len_L_same : ∀ ts Q, sp_L_same ts Q → ts.length = 2 := by rintro ts Q ⟨_, e, _⟩; subst e; rfl
def w_L_same : WS :=
  (sSeq (sIf (tOrT (tNotT (tVal (wIsi .tuple (wVar 0)))) (tOrT (tCmpT cNeT (wCB rLenT (aCons (wVar 0) aNil)) (wCB rLenT (aCons (wVar 1) aNil))) (tCmpT cNeT (wVar 0) (wVar 1)))) (sRet (wC (.bl false))) sNext)
    (sSeq (sIf (tCmpT cEqT (w2 rIxTT (wVar 1) (wC (.int 0))) (wC (.str (Str.ofString "hidden")))) (sRet (wIsi .list (w2 rIxTT (wVar 0) (wC (.int 1))))) sNext)
    (sRet (wC (.bl true)))))
theorem ok_L_same : ∀ ts Q, sp_L_same ts Q → w_L_same { nx := fun _ => Q .non, rt := Q } (startT 2 ts) := by
  rintro _ Q ⟨us, rfl, F, q⟩
  have pn := F.pn
  obtain ⟨a, r, rfl, sa, hh⟩ := F.word
  clear F
  have eo := pn.ok pn (by decide)
  have es : (!eqT (.tup (.str a :: r)) (.tup (.str a :: r))) = false := by rw [pn.self]; rfl
  have nl : decide ((((T.str a :: r).length : Nat) : Int) = (((T.str a :: r).length : Nat) : Int)) = true := decide_eq_true rfl
  unfold w_L_same
  walk_at "go"
  rw [nl]
  refine ⟨(fun z => by cases z), fun _ => ?_⟩
  walk_at "go"
  rw [es]
  refine ⟨(fun z => by cases z), fun _ => ?_⟩
  walk_at "go"
  rw [show atI (T.str a :: r) 0 = some (.str a) from atI0 _ _]
  walk_at "go"
  refine ⟨eqOk_str sa sok_hidden, ?_⟩
  rw [eqT_str]
  refine ⟨fun c => ?_, fun c => ?_⟩
  · obtain ⟨vs, rfl, _⟩ := hh (of_decide_eq_true c)
    walk_at "go"
    exact q
  · walk_at "go"
    exact q
theorem find_pw {α β : Type} [DecidableEq β] {f : α → β} : ∀ {l : List α} {x : α}, (l.map f).Nodup → x ∈ l → l.find? (fun e => decide (f e = f x)) = some x
  | [], _, _, h => absurd h (by simp)
  | y :: r, x, nd, h => by
    simp only [List.map_cons] at nd
    have nd' := List.nodup_cons.mp nd
    rcases List.mem_cons.mp h with rfl | h
    · exact List.find?_cons_of_pos (decide_eq_true rfl)
    · have ne : f y ≠ f x := fun e => nd'.1 (by rw [e]; exact List.mem_map_of_mem h)
      rw [List.find?_cons_of_neg (by simpa using ne)]
      exact find_pw nd'.2 h
theorem pn_s (e : Int × Tr) : Pn 2 (sT e) := Pn.tup fun x hx => by
  simp only [List.mem_cons, List.not_mem_nil, or_false] at hx
  rcases hx with rfl | rfl
  · exact (Pn.int _).up (by decide)
  · exact pn_tr _
theorem pn_th {t : Th} (h : SOk t.1) : Pn 3 (thT t) := by
  obtain ⟨n, p, o⟩ := t
  have sn : Pn 2 (.str n) := (Pn.str h).up (by decide)
  cases o with
  | none =>
    refine Pn.tup fun x hx => ?_
    simp only [List.mem_cons, List.not_mem_nil, or_false] at hx
    rcases hx with rfl | rfl
    · exact sn
    · exact pn_pl _
  | some t =>
    refine Pn.tup fun x hx => ?_
    simp only [List.mem_cons, List.not_mem_nil, or_false] at hx
    rcases hx with rfl | rfl | rfl
    · exact sn
    · exact pn_pl _
    · exact (pn_tr _).up (by decide)
theorem pn_ths {L : List Th} (h : ∀ t ∈ L, SOk t.1) : Pn 4 (.lst (L.map thT)) := Pn.lst fun x hx => by
  obtain ⟨t, ht, rfl⟩ := List.mem_map.mp hx
  exact pn_th (h t ht)
theorem pn_yard {sun : List (Int × Tr)} {ws ds : List Th} (Y : YOk sun ws ds) : Pn 5 (yardT sun ws ds) := Pn.tup fun x hx => by
  simp only [List.mem_cons, List.not_mem_nil, or_false] at hx
  rcases hx with rfl | rfl | rfl
  · refine (Pn.lst (n := 2) fun x hx => ?_).up (by decide)
    obtain ⟨t, ht, rfl⟩ := List.mem_map.mp hx
    exact pn_s t
  · exact pn_ths fun t ht => (Y.things t (List.mem_append_left _ ht)).1
  · exact pn_ths fun t ht => (Y.things t (List.mem_append_right _ ht)).1
structure Yd (sun : List (Int × Tr)) (ws ds : List Th) : Prop where
  ok : YOk sun ws ds
  hours : sun.Pairwise (fun a b => a.1 < b.1)
  lims : ∀ e ∈ sun, Lim 200 e.1
  few : sun.length ≤ 100
  names : (ds.map (·.1)).Nodup
def w_L_law_k0 : WS :=
  (sIf (tCmpT cEqT (w2 rIxTT (wVar 9) (wC (.int 0))) (wC (.str (Str.ofString "hidden")))) (sSeq (sAppT 10 1 (wC (.str (Str.ofString "more"))))
    (sIf (tNotT (tVal (wCall sp_L_same (aCons (wCall (frOT sp_P_told_at) (aCons (wVar 3) (aCons (wVar 4) (aCons (wVar 6) aNil)))) (aCons (wVar 9) aNil))))) (sRet (wC (.bl false))) sNext)) sNext)
def w_L_law_b0 : WS :=
  (sSeq (sSet 9 (wCall sp_L_told (aCons (wVar 1) (aCons (wVar 4) (aCons (wVar 6) aNil)))))
    (sEnt (sSeq (sBorn 10 sp_P_told_at (aCons (wVar 3) (aCons (wVar 4) (aCons (wVar 6) aNil))))
    (sSeq (sIf (tOrT (tNotT (tVal (wCall sp_L_same (aCons (wVar 10) (aCons (wVar 9) aNil))))) (tCmpT cNeT (wVar 3) (wVar 1))) (sRet (wC (.bl false))) sNext)
    w_L_law_k0))))
def w_L_law_b1 : WS :=
  (sFor (iSeq (w2 rIxTT (wVar 1) (wC (.int 2)))) (gT 3 (gsC (gN 6) (gsC (gN 7) (gsC (gN 8) gs0)))) w_L_law_b0)
def w_L_law_k1 : WS :=
  (sSeq (sSet 3 (wTup (aCons (wCB rListT (aCons (w2 rIxTT (wVar 1) (wC (.int 0))) aNil)) (aCons (wCB rListT (aCons (w2 rIxTT (wVar 1) (wC (.int 1))) aNil)) (aCons (wCB rListT (aCons (w2 rIxTT (wVar 1) (wC (.int 2))) aNil)) aNil)))))
    (sSeq (sFor (iSeq (w2 rIxTT (wVar 1) (wC (.int 0)))) (gT 2 (gsC (gN 4) (gsC (gN 5) gs0))) w_L_law_b1)
    (sRet (wC (.bl true)))))
def w_L_law_k2 : WS :=
  (sLv w_L_law_k1)
def w_L_law_k3 : WS :=
  (sSeq (sIf (tAndT (tCmpT cNeT (w2 rIxTT (wVar 1) (wC (.int 2))) (wLst aNil)) (tCmpT cEqT (w2 rModT (w2 rDivT (wVar 2) (wC (.int 100))) (wC (.int 3))) (wC (.int 0)))) (sAppT 1 1 (wTup (aCons (wCall sp_L_name (aCons (wVar 0) (aCons (wC (.int 8)) aNil))) (aCons (w2 rIxTT (w2 rIxTT (w2 rIxTT (wVar 1) (wC (.int 2))) (w2 rModT (w2 rDivT (wVar 2) (wC (.int 300))) (wCB rLenT (aCons (w2 rIxTT (wVar 1) (wC (.int 2))) aNil)))) (wC (.int 1))) aNil)))) sNext)
    w_L_law_k2)
def w_L_law : WS :=
  (sEnt (sSeq (sBorn 1 sp_L_yard (aCons (wVar 0) (aCons (wC (.int 4)) (aCons (wC (.int 4)) (aCons (wC (.int 6)) aNil)))))
    (sSeq (sSetN 2 (wCall sp_L_wide (aCons (wVar 0) (aCons (wC (.int 5)) aNil))))
    (sSeq (sIf (tAndT (tCmpT cNeT (w2 rIxTT (wVar 1) (wC (.int 1))) (wLst aNil)) (tCmpT cEqT (w2 rModT (wVar 2) (wC (.int 3))) (wC (.int 0)))) (sAppT 1 1 (wTup (aCons (wCall sp_L_name (aCons (wVar 0) (aCons (wC (.int 7)) aNil))) (aCons (w2 rIxTT (w2 rIxTT (w2 rIxTT (wVar 1) (wC (.int 1))) (w2 rModT (w2 rDivT (wVar 2) (wC (.int 3))) (wCB rLenT (aCons (w2 rIxTT (wVar 1) (wC (.int 1))) aNil)))) (wC (.int 1))) aNil)))) sNext)
    w_L_law_k3))))
theorem law_b0 {D : DT} {ns : List Int} {N : Int} {sun : List (Int × Tr)} {ws ds : List Th} {e : Int × Tr} {n : Str} {p : Pl} {tip : Tr} {v5 : T} {s9 : Slot} (Y : Yd sun ws ds) (fs : sunAt sun e.1 = some e) (le : Lim 200 e.1) (sn : SOk n) (fd : dialAt ds n = some (n, p, some tip))
    (hn : ∀ v9, D.nx [.val (.lst (ns.map T.int)), .val (yardT sun ws ds), .val (.int N), .val (yardT sun ws ds), .val (.int e.1), .val v5, .val (.str n), .val (plT p), .val (trT tip), .val v9, .no]) :
    w_L_law_b0 D [.val (.lst (ns.map T.int)), .val (yardT sun ws ds), .val (.int N), .val (yardT sun ws ds), .val (.int e.1), .val v5, .val (.str n), .val (plT p), .val (trT tip), s9, .no] := by
  have pn := pn_yard Y.ok
  have eo := pn.ok pn (by decide)
  have es : (!eqT (yardT sun ws ds) (yardT sun ws ds)) = false := by rw [pn.self]; rfl
  have ft : TForm (toldL e.2 (n, p, some tip) tip (ws ++ ds)) := told_form (fun t ht => (Y.ok.things t ht).1) Y.ok.few
  obtain ⟨us, hus⟩ : ∃ us, us = toldL e.2 (n, p, some tip) tip (ws ++ ds) := ⟨_, rfl⟩
  have told : ∀ Q : T → Prop, Q (.tup us) → sp_L_told [yardT sun ws ds, .int e.1, .str n] Q := fun Q q => ⟨sun, ws, ds, e.1, n, p, tip, e, rfl, Y.ok, sn, Y.few, fs, fd, by rw [← hus]; exact q⟩
  have toldAt : ∀ Q : List T → Prop, Q us → sp_P_told_at [yardT sun ws ds, .int e.1, .str n] Q := fun Q q => ⟨sun, ws, ds, e.1, n, rfl, Y.ok, sn, log_of le, by
    rw [fs, fd]
    show Q (toldL e.2 (n, p, some tip) tip (ws ++ ds))
    rw [← hus]
    exact q⟩
  rw [← hus] at ft
  clear hus
  unfold w_L_law_b0 w_L_law_k0
  obtain ⟨S1, h1⟩ : ∃ S, S = sp_L_told := ⟨_, rfl⟩
  obtain ⟨S2, h2⟩ : ∃ S, S = sp_P_told_at := ⟨_, rfl⟩
  rw [← h1, ← h2]
  rw [← h1] at told
  rw [← h2] at toldAt
  clear h1 h2
  obtain ⟨a, r, rfl, sa, hh⟩ := ft.word
  walk_at "go"
  refine told _ ?_
  walk_at "go"
  refine toldAt _ fun v => ?_
  walk_at "go"
  refine ⟨_, rfl, ft, ?_⟩
  walk_at "go"
  rw [es]
  refine ⟨(fun z => by cases z), fun _ => ?_⟩
  walk_at "go"
  rw [show atI (T.str a :: r) 0 = some (.str a) from atI0 _ _]
  walk_at "go"
  refine ⟨eqOk_str sa sok_hidden, ?_⟩
  rw [eqT_str]
  refine ⟨fun c => ?_, fun c => ?_⟩
  · obtain ⟨vs, rfl, lv⟩ := hh (of_decide_eq_true c)
    have lv2 : (vs.map T.str).length < 1000 := by rw [List.length_map]; omega
    walk_at "go"
    refine toldAt _ ?_
    walk_at "go"
    refine ⟨_, rfl, ft, ?_⟩
    walk_at "go"
    exact hn _
  · walk_at "go"
    exact hn _
theorem law_in {D : DT} {ns : List Int} {N : Int} {sun : List (Int × Tr)} {ws ds : List Th} {e : Int × Tr} {v5 : T} (Y : Yd sun ws ds) (he : e ∈ sun) (hn : ∀ s6 s7 s8 s9, D.nx [.val (.lst (ns.map T.int)), .val (yardT sun ws ds), .val (.int N), .val (yardT sun ws ds), .val (.int e.1), .val v5, s6, s7, s8, s9, .no]) :
    ∀ (L : List Th) (s6 s7 s8 s9 : Slot), (∀ t ∈ L, t ∈ ds) → forT (gT 3 (gsC (gN 6) (gsC (gN 7) (gsC (gN 8) gs0)))) w_L_law_b0 (L.map thT) D [.val (.lst (ns.map T.int)), .val (yardT sun ws ds), .val (.int N), .val (yardT sun ws ds), .val (.int e.1), .val v5, s6, s7, s8, s9, .no]
  | [], s6, s7, s8, s9, _ => by
    simp only [List.map, forT]
    exact hn _ _ _ _
  | t :: r, s6, s7, s8, s9, hs => by
    have ih := fun s6 s7 s8 s9 => law_in (D := D) (ns := ns) (N := N) (v5 := v5) Y he hn r s6 s7 s8 s9 fun t ht => hs t (List.mem_cons_of_mem _ ht)
    have mt := hs t List.mem_cons_self
    obtain ⟨tip, et, _⟩ := Y.ok.tips t mt
    have st := (Y.ok.things t (List.mem_append_right _ mt)).1
    have fd : dialAt ds t.1 = some t := find_pw (f := fun t : Th => t.1) Y.names mt
    have nd : (sun.map (·.1)).Nodup := List.pairwise_map.mpr (Y.hours.imp fun lt e => by omega)
    have fs : sunAt sun e.1 = some e := find_pw (f := fun e : Int × Tr => e.1) nd he
    simp only [List.map, forT]
    generalize forT (gT 3 (gsC (gN 6) (gsC (gN 7) (gsC (gN 8) gs0)))) w_L_law_b0 (r.map thT) D = F at ih ⊢
    obtain ⟨n, p, o⟩ := t
    obtain rfl : o = some tip := et
    simp only [thT]
    obtain ⟨W0, hW0⟩ : ∃ W, W = w_L_law_b0 := ⟨_, rfl⟩
    rw [← hW0]
    walk_at "go"
    rw [hW0]
    exact law_b0 (D := { D with nx := F, ct := F, bk := D.nx }) Y fs (Y.lims e he) st fd fun v9 => ih _ _ _ _
theorem law_out {D : DT} {ns : List Int} {N : Int} {sun : List (Int × Tr)} {ws ds : List Th} (Y : Yd sun ws ds) (hn : ∀ s4 s5 s6 s7 s8 s9, D.nx [.val (.lst (ns.map T.int)), .val (yardT sun ws ds), .val (.int N), .val (yardT sun ws ds), s4, s5, s6, s7, s8, s9, .no]) :
    ∀ (L : List (Int × Tr)) (s4 s5 s6 s7 s8 s9 : Slot), (∀ e ∈ L, e ∈ sun) → forT (gT 2 (gsC (gN 4) (gsC (gN 5) gs0))) w_L_law_b1 (L.map sT) D [.val (.lst (ns.map T.int)), .val (yardT sun ws ds), .val (.int N), .val (yardT sun ws ds), s4, s5, s6, s7, s8, s9, .no]
  | [], s4, s5, s6, s7, s8, s9, _ => by
    simp only [List.map, forT]
    exact hn _ _ _ _ _ _
  | e :: r, s4, s5, s6, s7, s8, s9, hs => by
    have ih := fun s4 s5 s6 s7 s8 s9 => law_out (D := D) (ns := ns) (N := N) Y hn r s4 s5 s6 s7 s8 s9 fun t ht => hs t (List.mem_cons_of_mem _ ht)
    have me := hs e List.mem_cons_self
    simp only [List.map, forT]
    generalize forT (gT 2 (gsC (gN 4) (gsC (gN 5) gs0))) w_L_law_b1 (r.map sT) D = F at ih ⊢
    unfold w_L_law_b1
    obtain ⟨W0, hW0⟩ : ∃ W, W = w_L_law_b0 := ⟨_, rfl⟩
    rw [← hW0]
    walk_at "go"
    rw [hW0]
    exact law_in (D := { D with nx := F, ct := F, bk := D.nx }) Y me (fun s6 s7 s8 s9 => ih _ _ _ _ _ _) ds _ _ _ _ fun t ht => ht
theorem law_k1 {D : DT} {ns : List Int} {N : Int} {sun : List (Int × Tr)} {ws ds : List Th} (Y : Yd sun ws ds) (h : D.rt (.bl true)) : w_L_law_k1 D [.val (.lst (ns.map T.int)), .val (yardT sun ws ds), .val (.int N), .no, .no, .no, .no, .no, .no, .no, .no] := by
  unfold w_L_law_k1
  obtain ⟨W1, hW1⟩ : ∃ W, W = w_L_law_b1 := ⟨_, rfl⟩
  rw [← hW1]
  walk_at "go"
  rw [hW1]
  refine law_out Y (fun s4 s5 s6 s7 s8 s9 => ?_) sun _ _ _ _ _ _ fun e he => he
  walk_at "go"
  exact h
theorem Yd.more {sun : List (Int × Tr)} {ws ds : List Th} (Y : Yd sun ws ds) {n : Str} {p : Pl} (hn : SOk n) (lp : PlLim 12 p) (hl : (ws ++ ds).length < 63) : Yd sun (ws ++ [(n, p, none)]) ds := by
  refine ⟨⟨Y.ok.sun, fun t ht => ?_, Y.ok.tips, ?_⟩, Y.hours, Y.lims, Y.few, Y.names⟩
  · rcases List.mem_append.mp ht with m | m
    · rcases List.mem_append.mp m with m | m
      · exact Y.ok.things t (List.mem_append_left _ m)
      · rw [List.mem_singleton.mp m]
        exact ⟨hn, lp⟩
    · exact Y.ok.things t (List.mem_append_right _ m)
  · simp only [List.length_append, List.length_singleton] at hl ⊢
    omega
theorem law_k3 {D : DT} {ns : List Int} {N : Int} {sun : List (Int × Tr)} {ws ds : List Th} {v : V} (Y : Yd sun ws ds) (hl : (ws ++ ds).length < 20) (h : D.rt (.bl true)) : w_L_law_k3 D [.val (.lst (ns.map T.int)), .vat (yardT sun ws ds) v, .val (.int N), .no, .no, .no, .no, .no, .no, .no, .no] := by
  have d100 : DivOk 100 := dv (by decide)
  have d300 : DivOk 300 := dv (by decide)
  have hds : ∀ t ∈ ds, SOk t.1 ∧ PlLim 12 t.2.1 := fun t ht => Y.ok.things t (List.mem_append_right _ ht)
  have pnd : EqOk (.lst (ds.map thT)) (.lst []) := (pn_ths fun t ht => (hds t ht).1).ok (Pn.lst (n := 0) fun x hx => absurd hx (by simp)) (by decide)
  unfold w_L_law_k3
  obtain ⟨W2, hW2⟩ : ∃ W, W = w_L_law_k2 := ⟨_, rfl⟩
  rw [← hW2]
  have k2 : ∀ (D : DT) (ws : List Th), Yd sun ws ds → D.rt (.bl true) → W2 D [.val (.lst (ns.map T.int)), .vat (yardT sun ws ds) v, .val (.int N), .no, .no, .no, .no, .no, .no, .no, .no] := by
    intro D ws Y hr
    rw [hW2]
    unfold w_L_law_k2
    exact law_k1 Y hr
  clear hW2
  rw [List.length_append] at hl
  walk_at "go"
  rw [eqT_nilG]
  by_cases ne : ds = []
  · rw [decide_eq_true ne]
    walk_at "go"
    exact k2 _ ws Y h
  · rw [decide_eq_false ne]
    have hp : 0 < ds.length := List.length_pos_iff.mpr ne
    have hlz : ((ds.map thT).length : Int) ≠ 0 := by rw [List.length_map]; omega
    have fl := fmod_pos (N.fdiv 300) (b := ((ds.map thT).length : Int)) (by rw [List.length_map]; omega)
    obtain ⟨x, mx, ex⟩ := atI_mapG (f := thT) (l := ds) fl.1 (by have := fl.2; rw [List.length_map] at this ⊢; exact this)
    have hlw : (ws.map thT).length < 1000 := by rw [List.length_map]; omega
    have hld : (ds.map thT).length ≤ 1000 := by rw [List.length_map]; omega
    walk_at "go"
    refine ⟨fun _ => ?_, fun _ => ?_⟩
    · walk_at "go"
      refine ⟨ns, 8, rfl, by decide, by decide, ?_⟩
      walk_at "go"
      rw [ex]
      have Y2 := Y.more (nameF_ok (wideF ns 60) 8) (hds x mx).2 (by rw [List.length_append]; omega)
      obtain ⟨xn, xp, xo⟩ := x
      have nl : noL (.tup [.str (nameF (wideF ns 60) 8), plT xp]) = true := noL_th (nameF (wideF ns 60) 8, xp, none)
      have e2 : ws.map thT ++ [T.tup [.str (nameF (wideF ns 60) 8), plT xp]] = (ws ++ [(nameF (wideF ns 60) 8, xp, none)]).map thT := by
        rw [List.map_append]
        rfl
      have fin := k2 D (ws ++ [(nameF (wideF ns 60) 8, xp, none)]) Y2 h
      rw [yardT, ← e2] at fin
      cases xo <;>
      · simp only [thT]
        walk_at "go"
        exact fin
    · walk_at "go"
      exact k2 _ ws Y h
theorem idx_nodup {pad : Int} {xs : List (Pl × Tr × Tr)} : ∀ {k : Int}, 0 ≤ k → k + xs.length ≤ 26 → ((dTh pad k xs).map (·.1)).Nodup ∧ ∀ z ∈ (dTh pad k xs).map (·.1), ∃ j, k ≤ j ∧ j < k + xs.length ∧ z = nameF pad j := by
  induction xs with
  | nil => intro k _ _; exact ⟨List.Pairwise.nil, fun z hz => by simp [dTh] at hz⟩
  | cons x r ih =>
    intro k k0 k1
    simp only [List.length_cons] at k1
    obtain ⟨a, b⟩ := ih (k := k + 1) (by omega) (by omega)
    simp only [dTh, List.map_cons, List.length_cons]
    refine ⟨List.nodup_cons.mpr ⟨fun m => ?_, a⟩, fun z hz => ?_⟩
    · obtain ⟨j, j0, j1, e⟩ := b _ m
      have := nameF_inj (by omega) (by omega) (by omega) (by omega) e
      omega
    · rcases List.mem_cons.mp hz with rfl | hz
      · exact ⟨k, by omega, by omega, rfl⟩
      · obtain ⟨j, j0, j1, e⟩ := b z hz
        exact ⟨j, by omega, by omega, e⟩
theorem wTh_ok {pad : Int} : ∀ {ps : List Pl} {k : Int}, (∀ p ∈ ps, Good p) → (wTh pad k ps).length = ps.length ∧ ∀ t ∈ wTh pad k ps, SOk t.1 ∧ PlLim 12 t.2.1
  | [], k, _ => ⟨rfl, fun t ht => by simp [wTh] at ht⟩
  | p :: r, k, h => by
    have ih := wTh_ok (pad := pad) (ps := r) (k := k + 1) fun q hq => h q (List.mem_cons_of_mem _ hq)
    refine ⟨by simp [wTh, ih.1], fun t ht => ?_⟩
    rcases List.mem_cons.mp ht with rfl | ht
    · exact ⟨nameF_ok _ _, (h p List.mem_cons_self).1.mono (by decide)⟩
    · exact ih.2 t ht
theorem dTh_ok {pad : Int} : ∀ {ps : List (Pl × Tr × Tr)} {k : Int}, (∀ x ∈ ps, DialOk x) → (dTh pad k ps).length = ps.length ∧ ∀ t ∈ dTh pad k ps, (SOk t.1 ∧ PlLim 12 t.2.1) ∧ ∃ tip, t.2.2 = some tip ∧ LimT 12 tip
  | [], k, _ => ⟨rfl, fun t ht => by simp [dTh] at ht⟩
  | p :: r, k, h => by
    have ih := dTh_ok (pad := pad) (ps := r) (k := k + 1) fun q hq => h q (List.mem_cons_of_mem _ hq)
    refine ⟨by simp [dTh, ih.1], fun t ht => ?_⟩
    rcases List.mem_cons.mp ht with rfl | ht
    · have := h p List.mem_cons_self
      exact ⟨⟨nameF_ok _ _, this.1.1.mono (by decide)⟩, _, rfl, this.2.1.1.mono (by decide)⟩
    · exact ih.2 t ht
theorem ok_L_law : ∀ ts Q, lawSp ts Q → w_L_law { nx := fun _ => Q .non, rt := Q } (startT 11 ts) := by
  rintro _ Q ⟨ns, rfl, hl, h⟩
  have d3 : DivOk 3 := dv (by decide)
  unfold w_L_law
  obtain ⟨W3, hW3⟩ : ∃ W, W = w_L_law_k3 := ⟨_, rfl⟩
  rw [← hW3]
  walk_at "go"
  refine ⟨ns, 4, 4, 6, rfl, by decide, by decide, by decide, fun sun g ps xs s1 s30 so lps lxs hps hxs v => ?_⟩
  obtain ⟨n1, k1⟩ := wTh_ok (pad := wideF ns 60) (k := 0) hps
  obtain ⟨n2, k2⟩ := dTh_ok (pad := wideF ns 60) (k := 20) hxs
  have nd := (idx_nodup (pad := wideF ns 60) (xs := xs) (k := 20) (by decide) (by omega)).1
  generalize wTh (wideF ns 60) 0 ps = ws at *
  generalize dTh (wideF ns 60) 20 xs = ds at *
  have few : (ws ++ ds).length ≤ 8 := by rw [List.length_append, n1, n2]; omega
  have Y : Yd sun ws ds := by
    refine ⟨⟨fun e he => (so.2 e he).1.2.1, fun t ht => ?_, fun t ht => (k2 t ht).2, by omega⟩, so.1, fun e he => ?_, by omega, nd⟩
    · rcases List.mem_append.mp ht with m | m
      · exact k1 t m
      · exact (k2 t m).1
    · have := so.2 e he
      exact (Lim.of (n := 5) (by omega) (by omega)).mono (by decide)
  have k3 : ∀ (D : DT) (ws : List Th) (N : Int), Yd sun ws ds → (ws ++ ds).length < 20 → D.rt (.bl true) → W3 D [.val (.lst (ns.map T.int)), .vat (yardT sun ws ds) v, .val (.int N), .no, .no, .no, .no, .no, .no, .no, .no] := by
    intro D ws N Y hl hr
    rw [hW3]
    exact law_k3 Y hl hr
  clear hW3
  walk_at "go"
  refine ⟨ns, 5, rfl, by decide, by decide, ?_⟩
  generalize wideF ns 5 = N
  have pnd : EqOk (.lst (ws.map thT)) (.lst []) := (pn_ths fun t ht => (k1 t ht).1).ok (Pn.lst (n := 0) fun x hx => absurd hx (by simp)) (by decide)
  walk_at "go"
  rw [eqT_nilG]
  by_cases ne : ws = []
  · rw [decide_eq_true ne]
    walk_at "go"
    exact k3 _ ws N Y (by omega) h
  · rw [decide_eq_false ne]
    have hp : 0 < ws.length := List.length_pos_iff.mpr ne
    rw [List.length_append] at few
    have hlz : ((ws.map thT).length : Int) ≠ 0 := by rw [List.length_map]; omega
    have fl := fmod_pos (N.fdiv 3) (b := ((ws.map thT).length : Int)) (by rw [List.length_map]; omega)
    obtain ⟨x, mx, ex⟩ := atI_mapG (f := thT) (l := ws) fl.1 (by have := fl.2; rw [List.length_map] at this ⊢; exact this)
    have hlw : (ws.map thT).length < 1000 := by rw [List.length_map]; omega
    have hld : (ws.map thT).length ≤ 1000 := by rw [List.length_map]; omega
    walk_at "go"
    refine ⟨fun _ => ?_, fun _ => ?_⟩
    · walk_at "go"
      refine ⟨ns, 7, rfl, by decide, by decide, ?_⟩
      walk_at "go"
      rw [ex]
      have Y2 := Y.more (nameF_ok (wideF ns 60) 7) (k1 x mx).2 (by rw [List.length_append]; omega)
      obtain ⟨xn, xp, xo⟩ := x
      have nl : noL (.tup [.str (nameF (wideF ns 60) 7), plT xp]) = true := noL_th (nameF (wideF ns 60) 7, xp, none)
      have e2 : ws.map thT ++ [T.tup [.str (nameF (wideF ns 60) 7), plT xp]] = (ws ++ [(nameF (wideF ns 60) 7, xp, none)]).map thT := by
        rw [List.map_append]
        rfl
      have fin := k3 { nx := fun _ => Q .non, rt := Q } (ws ++ [(nameF (wideF ns 60) 7, xp, none)]) N Y2 (by simp only [List.length_append, List.length_singleton]; omega) h
      rw [yardT, ← e2] at fin
      cases xo <;>
      · simp only [thT]
        walk_at "go"
        exact fin
    · walk_at "go"
      exact k3 _ ws N Y (by rw [List.length_append]; omega) h
local macro_rules | `(tactic| walk_at "v") => `(tactic| exact ⟨by first | exact Or.inl rfl | exact Or.inr (Or.inl rfl) | exact Or.inr (Or.inr rfl), by decide, by decide⟩)
local macro_rules | `(tactic| walk_at "s") => `(tactic| exact ⟨rfl, rfl, rfl, by decide +kernel, rfl, by decide +kernel, by decide +kernel⟩)
local macro_rules | `(tactic| walk_at "f") => `(tactic| first | exact .inl rfl | exact .inr rfl | assumption)
theorem jV {X : Cx} (i : Nat) {x : Str} {pos : Pos} (hN : X.N[i]? = some x) (h : Vis X.env.scope x ∧ (x == ("__debug__" : Str)) = false ∧ (x == ("__classdict__" : Str)) = false) : JE X (.Name x pos) (wVar i) := jv i hN h.1 h.2.1 h.2.2
def top (i : Nat) : Stmt := PySem.Challenge.pw_dialyard_k34_told_in_order.main.body.getD i (.Pass ⟨0, 0, 0, 0⟩)
section
variable {P : Program} {w : World} {K : PySem.W.Frag} {mg : Str → Option Value} {base : Heap}
abbrev st_L_cross : Stmt := top 43
theorem sc_L_cross : FnScope ["_law_one", "_law_other", "_law_a", "_law_b", "_law_c", "_law_d", "_law_e", "_law_f"] ["_law_one", "_law_other"] (defScope st_L_cross) := by walk_at "s"
theorem fn_L_cross {f : Addr} {fd : FuncData} (F : Fun K "_law_cross" "_law_cross" st_L_cross f fd) (m : mg "_law_cross" = some (.ref f)) : Cal P w K mg base 1 "_law_cross" ["_law_one", "_law_other"] sp_L_cross :=
  .mk F m (F.binds fun _ _ _ _ _ _ us hl => args2 hl fun _ _ => rfl) (fnT (W := w_L_cross) F sc_L_cross len_L_cross (fun cdv A outer s H E hr =>
    (@jsc _ _ _ _ _ (@jasg _ _ _ _ _ _ (@jgt _ _ _ _ _ _ rfl (@jgsc _ _ _ _ _ (@jg _ _ (2) _ sc_L_cross.nd rfl (Or.inl rfl) (by walk_at "f")) (@jgsc _ _ _ _ _ (@jg _ _ (3) _ sc_L_cross.nd rfl (Or.inl rfl) (by walk_at "f")) (@jgsc _ _ _ _ _ (@jg _ _ (4) _ sc_L_cross.nd rfl (Or.inl rfl) (by walk_at "f")) (@jgs0 _) (by rfl)) (by rfl)) (by rfl)) (by rfl) (by rfl)) (@jV _ 0 _ _ rfl (by walk_at "v")) (by rfl) (by rfl) (by rfl)) (@jsc _ _ _ _ _ (@jasg _ _ _ _ _ _ (@jgt _ _ _ _ _ _ rfl (@jgsc _ _ _ _ _ (@jg _ _ (5) _ sc_L_cross.nd rfl (Or.inl rfl) (by walk_at "f")) (@jgsc _ _ _ _ _ (@jg _ _ (6) _ sc_L_cross.nd rfl (Or.inl rfl) (by walk_at "f")) (@jgsc _ _ _ _ _ (@jg _ _ (7) _ sc_L_cross.nd rfl (Or.inl rfl) (by walk_at "f")) (@jgs0 _) (by rfl)) (by rfl)) (by rfl)) (by rfl) (by rfl)) (@jV _ 1 _ _ rfl (by walk_at "v")) (by rfl) (by rfl) (by rfl)) (@js1 _ _ _ (@jret _ _ _ _ (@jtup _ _ _ _ _ (@ja _ _ _ _ _ (@jop _ _ _ _ _ _ _ _ b_sub (@jop _ _ _ _ _ _ _ _ b_mul (@jV _ 3 _ _ rfl (by walk_at "v")) (@jV _ 7 _ _ rfl (by walk_at "v"))) (@jop _ _ _ _ _ _ _ _ b_mul (@jV _ 4 _ _ rfl (by walk_at "v")) (@jV _ 6 _ _ rfl (by walk_at "v")))) (@ja _ _ _ _ _ (@jop _ _ _ _ _ _ _ _ b_sub (@jop _ _ _ _ _ _ _ _ b_mul (@jV _ 4 _ _ rfl (by walk_at "v")) (@jV _ 5 _ _ rfl (by walk_at "v"))) (@jop _ _ _ _ _ _ _ _ b_mul (@jV _ 2 _ _ rfl (by walk_at "v")) (@jV _ 7 _ _ rfl (by walk_at "v")))) (@ja _ _ _ _ _ (@jop _ _ _ _ _ _ _ _ b_sub (@jop _ _ _ _ _ _ _ _ b_mul (@jV _ 2 _ _ rfl (by walk_at "v")) (@jV _ 6 _ _ rfl (by walk_at "v"))) (@jop _ _ _ _ _ _ _ _ b_mul (@jV _ 3 _ _ rfl (by walk_at "v")) (@jV _ 5 _ _ rfl (by walk_at "v")))) (@ja0 _) (star1 rfl)) (star1 rfl)) (star1 rfl)))))))) ok_L_cross)
abbrev st_L_dot : Stmt := top 44
theorem sc_L_dot : FnScope ["_law_one", "_law_other"] ["_law_one", "_law_other"] (defScope st_L_dot) := by walk_at "s"
theorem fn_L_dot {f : Addr} {fd : FuncData} (F : Fun K "_law_dot" "_law_dot" st_L_dot f fd) (m : mg "_law_dot" = some (.ref f)) : Cal P w K mg base 1 "_law_dot" ["_law_one", "_law_other"] sp_L_dot :=
  .mk F m (F.binds fun _ _ _ _ _ _ us hl => args2 hl fun _ _ => rfl) (fnT (W := w_L_dot) F sc_L_dot len_L_dot (fun cdv A outer s H E hr =>
    (@js1 _ _ _ (@jret _ _ _ _ (@jop _ _ _ _ _ _ _ _ b_add (@jop _ _ _ _ _ _ _ _ b_add (@jop _ _ _ _ _ _ _ _ b_mul (@jix _ _ _ _ _ _ (@jV _ 0 _ _ rfl (by walk_at "v")) (@ji _ _ _ _) (fun _ _ => rfl)) (@jix _ _ _ _ _ _ (@jV _ 1 _ _ rfl (by walk_at "v")) (@ji _ _ _ _) (fun _ _ => rfl))) (@jop _ _ _ _ _ _ _ _ b_mul (@jix _ _ _ _ _ _ (@jV _ 0 _ _ rfl (by walk_at "v")) (@ji _ _ _ _) (fun _ _ => rfl)) (@jix _ _ _ _ _ _ (@jV _ 1 _ _ rfl (by walk_at "v")) (@ji _ _ _ _) (fun _ _ => rfl)))) (@jop _ _ _ _ _ _ _ _ b_mul (@jix _ _ _ _ _ _ (@jV _ 0 _ _ rfl (by walk_at "v")) (@ji _ _ _ _) (fun _ _ => rfl)) (@jix _ _ _ _ _ _ (@jV _ 1 _ _ rfl (by walk_at "v")) (@ji _ _ _ _) (fun _ _ => rfl))))))) ok_L_dot)
abbrev st_L_on : Stmt := top 45
theorem sc_L_on : FnScope ["_law_one", "_law_other", "_law_many"] ["_law_one", "_law_other", "_law_many"] (defScope st_L_on) := by walk_at "s"
theorem fn_L_on {f : Addr} {fd : FuncData} (F : Fun K "_law_on" "_law_on" st_L_on f fd) (m : mg "_law_on" = some (.ref f)) : Cal P w K mg base 1 "_law_on" ["_law_one", "_law_other", "_law_many"] sp_L_on :=
  .mk F m (F.binds fun _ _ _ _ _ _ us hl => args3 hl fun _ _ _ => rfl) (fnT (W := w_L_on) F sc_L_on len_L_on (fun cdv A outer s H E hr =>
    (@js1 _ _ _ (@jret _ _ _ _ (@jtup _ _ _ _ _ (@ja _ _ _ _ _ (@jop _ _ _ _ _ _ _ _ b_add (@jix _ _ _ _ _ _ (@jV _ 0 _ _ rfl (by walk_at "v")) (@ji _ _ _ _) (fun _ _ => rfl)) (@jop _ _ _ _ _ _ _ _ b_mul (@jV _ 2 _ _ rfl (by walk_at "v")) (@jix _ _ _ _ _ _ (@jV _ 1 _ _ rfl (by walk_at "v")) (@ji _ _ _ _) (fun _ _ => rfl)))) (@ja _ _ _ _ _ (@jop _ _ _ _ _ _ _ _ b_add (@jix _ _ _ _ _ _ (@jV _ 0 _ _ rfl (by walk_at "v")) (@ji _ _ _ _) (fun _ _ => rfl)) (@jop _ _ _ _ _ _ _ _ b_mul (@jV _ 2 _ _ rfl (by walk_at "v")) (@jix _ _ _ _ _ _ (@jV _ 1 _ _ rfl (by walk_at "v")) (@ji _ _ _ _) (fun _ _ => rfl)))) (@ja _ _ _ _ _ (@jop _ _ _ _ _ _ _ _ b_add (@jix _ _ _ _ _ _ (@jV _ 0 _ _ rfl (by walk_at "v")) (@ji _ _ _ _) (fun _ _ => rfl)) (@jop _ _ _ _ _ _ _ _ b_mul (@jV _ 2 _ _ rfl (by walk_at "v")) (@jix _ _ _ _ _ _ (@jV _ 1 _ _ rfl (by walk_at "v")) (@ji _ _ _ _) (fun _ _ => rfl)))) (@ja0 _) (star1 rfl)) (star1 rfl)) (star1 rfl)))))) ok_L_on)
abbrev st_L_ratio : Stmt := top 47
theorem sc_L_ratio : FnScope ["_law_top", "_law_bottom", "_law_one", "_law_other"] ["_law_top", "_law_bottom"] (defScope st_L_ratio) := by walk_at "s"
theorem fn_L_ratio {f : Addr} {fd : FuncData} (F : Fun K "_law_ratio" "_law_ratio" st_L_ratio f fd) (m : mg "_law_ratio" = some (.ref f)) (z_abs : mg "abs" = none) : Cal P w K mg base 1 "_law_ratio" ["_law_top", "_law_bottom"] sp_L_ratio :=
  .mk F m (F.binds fun _ _ _ _ _ _ us hl => args2 hl fun _ _ => rfl) (fnT (W := w_L_ratio) F sc_L_ratio len_L_ratio (fun cdv A outer s H E hr =>
    (@jsc _ _ _ _ _ (@jset _ _ _ _ (2) _ _ sc_L_ratio.nd rfl (Or.inl rfl) (@jblt _ _ _ _ _ _ _ _ _ bl_abs rfl z_abs boot_abs (@ja _ _ _ _ _ (@jV _ 0 _ _ rfl (by walk_at "v")) (@ja0 _) (star1 rfl)) (by decide) (by decide) (star1 rfl) (stars rfl)) (by rfl) (by walk_at "f")) (@jsc _ _ _ _ _ (@jset _ _ _ _ (3) _ _ sc_L_ratio.nd rfl (Or.inl rfl) (@jblt _ _ _ _ _ _ _ _ _ bl_abs rfl z_abs boot_abs (@ja _ _ _ _ _ (@jV _ 1 _ _ rfl (by walk_at "v")) (@ja0 _) (star1 rfl)) (by decide) (by decide) (star1 rfl) (stars rfl)) (by rfl) (by walk_at "f")) (@jsc _ _ _ _ _ (@jwhile _ _ _ _ _ _ PassesOwn.never (@tcmp _ _ _ _ _ _ _ _ c_gt (@jV _ 3 _ _ rfl (by walk_at "v")) (@ji _ _ _ _) (nomark _)) (@js1 _ _ _ (@jpar _ _ _ _ _ (2) (3) _ _ _ _ _ _ _ _ rfl sc_L_ratio.nd rfl rfl (by decide) rfl rfl (@ja _ _ _ _ _ (@jV _ 3 _ _ rfl (by walk_at "v")) (@ja _ _ _ _ _ (@jop _ _ _ _ _ _ _ _ b_mod (@jV _ 2 _ _ rfl (by walk_at "v")) (@jV _ 3 _ _ rfl (by walk_at "v"))) (@ja0 _) (star1 rfl)) (star1 rfl)) rfl (by rfl)))) (@jsc _ _ _ _ _ (@jsif _ _ _ _ _ _ _ _ (@tcmp _ _ _ _ _ _ _ _ c_lt (@jV _ 1 _ _ rfl (by walk_at "v")) (@ji _ _ _ _) (nomark _)) (@js1 _ _ _ (@jret _ _ _ _ (@jtup _ _ _ _ _ (@ja _ _ _ _ _ (@jop _ _ _ _ _ _ _ _ b_div (@jneg _ _ _ _ (@jV _ 0 _ _ rfl (by walk_at "v"))) (@jV _ 2 _ _ rfl (by walk_at "v"))) (@ja _ _ _ _ _ (@jop _ _ _ _ _ _ _ _ b_div (@jneg _ _ _ _ (@jV _ 1 _ _ rfl (by walk_at "v"))) (@jV _ 2 _ _ rfl (by walk_at "v"))) (@ja0 _) (star1 rfl)) (star1 rfl))))) (@js0 _)) (@js1 _ _ _ (@jret _ _ _ _ (@jtup _ _ _ _ _ (@ja _ _ _ _ _ (@jop _ _ _ _ _ _ _ _ b_div (@jV _ 0 _ _ rfl (by walk_at "v")) (@jV _ 2 _ _ rfl (by walk_at "v"))) (@ja _ _ _ _ _ (@jop _ _ _ _ _ _ _ _ b_div (@jV _ 1 _ _ rfl (by walk_at "v")) (@jV _ 2 _ _ rfl (by walk_at "v"))) (@ja0 _) (star1 rfl)) (star1 rfl)))))))))) ok_L_ratio)
abbrev st_L_places : Stmt := top 53
theorem sc_L_places : FnScope ["_law_plate", "_law_gap", "_law_bottom", "_law_direction", "_law_whole", "_law_s", "_law_t", "_law_corner", "_law_side", "_law_other"] ["_law_plate", "_law_gap", "_law_bottom", "_law_direction"] (defScope st_L_places) := by walk_at "s"
theorem fn_L_places {f : Addr} {fd : FuncData} (F : Fun K "_law_places" "_law_places" st_L_places f fd) (m : mg "_law_places" = some (.ref f)) (C_L_cross : Cal P w K mg base 1 "_law_cross" ["_law_one", "_law_other"] sp_L_cross) (C_L_dot : Cal P w K mg base 1 "_law_dot" ["_law_one", "_law_other"] sp_L_dot) (C_L_ratio : Cal P w K mg base 1 "_law_ratio" ["_law_top", "_law_bottom"] sp_L_ratio) : Cal P w K mg base 2 "_law_places" ["_law_plate", "_law_gap", "_law_bottom", "_law_direction"] sp_L_places :=
  .mk F m (F.binds fun _ _ _ _ _ _ us hl => args4 hl fun _ _ _ _ => rfl) (fnT (W := w_L_places) F sc_L_places len_L_places (fun cdv A outer s H E hr =>
    (@jsc _ _ _ _ _ (@jasg _ _ _ _ _ _ (@jgt _ _ _ _ _ _ rfl (@jgsc _ _ _ _ _ (@jg _ _ (7) _ sc_L_places.nd rfl (Or.inl rfl) (by walk_at "f")) (@jgsc _ _ _ _ _ (@jg _ _ (8) _ sc_L_places.nd rfl (Or.inl rfl) (by walk_at "f")) (@jgsc _ _ _ _ _ (@jg _ _ (9) _ sc_L_places.nd rfl (Or.inl rfl) (by walk_at "f")) (@jgs0 _) (by rfl)) (by rfl)) (by rfl)) (by rfl) (by rfl)) (@jV _ 0 _ _ rfl (by walk_at "v")) (by rfl) (by rfl) (by rfl)) (@jsc _ _ _ _ _ (@jset _ _ _ _ (4) _ _ sc_L_places.nd rfl (Or.inl rfl) (@jcallC _ _ _ _ _ _ _ _ _ _ C_L_dot (hr.mono (by omega)) rfl (@ja _ _ _ _ _ (@jcallC _ _ _ _ _ _ _ _ _ _ C_L_cross (hr.mono (by omega)) rfl (@ja _ _ _ _ _ (@jV _ 8 _ _ rfl (by walk_at "v")) (@ja _ _ _ _ _ (@jV _ 9 _ _ rfl (by walk_at "v")) (@ja0 _) (star1 rfl)) (star1 rfl)) (by decide) (star1 rfl) (stars rfl)) (@ja _ _ _ _ _ (@jV _ 3 _ _ rfl (by walk_at "v")) (@ja0 _) (star1 rfl)) (star1 rfl)) (by decide) (star1 rfl) (stars rfl)) (by rfl) (by walk_at "f")) (@jsc _ _ _ _ _ (@jsif _ _ _ _ _ _ _ _ (@tcmp _ _ _ _ _ _ _ _ (c_eq hr) (@jV _ 4 _ _ rfl (by walk_at "v")) (@ji _ _ _ _) (nomark _)) (@js1 _ _ _ (@jret _ _ _ _ (@jn _ _ _))) (@js0 _)) (@jsc _ _ _ _ _ (@jset _ _ _ _ (5) _ _ sc_L_places.nd rfl (Or.inl rfl) (@jcallC _ _ _ _ _ _ _ _ _ _ C_L_dot (hr.mono (by omega)) rfl (@ja _ _ _ _ _ (@jV _ 1 _ _ rfl (by walk_at "v")) (@ja _ _ _ _ _ (@jcallC _ _ _ _ _ _ _ _ _ _ C_L_cross (hr.mono (by omega)) rfl (@ja _ _ _ _ _ (@jV _ 9 _ _ rfl (by walk_at "v")) (@ja _ _ _ _ _ (@jV _ 3 _ _ rfl (by walk_at "v")) (@ja0 _) (star1 rfl)) (star1 rfl)) (by decide) (star1 rfl) (stars rfl)) (@ja0 _) (star1 rfl)) (star1 rfl)) (by decide) (star1 rfl) (stars rfl)) (by rfl) (by walk_at "f")) (@jsc _ _ _ _ _ (@jset _ _ _ _ (6) _ _ sc_L_places.nd rfl (Or.inl rfl) (@jcallC _ _ _ _ _ _ _ _ _ _ C_L_dot (hr.mono (by omega)) rfl (@ja _ _ _ _ _ (@jV _ 1 _ _ rfl (by walk_at "v")) (@ja _ _ _ _ _ (@jcallC _ _ _ _ _ _ _ _ _ _ C_L_cross (hr.mono (by omega)) rfl (@ja _ _ _ _ _ (@jV _ 3 _ _ rfl (by walk_at "v")) (@ja _ _ _ _ _ (@jV _ 8 _ _ rfl (by walk_at "v")) (@ja0 _) (star1 rfl)) (star1 rfl)) (by decide) (star1 rfl) (stars rfl)) (@ja0 _) (star1 rfl)) (star1 rfl)) (by decide) (star1 rfl) (stars rfl)) (by rfl) (by walk_at "f")) (@js1 _ _ _ (@jret _ _ _ _ (@jtup _ _ _ _ _ (@ja _ _ _ _ _ (@jcallC _ _ _ _ _ _ _ _ _ _ C_L_ratio (hr.mono (by omega)) rfl (@ja _ _ _ _ _ (@jV _ 5 _ _ rfl (by walk_at "v")) (@ja _ _ _ _ _ (@jop _ _ _ _ _ _ _ _ b_mul (@jV _ 4 _ _ rfl (by walk_at "v")) (@jV _ 2 _ _ rfl (by walk_at "v"))) (@ja0 _) (star1 rfl)) (star1 rfl)) (by decide) (star1 rfl) (stars rfl)) (@ja _ _ _ _ _ (@jcallC _ _ _ _ _ _ _ _ _ _ C_L_ratio (hr.mono (by omega)) rfl (@ja _ _ _ _ _ (@jV _ 6 _ _ rfl (by walk_at "v")) (@ja _ _ _ _ _ (@jop _ _ _ _ _ _ _ _ b_mul (@jV _ 4 _ _ rfl (by walk_at "v")) (@jV _ 2 _ _ rfl (by walk_at "v"))) (@ja0 _) (star1 rfl)) (star1 rfl)) (by decide) (star1 rfl) (stars rfl)) (@ja0 _) (star1 rfl)) (star1 rfl))))))))))) ok_L_places)
abbrev st_L_within : Stmt := top 54
theorem sc_L_within : FnScope ["_law_place", "_law_top", "_law_bottom"] ["_law_place"] (defScope st_L_within) := by walk_at "s"
theorem fn_L_within {f : Addr} {fd : FuncData} (F : Fun K "_law_within" "_law_within" st_L_within f fd) (m : mg "_law_within" = some (.ref f)) : Cal P w K mg base 1 "_law_within" ["_law_place"] sp_L_within :=
  .mk F m (F.binds fun _ _ _ _ _ _ us hl => args1 hl fun _ => rfl) (fnT (W := w_L_within) F sc_L_within len_L_within (fun cdv A outer s H E hr =>
    (@jsc _ _ _ _ _ (@jfor _ _ _ _ _ _ _ _ PassesOwn.never rfl (@jiSeq _ _ _ _ (@jV _ 0 _ _ rfl (by walk_at "v"))) (@jgt _ _ _ _ _ _ rfl (@jgsc _ _ _ _ _ (@jg _ _ (1) _ sc_L_within.nd rfl (Or.inl rfl) (by walk_at "f")) (@jgsc _ _ _ _ _ (@jg _ _ (2) _ sc_L_within.nd rfl (Or.inl rfl) (by walk_at "f")) (@jgs0 _) (by rfl)) (by rfl)) (by rfl) (by rfl)) (@js1 _ _ _ (@jsif _ _ _ _ _ _ _ _ (@jw _ _ _ (@tor _ _ _ _ _ _ _ (@tcmp _ _ _ _ _ _ _ _ c_lt (@jV _ 1 _ _ rfl (by walk_at "v")) (@ji _ _ _ _) (nomark _)) (@tor1 _ _ _ _ (@tcmp _ _ _ _ _ _ _ _ c_gt (@jV _ 1 _ _ rfl (by walk_at "v")) (@jV _ 2 _ _ rfl (by walk_at "v")) (nomark _))))) (@js1 _ _ _ (@jret _ _ _ _ (@jb _ _ _ _))) (@js0 _))) (fun _ => rfl)) (@js1 _ _ _ (@jret _ _ _ _ (@jb _ _ _ _))))) ok_L_within)
abbrev st_L_hides : Stmt := top 55
theorem sc_L_hides : FnScope ["_law_plate", "_law_top", "_law_bottom", "_law_direction", "_law_front", "_law_gap", "_law_place", "_law_corner", "_law_side", "_law_other"] ["_law_plate", "_law_top", "_law_bottom", "_law_direction"] (defScope st_L_hides) := by walk_at "s"
theorem fn_L_hides {f : Addr} {fd : FuncData} (F : Fun K "_law_hides" "_law_hides" st_L_hides f fd) (m : mg "_law_hides" = some (.ref f)) (C_L_cross : Cal P w K mg base 1 "_law_cross" ["_law_one", "_law_other"] sp_L_cross) (C_L_on : Cal P w K mg base 1 "_law_on" ["_law_one", "_law_other", "_law_many"] sp_L_on) (C_L_places : Cal P w K mg base 2 "_law_places" ["_law_plate", "_law_gap", "_law_bottom", "_law_direction"] sp_L_places) (C_L_within : Cal P w K mg base 1 "_law_within" ["_law_place"] sp_L_within) (C_L_dot : Cal P w K mg base 1 "_law_dot" ["_law_one", "_law_other"] sp_L_dot) : Cal P w K mg base 3 "_law_hides" ["_law_plate", "_law_top", "_law_bottom", "_law_direction"] sp_L_hides :=
  .mk F m (F.binds fun _ _ _ _ _ _ us hl => args4 hl fun _ _ _ _ => rfl) (fnT (W := w_L_hides) F sc_L_hides len_L_hides (fun cdv A outer s H E hr =>
    (@jsc _ _ _ _ _ (@jasg _ _ _ _ _ _ (@jgt _ _ _ _ _ _ rfl (@jgsc _ _ _ _ _ (@jg _ _ (7) _ sc_L_hides.nd rfl (Or.inl rfl) (by walk_at "f")) (@jgsc _ _ _ _ _ (@jg _ _ (8) _ sc_L_hides.nd rfl (Or.inl rfl) (by walk_at "f")) (@jgsc _ _ _ _ _ (@jg _ _ (9) _ sc_L_hides.nd rfl (Or.inl rfl) (by walk_at "f")) (@jgs0 _) (by rfl)) (by rfl)) (by rfl)) (by rfl) (by rfl)) (@jV _ 0 _ _ rfl (by walk_at "v")) (by rfl) (by rfl) (by rfl)) (@jsc _ _ _ _ _ (@jset _ _ _ _ (4) _ _ sc_L_hides.nd rfl (Or.inl rfl) (@jcallC _ _ _ _ _ _ _ _ _ _ C_L_cross (hr.mono (by omega)) rfl (@ja _ _ _ _ _ (@jV _ 8 _ _ rfl (by walk_at "v")) (@ja _ _ _ _ _ (@jV _ 9 _ _ rfl (by walk_at "v")) (@ja0 _) (star1 rfl)) (star1 rfl)) (by decide) (star1 rfl) (stars rfl)) (by rfl) (by walk_at "f")) (@jsc _ _ _ _ _ (@jset _ _ _ _ (5) _ _ sc_L_hides.nd rfl (Or.inl rfl) (@jcallC _ _ _ _ _ _ _ _ _ _ C_L_on (hr.mono (by omega)) rfl (@ja _ _ _ _ _ (@jV _ 1 _ _ rfl (by walk_at "v")) (@ja _ _ _ _ _ (@jV _ 7 _ _ rfl (by walk_at "v")) (@ja _ _ _ _ _ (@jop _ _ _ _ _ _ _ _ b_sub (@ji _ _ _ _) (@jV _ 2 _ _ rfl (by walk_at "v"))) (@ja0 _) (star1 rfl)) (star1 rfl)) (star1 rfl)) (by decide) (star1 rfl) (stars rfl)) (by rfl) (by walk_at "f")) (@jsc _ _ _ _ _ (@jset _ _ _ _ (6) _ _ sc_L_hides.nd rfl (Or.inl rfl) (@jcallC _ _ _ _ _ _ _ _ _ _ C_L_places (hr.mono (by omega)) rfl (@ja _ _ _ _ _ (@jV _ 0 _ _ rfl (by walk_at "v")) (@ja _ _ _ _ _ (@jV _ 5 _ _ rfl (by walk_at "v")) (@ja _ _ _ _ _ (@jV _ 2 _ _ rfl (by walk_at "v")) (@ja _ _ _ _ _ (@jV _ 3 _ _ rfl (by walk_at "v")) (@ja0 _) (star1 rfl)) (star1 rfl)) (star1 rfl)) (star1 rfl)) (by decide) (star1 rfl) (stars rfl)) (by rfl) (by walk_at "f")) (@jsc _ _ _ _ _ (@jsif _ _ _ _ _ _ _ _ (@jw _ _ _ (@tor _ _ _ _ _ _ _ (@tcmp _ _ _ _ _ _ _ _ c_is (@jV _ 6 _ _ rfl (by walk_at "v")) (@jn _ _ _) (nomark _)) (@tor1 _ _ _ _ (@tnot _ _ _ _ (@tval _ _ _ (@jcallC _ _ _ _ _ _ _ _ _ _ C_L_within (hr.mono (by omega)) rfl (@ja _ _ _ _ _ (@jV _ 6 _ _ rfl (by walk_at "v")) (@ja0 _) (star1 rfl)) (by decide) (star1 rfl) (stars rfl)) (fun _ => rfl)))))) (@js1 _ _ _ (@jret _ _ _ _ (@jb _ _ _ _))) (@js0 _)) (@js1 _ _ _ (@jret _ _ _ _ (@jcmp _ _ _ _ _ _ _ _ c_lt (@jop _ _ _ _ _ _ _ _ b_mul (@jcallC _ _ _ _ _ _ _ _ _ _ C_L_dot (hr.mono (by omega)) rfl (@ja _ _ _ _ _ (@jV _ 5 _ _ rfl (by walk_at "v")) (@ja _ _ _ _ _ (@jV _ 4 _ _ rfl (by walk_at "v")) (@ja0 _) (star1 rfl)) (star1 rfl)) (by decide) (star1 rfl) (stars rfl)) (@jcallC _ _ _ _ _ _ _ _ _ _ C_L_dot (hr.mono (by omega)) rfl (@ja _ _ _ _ _ (@jV _ 4 _ _ rfl (by walk_at "v")) (@ja _ _ _ _ _ (@jV _ 3 _ _ rfl (by walk_at "v")) (@ja0 _) (star1 rfl)) (star1 rfl)) (by decide) (star1 rfl) (stars rfl))) (@ji _ _ _ _) (nomark _)))))))))) ok_L_hides)
abbrev st_L_told : Stmt := top 56
theorem sc_L_told : FnScope ["_law_yard_here", "_law_hour", "_law_name_here", "_law_direction", "_law_place", "_law_bottom", "_law_top", "_law_names", "_law_thing", "_law_told_here", "_law_plate", "_law_tip"] ["_law_yard_here", "_law_hour", "_law_name_here"] (defScope st_L_told) := by walk_at "s"
theorem fn_L_told {f : Addr} {fd : FuncData} (F : Fun K "_law_told" "_law_told" st_L_told f fd) (m : mg "_law_told" = some (.ref f)) (C_L_cross : Cal P w K mg base 1 "_law_cross" ["_law_one", "_law_other"] sp_L_cross) (C_L_dot : Cal P w K mg base 1 "_law_dot" ["_law_one", "_law_other"] sp_L_dot) (C_L_on : Cal P w K mg base 1 "_law_on" ["_law_one", "_law_other", "_law_many"] sp_L_on) (C_L_places : Cal P w K mg base 2 "_law_places" ["_law_plate", "_law_gap", "_law_bottom", "_law_direction"] sp_L_places) (C_L_within : Cal P w K mg base 1 "_law_within" ["_law_place"] sp_L_within) (C_L_hides : Cal P w K mg base 3 "_law_hides" ["_law_plate", "_law_top", "_law_bottom", "_law_direction"] sp_L_hides) (z_sorted : mg "sorted" = none) : Cal P w K mg base 4 "_law_told" ["_law_yard_here", "_law_hour", "_law_name_here"] sp_L_told :=
  .mk F m (F.binds fun _ _ _ _ _ _ us hl => args3 hl fun _ _ _ => rfl) (fnT (W := w_L_told) F sc_L_told len_L_told (fun cdv A outer s H E hr =>
    (@jsc _ _ _ _ _ (@jset _ _ _ _ (3) _ _ sc_L_told.nd rfl (Or.inl rfl) (@jix _ _ _ _ _ _ (@jcomp _ _ _ _ _ _ _ (defScope st_L_told) (["_law_row"]) (["_law_yard_here" , "_law_hour" , "_law_name_here" , "_law_direction" , "_law_place" , "_law_bottom" , "_law_top" , "_law_names" , "_law_thing" , "_law_told_here" , "_law_plate" , "_law_tip"]) ([("_law_hour" , 1)]) _ _ _ _ rfl rfl rfl (@jiSeq _ _ _ _ (@jix _ _ _ _ _ _ (@jV _ 0 _ _ rfl (by walk_at "v")) (@ji _ _ _ _) (fun _ _ => rfl))) rfl rfl (by decide +kernel) (by decide +kernel) (by decide +kernel) (by decide +kernel) (fun cl C s3 H2 ex => (@jg _ _ (0) _ (show List.Nodup (["_law_row" , "_law_hour"] : List Str) from by decide +kernel) rfl (Or.inl rfl) (by walk_at "f"))) (fun cl C s3 H2 ex => (@jts1 _ _ _ (@tcmp _ _ _ _ _ _ _ _ (c_eq hr) (@jix _ _ _ _ _ _ (@jV _ 0 _ _ rfl (by walk_at "v")) (@ji _ _ _ _) (fun _ _ => rfl)) (@jV _ 1 _ _ rfl (by walk_at "v")) (nomark _)))) (fun cl C s3 H2 ex => (@jix _ _ _ _ _ _ (@jV _ 0 _ _ rfl (by walk_at "v")) (@ji _ _ _ _) (fun _ _ => rfl))) (fun _ => rfl)) (@ji _ _ _ _) (fun _ _ => rfl)) (by rfl) (by walk_at "f")) (@jsc _ _ _ _ _ (@jasg _ _ _ _ _ _ (@jgt _ _ _ _ _ _ rfl (@jgsc _ _ _ _ _ (@jg _ _ (9) _ sc_L_told.nd rfl (Or.inl rfl) (by walk_at "f")) (@jgsc _ _ _ _ _ (@jg _ _ (10) _ sc_L_told.nd rfl (Or.inl rfl) (by walk_at "f")) (@jgsc _ _ _ _ _ (@jg _ _ (11) _ sc_L_told.nd rfl (Or.inl rfl) (by walk_at "f")) (@jgs0 _) (by rfl)) (by rfl)) (by rfl)) (by rfl) (by rfl)) (@jix _ _ _ _ _ _ (@jcomp _ _ _ _ _ _ _ (defScope st_L_told) (["_law_dial_here"]) (["_law_yard_here" , "_law_hour" , "_law_name_here" , "_law_direction" , "_law_place" , "_law_bottom" , "_law_top" , "_law_names" , "_law_thing" , "_law_told_here" , "_law_plate" , "_law_tip"]) ([("_law_name_here" , 2)]) _ _ _ _ rfl rfl rfl (@jiSeq _ _ _ _ (@jix _ _ _ _ _ _ (@jV _ 0 _ _ rfl (by walk_at "v")) (@ji _ _ _ _) (fun _ _ => rfl))) rfl rfl (by decide +kernel) (by decide +kernel) (by decide +kernel) (by decide +kernel) (fun cl C s3 H2 ex => (@jg _ _ (0) _ (show List.Nodup (["_law_dial_here" , "_law_name_here"] : List Str) from by decide +kernel) rfl (Or.inl rfl) (by walk_at "f"))) (fun cl C s3 H2 ex => (@jts1 _ _ _ (@tcmp _ _ _ _ _ _ _ _ (c_eq hr) (@jix _ _ _ _ _ _ (@jV _ 0 _ _ rfl (by walk_at "v")) (@ji _ _ _ _) (fun _ _ => rfl)) (@jV _ 1 _ _ rfl (by walk_at "v")) (nomark _)))) (fun cl C s3 H2 ex => (@jV _ 0 _ _ rfl (by walk_at "v"))) (fun _ => rfl)) (@ji _ _ _ _) (fun _ _ => rfl)) (by rfl) (by rfl) (by rfl)) (@jsc _ _ _ _ _ (@jsif _ _ _ _ _ _ _ _ (@tcmp _ _ _ _ _ _ _ _ c_le (@jix _ _ _ _ _ _ (@jV _ 3 _ _ rfl (by walk_at "v")) (@ji _ _ _ _) (fun _ _ => rfl)) (@ji _ _ _ _) (nomark _)) (@js1 _ _ _ (@jret _ _ _ _ (@jtup _ _ _ _ _ (@ja _ _ _ _ _ (@js _ _ _ _) (@ja0 _) (star1 rfl))))) (@js0 _)) (@jsc _ _ _ _ _ (@jsif _ _ _ _ _ _ _ _ (@tcmp _ _ _ _ _ _ _ _ c_le (@jcallC _ _ _ _ _ _ _ _ _ _ C_L_dot (hr.mono (by omega)) rfl (@ja _ _ _ _ _ (@jcallC _ _ _ _ _ _ _ _ _ _ C_L_cross (hr.mono (by omega)) rfl (@ja _ _ _ _ _ (@jix _ _ _ _ _ _ (@jV _ 10 _ _ rfl (by walk_at "v")) (@ji _ _ _ _) (fun _ _ => rfl)) (@ja _ _ _ _ _ (@jix _ _ _ _ _ _ (@jV _ 10 _ _ rfl (by walk_at "v")) (@ji _ _ _ _) (fun _ _ => rfl)) (@ja0 _) (star1 rfl)) (star1 rfl)) (by decide) (star1 rfl) (stars rfl)) (@ja _ _ _ _ _ (@jV _ 3 _ _ rfl (by walk_at "v")) (@ja0 _) (star1 rfl)) (star1 rfl)) (by decide) (star1 rfl) (stars rfl)) (@ji _ _ _ _) (nomark _)) (@js1 _ _ _ (@jret _ _ _ _ (@jtup _ _ _ _ _ (@ja _ _ _ _ _ (@js _ _ _ _) (@ja0 _) (star1 rfl))))) (@js0 _)) (@jsc _ _ _ _ _ (@jset _ _ _ _ (4) _ _ sc_L_told.nd rfl (Or.inl rfl) (@jcallC _ _ _ _ _ _ _ _ _ _ C_L_places (hr.mono (by omega)) rfl (@ja _ _ _ _ _ (@jV _ 10 _ _ rfl (by walk_at "v")) (@ja _ _ _ _ _ (@jcallC _ _ _ _ _ _ _ _ _ _ C_L_on (hr.mono (by omega)) rfl (@ja _ _ _ _ _ (@jV _ 11 _ _ rfl (by walk_at "v")) (@ja _ _ _ _ _ (@jix _ _ _ _ _ _ (@jV _ 10 _ _ rfl (by walk_at "v")) (@ji _ _ _ _) (fun _ _ => rfl)) (@ja _ _ _ _ _ (@jneg _ _ _ _ (@ji _ _ _ _)) (@ja0 _) (star1 rfl)) (star1 rfl)) (star1 rfl)) (by decide) (star1 rfl) (stars rfl)) (@ja _ _ _ _ _ (@ji _ _ _ _) (@ja _ _ _ _ _ (@jV _ 3 _ _ rfl (by walk_at "v")) (@ja0 _) (star1 rfl)) (star1 rfl)) (star1 rfl)) (star1 rfl)) (by decide) (star1 rfl) (stars rfl)) (by rfl) (by walk_at "f")) (@jsc _ _ _ _ _ (@jsif _ _ _ _ _ _ _ _ (@tnot _ _ _ _ (@tval _ _ _ (@jcallC _ _ _ _ _ _ _ _ _ _ C_L_within (hr.mono (by omega)) rfl (@ja _ _ _ _ _ (@jV _ 4 _ _ rfl (by walk_at "v")) (@ja0 _) (star1 rfl)) (by decide) (star1 rfl) (stars rfl)) (fun _ => rfl))) (@js1 _ _ _ (@jret _ _ _ _ (@jtup _ _ _ _ _ (@ja _ _ _ _ _ (@js _ _ _ _) (@ja _ _ _ _ _ (@jV _ 4 _ _ rfl (by walk_at "v")) (@ja0 _) (star1 rfl)) (star1 rfl))))) (@js0 _)) (@jsc _ _ _ _ _ (@jset _ _ _ _ (5) _ _ sc_L_told.nd rfl (Or.inl rfl) (@jop _ _ _ _ _ _ _ _ b_mul (@jix _ _ _ _ _ _ (@jix _ _ _ _ _ _ (@jV _ 4 _ _ rfl (by walk_at "v")) (@ji _ _ _ _) (fun _ _ => rfl)) (@ji _ _ _ _) (fun _ _ => rfl)) (@jix _ _ _ _ _ _ (@jix _ _ _ _ _ _ (@jV _ 4 _ _ rfl (by walk_at "v")) (@ji _ _ _ _) (fun _ _ => rfl)) (@ji _ _ _ _) (fun _ _ => rfl))) (by rfl) (by walk_at "f")) (@jsc _ _ _ _ _ (@jset _ _ _ _ (6) _ _ sc_L_told.nd rfl (Or.inl rfl) (@jcallC _ _ _ _ _ _ _ _ _ _ C_L_on (hr.mono (by omega)) rfl (@ja _ _ _ _ _ (@jtup _ _ _ _ _ (@ja _ _ _ _ _ (@ji _ _ _ _) (@ja _ _ _ _ _ (@ji _ _ _ _) (@ja _ _ _ _ _ (@ji _ _ _ _) (@ja0 _) (star1 rfl)) (star1 rfl)) (star1 rfl))) (@ja _ _ _ _ _ (@jix _ _ _ _ _ _ (@jV _ 10 _ _ rfl (by walk_at "v")) (@ji _ _ _ _) (fun _ _ => rfl)) (@ja _ _ _ _ _ (@jV _ 5 _ _ rfl (by walk_at "v")) (@ja0 _) (star1 rfl)) (star1 rfl)) (star1 rfl)) (by decide) (star1 rfl) (stars rfl)) (by rfl) (by walk_at "f")) (@jsc _ _ _ _ _ (@jset _ _ _ _ (6) _ _ sc_L_told.nd rfl (Or.inl rfl) (@jcallC _ _ _ _ _ _ _ _ _ _ C_L_on (hr.mono (by omega)) rfl (@ja _ _ _ _ _ (@jV _ 6 _ _ rfl (by walk_at "v")) (@ja _ _ _ _ _ (@jix _ _ _ _ _ _ (@jV _ 10 _ _ rfl (by walk_at "v")) (@ji _ _ _ _) (fun _ _ => rfl)) (@ja _ _ _ _ _ (@jop _ _ _ _ _ _ _ _ b_mul (@jix _ _ _ _ _ _ (@jix _ _ _ _ _ _ (@jV _ 4 _ _ rfl (by walk_at "v")) (@ji _ _ _ _) (fun _ _ => rfl)) (@ji _ _ _ _) (fun _ _ => rfl)) (@jix _ _ _ _ _ _ (@jix _ _ _ _ _ _ (@jV _ 4 _ _ rfl (by walk_at "v")) (@ji _ _ _ _) (fun _ _ => rfl)) (@ji _ _ _ _) (fun _ _ => rfl))) (@ja0 _) (star1 rfl)) (star1 rfl)) (star1 rfl)) (by decide) (star1 rfl) (stars rfl)) (by rfl) (by walk_at "f")) (@jsc _ _ _ _ _ (@jset _ _ _ _ (6) _ _ sc_L_told.nd rfl (Or.inl rfl) (@jcallC _ _ _ _ _ _ _ _ _ _ C_L_on (hr.mono (by omega)) rfl (@ja _ _ _ _ _ (@jV _ 6 _ _ rfl (by walk_at "v")) (@ja _ _ _ _ _ (@jix _ _ _ _ _ _ (@jV _ 10 _ _ rfl (by walk_at "v")) (@ji _ _ _ _) (fun _ _ => rfl)) (@ja _ _ _ _ _ (@jop _ _ _ _ _ _ _ _ b_mul (@jix _ _ _ _ _ _ (@jix _ _ _ _ _ _ (@jV _ 4 _ _ rfl (by walk_at "v")) (@ji _ _ _ _) (fun _ _ => rfl)) (@ji _ _ _ _) (fun _ _ => rfl)) (@jix _ _ _ _ _ _ (@jix _ _ _ _ _ _ (@jV _ 4 _ _ rfl (by walk_at "v")) (@ji _ _ _ _) (fun _ _ => rfl)) (@ji _ _ _ _) (fun _ _ => rfl))) (@ja0 _) (star1 rfl)) (star1 rfl)) (star1 rfl)) (by decide) (star1 rfl) (stars rfl)) (by rfl) (by walk_at "f")) (@jsc _ _ _ _ _ (@jown _ _ _ _ (7) _ _ _ sc_L_told.nd rfl (Or.inl rfl) (@ja0 _) (by rfl) (by walk_at "f")) (@jsc _ _ _ _ _ (@jfor _ _ _ _ _ _ _ _ PassesOwn.never rfl (@jiSeq _ _ _ _ (@jop _ _ _ _ _ _ _ _ b_cat (@jix _ _ _ _ _ _ (@jV _ 0 _ _ rfl (by walk_at "v")) (@ji _ _ _ _) (fun _ _ => rfl)) (@jix _ _ _ _ _ _ (@jV _ 0 _ _ rfl (by walk_at "v")) (@ji _ _ _ _) (fun _ _ => rfl)))) (@jg _ _ (8) _ sc_L_told.nd rfl (Or.inl rfl) (by walk_at "f")) (@js1 _ _ _ (@jsif _ _ _ _ _ _ _ _ (@jw _ _ _ (@tand _ _ _ _ _ _ _ (@tcmp _ _ _ _ _ _ _ _ (c_ne hr) (@jix _ _ _ _ _ _ (@jV _ 8 _ _ rfl (by walk_at "v")) (@ji _ _ _ _) (fun _ _ => rfl)) (@jV _ 2 _ _ rfl (by walk_at "v")) (nomark _)) (@tand1 _ _ _ _ (@tval _ _ _ (@jcallC _ _ _ _ _ _ _ _ _ _ C_L_hides (hr.mono (by omega)) rfl (@ja _ _ _ _ _ (@jix _ _ _ _ _ _ (@jV _ 8 _ _ rfl (by walk_at "v")) (@ji _ _ _ _) (fun _ _ => rfl)) (@ja _ _ _ _ _ (@jV _ 6 _ _ rfl (by walk_at "v")) (@ja _ _ _ _ _ (@jV _ 5 _ _ rfl (by walk_at "v")) (@ja _ _ _ _ _ (@jV _ 3 _ _ rfl (by walk_at "v")) (@ja0 _) (star1 rfl)) (star1 rfl)) (star1 rfl)) (star1 rfl)) (by decide) (star1 rfl) (stars rfl)) (fun _ => rfl))))) (@js1 _ _ _ (@japp _ _ _ _ _ _ _ _ _ (pv 7) (@jix _ _ _ _ _ _ (@jV _ 8 _ _ rfl (by walk_at "v")) (@ji _ _ _ _) (fun _ _ => rfl)) (by rfl) (by rfl) (by rfl) (by rfl) (by rfl) (by rfl))) (@js0 _))) (fun _ => rfl)) (@jfrz _ _ 7 _ (@jsc _ _ _ _ _ (@jsif _ _ _ _ _ _ _ _ (@tcmp _ _ _ _ _ _ _ _ (c_ne hr) (@jV _ 7 _ _ rfl (by walk_at "v")) (@jlst _ _ _ _ (@ja0 _)) (nomark _)) (@js1 _ _ _ (@jret _ _ _ _ (@jtup _ _ _ _ _ (@ja _ _ _ _ _ (@js _ _ _ _) (@ja _ _ _ _ _ (@jblt _ _ _ _ _ _ _ _ _ bl_sorted rfl z_sorted boot_sorted (@ja _ _ _ _ _ (@jV _ 7 _ _ rfl (by walk_at "v")) (@ja0 _) (star1 rfl)) (by decide) (by decide) (star1 rfl) (stars rfl)) (@ja0 _) (star1 rfl)) (star1 rfl))))) (@js0 _)) (@js1 _ _ _ (@jret _ _ _ _ (@jtup _ _ _ _ _ (@ja _ _ _ _ _ (@js _ _ _ _) (@ja _ _ _ _ _ (@jV _ 4 _ _ rfl (by walk_at "v")) (@ja0 _) (star1 rfl)) (star1 rfl)))))))))))))))))))) ok_L_told)
abbrev st_P_is_whole : Stmt := top 6
theorem sc_P_is_whole : FnScope ["thing"] ["thing"] (defScope st_P_is_whole) := by walk_at "s"
theorem fn_P_is_whole {f : Addr} {fd : FuncData} (F : Fun K "is_whole" "is_whole" st_P_is_whole f fd) (m : mg "is_whole" = some (.ref f)) (z_isinstance : mg "isinstance" = none) (z_int : mg "int" = none) (z_bool : mg "bool" = none) : Cal P w K mg base 1 "is_whole" ["thing"] sp_P_is_whole :=
  .mk F m (F.binds fun _ _ _ _ _ _ us hl => args1 hl fun _ => rfl) (fnT (W := w_P_is_whole) F sc_P_is_whole len_P_is_whole (fun cdv A outer s H E hr =>
    (@js1 _ _ _ (@jret _ _ _ _ (@jand _ _ _ _ _ _ _ (@jisi _ _ _ _ .int _ _ _ (@jV _ 0 _ _ rfl (by walk_at "v")) rfl z_isinstance rfl z_int boot_int (by decide) (by decide) (star1 rfl) (star1 rfl) (stars rfl)) (@jone _ _ _ _ _ (@jnot _ _ _ _ (@jisi _ _ _ _ .bool _ _ _ (@jV _ 0 _ _ rfl (by walk_at "v")) rfl z_isinstance rfl z_bool boot_bool (by decide) (by decide) (star1 rfl) (star1 rfl) (stars rfl)))))))) ok_P_is_whole)
abbrev st_P_direction_at : Stmt := top 33
theorem sc_P_direction_at : FnScope ["sun", "hour", "entry"] ["sun", "hour"] (defScope st_P_direction_at) := by walk_at "s"
theorem fn_P_direction_at {f : Addr} {fd : FuncData} (F : Fun K "direction_at" "direction_at" st_P_direction_at f fd) (m : mg "direction_at" = some (.ref f)) (C_P_is_whole : Cal P w K mg base 1 "is_whole" ["thing"] sp_P_is_whole) : Cal P w K mg base 2 "direction_at" ["sun", "hour"] sp_P_direction_at :=
  .mk F m (F.binds fun _ _ _ _ _ _ us hl => args2 hl fun _ _ => rfl) (fnT (W := w_P_direction_at) F sc_P_direction_at len_P_direction_at (fun cdv A outer s H E hr =>
    (@jsc _ _ _ _ _ (@jsif _ _ _ _ _ _ _ _ (@tval _ _ _ (@jcallC _ _ _ _ _ _ _ _ _ _ C_P_is_whole (hr.mono (by omega)) rfl (@ja _ _ _ _ _ (@jV _ 1 _ _ rfl (by walk_at "v")) (@ja0 _) (star1 rfl)) (by decide) (star1 rfl) (stars rfl)) (fun _ => rfl)) (@js1 _ _ _ (@jfor _ _ _ _ _ _ _ _ PassesOwn.never rfl (@jiSeq _ _ _ _ (@jV _ 0 _ _ rfl (by walk_at "v"))) (@jg _ _ (2) _ sc_P_direction_at.nd rfl (Or.inl rfl) (by walk_at "f")) (@js1 _ _ _ (@jsif _ _ _ _ _ _ _ _ (@tcmp _ _ _ _ _ _ _ _ (c_eq hr) (@jix _ _ _ _ _ _ (@jV _ 2 _ _ rfl (by walk_at "v")) (@ji _ _ _ _) (fun _ _ => rfl)) (@jV _ 1 _ _ rfl (by walk_at "v")) (nomark _)) (@js1 _ _ _ (@jret _ _ _ _ (@jix _ _ _ _ _ _ (@jV _ 2 _ _ rfl (by walk_at "v")) (@ji _ _ _ _) (fun _ _ => rfl)))) (@js0 _))) (fun _ => rfl))) (@js0 _)) (@js1 _ _ _ (@jnever _ _)))) ok_P_direction_at)
abbrev st_P_dial_of : Stmt := top 36
theorem sc_P_dial_of : FnScope ["yard", "name", "dial"] ["yard", "name"] (defScope st_P_dial_of) := by walk_at "s"
theorem fn_P_dial_of {f : Addr} {fd : FuncData} (F : Fun K "dial_of" "dial_of" st_P_dial_of f fd) (m : mg "dial_of" = some (.ref f)) (z_isinstance : mg "isinstance" = none) (z_str : mg "str" = none) : Cal P w K mg base 1 "dial_of" ["yard", "name"] sp_P_dial_of :=
  .mk F m (F.binds fun _ _ _ _ _ _ us hl => args2 hl fun _ _ => rfl) (fnT (W := w_P_dial_of) F sc_P_dial_of len_P_dial_of (fun cdv A outer s H E hr =>
    (@jsc _ _ _ _ _ (@jsif _ _ _ _ _ _ _ _ (@tval _ _ _ (@jisi _ _ _ _ .str _ _ _ (@jV _ 1 _ _ rfl (by walk_at "v")) rfl z_isinstance rfl z_str boot_str (by decide) (by decide) (star1 rfl) (star1 rfl) (stars rfl)) (fun _ => rfl)) (@js1 _ _ _ (@jfor _ _ _ _ _ _ _ _ PassesOwn.never rfl (@jiSeq _ _ _ _ (@jix _ _ _ _ _ _ (@jV _ 0 _ _ rfl (by walk_at "v")) (@ji _ _ _ _) (fun _ _ => rfl))) (@jg _ _ (2) _ sc_P_dial_of.nd rfl (Or.inl rfl) (by walk_at "f")) (@js1 _ _ _ (@jsif _ _ _ _ _ _ _ _ (@tcmp _ _ _ _ _ _ _ _ (c_eq hr) (@jix _ _ _ _ _ _ (@jV _ 2 _ _ rfl (by walk_at "v")) (@ji _ _ _ _) (fun _ _ => rfl)) (@jV _ 1 _ _ rfl (by walk_at "v")) (nomark _)) (@js1 _ _ _ (@jret _ _ _ _ (@jV _ 2 _ _ rfl (by walk_at "v")))) (@js0 _))) (fun _ => rfl))) (@js0 _)) (@js1 _ _ _ (@jnever _ _)))) ok_P_dial_of)
abbrev st_P_is_up : Stmt := top 34
theorem sc_P_is_up : FnScope ["sun", "hour"] ["sun", "hour"] (defScope st_P_is_up) := by walk_at "s"
theorem fn_P_is_up {f : Addr} {fd : FuncData} (F : Fun K "is_up" "is_up" st_P_is_up f fd) (m : mg "is_up" = some (.ref f)) (C_P_direction_at : Cal P w K mg base 2 "direction_at" ["sun", "hour"] sp_P_direction_at) : Cal P w K mg base 3 "is_up" ["sun", "hour"] sp_P_is_up :=
  .mk F m (F.binds fun _ _ _ _ _ _ us hl => args2 hl fun _ _ => rfl) (fnT (W := w_P_is_up) F sc_P_is_up len_P_is_up (fun cdv A outer s H E hr =>
    (@js1 _ _ _ (@jret _ _ _ _ (@jcmp _ _ _ _ _ _ _ _ c_gt (@jix _ _ _ _ _ _ (@jcallC _ _ _ _ _ _ _ _ _ _ C_P_direction_at (hr.mono (by omega)) rfl (@ja _ _ _ _ _ (@jV _ 0 _ _ rfl (by walk_at "v")) (@ja _ _ _ _ _ (@jV _ 1 _ _ rfl (by walk_at "v")) (@ja0 _) (star1 rfl)) (star1 rfl)) (by decide) (star1 rfl) (stars rfl)) (@ji _ _ _ _) (fun _ _ => rfl)) (@ji _ _ _ _) (nomark _))))) ok_P_is_up)
abbrev st_P_cross_of : Stmt := top 15
theorem sc_P_cross_of : FnScope ["one", "other"] ["one", "other"] (defScope st_P_cross_of) := by walk_at "s"
theorem fn_P_cross_of {f : Addr} {fd : FuncData} (F : Fun K "cross_of" "cross_of" st_P_cross_of f fd) (m : mg "cross_of" = some (.ref f)) : Cal P w K mg base 1 "cross_of" ["one", "other"] sp_P_cross_of :=
  .mk F m (F.binds fun _ _ _ _ _ _ us hl => args2 hl fun _ _ => rfl) (fnT (W := w_P_cross_of) F sc_P_cross_of len_P_cross_of (fun cdv A outer s H E hr =>
    (@js1 _ _ _ (@jret _ _ _ _ (@jtup _ _ _ _ _ (@ja _ _ _ _ _ (@jop _ _ _ _ _ _ _ _ b_sub (@jop _ _ _ _ _ _ _ _ b_mul (@jix _ _ _ _ _ _ (@jV _ 0 _ _ rfl (by walk_at "v")) (@ji _ _ _ _) (fun _ _ => rfl)) (@jix _ _ _ _ _ _ (@jV _ 1 _ _ rfl (by walk_at "v")) (@ji _ _ _ _) (fun _ _ => rfl))) (@jop _ _ _ _ _ _ _ _ b_mul (@jix _ _ _ _ _ _ (@jV _ 0 _ _ rfl (by walk_at "v")) (@ji _ _ _ _) (fun _ _ => rfl)) (@jix _ _ _ _ _ _ (@jV _ 1 _ _ rfl (by walk_at "v")) (@ji _ _ _ _) (fun _ _ => rfl)))) (@ja _ _ _ _ _ (@jop _ _ _ _ _ _ _ _ b_sub (@jop _ _ _ _ _ _ _ _ b_mul (@jix _ _ _ _ _ _ (@jV _ 0 _ _ rfl (by walk_at "v")) (@ji _ _ _ _) (fun _ _ => rfl)) (@jix _ _ _ _ _ _ (@jV _ 1 _ _ rfl (by walk_at "v")) (@ji _ _ _ _) (fun _ _ => rfl))) (@jop _ _ _ _ _ _ _ _ b_mul (@jix _ _ _ _ _ _ (@jV _ 0 _ _ rfl (by walk_at "v")) (@ji _ _ _ _) (fun _ _ => rfl)) (@jix _ _ _ _ _ _ (@jV _ 1 _ _ rfl (by walk_at "v")) (@ji _ _ _ _) (fun _ _ => rfl)))) (@ja _ _ _ _ _ (@jop _ _ _ _ _ _ _ _ b_sub (@jop _ _ _ _ _ _ _ _ b_mul (@jix _ _ _ _ _ _ (@jV _ 0 _ _ rfl (by walk_at "v")) (@ji _ _ _ _) (fun _ _ => rfl)) (@jix _ _ _ _ _ _ (@jV _ 1 _ _ rfl (by walk_at "v")) (@ji _ _ _ _) (fun _ _ => rfl))) (@jop _ _ _ _ _ _ _ _ b_mul (@jix _ _ _ _ _ _ (@jV _ 0 _ _ rfl (by walk_at "v")) (@ji _ _ _ _) (fun _ _ => rfl)) (@jix _ _ _ _ _ _ (@jV _ 1 _ _ rfl (by walk_at "v")) (@ji _ _ _ _) (fun _ _ => rfl)))) (@ja0 _) (star1 rfl)) (star1 rfl)) (star1 rfl)))))) ok_P_cross_of)
abbrev st_P_front_of : Stmt := top 17
theorem sc_P_front_of : FnScope ["plate"] ["plate"] (defScope st_P_front_of) := by walk_at "s"
theorem fn_P_front_of {f : Addr} {fd : FuncData} (F : Fun K "front_of" "front_of" st_P_front_of f fd) (m : mg "front_of" = some (.ref f)) (C_P_cross_of : Cal P w K mg base 1 "cross_of" ["one", "other"] sp_P_cross_of) : Cal P w K mg base 2 "front_of" ["plate"] sp_P_front_of :=
  .mk F m (F.binds fun _ _ _ _ _ _ us hl => args1 hl fun _ => rfl) (fnT (W := w_P_front_of) F sc_P_front_of len_P_front_of (fun cdv A outer s H E hr =>
    (@js1 _ _ _ (@jret _ _ _ _ (@jcallC _ _ _ _ _ _ _ _ _ _ C_P_cross_of (hr.mono (by omega)) rfl (@ja _ _ _ _ _ (@jix _ _ _ _ _ _ (@jV _ 0 _ _ rfl (by walk_at "v")) (@ji _ _ _ _) (fun _ _ => rfl)) (@ja _ _ _ _ _ (@jix _ _ _ _ _ _ (@jV _ 0 _ _ rfl (by walk_at "v")) (@ji _ _ _ _) (fun _ _ => rfl)) (@ja0 _) (star1 rfl)) (star1 rfl)) (by decide) (star1 rfl) (stars rfl))))) ok_P_front_of)
abbrev st_P_dot_of : Stmt := top 14
theorem sc_P_dot_of : FnScope ["one", "other"] ["one", "other"] (defScope st_P_dot_of) := by walk_at "s"
theorem fn_P_dot_of {f : Addr} {fd : FuncData} (F : Fun K "dot_of" "dot_of" st_P_dot_of f fd) (m : mg "dot_of" = some (.ref f)) : Cal P w K mg base 1 "dot_of" ["one", "other"] sp_P_dot_of :=
  .mk F m (F.binds fun _ _ _ _ _ _ us hl => args2 hl fun _ _ => rfl) (fnT (W := w_P_dot_of) F sc_P_dot_of len_P_dot_of (fun cdv A outer s H E hr =>
    (@js1 _ _ _ (@jret _ _ _ _ (@jop _ _ _ _ _ _ _ _ b_add (@jop _ _ _ _ _ _ _ _ b_add (@jop _ _ _ _ _ _ _ _ b_mul (@jix _ _ _ _ _ _ (@jV _ 0 _ _ rfl (by walk_at "v")) (@ji _ _ _ _) (fun _ _ => rfl)) (@jix _ _ _ _ _ _ (@jV _ 1 _ _ rfl (by walk_at "v")) (@ji _ _ _ _) (fun _ _ => rfl))) (@jop _ _ _ _ _ _ _ _ b_mul (@jix _ _ _ _ _ _ (@jV _ 0 _ _ rfl (by walk_at "v")) (@ji _ _ _ _) (fun _ _ => rfl)) (@jix _ _ _ _ _ _ (@jV _ 1 _ _ rfl (by walk_at "v")) (@ji _ _ _ _) (fun _ _ => rfl)))) (@jop _ _ _ _ _ _ _ _ b_mul (@jix _ _ _ _ _ _ (@jV _ 0 _ _ rfl (by walk_at "v")) (@ji _ _ _ _) (fun _ _ => rfl)) (@jix _ _ _ _ _ _ (@jV _ 1 _ _ rfl (by walk_at "v")) (@ji _ _ _ _) (fun _ _ => rfl))))))) ok_P_dot_of)
abbrev st_P_comes_from_ahead : Stmt := top 21
theorem sc_P_comes_from_ahead : FnScope ["plate", "direction"] ["plate", "direction"] (defScope st_P_comes_from_ahead) := by walk_at "s"
theorem fn_P_comes_from_ahead {f : Addr} {fd : FuncData} (F : Fun K "comes_from_ahead" "comes_from_ahead" st_P_comes_from_ahead f fd) (m : mg "comes_from_ahead" = some (.ref f)) (C_P_front_of : Cal P w K mg base 2 "front_of" ["plate"] sp_P_front_of) (C_P_dot_of : Cal P w K mg base 1 "dot_of" ["one", "other"] sp_P_dot_of) : Cal P w K mg base 3 "comes_from_ahead" ["plate", "direction"] sp_P_comes_from_ahead :=
  .mk F m (F.binds fun _ _ _ _ _ _ us hl => args2 hl fun _ _ => rfl) (fnT (W := w_P_comes_from_ahead) F sc_P_comes_from_ahead len_P_comes_from_ahead (fun cdv A outer s H E hr =>
    (@js1 _ _ _ (@jret _ _ _ _ (@jcmp _ _ _ _ _ _ _ _ c_gt (@jcallC _ _ _ _ _ _ _ _ _ _ C_P_dot_of (hr.mono (by omega)) rfl (@ja _ _ _ _ _ (@jcallC _ _ _ _ _ _ _ _ _ _ C_P_front_of (hr.mono (by omega)) rfl (@ja _ _ _ _ _ (@jV _ 0 _ _ rfl (by walk_at "v")) (@ja0 _) (star1 rfl)) (by decide) (star1 rfl) (stars rfl)) (@ja _ _ _ _ _ (@jV _ 1 _ _ rfl (by walk_at "v")) (@ja0 _) (star1 rfl)) (star1 rfl)) (by decide) (star1 rfl) (stars rfl)) (@ji _ _ _ _) (nomark _))))) ok_P_comes_from_ahead)
abbrev st_P_as_point : Stmt := top 23
theorem sc_P_as_point : FnScope ["triple"] ["triple"] (defScope st_P_as_point) := by walk_at "s"
theorem fn_P_as_point {f : Addr} {fd : FuncData} (F : Fun K "as_point" "as_point" st_P_as_point f fd) (m : mg "as_point" = some (.ref f)) (z_tuple : mg "tuple" = none) : Cal P w K mg base 1 "as_point" ["triple"] sp_P_as_point :=
  .mk F m (F.binds fun _ _ _ _ _ _ us hl => args1 hl fun _ => rfl) (fnT (W := w_P_as_point) F sc_P_as_point len_P_as_point (fun cdv A outer s H E hr =>
    (@js1 _ _ _ (@jret _ _ _ _ (@jty _ _ _ _ _ _ _ _ _ ty_tuple rfl z_tuple boot_tuple (@ja _ _ _ _ _ (@jcomp _ _ _ _ _ _ _ (defScope st_P_as_point) (["number"]) (["triple"]) ([]) _ _ _ _ rfl rfl rfl (@jiSeq _ _ _ _ (@jV _ 0 _ _ rfl (by walk_at "v"))) rfl rfl (by decide +kernel) (by decide +kernel) (by decide +kernel) (by decide +kernel) (fun cl C s3 H2 ex => (@jg _ _ (0) _ (show List.Nodup (["number"] : List Str) from by decide +kernel) rfl (Or.inl rfl) (by walk_at "f"))) (fun cl C s3 H2 ex => (@jts0 _)) (fun cl C s3 H2 ex => (@jtup _ _ _ _ _ (@ja _ _ _ _ _ (@jV _ 0 _ _ rfl (by walk_at "v")) (@ja _ _ _ _ _ (@ji _ _ _ _) (@ja0 _) (star1 rfl)) (star1 rfl)))) (fun _ => rfl)) (@ja0 _) (star1 rfl)) (by decide) (by decide) (star1 rfl) (stars rfl))))) ok_P_as_point)
abbrev st_P_greatest_factor : Stmt := top 7
theorem sc_P_greatest_factor : FnScope ["one", "other", "rest"] ["one", "other"] (defScope st_P_greatest_factor) := by walk_at "s"
theorem fn_P_greatest_factor {f : Addr} {fd : FuncData} (F : Fun K "greatest_factor" "greatest_factor" st_P_greatest_factor f fd) (m : mg "greatest_factor" = some (.ref f)) (z_abs : mg "abs" = none) : Cal P w K mg base 1 "greatest_factor" ["one", "other"] sp_P_greatest_factor :=
  .mk F m (F.binds fun _ _ _ _ _ _ us hl => args2 hl fun _ _ => rfl) (fnT (W := w_P_greatest_factor) F sc_P_greatest_factor len_P_greatest_factor (fun cdv A outer s H E hr =>
    (@jsc _ _ _ _ _ (@jwhile _ _ _ _ _ _ PassesOwn.never (@tcmp _ _ _ _ _ _ _ _ (c_ne hr) (@jV _ 1 _ _ rfl (by walk_at "v")) (@ji _ _ _ _) (nomark _)) (@jsc _ _ _ _ _ (@jset _ _ _ _ (2) _ _ sc_P_greatest_factor.nd rfl (Or.inl rfl) (@jop _ _ _ _ _ _ _ _ b_mod (@jV _ 0 _ _ rfl (by walk_at "v")) (@jV _ 1 _ _ rfl (by walk_at "v"))) (by rfl) (by walk_at "f")) (@jsc _ _ _ _ _ (@jset _ _ _ _ (0) _ _ sc_P_greatest_factor.nd rfl (Or.inl rfl) (@jV _ 1 _ _ rfl (by walk_at "v")) (by rfl) (by walk_at "f")) (@js1 _ _ _ (@jset _ _ _ _ (1) _ _ sc_P_greatest_factor.nd rfl (Or.inl rfl) (@jV _ 2 _ _ rfl (by walk_at "v")) (by rfl) (by walk_at "f")))))) (@js1 _ _ _ (@jret _ _ _ _ (@jblt _ _ _ _ _ _ _ _ _ bl_abs rfl z_abs boot_abs (@ja _ _ _ _ _ (@jV _ 0 _ _ rfl (by walk_at "v")) (@ja0 _) (star1 rfl)) (by decide) (by decide) (star1 rfl) (stars rfl)))))) ok_P_greatest_factor)
abbrev st_P_ratio_of : Stmt := top 8
theorem sc_P_ratio_of : FnScope ["top", "bottom", "factor"] ["top", "bottom"] (defScope st_P_ratio_of) := by walk_at "s"
theorem fn_P_ratio_of {f : Addr} {fd : FuncData} (F : Fun K "ratio_of" "ratio_of" st_P_ratio_of f fd) (m : mg "ratio_of" = some (.ref f)) (C_P_is_whole : Cal P w K mg base 1 "is_whole" ["thing"] sp_P_is_whole) (C_P_greatest_factor : Cal P w K mg base 1 "greatest_factor" ["one", "other"] sp_P_greatest_factor) : Cal P w K mg base 2 "ratio_of" ["top", "bottom"] sp_P_ratio_of :=
  .mk F m (F.binds fun _ _ _ _ _ _ us hl => args2 hl fun _ _ => rfl) (fnT (W := w_P_ratio_of) F sc_P_ratio_of len_P_ratio_of (fun cdv A outer s H E hr =>
    (@jsc _ _ _ _ _ (@jsif _ _ _ _ _ _ _ _ (@jw _ _ _ (@tor _ _ _ _ _ _ _ (@tnot _ _ _ _ (@tval _ _ _ (@jcallC _ _ _ _ _ _ _ _ _ _ C_P_is_whole (hr.mono (by omega)) rfl (@ja _ _ _ _ _ (@jV _ 0 _ _ rfl (by walk_at "v")) (@ja0 _) (star1 rfl)) (by decide) (star1 rfl) (stars rfl)) (fun _ => rfl))) (@tor1 _ _ _ _ (@tnot _ _ _ _ (@tval _ _ _ (@jcallC _ _ _ _ _ _ _ _ _ _ C_P_is_whole (hr.mono (by omega)) rfl (@ja _ _ _ _ _ (@jV _ 1 _ _ rfl (by walk_at "v")) (@ja0 _) (star1 rfl)) (by decide) (star1 rfl) (stars rfl)) (fun _ => rfl)))))) (@js1 _ _ _ (@jnever _ _)) (@js0 _)) (@jsc _ _ _ _ _ (@jsif _ _ _ _ _ _ _ _ (@tcmp _ _ _ _ _ _ _ _ (c_eq hr) (@jV _ 1 _ _ rfl (by walk_at "v")) (@ji _ _ _ _) (nomark _)) (@js1 _ _ _ (@jnever _ _)) (@js0 _)) (@jsc _ _ _ _ _ (@jset _ _ _ _ (2) _ _ sc_P_ratio_of.nd rfl (Or.inl rfl) (@jcallC _ _ _ _ _ _ _ _ _ _ C_P_greatest_factor (hr.mono (by omega)) rfl (@ja _ _ _ _ _ (@jV _ 0 _ _ rfl (by walk_at "v")) (@ja _ _ _ _ _ (@jV _ 1 _ _ rfl (by walk_at "v")) (@ja0 _) (star1 rfl)) (star1 rfl)) (by decide) (star1 rfl) (stars rfl)) (by rfl) (by walk_at "f")) (@jsc _ _ _ _ _ (@jsif _ _ _ _ _ _ _ _ (@tcmp _ _ _ _ _ _ _ _ c_lt (@jV _ 1 _ _ rfl (by walk_at "v")) (@ji _ _ _ _) (nomark _)) (@js1 _ _ _ (@jset _ _ _ _ (2) _ _ sc_P_ratio_of.nd rfl (Or.inl rfl) (@jneg _ _ _ _ (@jV _ 2 _ _ rfl (by walk_at "v"))) (by rfl) (by walk_at "f"))) (@js0 _)) (@js1 _ _ _ (@jret _ _ _ _ (@jtup _ _ _ _ _ (@ja _ _ _ _ _ (@jop _ _ _ _ _ _ _ _ b_div (@jV _ 0 _ _ rfl (by walk_at "v")) (@jV _ 2 _ _ rfl (by walk_at "v"))) (@ja _ _ _ _ _ (@jop _ _ _ _ _ _ _ _ b_div (@jV _ 1 _ _ rfl (by walk_at "v")) (@jV _ 2 _ _ rfl (by walk_at "v"))) (@ja0 _) (star1 rfl)) (star1 rfl)))))))))) ok_P_ratio_of)
abbrev st_P_ratio_less : Stmt := top 10
theorem sc_P_ratio_less : FnScope ["one", "other"] ["one", "other"] (defScope st_P_ratio_less) := by walk_at "s"
theorem fn_P_ratio_less {f : Addr} {fd : FuncData} (F : Fun K "ratio_less" "ratio_less" st_P_ratio_less f fd) (m : mg "ratio_less" = some (.ref f)) (C_P_ratio_of : Cal P w K mg base 2 "ratio_of" ["top", "bottom"] sp_P_ratio_of) : Cal P w K mg base 3 "ratio_less" ["one", "other"] sp_P_ratio_less :=
  .mk F m (F.binds fun _ _ _ _ _ _ us hl => args2 hl fun _ _ => rfl) (fnT (W := w_P_ratio_less) F sc_P_ratio_less len_P_ratio_less (fun cdv A outer s H E hr =>
    (@js1 _ _ _ (@jret _ _ _ _ (@jcallC _ _ _ _ _ _ _ _ _ _ C_P_ratio_of (hr.mono (by omega)) rfl (@ja _ _ _ _ _ (@jop _ _ _ _ _ _ _ _ b_sub (@jop _ _ _ _ _ _ _ _ b_mul (@jix _ _ _ _ _ _ (@jV _ 0 _ _ rfl (by walk_at "v")) (@ji _ _ _ _) (fun _ _ => rfl)) (@jix _ _ _ _ _ _ (@jV _ 1 _ _ rfl (by walk_at "v")) (@ji _ _ _ _) (fun _ _ => rfl))) (@jop _ _ _ _ _ _ _ _ b_mul (@jix _ _ _ _ _ _ (@jV _ 1 _ _ rfl (by walk_at "v")) (@ji _ _ _ _) (fun _ _ => rfl)) (@jix _ _ _ _ _ _ (@jV _ 0 _ _ rfl (by walk_at "v")) (@ji _ _ _ _) (fun _ _ => rfl)))) (@ja _ _ _ _ _ (@jop _ _ _ _ _ _ _ _ b_mul (@jix _ _ _ _ _ _ (@jV _ 0 _ _ rfl (by walk_at "v")) (@ji _ _ _ _) (fun _ _ => rfl)) (@jix _ _ _ _ _ _ (@jV _ 1 _ _ rfl (by walk_at "v")) (@ji _ _ _ _) (fun _ _ => rfl))) (@ja0 _) (star1 rfl)) (star1 rfl)) (by decide) (star1 rfl) (stars rfl))))) ok_P_ratio_less)
abbrev st_P_point_less : Stmt := top 24
theorem sc_P_point_less : FnScope ["point", "triple"] ["point", "triple"] (defScope st_P_point_less) := by walk_at "s"
theorem fn_P_point_less {f : Addr} {fd : FuncData} (F : Fun K "point_less" "point_less" st_P_point_less f fd) (m : mg "point_less" = some (.ref f)) (C_P_ratio_less : Cal P w K mg base 3 "ratio_less" ["one", "other"] sp_P_ratio_less) (z_range : mg "range" = none) (z_tuple : mg "tuple" = none) : Cal P w K mg base 4 "point_less" ["point", "triple"] sp_P_point_less :=
  .mk F m (F.binds fun _ _ _ _ _ _ us hl => args2 hl fun _ _ => rfl) (fnT (W := w_P_point_less) F sc_P_point_less len_P_point_less (fun cdv A outer s H E hr =>
    (@js1 _ _ _ (@jret _ _ _ _ (@jty _ _ _ _ _ _ _ _ _ ty_tuple rfl z_tuple boot_tuple (@ja _ _ _ _ _ (@jcomp _ _ _ _ _ _ _ (defScope st_P_point_less) (["axis"]) (["point" , "triple"]) ([("point" , 0) , ("triple" , 1)]) _ _ _ _ rfl rfl rfl (@jiRange1 _ _ _ _ _ _ rfl z_range (@ja _ _ _ _ _ (@ji _ _ _ _) (@ja0 _) (star1 rfl)) (by rfl)) rfl rfl (by decide +kernel) (by decide +kernel) (by decide +kernel) (by decide +kernel) (fun cl C s3 H2 ex => (@jg _ _ (0) _ (show List.Nodup (["axis" , "point" , "triple"] : List Str) from by decide +kernel) rfl (Or.inl rfl) (by walk_at "f"))) (fun cl C s3 H2 ex => (@jts0 _)) (fun cl C s3 H2 ex => (@jcallC _ _ _ _ _ _ _ _ _ _ C_P_ratio_less (hr.mono (by omega)) rfl (@ja _ _ _ _ _ (@jix _ _ _ _ _ _ (@jV _ 1 _ _ rfl (by walk_at "v")) (@jV _ 0 _ _ rfl (by walk_at "v")) (fun _ _ => rfl)) (@ja _ _ _ _ _ (@jtup _ _ _ _ _ (@ja _ _ _ _ _ (@jix _ _ _ _ _ _ (@jV _ 2 _ _ rfl (by walk_at "v")) (@jV _ 0 _ _ rfl (by walk_at "v")) (fun _ _ => rfl)) (@ja _ _ _ _ _ (@ji _ _ _ _) (@ja0 _) (star1 rfl)) (star1 rfl))) (@ja0 _) (star1 rfl)) (star1 rfl)) (by decide) (star1 rfl) (stars rfl))) (fun _ => rfl)) (@ja0 _) (star1 rfl)) (by decide) (by decide) (star1 rfl) (stars rfl))))) ok_P_point_less)
abbrev st_P_ratio_times : Stmt := top 11
theorem sc_P_ratio_times : FnScope ["one", "other"] ["one", "other"] (defScope st_P_ratio_times) := by walk_at "s"
theorem fn_P_ratio_times {f : Addr} {fd : FuncData} (F : Fun K "ratio_times" "ratio_times" st_P_ratio_times f fd) (m : mg "ratio_times" = some (.ref f)) (C_P_ratio_of : Cal P w K mg base 2 "ratio_of" ["top", "bottom"] sp_P_ratio_of) : Cal P w K mg base 3 "ratio_times" ["one", "other"] sp_P_ratio_times :=
  .mk F m (F.binds fun _ _ _ _ _ _ us hl => args2 hl fun _ _ => rfl) (fnT (W := w_P_ratio_times) F sc_P_ratio_times len_P_ratio_times (fun cdv A outer s H E hr =>
    (@js1 _ _ _ (@jret _ _ _ _ (@jcallC _ _ _ _ _ _ _ _ _ _ C_P_ratio_of (hr.mono (by omega)) rfl (@ja _ _ _ _ _ (@jop _ _ _ _ _ _ _ _ b_mul (@jix _ _ _ _ _ _ (@jV _ 0 _ _ rfl (by walk_at "v")) (@ji _ _ _ _) (fun _ _ => rfl)) (@jix _ _ _ _ _ _ (@jV _ 1 _ _ rfl (by walk_at "v")) (@ji _ _ _ _) (fun _ _ => rfl))) (@ja _ _ _ _ _ (@jop _ _ _ _ _ _ _ _ b_mul (@jix _ _ _ _ _ _ (@jV _ 0 _ _ rfl (by walk_at "v")) (@ji _ _ _ _) (fun _ _ => rfl)) (@jix _ _ _ _ _ _ (@jV _ 1 _ _ rfl (by walk_at "v")) (@ji _ _ _ _) (fun _ _ => rfl))) (@ja0 _) (star1 rfl)) (star1 rfl)) (by decide) (star1 rfl) (stars rfl))))) ok_P_ratio_times)
abbrev st_P_ratio_sum : Stmt := top 9
theorem sc_P_ratio_sum : FnScope ["one", "other"] ["one", "other"] (defScope st_P_ratio_sum) := by walk_at "s"
theorem fn_P_ratio_sum {f : Addr} {fd : FuncData} (F : Fun K "ratio_sum" "ratio_sum" st_P_ratio_sum f fd) (m : mg "ratio_sum" = some (.ref f)) (C_P_ratio_of : Cal P w K mg base 2 "ratio_of" ["top", "bottom"] sp_P_ratio_of) : Cal P w K mg base 3 "ratio_sum" ["one", "other"] sp_P_ratio_sum :=
  .mk F m (F.binds fun _ _ _ _ _ _ us hl => args2 hl fun _ _ => rfl) (fnT (W := w_P_ratio_sum) F sc_P_ratio_sum len_P_ratio_sum (fun cdv A outer s H E hr =>
    (@js1 _ _ _ (@jret _ _ _ _ (@jcallC _ _ _ _ _ _ _ _ _ _ C_P_ratio_of (hr.mono (by omega)) rfl (@ja _ _ _ _ _ (@jop _ _ _ _ _ _ _ _ b_add (@jop _ _ _ _ _ _ _ _ b_mul (@jix _ _ _ _ _ _ (@jV _ 0 _ _ rfl (by walk_at "v")) (@ji _ _ _ _) (fun _ _ => rfl)) (@jix _ _ _ _ _ _ (@jV _ 1 _ _ rfl (by walk_at "v")) (@ji _ _ _ _) (fun _ _ => rfl))) (@jop _ _ _ _ _ _ _ _ b_mul (@jix _ _ _ _ _ _ (@jV _ 1 _ _ rfl (by walk_at "v")) (@ji _ _ _ _) (fun _ _ => rfl)) (@jix _ _ _ _ _ _ (@jV _ 0 _ _ rfl (by walk_at "v")) (@ji _ _ _ _) (fun _ _ => rfl)))) (@ja _ _ _ _ _ (@jop _ _ _ _ _ _ _ _ b_mul (@jix _ _ _ _ _ _ (@jV _ 0 _ _ rfl (by walk_at "v")) (@ji _ _ _ _) (fun _ _ => rfl)) (@jix _ _ _ _ _ _ (@jV _ 1 _ _ rfl (by walk_at "v")) (@ji _ _ _ _) (fun _ _ => rfl))) (@ja0 _) (star1 rfl)) (star1 rfl)) (by decide) (star1 rfl) (stars rfl))))) ok_P_ratio_sum)
abbrev st_P_point_dot : Stmt := top 25
theorem sc_P_point_dot : FnScope ["point", "triple", "products"] ["point", "triple"] (defScope st_P_point_dot) := by walk_at "s"
theorem fn_P_point_dot {f : Addr} {fd : FuncData} (F : Fun K "point_dot" "point_dot" st_P_point_dot f fd) (m : mg "point_dot" = some (.ref f)) (C_P_ratio_times : Cal P w K mg base 3 "ratio_times" ["one", "other"] sp_P_ratio_times) (C_P_ratio_sum : Cal P w K mg base 3 "ratio_sum" ["one", "other"] sp_P_ratio_sum) (z_range : mg "range" = none) : Cal P w K mg base 4 "point_dot" ["point", "triple"] sp_P_point_dot :=
  .mk F m (F.binds fun _ _ _ _ _ _ us hl => args2 hl fun _ _ => rfl) (fnT (W := w_P_point_dot) F sc_P_point_dot len_P_point_dot (fun cdv A outer s H E hr =>
    (@jsc _ _ _ _ _ (@jsetc _ _ _ _ _ _ _ (defScope st_P_point_dot) (["axis"]) (["point" , "triple" , "products"]) ([("point" , 0) , ("triple" , 1)]) _ _ _ _ (2) _ _ _ sc_P_point_dot.nd rfl (Or.inl rfl) rfl rfl rfl (@jiRange1 _ _ _ _ _ _ rfl z_range (@ja _ _ _ _ _ (@ji _ _ _ _) (@ja0 _) (star1 rfl)) (by rfl)) rfl rfl (by decide +kernel) (by decide +kernel) (by decide +kernel) (by decide +kernel) (fun cl C s3 H2 ex => (@jg _ _ (0) _ (show List.Nodup (["axis" , "point" , "triple"] : List Str) from by decide +kernel) rfl (Or.inl rfl) (by walk_at "f"))) (fun cl C s3 H2 ex => (@jts0 _)) (fun cl C s3 H2 ex => (@jcallC _ _ _ _ _ _ _ _ _ _ C_P_ratio_times (hr.mono (by omega)) rfl (@ja _ _ _ _ _ (@jix _ _ _ _ _ _ (@jV _ 1 _ _ rfl (by walk_at "v")) (@jV _ 0 _ _ rfl (by walk_at "v")) (fun _ _ => rfl)) (@ja _ _ _ _ _ (@jtup _ _ _ _ _ (@ja _ _ _ _ _ (@jix _ _ _ _ _ _ (@jV _ 2 _ _ rfl (by walk_at "v")) (@jV _ 0 _ _ rfl (by walk_at "v")) (fun _ _ => rfl)) (@ja _ _ _ _ _ (@ji _ _ _ _) (@ja0 _) (star1 rfl)) (star1 rfl))) (@ja0 _) (star1 rfl)) (star1 rfl)) (by decide) (star1 rfl) (stars rfl))) (fun _ => rfl) (by rfl) (by walk_at "f")) (@js1 _ _ _ (@jret _ _ _ _ (@jcallC _ _ _ _ _ _ _ _ _ _ C_P_ratio_sum (hr.mono (by omega)) rfl (@ja _ _ _ _ _ (@jix _ _ _ _ _ _ (@jV _ 2 _ _ rfl (by walk_at "v")) (@ji _ _ _ _) (fun _ _ => rfl)) (@ja _ _ _ _ _ (@jcallC _ _ _ _ _ _ _ _ _ _ C_P_ratio_sum (hr.mono (by omega)) rfl (@ja _ _ _ _ _ (@jix _ _ _ _ _ _ (@jV _ 2 _ _ rfl (by walk_at "v")) (@ji _ _ _ _) (fun _ _ => rfl)) (@ja _ _ _ _ _ (@jix _ _ _ _ _ _ (@jV _ 2 _ _ rfl (by walk_at "v")) (@ji _ _ _ _) (fun _ _ => rfl)) (@ja0 _) (star1 rfl)) (star1 rfl)) (by decide) (star1 rfl) (stars rfl)) (@ja0 _) (star1 rfl)) (star1 rfl)) (by decide) (star1 rfl) (stars rfl)))))) ok_P_point_dot)
abbrev st_P_ratio_by : Stmt := top 12
theorem sc_P_ratio_by : FnScope ["one", "other"] ["one", "other"] (defScope st_P_ratio_by) := by walk_at "s"
theorem fn_P_ratio_by {f : Addr} {fd : FuncData} (F : Fun K "ratio_by" "ratio_by" st_P_ratio_by f fd) (m : mg "ratio_by" = some (.ref f)) (C_P_ratio_of : Cal P w K mg base 2 "ratio_of" ["top", "bottom"] sp_P_ratio_of) : Cal P w K mg base 3 "ratio_by" ["one", "other"] sp_P_ratio_by :=
  .mk F m (F.binds fun _ _ _ _ _ _ us hl => args2 hl fun _ _ => rfl) (fnT (W := w_P_ratio_by) F sc_P_ratio_by len_P_ratio_by (fun cdv A outer s H E hr =>
    (@js1 _ _ _ (@jret _ _ _ _ (@jcallC _ _ _ _ _ _ _ _ _ _ C_P_ratio_of (hr.mono (by omega)) rfl (@ja _ _ _ _ _ (@jop _ _ _ _ _ _ _ _ b_mul (@jix _ _ _ _ _ _ (@jV _ 0 _ _ rfl (by walk_at "v")) (@ji _ _ _ _) (fun _ _ => rfl)) (@jix _ _ _ _ _ _ (@jV _ 1 _ _ rfl (by walk_at "v")) (@ji _ _ _ _) (fun _ _ => rfl))) (@ja _ _ _ _ _ (@jop _ _ _ _ _ _ _ _ b_mul (@jix _ _ _ _ _ _ (@jV _ 0 _ _ rfl (by walk_at "v")) (@ji _ _ _ _) (fun _ _ => rfl)) (@jix _ _ _ _ _ _ (@jV _ 1 _ _ rfl (by walk_at "v")) (@ji _ _ _ _) (fun _ _ => rfl))) (@ja0 _) (star1 rfl)) (star1 rfl)) (by decide) (star1 rfl) (stars rfl))))) ok_P_ratio_by)
abbrev st_P_meeting_of : Stmt := top 27
theorem sc_P_meeting_of : FnScope ["plate", "point", "direction", "across", "beyond", "along_side", "along_other"] ["plate", "point", "direction"] (defScope st_P_meeting_of) := by walk_at "s"
theorem fn_P_meeting_of {f : Addr} {fd : FuncData} (F : Fun K "meeting_of" "meeting_of" st_P_meeting_of f fd) (m : mg "meeting_of" = some (.ref f)) (C_P_front_of : Cal P w K mg base 2 "front_of" ["plate"] sp_P_front_of) (C_P_dot_of : Cal P w K mg base 1 "dot_of" ["one", "other"] sp_P_dot_of) (C_P_point_less : Cal P w K mg base 4 "point_less" ["point", "triple"] sp_P_point_less) (C_P_cross_of : Cal P w K mg base 1 "cross_of" ["one", "other"] sp_P_cross_of) (C_P_point_dot : Cal P w K mg base 4 "point_dot" ["point", "triple"] sp_P_point_dot) (C_P_ratio_by : Cal P w K mg base 3 "ratio_by" ["one", "other"] sp_P_ratio_by) : Cal P w K mg base 5 "meeting_of" ["plate", "point", "direction"] sp_P_meeting_of :=
  .mk F m (F.binds fun _ _ _ _ _ _ us hl => args3 hl fun _ _ _ => rfl) (fnT (W := w_P_meeting_of) F sc_P_meeting_of len_P_meeting_of (fun cdv A outer s H E hr =>
    (@jsc _ _ _ _ _ (@jset _ _ _ _ (3) _ _ sc_P_meeting_of.nd rfl (Or.inl rfl) (@jcallC _ _ _ _ _ _ _ _ _ _ C_P_dot_of (hr.mono (by omega)) rfl (@ja _ _ _ _ _ (@jcallC _ _ _ _ _ _ _ _ _ _ C_P_front_of (hr.mono (by omega)) rfl (@ja _ _ _ _ _ (@jV _ 0 _ _ rfl (by walk_at "v")) (@ja0 _) (star1 rfl)) (by decide) (star1 rfl) (stars rfl)) (@ja _ _ _ _ _ (@jV _ 2 _ _ rfl (by walk_at "v")) (@ja0 _) (star1 rfl)) (star1 rfl)) (by decide) (star1 rfl) (stars rfl)) (by rfl) (by walk_at "f")) (@jsc _ _ _ _ _ (@jsif _ _ _ _ _ _ _ _ (@tcmp _ _ _ _ _ _ _ _ (c_eq hr) (@jV _ 3 _ _ rfl (by walk_at "v")) (@ji _ _ _ _) (nomark _)) (@js1 _ _ _ (@jret _ _ _ _ (@jn _ _ _))) (@js0 _)) (@jsc _ _ _ _ _ (@jset _ _ _ _ (4) _ _ sc_P_meeting_of.nd rfl (Or.inl rfl) (@jcallC _ _ _ _ _ _ _ _ _ _ C_P_point_less (hr.mono (by omega)) rfl (@ja _ _ _ _ _ (@jV _ 1 _ _ rfl (by walk_at "v")) (@ja _ _ _ _ _ (@jix _ _ _ _ _ _ (@jV _ 0 _ _ rfl (by walk_at "v")) (@ji _ _ _ _) (fun _ _ => rfl)) (@ja0 _) (star1 rfl)) (star1 rfl)) (by decide) (star1 rfl) (stars rfl)) (by rfl) (by walk_at "f")) (@jsc _ _ _ _ _ (@jset _ _ _ _ (5) _ _ sc_P_meeting_of.nd rfl (Or.inl rfl) (@jcallC _ _ _ _ _ _ _ _ _ _ C_P_point_dot (hr.mono (by omega)) rfl (@ja _ _ _ _ _ (@jV _ 4 _ _ rfl (by walk_at "v")) (@ja _ _ _ _ _ (@jcallC _ _ _ _ _ _ _ _ _ _ C_P_cross_of (hr.mono (by omega)) rfl (@ja _ _ _ _ _ (@jix _ _ _ _ _ _ (@jV _ 0 _ _ rfl (by walk_at "v")) (@ji _ _ _ _) (fun _ _ => rfl)) (@ja _ _ _ _ _ (@jV _ 2 _ _ rfl (by walk_at "v")) (@ja0 _) (star1 rfl)) (star1 rfl)) (by decide) (star1 rfl) (stars rfl)) (@ja0 _) (star1 rfl)) (star1 rfl)) (by decide) (star1 rfl) (stars rfl)) (by rfl) (by walk_at "f")) (@jsc _ _ _ _ _ (@jset _ _ _ _ (6) _ _ sc_P_meeting_of.nd rfl (Or.inl rfl) (@jcallC _ _ _ _ _ _ _ _ _ _ C_P_point_dot (hr.mono (by omega)) rfl (@ja _ _ _ _ _ (@jV _ 4 _ _ rfl (by walk_at "v")) (@ja _ _ _ _ _ (@jcallC _ _ _ _ _ _ _ _ _ _ C_P_cross_of (hr.mono (by omega)) rfl (@ja _ _ _ _ _ (@jV _ 2 _ _ rfl (by walk_at "v")) (@ja _ _ _ _ _ (@jix _ _ _ _ _ _ (@jV _ 0 _ _ rfl (by walk_at "v")) (@ji _ _ _ _) (fun _ _ => rfl)) (@ja0 _) (star1 rfl)) (star1 rfl)) (by decide) (star1 rfl) (stars rfl)) (@ja0 _) (star1 rfl)) (star1 rfl)) (by decide) (star1 rfl) (stars rfl)) (by rfl) (by walk_at "f")) (@js1 _ _ _ (@jret _ _ _ _ (@jtup _ _ _ _ _ (@ja _ _ _ _ _ (@jcallC _ _ _ _ _ _ _ _ _ _ C_P_ratio_by (hr.mono (by omega)) rfl (@ja _ _ _ _ _ (@jV _ 5 _ _ rfl (by walk_at "v")) (@ja _ _ _ _ _ (@jtup _ _ _ _ _ (@ja _ _ _ _ _ (@jV _ 3 _ _ rfl (by walk_at "v")) (@ja _ _ _ _ _ (@ji _ _ _ _) (@ja0 _) (star1 rfl)) (star1 rfl))) (@ja0 _) (star1 rfl)) (star1 rfl)) (by decide) (star1 rfl) (stars rfl)) (@ja _ _ _ _ _ (@jcallC _ _ _ _ _ _ _ _ _ _ C_P_ratio_by (hr.mono (by omega)) rfl (@ja _ _ _ _ _ (@jV _ 6 _ _ rfl (by walk_at "v")) (@ja _ _ _ _ _ (@jtup _ _ _ _ _ (@ja _ _ _ _ _ (@jV _ 3 _ _ rfl (by walk_at "v")) (@ja _ _ _ _ _ (@ji _ _ _ _) (@ja0 _) (star1 rfl)) (star1 rfl))) (@ja0 _) (star1 rfl)) (star1 rfl)) (by decide) (star1 rfl) (stars rfl)) (@ja0 _) (star1 rfl)) (star1 rfl))))))))))) ok_P_meeting_of)
abbrev st_P_shadow_of : Stmt := top 28
theorem sc_P_shadow_of : FnScope ["plate", "tip", "direction"] ["plate", "tip", "direction"] (defScope st_P_shadow_of) := by walk_at "s"
theorem fn_P_shadow_of {f : Addr} {fd : FuncData} (F : Fun K "shadow_of" "shadow_of" st_P_shadow_of f fd) (m : mg "shadow_of" = some (.ref f)) (C_P_comes_from_ahead : Cal P w K mg base 3 "comes_from_ahead" ["plate", "direction"] sp_P_comes_from_ahead) (C_P_as_point : Cal P w K mg base 1 "as_point" ["triple"] sp_P_as_point) (C_P_meeting_of : Cal P w K mg base 5 "meeting_of" ["plate", "point", "direction"] sp_P_meeting_of) : Cal P w K mg base 6 "shadow_of" ["plate", "tip", "direction"] sp_P_shadow_of :=
  .mk F m (F.binds fun _ _ _ _ _ _ us hl => args3 hl fun _ _ _ => rfl) (fnT (W := w_P_shadow_of) F sc_P_shadow_of len_P_shadow_of (fun cdv A outer s H E hr =>
    (@jsc _ _ _ _ _ (@jsif _ _ _ _ _ _ _ _ (@tnot _ _ _ _ (@tval _ _ _ (@jcallC _ _ _ _ _ _ _ _ _ _ C_P_comes_from_ahead (hr.mono (by omega)) rfl (@ja _ _ _ _ _ (@jV _ 0 _ _ rfl (by walk_at "v")) (@ja _ _ _ _ _ (@jV _ 2 _ _ rfl (by walk_at "v")) (@ja0 _) (star1 rfl)) (star1 rfl)) (by decide) (star1 rfl) (stars rfl)) (fun _ => rfl))) (@js1 _ _ _ (@jret _ _ _ _ (@jn _ _ _))) (@js0 _)) (@js1 _ _ _ (@jret _ _ _ _ (@jcallC _ _ _ _ _ _ _ _ _ _ C_P_meeting_of (hr.mono (by omega)) rfl (@ja _ _ _ _ _ (@jV _ 0 _ _ rfl (by walk_at "v")) (@ja _ _ _ _ _ (@jcallC _ _ _ _ _ _ _ _ _ _ C_P_as_point (hr.mono (by omega)) rfl (@ja _ _ _ _ _ (@jV _ 1 _ _ rfl (by walk_at "v")) (@ja0 _) (star1 rfl)) (by decide) (star1 rfl) (stars rfl)) (@ja _ _ _ _ _ (@jV _ 2 _ _ rfl (by walk_at "v")) (@ja0 _) (star1 rfl)) (star1 rfl)) (star1 rfl)) (by decide) (star1 rfl) (stars rfl)))))) ok_P_shadow_of)
abbrev st_P_lies_on : Stmt := top 20
theorem sc_P_lies_on : FnScope ["place"] ["place"] (defScope st_P_lies_on) := by walk_at "s"
theorem fn_P_lies_on {f : Addr} {fd : FuncData} (F : Fun K "lies_on" "lies_on" st_P_lies_on f fd) (m : mg "lies_on" = some (.ref f)) (z_all : mg "all" = none) : Cal P w K mg base 1 "lies_on" ["place"] sp_P_lies_on :=
  .mk F m (F.binds fun _ _ _ _ _ _ us hl => args1 hl fun _ => rfl) (fnT (W := w_P_lies_on) F sc_P_lies_on len_P_lies_on (fun cdv A outer s H E hr =>
    (@js1 _ _ _ (@jret _ _ _ _ (@jblt _ _ _ _ _ _ _ _ _ (bl_all rfl) rfl z_all boot_all (@ja _ _ _ _ _ (@jcomp _ _ _ _ _ _ _ (defScope st_P_lies_on) (["ratio"]) (["place"]) ([]) _ _ _ _ rfl rfl rfl (@jiSeq _ _ _ _ (@jV _ 0 _ _ rfl (by walk_at "v"))) rfl rfl (by decide +kernel) (by decide +kernel) (by decide +kernel) (by decide +kernel) (fun cl C s3 H2 ex => (@jg _ _ (0) _ (show List.Nodup (["ratio"] : List Str) from by decide +kernel) rfl (Or.inl rfl) (by walk_at "f"))) (fun cl C s3 H2 ex => (@jts0 _)) (fun cl C s3 H2 ex => (@jchain _ _ _ _ _ _ _ _ _ _ _ _ c_le c_le (@ji _ _ _ _) (@jix _ _ _ _ _ _ (@jV _ 0 _ _ rfl (by walk_at "v")) (@ji _ _ _ _) (fun _ _ => rfl)) (@jix _ _ _ _ _ _ (@jV _ 0 _ _ rfl (by walk_at "v")) (@ji _ _ _ _) (fun _ _ => rfl)) (by with_unfolding_all rfl))) (fun _ => rfl)) (@ja0 _) (star1 rfl)) (by decide) (by decide) (star1 rfl) (stars rfl))))) ok_P_lies_on)
abbrev st_P_number_at : Stmt := top 18
theorem sc_P_number_at : FnScope ["plate", "place", "axis", "along_side", "along_other"] ["plate", "place", "axis"] (defScope st_P_number_at) := by walk_at "s"
theorem fn_P_number_at {f : Addr} {fd : FuncData} (F : Fun K "number_at" "number_at" st_P_number_at f fd) (m : mg "number_at" = some (.ref f)) (C_P_ratio_times : Cal P w K mg base 3 "ratio_times" ["one", "other"] sp_P_ratio_times) (C_P_ratio_sum : Cal P w K mg base 3 "ratio_sum" ["one", "other"] sp_P_ratio_sum) : Cal P w K mg base 4 "number_at" ["plate", "place", "axis"] sp_P_number_at :=
  .mk F m (F.binds fun _ _ _ _ _ _ us hl => args3 hl fun _ _ _ => rfl) (fnT (W := w_P_number_at) F sc_P_number_at len_P_number_at (fun cdv A outer s H E hr =>
    (@jsc _ _ _ _ _ (@jset _ _ _ _ (3) _ _ sc_P_number_at.nd rfl (Or.inl rfl) (@jcallC _ _ _ _ _ _ _ _ _ _ C_P_ratio_times (hr.mono (by omega)) rfl (@ja _ _ _ _ _ (@jix _ _ _ _ _ _ (@jV _ 1 _ _ rfl (by walk_at "v")) (@ji _ _ _ _) (fun _ _ => rfl)) (@ja _ _ _ _ _ (@jtup _ _ _ _ _ (@ja _ _ _ _ _ (@jix _ _ _ _ _ _ (@jix _ _ _ _ _ _ (@jV _ 0 _ _ rfl (by walk_at "v")) (@ji _ _ _ _) (fun _ _ => rfl)) (@jV _ 2 _ _ rfl (by walk_at "v")) (fun _ _ => rfl)) (@ja _ _ _ _ _ (@ji _ _ _ _) (@ja0 _) (star1 rfl)) (star1 rfl))) (@ja0 _) (star1 rfl)) (star1 rfl)) (by decide) (star1 rfl) (stars rfl)) (by rfl) (by walk_at "f")) (@jsc _ _ _ _ _ (@jset _ _ _ _ (4) _ _ sc_P_number_at.nd rfl (Or.inl rfl) (@jcallC _ _ _ _ _ _ _ _ _ _ C_P_ratio_times (hr.mono (by omega)) rfl (@ja _ _ _ _ _ (@jix _ _ _ _ _ _ (@jV _ 1 _ _ rfl (by walk_at "v")) (@ji _ _ _ _) (fun _ _ => rfl)) (@ja _ _ _ _ _ (@jtup _ _ _ _ _ (@ja _ _ _ _ _ (@jix _ _ _ _ _ _ (@jix _ _ _ _ _ _ (@jV _ 0 _ _ rfl (by walk_at "v")) (@ji _ _ _ _) (fun _ _ => rfl)) (@jV _ 2 _ _ rfl (by walk_at "v")) (fun _ _ => rfl)) (@ja _ _ _ _ _ (@ji _ _ _ _) (@ja0 _) (star1 rfl)) (star1 rfl))) (@ja0 _) (star1 rfl)) (star1 rfl)) (by decide) (star1 rfl) (stars rfl)) (by rfl) (by walk_at "f")) (@js1 _ _ _ (@jret _ _ _ _ (@jcallC _ _ _ _ _ _ _ _ _ _ C_P_ratio_sum (hr.mono (by omega)) rfl (@ja _ _ _ _ _ (@jtup _ _ _ _ _ (@ja _ _ _ _ _ (@jix _ _ _ _ _ _ (@jix _ _ _ _ _ _ (@jV _ 0 _ _ rfl (by walk_at "v")) (@ji _ _ _ _) (fun _ _ => rfl)) (@jV _ 2 _ _ rfl (by walk_at "v")) (fun _ _ => rfl)) (@ja _ _ _ _ _ (@ji _ _ _ _) (@ja0 _) (star1 rfl)) (star1 rfl))) (@ja _ _ _ _ _ (@jcallC _ _ _ _ _ _ _ _ _ _ C_P_ratio_sum (hr.mono (by omega)) rfl (@ja _ _ _ _ _ (@jV _ 3 _ _ rfl (by walk_at "v")) (@ja _ _ _ _ _ (@jV _ 4 _ _ rfl (by walk_at "v")) (@ja0 _) (star1 rfl)) (star1 rfl)) (by decide) (star1 rfl) (stars rfl)) (@ja0 _) (star1 rfl)) (star1 rfl)) (by decide) (star1 rfl) (stars rfl))))))) ok_P_number_at)
abbrev st_P_point_of : Stmt := top 19
theorem sc_P_point_of : FnScope ["plate", "place"] ["plate", "place"] (defScope st_P_point_of) := by walk_at "s"
theorem fn_P_point_of {f : Addr} {fd : FuncData} (F : Fun K "point_of" "point_of" st_P_point_of f fd) (m : mg "point_of" = some (.ref f)) (C_P_number_at : Cal P w K mg base 4 "number_at" ["plate", "place", "axis"] sp_P_number_at) (z_range : mg "range" = none) (z_tuple : mg "tuple" = none) : Cal P w K mg base 5 "point_of" ["plate", "place"] sp_P_point_of :=
  .mk F m (F.binds fun _ _ _ _ _ _ us hl => args2 hl fun _ _ => rfl) (fnT (W := w_P_point_of) F sc_P_point_of len_P_point_of (fun cdv A outer s H E hr =>
    (@js1 _ _ _ (@jret _ _ _ _ (@jty _ _ _ _ _ _ _ _ _ ty_tuple rfl z_tuple boot_tuple (@ja _ _ _ _ _ (@jcomp _ _ _ _ _ _ _ (defScope st_P_point_of) (["axis"]) (["plate" , "place"]) ([("plate" , 0) , ("place" , 1)]) _ _ _ _ rfl rfl rfl (@jiRange1 _ _ _ _ _ _ rfl z_range (@ja _ _ _ _ _ (@ji _ _ _ _) (@ja0 _) (star1 rfl)) (by rfl)) rfl rfl (by decide +kernel) (by decide +kernel) (by decide +kernel) (by decide +kernel) (fun cl C s3 H2 ex => (@jg _ _ (0) _ (show List.Nodup (["axis" , "plate" , "place"] : List Str) from by decide +kernel) rfl (Or.inl rfl) (by walk_at "f"))) (fun cl C s3 H2 ex => (@jts0 _)) (fun cl C s3 H2 ex => (@jcallC _ _ _ _ _ _ _ _ _ _ C_P_number_at (hr.mono (by omega)) rfl (@ja _ _ _ _ _ (@jV _ 1 _ _ rfl (by walk_at "v")) (@ja _ _ _ _ _ (@jV _ 2 _ _ rfl (by walk_at "v")) (@ja _ _ _ _ _ (@jV _ 0 _ _ rfl (by walk_at "v")) (@ja0 _) (star1 rfl)) (star1 rfl)) (star1 rfl)) (by decide) (star1 rfl) (stars rfl))) (fun _ => rfl)) (@ja0 _) (star1 rfl)) (by decide) (by decide) (star1 rfl) (stars rfl))))) ok_P_point_of)
abbrev st_P_goes_towards : Stmt := top 30
theorem sc_P_goes_towards : FnScope ["plate", "point", "direction", "front", "height"] ["plate", "point", "direction"] (defScope st_P_goes_towards) := by walk_at "s"
theorem fn_P_goes_towards {f : Addr} {fd : FuncData} (F : Fun K "goes_towards" "goes_towards" st_P_goes_towards f fd) (m : mg "goes_towards" = some (.ref f)) (C_P_front_of : Cal P w K mg base 2 "front_of" ["plate"] sp_P_front_of) (C_P_point_less : Cal P w K mg base 4 "point_less" ["point", "triple"] sp_P_point_less) (C_P_point_dot : Cal P w K mg base 4 "point_dot" ["point", "triple"] sp_P_point_dot) (C_P_dot_of : Cal P w K mg base 1 "dot_of" ["one", "other"] sp_P_dot_of) : Cal P w K mg base 5 "goes_towards" ["plate", "point", "direction"] sp_P_goes_towards :=
  .mk F m (F.binds fun _ _ _ _ _ _ us hl => args3 hl fun _ _ _ => rfl) (fnT (W := w_P_goes_towards) F sc_P_goes_towards len_P_goes_towards (fun cdv A outer s H E hr =>
    (@jsc _ _ _ _ _ (@jset _ _ _ _ (3) _ _ sc_P_goes_towards.nd rfl (Or.inl rfl) (@jcallC _ _ _ _ _ _ _ _ _ _ C_P_front_of (hr.mono (by omega)) rfl (@ja _ _ _ _ _ (@jV _ 0 _ _ rfl (by walk_at "v")) (@ja0 _) (star1 rfl)) (by decide) (star1 rfl) (stars rfl)) (by rfl) (by walk_at "f")) (@jsc _ _ _ _ _ (@jset _ _ _ _ (4) _ _ sc_P_goes_towards.nd rfl (Or.inl rfl) (@jcallC _ _ _ _ _ _ _ _ _ _ C_P_point_dot (hr.mono (by omega)) rfl (@ja _ _ _ _ _ (@jcallC _ _ _ _ _ _ _ _ _ _ C_P_point_less (hr.mono (by omega)) rfl (@ja _ _ _ _ _ (@jV _ 1 _ _ rfl (by walk_at "v")) (@ja _ _ _ _ _ (@jix _ _ _ _ _ _ (@jV _ 0 _ _ rfl (by walk_at "v")) (@ji _ _ _ _) (fun _ _ => rfl)) (@ja0 _) (star1 rfl)) (star1 rfl)) (by decide) (star1 rfl) (stars rfl)) (@ja _ _ _ _ _ (@jV _ 3 _ _ rfl (by walk_at "v")) (@ja0 _) (star1 rfl)) (star1 rfl)) (by decide) (star1 rfl) (stars rfl)) (by rfl) (by walk_at "f")) (@js1 _ _ _ (@jret _ _ _ _ (@jcmp _ _ _ _ _ _ _ _ c_lt (@jop _ _ _ _ _ _ _ _ b_mul (@jix _ _ _ _ _ _ (@jV _ 4 _ _ rfl (by walk_at "v")) (@ji _ _ _ _) (fun _ _ => rfl)) (@jcallC _ _ _ _ _ _ _ _ _ _ C_P_dot_of (hr.mono (by omega)) rfl (@ja _ _ _ _ _ (@jV _ 3 _ _ rfl (by walk_at "v")) (@ja _ _ _ _ _ (@jV _ 2 _ _ rfl (by walk_at "v")) (@ja0 _) (star1 rfl)) (star1 rfl)) (by decide) (star1 rfl) (stars rfl))) (@ji _ _ _ _) (nomark _))))))) ok_P_goes_towards)
abbrev st_P_hides_point : Stmt := top 31
theorem sc_P_hides_point : FnScope ["plate", "point", "direction"] ["plate", "point", "direction"] (defScope st_P_hides_point) := by walk_at "s"
theorem fn_P_hides_point {f : Addr} {fd : FuncData} (F : Fun K "hides_point" "hides_point" st_P_hides_point f fd) (m : mg "hides_point" = some (.ref f)) (C_P_goes_towards : Cal P w K mg base 5 "goes_towards" ["plate", "point", "direction"] sp_P_goes_towards) (C_P_meeting_of : Cal P w K mg base 5 "meeting_of" ["plate", "point", "direction"] sp_P_meeting_of) (C_P_lies_on : Cal P w K mg base 1 "lies_on" ["place"] sp_P_lies_on) : Cal P w K mg base 6 "hides_point" ["plate", "point", "direction"] sp_P_hides_point :=
  .mk F m (F.binds fun _ _ _ _ _ _ us hl => args3 hl fun _ _ _ => rfl) (fnT (W := w_P_hides_point) F sc_P_hides_point len_P_hides_point (fun cdv A outer s H E hr =>
    (@js1 _ _ _ (@jret _ _ _ _ (@jand _ _ _ _ _ _ _ (@jcallC _ _ _ _ _ _ _ _ _ _ C_P_goes_towards (hr.mono (by omega)) rfl (@ja _ _ _ _ _ (@jV _ 0 _ _ rfl (by walk_at "v")) (@ja _ _ _ _ _ (@jV _ 1 _ _ rfl (by walk_at "v")) (@ja _ _ _ _ _ (@jV _ 2 _ _ rfl (by walk_at "v")) (@ja0 _) (star1 rfl)) (star1 rfl)) (star1 rfl)) (by decide) (star1 rfl) (stars rfl)) (@jone _ _ _ _ _ (@jcallC _ _ _ _ _ _ _ _ _ _ C_P_lies_on (hr.mono (by omega)) rfl (@ja _ _ _ _ _ (@jcallC _ _ _ _ _ _ _ _ _ _ C_P_meeting_of (hr.mono (by omega)) rfl (@ja _ _ _ _ _ (@jV _ 0 _ _ rfl (by walk_at "v")) (@ja _ _ _ _ _ (@jV _ 1 _ _ rfl (by walk_at "v")) (@ja _ _ _ _ _ (@jV _ 2 _ _ rfl (by walk_at "v")) (@ja0 _) (star1 rfl)) (star1 rfl)) (star1 rfl)) (by decide) (star1 rfl) (stars rfl)) (@ja0 _) (star1 rfl)) (by decide) (star1 rfl) (stars rfl))))))) ok_P_hides_point)
abbrev st_P_names_hiding : Stmt := top 37
theorem sc_P_names_hiding : FnScope ["yard", "dial", "place", "direction", "point", "others"] ["yard", "dial", "place", "direction"] (defScope st_P_names_hiding) := by walk_at "s"
theorem fn_P_names_hiding {f : Addr} {fd : FuncData} (F : Fun K "names_hiding" "names_hiding" st_P_names_hiding f fd) (m : mg "names_hiding" = some (.ref f)) (C_P_point_of : Cal P w K mg base 5 "point_of" ["plate", "place"] sp_P_point_of) (C_P_hides_point : Cal P w K mg base 6 "hides_point" ["plate", "point", "direction"] sp_P_hides_point) (z_sorted : mg "sorted" = none) : CalO P w K mg base 7 "names_hiding" ["yard", "dial", "place", "direction"] sp_P_names_hiding :=
  .mk F m (F.binds fun _ _ _ _ _ _ us hl => args4 hl fun _ _ _ _ => rfl) (fnOe (W := w_P_names_hiding) (we := w_P_names_hiding_r) (ini := (defBody st_P_names_hiding).dropLast) F sc_P_names_hiding len_P_names_hiding rfl (fun cdv A outer s H E hr => ⟨
    (@jsc _ _ _ _ _ (@jset _ _ _ _ (4) _ _ sc_P_names_hiding.nd rfl (Or.inr rfl) (@jcallC _ _ _ _ _ _ _ _ _ _ C_P_point_of (hr.mono (by omega)) rfl (@ja _ _ _ _ _ (@jix _ _ _ _ _ _ (@jV _ 1 _ _ rfl (by walk_at "v")) (@ji _ _ _ _) (fun _ _ => rfl)) (@ja _ _ _ _ _ (@jV _ 2 _ _ rfl (by walk_at "v")) (@ja0 _) (star1 rfl)) (star1 rfl)) (by decide) (star1 rfl) (stars rfl)) (by rfl) (by walk_at "f")) (@js1 _ _ _ (@jsetc _ _ _ _ _ _ _ (defScope st_P_names_hiding) (["thing"]) (["yard" , "dial" , "place" , "direction" , "point" , "others"]) ([("dial" , 1)]) _ _ _ _ (5) _ _ _ sc_P_names_hiding.nd rfl (Or.inl rfl) rfl rfl rfl (@jiSeq _ _ _ _ (@jop _ _ _ _ _ _ _ _ b_cat (@jix _ _ _ _ _ _ (@jV _ 0 _ _ rfl (by walk_at "v")) (@ji _ _ _ _) (fun _ _ => rfl)) (@jix _ _ _ _ _ _ (@jV _ 0 _ _ rfl (by walk_at "v")) (@ji _ _ _ _) (fun _ _ => rfl)))) rfl rfl (by decide +kernel) (by decide +kernel) (by decide +kernel) (by decide +kernel) (fun cl C s3 H2 ex => (@jg _ _ (0) _ (show List.Nodup (["thing" , "dial"] : List Str) from by decide +kernel) rfl (Or.inl rfl) (by walk_at "f"))) (fun cl C s3 H2 ex => (@jts1 _ _ _ (@tcmp _ _ _ _ _ _ _ _ (c_ne hr) (@jix _ _ _ _ _ _ (@jV _ 0 _ _ rfl (by walk_at "v")) (@ji _ _ _ _) (fun _ _ => rfl)) (@jix _ _ _ _ _ _ (@jV _ 1 _ _ rfl (by walk_at "v")) (@ji _ _ _ _) (fun _ _ => rfl)) (nomark _)))) (fun cl C s3 H2 ex => (@jV _ 0 _ _ rfl (by walk_at "v"))) (fun _ => rfl) (by rfl) (by walk_at "f")))), (@jbltF _ _ _ _ _ _ _ _ _ bl_sortedF rfl z_sorted boot_sorted (@ja _ _ _ _ _ (@jcomp _ _ _ _ _ _ _ (defScope st_P_names_hiding) (["thing"]) (["yard" , "dial" , "place" , "direction" , "point" , "others"]) ([("point" , 4) , ("direction" , 3)]) _ _ _ _ rfl rfl rfl (@jiSeq _ _ _ _ (@jV _ 5 _ _ rfl (by walk_at "v"))) rfl rfl (by decide +kernel) (by decide +kernel) (by decide +kernel) (by decide +kernel) (fun cl C s3 H2 ex => (@jg _ _ (0) _ (show List.Nodup (["thing" , "point" , "direction"] : List Str) from by decide +kernel) rfl (Or.inl rfl) (by walk_at "f"))) (fun cl C s3 H2 ex => (@jts1 _ _ _ (@tval _ _ _ (@jcallC _ _ _ _ _ _ _ _ _ _ C_P_hides_point (hr.mono (by omega)) rfl (@ja _ _ _ _ _ (@jix _ _ _ _ _ _ (@jV _ 0 _ _ rfl (by walk_at "v")) (@ji _ _ _ _) (fun _ _ => rfl)) (@ja _ _ _ _ _ (@jV _ 1 _ _ rfl (by walk_at "v")) (@ja _ _ _ _ _ (@jV _ 2 _ _ rfl (by walk_at "v")) (@ja0 _) (star1 rfl)) (star1 rfl)) (star1 rfl)) (by decide) (star1 rfl) (stars rfl)) (fun _ => rfl)))) (fun cl C s3 H2 ex => (@jix _ _ _ _ _ _ (@jV _ 0 _ _ rfl (by walk_at "v")) (@ji _ _ _ _) (fun _ _ => rfl))) (fun _ => rfl)) (@ja0 _) (star1 rfl)) (by decide) (by decide) (star1 rfl) (stars rfl))⟩) ok_P_names_hiding)
abbrev st_P_told_at : Stmt := top 38
theorem sc_P_told_at : FnScope ["yard", "hour", "name", "direction", "dial", "place", "names"] ["yard", "hour", "name"] (defScope st_P_told_at) := by walk_at "s"
theorem fn_P_told_at {f : Addr} {fd : FuncData} (F : Fun K "told_at" "told_at" st_P_told_at f fd) (m : mg "told_at" = some (.ref f)) (C_P_direction_at : Cal P w K mg base 2 "direction_at" ["sun", "hour"] sp_P_direction_at) (C_P_dial_of : Cal P w K mg base 1 "dial_of" ["yard", "name"] sp_P_dial_of) (C_P_is_up : Cal P w K mg base 3 "is_up" ["sun", "hour"] sp_P_is_up) (C_P_shadow_of : Cal P w K mg base 6 "shadow_of" ["plate", "tip", "direction"] sp_P_shadow_of) (C_P_lies_on : Cal P w K mg base 1 "lies_on" ["place"] sp_P_lies_on) (C_P_names_hiding : CalO P w K mg base 7 "names_hiding" ["yard", "dial", "place", "direction"] sp_P_names_hiding) : CalOT P w K mg base 8 "told_at" ["yard", "hour", "name"] sp_P_told_at :=
  .mk F m (F.binds fun _ _ _ _ _ _ us hl => args3 hl fun _ _ _ => rfl) (fnOTr (W := w_P_told_at) F sc_P_told_at len_P_told_at (fun cdv A outer s H E hr =>
    (@jot_c _ _ _ _ _ (@jot_s _ _ _ (@jset _ _ _ _ (3) _ _ sc_P_told_at.nd rfl (Or.inl rfl) (@jcallC _ _ _ _ _ _ _ _ _ _ C_P_direction_at (hr.mono (by omega)) rfl (@ja _ _ _ _ _ (@jix _ _ _ _ _ _ (@jV _ 0 _ _ rfl (by walk_at "v")) (@ji _ _ _ _) (fun _ _ => rfl)) (@ja _ _ _ _ _ (@jV _ 1 _ _ rfl (by walk_at "v")) (@ja0 _) (star1 rfl)) (star1 rfl)) (by decide) (star1 rfl) (stars rfl)) (by rfl) (by walk_at "f"))) (@jot_c _ _ _ _ _ (@jot_s _ _ _ (@jset _ _ _ _ (4) _ _ sc_P_told_at.nd rfl (Or.inl rfl) (@jcallC _ _ _ _ _ _ _ _ _ _ C_P_dial_of (hr.mono (by omega)) rfl (@ja _ _ _ _ _ (@jV _ 0 _ _ rfl (by walk_at "v")) (@ja _ _ _ _ _ (@jV _ 2 _ _ rfl (by walk_at "v")) (@ja0 _) (star1 rfl)) (star1 rfl)) (by decide) (star1 rfl) (stars rfl)) (by rfl) (by walk_at "f"))) (@jot_c _ _ _ _ _ (@jot_if _ _ _ _ _ _ _ _ (@tnot _ _ _ _ (@tval _ _ _ (@jcallC _ _ _ _ _ _ _ _ _ _ C_P_is_up (hr.mono (by omega)) rfl (@ja _ _ _ _ _ (@jix _ _ _ _ _ _ (@jV _ 0 _ _ rfl (by walk_at "v")) (@ji _ _ _ _) (fun _ _ => rfl)) (@ja _ _ _ _ _ (@jV _ 1 _ _ rfl (by walk_at "v")) (@ja0 _) (star1 rfl)) (star1 rfl)) (by decide) (star1 rfl) (stars rfl)) (fun _ => rfl))) (@jot_1 _ _ _ (@jot_retP _ _ _ _ _ _ (@ja _ _ _ _ _ (@js _ _ _ _) (@ja0 _) (star1 rfl)))) (@jot_nil _)) (@jot_c _ _ _ _ _ (@jot_s _ _ _ (@jset _ _ _ _ (5) _ _ sc_P_told_at.nd rfl (Or.inl rfl) (@jcallC _ _ _ _ _ _ _ _ _ _ C_P_shadow_of (hr.mono (by omega)) rfl (@ja _ _ _ _ _ (@jix _ _ _ _ _ _ (@jV _ 4 _ _ rfl (by walk_at "v")) (@ji _ _ _ _) (fun _ _ => rfl)) (@ja _ _ _ _ _ (@jix _ _ _ _ _ _ (@jV _ 4 _ _ rfl (by walk_at "v")) (@ji _ _ _ _) (fun _ _ => rfl)) (@ja _ _ _ _ _ (@jV _ 3 _ _ rfl (by walk_at "v")) (@ja0 _) (star1 rfl)) (star1 rfl)) (star1 rfl)) (by decide) (star1 rfl) (stars rfl)) (by rfl) (by walk_at "f"))) (@jot_c _ _ _ _ _ (@jot_if _ _ _ _ _ _ _ _ (@tcmp _ _ _ _ _ _ _ _ c_is (@jV _ 5 _ _ rfl (by walk_at "v")) (@jn _ _ _) (nomark _)) (@jot_1 _ _ _ (@jot_retP _ _ _ _ _ _ (@ja _ _ _ _ _ (@js _ _ _ _) (@ja0 _) (star1 rfl)))) (@jot_nil _)) (@jot_c _ _ _ _ _ (@jot_if _ _ _ _ _ _ _ _ (@tnot _ _ _ _ (@tval _ _ _ (@jcallC _ _ _ _ _ _ _ _ _ _ C_P_lies_on (hr.mono (by omega)) rfl (@ja _ _ _ _ _ (@jV _ 5 _ _ rfl (by walk_at "v")) (@ja0 _) (star1 rfl)) (by decide) (star1 rfl) (stars rfl)) (fun _ => rfl))) (@jot_1 _ _ _ (@jot_retP _ _ _ _ _ _ (@ja _ _ _ _ _ (@js _ _ _ _) (@ja _ _ _ _ _ (@jV _ 5 _ _ rfl (by walk_at "v")) (@ja0 _) (star1 rfl)) (star1 rfl)))) (@jot_nil _)) (@jot_c _ _ _ _ _ (@jot_s _ _ _ (@jsetO _ _ _ _ _ _ (6) _ _ _ _ _ _ _ sc_P_told_at.nd rfl (Or.inl rfl) C_P_names_hiding (hr.mono (by omega)) rfl (@ja _ _ _ _ _ (@jV _ 0 _ _ rfl (by walk_at "v")) (@ja _ _ _ _ _ (@jV _ 4 _ _ rfl (by walk_at "v")) (@ja _ _ _ _ _ (@jV _ 5 _ _ rfl (by walk_at "v")) (@ja _ _ _ _ _ (@jV _ 3 _ _ rfl (by walk_at "v")) (@ja0 _) (star1 rfl)) (star1 rfl)) (star1 rfl)) (star1 rfl)) (by decide) (star1 rfl) (stars rfl) (by rfl) (by walk_at "f"))) (@jot_c _ _ _ _ _ (@jot_if _ _ _ _ _ _ _ _ (@jfzT _ 6 _ _ (@ttru _ _ _ (@jV _ 6 _ _ rfl (by walk_at "v")) (fun _ => rfl))) (@jot_1 _ _ _ (@jot_retO _ _ _ _ _ _ _ _ (@js _ _ _ _) (pv 6) (by rfl) (by rfl))) (@jot_nil _)) (@jot_1 _ _ _ (@jot_retP _ _ _ _ _ _ (@ja _ _ _ _ _ (@js _ _ _ _) (@ja _ _ _ _ _ (@jV _ 5 _ _ rfl (by walk_at "v")) (@ja0 _) (star1 rfl)) (star1 rfl))))))))))))) ok_P_told_at)
abbrev st_L_same : Stmt := top 57
theorem sc_L_same : FnScope ["_law_found", "_law_due"] ["_law_found", "_law_due"] (defScope st_L_same) := by walk_at "s"
theorem fn_L_same {f : Addr} {fd : FuncData} (F : Fun K "_law_same" "_law_same" st_L_same f fd) (m : mg "_law_same" = some (.ref f)) (z_isinstance : mg "isinstance" = none) (z_tuple : mg "tuple" = none) (z_len : mg "len" = none) (z_list : mg "list" = none) : Cal P w K mg base 1 "_law_same" ["_law_found", "_law_due"] sp_L_same :=
  .mk F m (F.binds fun _ _ _ _ _ _ us hl => args2 hl fun _ _ => rfl) (fnT (W := w_L_same) F sc_L_same len_L_same (fun cdv A outer s H E hr =>
    (@jsc _ _ _ _ _ (@jsif _ _ _ _ _ _ _ _ (@jw _ _ _ (@tor _ _ _ _ _ _ _ (@tnot _ _ _ _ (@tval _ _ _ (@jisi _ _ _ _ .tuple _ _ _ (@jV _ 0 _ _ rfl (by walk_at "v")) rfl z_isinstance rfl z_tuple boot_tuple (by decide) (by decide) (star1 rfl) (star1 rfl) (stars rfl)) (fun _ => rfl))) (@tor _ _ _ _ _ _ _ (@tcmp _ _ _ _ _ _ _ _ (c_ne hr) (@jblt _ _ _ _ _ _ _ _ _ bl_len rfl z_len boot_len (@ja _ _ _ _ _ (@jV _ 0 _ _ rfl (by walk_at "v")) (@ja0 _) (star1 rfl)) (by decide) (by decide) (star1 rfl) (stars rfl)) (@jblt _ _ _ _ _ _ _ _ _ bl_len rfl z_len boot_len (@ja _ _ _ _ _ (@jV _ 1 _ _ rfl (by walk_at "v")) (@ja0 _) (star1 rfl)) (by decide) (by decide) (star1 rfl) (stars rfl)) (nomark _)) (@tor1 _ _ _ _ (@tcmp _ _ _ _ _ _ _ _ (c_ne hr) (@jV _ 0 _ _ rfl (by walk_at "v")) (@jV _ 1 _ _ rfl (by walk_at "v")) (nomark _)))))) (@js1 _ _ _ (@jret _ _ _ _ (@jb _ _ _ _))) (@js0 _)) (@jsc _ _ _ _ _ (@jsif _ _ _ _ _ _ _ _ (@tcmp _ _ _ _ _ _ _ _ (c_eq hr) (@jix _ _ _ _ _ _ (@jV _ 1 _ _ rfl (by walk_at "v")) (@ji _ _ _ _) (fun _ _ => rfl)) (@js _ _ _ _) (nomark _)) (@js1 _ _ _ (@jret _ _ _ _ (@jisi _ _ _ _ .list _ _ _ (@jix _ _ _ _ _ _ (@jV _ 0 _ _ rfl (by walk_at "v")) (@ji _ _ _ _) (fun _ _ => rfl)) rfl z_isinstance rfl z_list boot_list (by decide) (by decide) (star1 rfl) (star1 rfl) (stars rfl)))) (@js0 _)) (@js1 _ _ _ (@jret _ _ _ _ (@jb _ _ _ _)))))) ok_L_same)
abbrev st_L_cell : Stmt := top 40
theorem sc_L_cell : FnScope ["_law_script", "_law_k", "_law_number"] ["_law_script", "_law_k"] (defScope st_L_cell) := by walk_at "s"
theorem fn_L_cell {f : Addr} {fd : FuncData} (F : Fun K "_law_cell" "_law_cell" st_L_cell f fd) (m : mg "_law_cell" = some (.ref f)) (z_len : mg "len" = none) : Cal P w K mg base 1 "_law_cell" ["_law_script", "_law_k"] sp_L_cell :=
  .mk F m (F.binds fun _ _ _ _ _ _ us hl => args2 hl fun _ _ => rfl) (fnT (W := w_L_cell) F sc_L_cell len_L_cell (fun cdv A outer s H E hr =>
    (@jsc _ _ _ _ _ (@jsif _ _ _ _ _ _ _ _ (@tcmp _ _ _ _ _ _ _ _ c_lt (@jV _ 1 _ _ rfl (by walk_at "v")) (@jblt _ _ _ _ _ _ _ _ _ bl_len rfl z_len boot_len (@ja _ _ _ _ _ (@jV _ 0 _ _ rfl (by walk_at "v")) (@ja0 _) (star1 rfl)) (by decide) (by decide) (star1 rfl) (stars rfl)) (nomark _)) (@js1 _ _ _ (@jret _ _ _ _ (@jix _ _ _ _ _ _ (@jV _ 0 _ _ rfl (by walk_at "v")) (@jV _ 1 _ _ rfl (by walk_at "v")) (fun _ _ => rfl)))) (@js0 _)) (@jsc _ _ _ _ _ (@jset _ _ _ _ (2) _ _ sc_L_cell.nd rfl (Or.inl rfl) (@jop _ _ _ _ _ _ _ _ b_add (@jop _ _ _ _ _ _ _ _ b_add (@jop _ _ _ _ _ _ _ _ b_mul (@jop _ _ _ _ _ _ _ _ b_mul (@jV _ 1 _ _ rfl (by walk_at "v")) (@jV _ 1 _ _ rfl (by walk_at "v"))) (@ji _ _ _ _)) (@jop _ _ _ _ _ _ _ _ b_mul (@ji _ _ _ _) (@jV _ 1 _ _ rfl (by walk_at "v")))) (@ji _ _ _ _)) (by rfl) (by walk_at "f")) (@jsc _ _ _ _ _ (@jsif _ _ _ _ _ _ _ _ (@tcmp _ _ _ _ _ _ _ _ c_gt (@jblt _ _ _ _ _ _ _ _ _ bl_len rfl z_len boot_len (@ja _ _ _ _ _ (@jV _ 0 _ _ rfl (by walk_at "v")) (@ja0 _) (star1 rfl)) (by decide) (by decide) (star1 rfl) (stars rfl)) (@ji _ _ _ _) (nomark _)) (@js1 _ _ _ (@jset _ _ _ _ (2) _ _ sc_L_cell.nd rfl (Or.inl rfl) (@jop _ _ _ _ _ _ _ _ b_add (@jV _ 2 _ _ rfl (by walk_at "v")) (@jop _ _ _ _ _ _ _ _ b_mul (@jop _ _ _ _ _ _ _ _ b_mod (@jix _ _ _ _ _ _ (@jV _ 0 _ _ rfl (by walk_at "v")) (@jop _ _ _ _ _ _ _ _ b_mod (@jop _ _ _ _ _ _ _ _ b_mul (@jV _ 1 _ _ rfl (by walk_at "v")) (@ji _ _ _ _)) (@jblt _ _ _ _ _ _ _ _ _ bl_len rfl z_len boot_len (@ja _ _ _ _ _ (@jV _ 0 _ _ rfl (by walk_at "v")) (@ja0 _) (star1 rfl)) (by decide) (by decide) (star1 rfl) (stars rfl))) (fun _ _ => rfl)) (@ji _ _ _ _)) (@jop _ _ _ _ _ _ _ _ b_add (@jop _ _ _ _ _ _ _ _ b_mul (@jV _ 1 _ _ rfl (by walk_at "v")) (@jV _ 1 _ _ rfl (by walk_at "v"))) (@ji _ _ _ _)))) (by rfl) (by walk_at "f"))) (@js0 _)) (@js1 _ _ _ (@jret _ _ _ _ (@jop _ _ _ _ _ _ _ _ b_add (@jop _ _ _ _ _ _ _ _ b_mul (@jop _ _ _ _ _ _ _ _ b_mod (@jop _ _ _ _ _ _ _ _ b_mul (@jV _ 2 _ _ rfl (by walk_at "v")) (@jV _ 2 _ _ rfl (by walk_at "v"))) (@ji _ _ _ _)) (@ji _ _ _ _)) (@jV _ 2 _ _ rfl (by walk_at "v"))))))))) ok_L_cell)
abbrev st_L_wide : Stmt := top 41
theorem sc_L_wide : FnScope ["_law_script", "_law_k", "_law_cell_here", "_law_mixed"] ["_law_script", "_law_k"] (defScope st_L_wide) := by walk_at "s"
theorem fn_L_wide {f : Addr} {fd : FuncData} (F : Fun K "_law_wide" "_law_wide" st_L_wide f fd) (m : mg "_law_wide" = some (.ref f)) (C_L_cell : Cal P w K mg base 1 "_law_cell" ["_law_script", "_law_k"] sp_L_cell) (z_len : mg "len" = none) : Cal P w K mg base 2 "_law_wide" ["_law_script", "_law_k"] sp_L_wide :=
  .mk F m (F.binds fun _ _ _ _ _ _ us hl => args2 hl fun _ _ => rfl) (fnT (W := w_L_wide) F sc_L_wide len_L_wide (fun cdv A outer s H E hr =>
    (@jsc _ _ _ _ _ (@jset _ _ _ _ (2) _ _ sc_L_wide.nd rfl (Or.inl rfl) (@jcallC _ _ _ _ _ _ _ _ _ _ C_L_cell (hr.mono (by omega)) rfl (@ja _ _ _ _ _ (@jV _ 0 _ _ rfl (by walk_at "v")) (@ja _ _ _ _ _ (@jV _ 1 _ _ rfl (by walk_at "v")) (@ja0 _) (star1 rfl)) (star1 rfl)) (by decide) (star1 rfl) (stars rfl)) (by rfl) (by walk_at "f")) (@jsc _ _ _ _ _ (@jsif _ _ _ _ _ _ _ _ (@jw _ _ _ (@tand _ _ _ _ _ _ _ (@tcmp _ _ _ _ _ _ _ _ c_lt (@jV _ 1 _ _ rfl (by walk_at "v")) (@jblt _ _ _ _ _ _ _ _ _ bl_len rfl z_len boot_len (@ja _ _ _ _ _ (@jV _ 0 _ _ rfl (by walk_at "v")) (@ja0 _) (star1 rfl)) (by decide) (by decide) (star1 rfl) (stars rfl)) (nomark _)) (@tand1 _ _ _ _ (@tcmp _ _ _ _ _ _ _ _ c_ge (@jV _ 2 _ _ rfl (by walk_at "v")) (@jop _ _ _ _ _ _ _ _ b_pow (@ji _ _ _ _) (@ji _ _ _ _)) (nomark _))))) (@js1 _ _ _ (@jret _ _ _ _ (@jop _ _ _ _ _ _ _ _ b_mod (@jV _ 2 _ _ rfl (by walk_at "v")) (@jop _ _ _ _ _ _ _ _ b_mul (@jop _ _ _ _ _ _ _ _ b_pow (@ji _ _ _ _) (@ji _ _ _ _)) (@jop _ _ _ _ _ _ _ _ b_pow (@ji _ _ _ _) (@ji _ _ _ _)))))) (@js0 _)) (@jsc _ _ _ _ _ (@jset _ _ _ _ (3) _ _ sc_L_wide.nd rfl (Or.inl rfl) (@jop _ _ _ _ _ _ _ _ b_add (@jop _ _ _ _ _ _ _ _ b_add (@jop _ _ _ _ _ _ _ _ b_mod (@jV _ 2 _ _ rfl (by walk_at "v")) (@ji _ _ _ _)) (@ji _ _ _ _)) (@jop _ _ _ _ _ _ _ _ b_mul (@jV _ 1 _ _ rfl (by walk_at "v")) (@jV _ 1 _ _ rfl (by walk_at "v")))) (by rfl) (by walk_at "f")) (@js1 _ _ _ (@jret _ _ _ _ (@jop _ _ _ _ _ _ _ _ b_div (@jop _ _ _ _ _ _ _ _ b_pow (@jop _ _ _ _ _ _ _ _ b_add (@jop _ _ _ _ _ _ _ _ b_mul (@jV _ 3 _ _ rfl (by walk_at "v")) (@ji _ _ _ _)) (@ji _ _ _ _)) (@ji _ _ _ _)) (@ji _ _ _ _)))))))) ok_L_wide)
abbrev st_L_sun : Stmt := top 48
theorem sc_L_sun : FnScope ["_law_script", "_law_many", "_law_found", "_law_hour", "_law_k", "_law_number", "_law_high", "_law_direction"] ["_law_script", "_law_many"] (defScope st_L_sun) := by walk_at "s"
theorem fn_L_sun {f : Addr} {fd : FuncData} (F : Fun K "_law_sun" "_law_sun" st_L_sun f fd) (m : mg "_law_sun" = some (.ref f)) (C_L_wide : Cal P w K mg base 2 "_law_wide" ["_law_script", "_law_k"] sp_L_wide) (z_range : mg "range" = none) : CalO P w K mg base 3 "_law_sun" ["_law_script", "_law_many"] sp_L_sun :=
  .mk F m (F.binds fun _ _ _ _ _ _ us hl => args2 hl fun _ _ => rfl) (fnO (W := w_L_sun) (i := 2) (ini := (defBody st_L_sun).dropLast) F sc_L_sun len_L_sun rfl (fun cdv A outer s H E hr => ⟨
    (@jsc _ _ _ _ _ (@jown _ _ _ _ (2) _ _ _ sc_L_sun.nd rfl (Or.inl rfl) (@ja0 _) (by rfl) (by walk_at "f")) (@jsc _ _ _ _ _ (@jset _ _ _ _ (3) _ _ sc_L_sun.nd rfl (Or.inl rfl) (@jop _ _ _ _ _ _ _ _ b_mod (@jcallC _ _ _ _ _ _ _ _ _ _ C_L_wide (hr.mono (by omega)) rfl (@ja _ _ _ _ _ (@jV _ 0 _ _ rfl (by walk_at "v")) (@ja _ _ _ _ _ (@ji _ _ _ _) (@ja0 _) (star1 rfl)) (star1 rfl)) (by decide) (star1 rfl) (stars rfl)) (@ji _ _ _ _)) (by rfl) (by walk_at "f")) (@js1 _ _ _ (@jfor _ _ _ _ _ _ _ _ PassesOwn.never rfl (@jiRange1 _ _ _ _ _ _ rfl z_range (@ja _ _ _ _ _ (@jV _ 1 _ _ rfl (by walk_at "v")) (@ja0 _) (star1 rfl)) (by rfl)) (@jg _ _ (4) _ sc_L_sun.nd rfl (Or.inl rfl) (by walk_at "f")) (@jsc _ _ _ _ _ (@jset _ _ _ _ (5) _ _ sc_L_sun.nd rfl (Or.inl rfl) (@jcallC _ _ _ _ _ _ _ _ _ _ C_L_wide (hr.mono (by omega)) rfl (@ja _ _ _ _ _ (@jV _ 0 _ _ rfl (by walk_at "v")) (@ja _ _ _ _ _ (@jop _ _ _ _ _ _ _ _ b_add (@ji _ _ _ _) (@jV _ 4 _ _ rfl (by walk_at "v"))) (@ja0 _) (star1 rfl)) (star1 rfl)) (by decide) (star1 rfl) (stars rfl)) (by rfl) (by walk_at "f")) (@jsc _ _ _ _ _ (@jset _ _ _ _ (6) _ _ sc_L_sun.nd rfl (Or.inl rfl) (@jix _ _ _ _ _ _ (@jlst _ _ _ _ (@ja _ _ _ _ _ (@jop _ _ _ _ _ _ _ _ b_add (@jop _ _ _ _ _ _ _ _ b_mod (@jop _ _ _ _ _ _ _ _ b_div (@jV _ 5 _ _ rfl (by walk_at "v")) (@ji _ _ _ _)) (@ji _ _ _ _)) (@ji _ _ _ _)) (@ja _ _ _ _ _ (@jop _ _ _ _ _ _ _ _ b_sub (@jop _ _ _ _ _ _ _ _ b_mod (@jop _ _ _ _ _ _ _ _ b_div (@jV _ 5 _ _ rfl (by walk_at "v")) (@ji _ _ _ _)) (@ji _ _ _ _)) (@ji _ _ _ _)) (@ja0 _) (star1 rfl)) (star1 rfl))) (@jop _ _ _ _ _ _ _ _ b_div (@jop _ _ _ _ _ _ _ _ b_mod (@jV _ 5 _ _ rfl (by walk_at "v")) (@ji _ _ _ _)) (@ji _ _ _ _)) (fun _ _ => rfl)) (by rfl) (by walk_at "f")) (@jsc _ _ _ _ _ (@jset _ _ _ _ (7) _ _ sc_L_sun.nd rfl (Or.inl rfl) (@jtup _ _ _ _ _ (@ja _ _ _ _ _ (@jop _ _ _ _ _ _ _ _ b_sub (@jop _ _ _ _ _ _ _ _ b_mod (@jop _ _ _ _ _ _ _ _ b_div (@jV _ 5 _ _ rfl (by walk_at "v")) (@ji _ _ _ _)) (@ji _ _ _ _)) (@ji _ _ _ _)) (@ja _ _ _ _ _ (@jop _ _ _ _ _ _ _ _ b_sub (@jop _ _ _ _ _ _ _ _ b_mod (@jop _ _ _ _ _ _ _ _ b_div (@jV _ 5 _ _ rfl (by walk_at "v")) (@ji _ _ _ _)) (@ji _ _ _ _)) (@ji _ _ _ _)) (@ja _ _ _ _ _ (@jV _ 6 _ _ rfl (by walk_at "v")) (@ja0 _) (star1 rfl)) (star1 rfl)) (star1 rfl))) (by rfl) (by walk_at "f")) (@jsc _ _ _ _ _ (@jsif _ _ _ _ _ _ _ _ (@tcmp _ _ _ _ _ _ _ _ (c_eq hr) (@jV _ 7 _ _ rfl (by walk_at "v")) (@jtup _ _ _ _ _ (@ja _ _ _ _ _ (@ji _ _ _ _) (@ja _ _ _ _ _ (@ji _ _ _ _) (@ja _ _ _ _ _ (@ji _ _ _ _) (@ja0 _) (star1 rfl)) (star1 rfl)) (star1 rfl))) (nomark _)) (@js1 _ _ _ (@jset _ _ _ _ (7) _ _ sc_L_sun.nd rfl (Or.inl rfl) (@jtup _ _ _ _ _ (@ja _ _ _ _ _ (@ji _ _ _ _) (@ja _ _ _ _ _ (@ji _ _ _ _) (@ja _ _ _ _ _ (@ji _ _ _ _) (@ja0 _) (star1 rfl)) (star1 rfl)) (star1 rfl))) (by rfl) (by walk_at "f"))) (@js0 _)) (@jsc _ _ _ _ _ (@japp _ _ _ _ _ _ _ _ _ (pv 2) (@jtup _ _ _ _ _ (@ja _ _ _ _ _ (@jV _ 3 _ _ rfl (by walk_at "v")) (@ja _ _ _ _ _ (@jV _ 7 _ _ rfl (by walk_at "v")) (@ja0 _) (star1 rfl)) (star1 rfl))) (by rfl) (by rfl) (by rfl) (by rfl) (by rfl) (by rfl)) (@js1 _ _ _ (@jset _ _ _ _ (3) _ _ sc_L_sun.nd rfl (Or.inl rfl) (@jop _ _ _ _ _ _ _ _ b_add (@jop _ _ _ _ _ _ _ _ b_add (@jV _ 3 _ _ rfl (by walk_at "v")) (@ji _ _ _ _)) (@jop _ _ _ _ _ _ _ _ b_mod (@jop _ _ _ _ _ _ _ _ b_div (@jV _ 5 _ _ rfl (by walk_at "v")) (@ji _ _ _ _)) (@ji _ _ _ _))) (by rfl) (by walk_at "f")))))))) (fun _ => rfl))))), (pv 2)⟩) ok_L_sun)
abbrev st_L_triple : Stmt := top 42
theorem sc_L_triple : FnScope ["_law_number", "_law_most", "_law_size"] ["_law_number", "_law_most"] (defScope st_L_triple) := by walk_at "s"
theorem fn_L_triple {f : Addr} {fd : FuncData} (F : Fun K "_law_triple" "_law_triple" st_L_triple f fd) (m : mg "_law_triple" = some (.ref f)) : Cal P w K mg base 1 "_law_triple" ["_law_number", "_law_most"] sp_L_triple :=
  .mk F m (F.binds fun _ _ _ _ _ _ us hl => args2 hl fun _ _ => rfl) (fnT (W := w_L_triple) F sc_L_triple len_L_triple (fun cdv A outer s H E hr =>
    (@jsc _ _ _ _ _ (@jset _ _ _ _ (2) _ _ sc_L_triple.nd rfl (Or.inl rfl) (@jop _ _ _ _ _ _ _ _ b_add (@jop _ _ _ _ _ _ _ _ b_mul (@ji _ _ _ _) (@jV _ 1 _ _ rfl (by walk_at "v"))) (@ji _ _ _ _)) (by rfl) (by walk_at "f")) (@js1 _ _ _ (@jret _ _ _ _ (@jtup _ _ _ _ _ (@ja _ _ _ _ _ (@jop _ _ _ _ _ _ _ _ b_sub (@jop _ _ _ _ _ _ _ _ b_mod (@jV _ 0 _ _ rfl (by walk_at "v")) (@jV _ 2 _ _ rfl (by walk_at "v"))) (@jV _ 1 _ _ rfl (by walk_at "v"))) (@ja _ _ _ _ _ (@jop _ _ _ _ _ _ _ _ b_sub (@jop _ _ _ _ _ _ _ _ b_mod (@jop _ _ _ _ _ _ _ _ b_div (@jV _ 0 _ _ rfl (by walk_at "v")) (@jV _ 2 _ _ rfl (by walk_at "v"))) (@jV _ 2 _ _ rfl (by walk_at "v"))) (@jV _ 1 _ _ rfl (by walk_at "v"))) (@ja _ _ _ _ _ (@jop _ _ _ _ _ _ _ _ b_sub (@jop _ _ _ _ _ _ _ _ b_mod (@jop _ _ _ _ _ _ _ _ b_div (@jV _ 0 _ _ rfl (by walk_at "v")) (@jop _ _ _ _ _ _ _ _ b_pow (@jV _ 2 _ _ rfl (by walk_at "v")) (@ji _ _ _ _))) (@jV _ 2 _ _ rfl (by walk_at "v"))) (@jV _ 1 _ _ rfl (by walk_at "v"))) (@ja0 _) (star1 rfl)) (star1 rfl)) (star1 rfl))))))) ok_L_triple)
abbrev st_L_pair : Stmt := top 46
theorem sc_L_pair : FnScope ["_law_number", "_law_most", "_law_one", "_law_other"] ["_law_number", "_law_most"] (defScope st_L_pair) := by walk_at "s"
theorem fn_L_pair {f : Addr} {fd : FuncData} (F : Fun K "_law_pair" "_law_pair" st_L_pair f fd) (m : mg "_law_pair" = some (.ref f)) (C_L_triple : Cal P w K mg base 1 "_law_triple" ["_law_number", "_law_most"] sp_L_triple) (C_L_cross : Cal P w K mg base 1 "_law_cross" ["_law_one", "_law_other"] sp_L_cross) : Cal P w K mg base 2 "_law_pair" ["_law_number", "_law_most"] sp_L_pair :=
  .mk F m (F.binds fun _ _ _ _ _ _ us hl => args2 hl fun _ _ => rfl) (fnT (W := w_L_pair) F sc_L_pair len_L_pair (fun cdv A outer s H E hr =>
    (@jsc _ _ _ _ _ (@jset _ _ _ _ (2) _ _ sc_L_pair.nd rfl (Or.inl rfl) (@jcallC _ _ _ _ _ _ _ _ _ _ C_L_triple (hr.mono (by omega)) rfl (@ja _ _ _ _ _ (@jV _ 0 _ _ rfl (by walk_at "v")) (@ja _ _ _ _ _ (@jV _ 1 _ _ rfl (by walk_at "v")) (@ja0 _) (star1 rfl)) (star1 rfl)) (by decide) (star1 rfl) (stars rfl)) (by rfl) (by walk_at "f")) (@jsc _ _ _ _ _ (@jset _ _ _ _ (3) _ _ sc_L_pair.nd rfl (Or.inl rfl) (@jcallC _ _ _ _ _ _ _ _ _ _ C_L_triple (hr.mono (by omega)) rfl (@ja _ _ _ _ _ (@jop _ _ _ _ _ _ _ _ b_div (@jV _ 0 _ _ rfl (by walk_at "v")) (@jop _ _ _ _ _ _ _ _ b_pow (@jop _ _ _ _ _ _ _ _ b_add (@jop _ _ _ _ _ _ _ _ b_mul (@ji _ _ _ _) (@jV _ 1 _ _ rfl (by walk_at "v"))) (@ji _ _ _ _)) (@ji _ _ _ _))) (@ja _ _ _ _ _ (@jV _ 1 _ _ rfl (by walk_at "v")) (@ja0 _) (star1 rfl)) (star1 rfl)) (by decide) (star1 rfl) (stars rfl)) (by rfl) (by walk_at "f")) (@jsc _ _ _ _ _ (@jsif _ _ _ _ _ _ _ _ (@tcmp _ _ _ _ _ _ _ _ (c_eq hr) (@jcallC _ _ _ _ _ _ _ _ _ _ C_L_cross (hr.mono (by omega)) rfl (@ja _ _ _ _ _ (@jV _ 2 _ _ rfl (by walk_at "v")) (@ja _ _ _ _ _ (@jV _ 3 _ _ rfl (by walk_at "v")) (@ja0 _) (star1 rfl)) (star1 rfl)) (by decide) (star1 rfl) (stars rfl)) (@jtup _ _ _ _ _ (@ja _ _ _ _ _ (@ji _ _ _ _) (@ja _ _ _ _ _ (@ji _ _ _ _) (@ja _ _ _ _ _ (@ji _ _ _ _) (@ja0 _) (star1 rfl)) (star1 rfl)) (star1 rfl))) (nomark _)) (@js1 _ _ _ (@jret _ _ _ _ (@jtup _ _ _ _ _ (@ja _ _ _ _ _ (@jtup _ _ _ _ _ (@ja _ _ _ _ _ (@jV _ 1 _ _ rfl (by walk_at "v")) (@ja _ _ _ _ _ (@ji _ _ _ _) (@ja _ _ _ _ _ (@ji _ _ _ _) (@ja0 _) (star1 rfl)) (star1 rfl)) (star1 rfl))) (@ja _ _ _ _ _ (@jtup _ _ _ _ _ (@ja _ _ _ _ _ (@ji _ _ _ _) (@ja _ _ _ _ _ (@jV _ 1 _ _ rfl (by walk_at "v")) (@ja _ _ _ _ _ (@ji _ _ _ _) (@ja0 _) (star1 rfl)) (star1 rfl)) (star1 rfl))) (@ja0 _) (star1 rfl)) (star1 rfl))))) (@js0 _)) (@js1 _ _ _ (@jret _ _ _ _ (@jtup _ _ _ _ _ (@ja _ _ _ _ _ (@jV _ 2 _ _ rfl (by walk_at "v")) (@ja _ _ _ _ _ (@jV _ 3 _ _ rfl (by walk_at "v")) (@ja0 _) (star1 rfl)) (star1 rfl))))))))) ok_L_pair)
abbrev st_L_dial : Stmt := top 49
theorem sc_L_dial : FnScope ["_law_number", "_law_sun_here", "_law_many", "_law_direction", "_law_ahead", "_law_corner", "_law_a", "_law_b", "_law_point", "_law_tip", "_law_one", "_law_two"] ["_law_number", "_law_sun_here"] (defScope st_L_dial) := by walk_at "s"
theorem fn_L_dial {f : Addr} {fd : FuncData} (F : Fun K "_law_dial" "_law_dial" st_L_dial f fd) (m : mg "_law_dial" = some (.ref f)) (C_L_pair : Cal P w K mg base 2 "_law_pair" ["_law_number", "_law_most"] sp_L_pair) (C_L_cross : Cal P w K mg base 1 "_law_cross" ["_law_one", "_law_other"] sp_L_cross) (C_L_dot : Cal P w K mg base 1 "_law_dot" ["_law_one", "_law_other"] sp_L_dot) (C_L_triple : Cal P w K mg base 1 "_law_triple" ["_law_number", "_law_most"] sp_L_triple) (C_L_on : Cal P w K mg base 1 "_law_on" ["_law_one", "_law_other", "_law_many"] sp_L_on) (z_len : mg "len" = none) : Cal P w K mg base 3 "_law_dial" ["_law_number", "_law_sun_here"] sp_L_dial :=
  .mk F m (F.binds fun _ _ _ _ _ _ us hl => args2 hl fun _ _ => rfl) (fnT (W := w_L_dial) F sc_L_dial len_L_dial (fun cdv A outer s H E hr =>
    (@jsc _ _ _ _ _ (@jset _ _ _ _ (2) _ _ sc_L_dial.nd rfl (Or.inl rfl) (@jop _ _ _ _ _ _ _ _ b_add (@ji _ _ _ _) (@jop _ _ _ _ _ _ _ _ b_mod (@jV _ 0 _ _ rfl (by walk_at "v")) (@ji _ _ _ _))) (by rfl) (by walk_at "f")) (@jsc _ _ _ _ _ (@jset _ _ _ _ (0) _ _ sc_L_dial.nd rfl (Or.inl rfl) (@jop _ _ _ _ _ _ _ _ b_div (@jV _ 0 _ _ rfl (by walk_at "v")) (@ji _ _ _ _)) (by rfl) (by walk_at "f")) (@jsc _ _ _ _ _ (@jasg _ _ _ _ _ _ (@jgt _ _ _ _ _ _ rfl (@jgsc _ _ _ _ _ (@jg _ _ (10) _ sc_L_dial.nd rfl (Or.inl rfl) (by walk_at "f")) (@jgsc _ _ _ _ _ (@jg _ _ (11) _ sc_L_dial.nd rfl (Or.inl rfl) (by walk_at "f")) (@jgs0 _) (by rfl)) (by rfl)) (by rfl) (by rfl)) (@jcallC _ _ _ _ _ _ _ _ _ _ C_L_pair (hr.mono (by omega)) rfl (@ja _ _ _ _ _ (@jop _ _ _ _ _ _ _ _ b_div (@jV _ 0 _ _ rfl (by walk_at "v")) (@ji _ _ _ _)) (@ja _ _ _ _ _ (@ji _ _ _ _) (@ja0 _) (star1 rfl)) (star1 rfl)) (by decide) (star1 rfl) (stars rfl)) (by rfl) (by rfl) (by rfl)) (@jsc _ _ _ _ _ (@jset _ _ _ _ (3) _ _ sc_L_dial.nd rfl (Or.inl rfl) (@jix _ _ _ _ _ _ (@jix _ _ _ _ _ _ (@jV _ 1 _ _ rfl (by walk_at "v")) (@jop _ _ _ _ _ _ _ _ b_mod (@jV _ 0 _ _ rfl (by walk_at "v")) (@jblt _ _ _ _ _ _ _ _ _ bl_len rfl z_len boot_len (@ja _ _ _ _ _ (@jV _ 1 _ _ rfl (by walk_at "v")) (@ja0 _) (star1 rfl)) (by decide) (by decide) (star1 rfl) (stars rfl))) (fun _ _ => rfl)) (@ji _ _ _ _) (fun _ _ => rfl)) (by rfl) (by walk_at "f")) (@jsc _ _ _ _ _ (@jset _ _ _ _ (4) _ _ sc_L_dial.nd rfl (Or.inl rfl) (@jcallC _ _ _ _ _ _ _ _ _ _ C_L_dot (hr.mono (by omega)) rfl (@ja _ _ _ _ _ (@jcallC _ _ _ _ _ _ _ _ _ _ C_L_cross (hr.mono (by omega)) rfl (@ja _ _ _ _ _ (@jV _ 10 _ _ rfl (by walk_at "v")) (@ja _ _ _ _ _ (@jV _ 11 _ _ rfl (by walk_at "v")) (@ja0 _) (star1 rfl)) (star1 rfl)) (by decide) (star1 rfl) (stars rfl)) (@ja _ _ _ _ _ (@jV _ 3 _ _ rfl (by walk_at "v")) (@ja0 _) (star1 rfl)) (star1 rfl)) (by decide) (star1 rfl) (stars rfl)) (by rfl) (by walk_at "f")) (@jsc _ _ _ _ _ (@jsif _ _ _ _ _ _ _ _ (@tcmp _ _ _ _ _ _ _ _ c_lt (@jV _ 4 _ _ rfl (by walk_at "v")) (@ji _ _ _ _) (nomark _)) (@js1 _ _ _ (@jpar _ _ _ _ _ (10) (11) _ _ _ _ _ _ _ _ rfl sc_L_dial.nd rfl rfl (by decide) rfl rfl (@ja _ _ _ _ _ (@jV _ 11 _ _ rfl (by walk_at "v")) (@ja _ _ _ _ _ (@jV _ 10 _ _ rfl (by walk_at "v")) (@ja0 _) (star1 rfl)) (star1 rfl)) rfl (by rfl))) (@js0 _)) (@jsc _ _ _ _ _ (@jsif _ _ _ _ _ _ _ _ (@tcmp _ _ _ _ _ _ _ _ (c_eq hr) (@jV _ 4 _ _ rfl (by walk_at "v")) (@ji _ _ _ _) (nomark _)) (@js1 _ _ _ (@jset _ _ _ _ (3) _ _ sc_L_dial.nd rfl (Or.inl rfl) (@jcallC _ _ _ _ _ _ _ _ _ _ C_L_cross (hr.mono (by omega)) rfl (@ja _ _ _ _ _ (@jV _ 10 _ _ rfl (by walk_at "v")) (@ja _ _ _ _ _ (@jV _ 11 _ _ rfl (by walk_at "v")) (@ja0 _) (star1 rfl)) (star1 rfl)) (by decide) (star1 rfl) (stars rfl)) (by rfl) (by walk_at "f"))) (@js0 _)) (@jsc _ _ _ _ _ (@jset _ _ _ _ (0) _ _ sc_L_dial.nd rfl (Or.inl rfl) (@jop _ _ _ _ _ _ _ _ b_div (@jV _ 0 _ _ rfl (by walk_at "v")) (@jop _ _ _ _ _ _ _ _ b_pow (@ji _ _ _ _) (@ji _ _ _ _))) (by rfl) (by walk_at "f")) (@jsc _ _ _ _ _ (@jset _ _ _ _ (5) _ _ sc_L_dial.nd rfl (Or.inl rfl) (@jcallC _ _ _ _ _ _ _ _ _ _ C_L_triple (hr.mono (by omega)) rfl (@ja _ _ _ _ _ (@jV _ 0 _ _ rfl (by walk_at "v")) (@ja _ _ _ _ _ (@ji _ _ _ _) (@ja0 _) (star1 rfl)) (star1 rfl)) (by decide) (star1 rfl) (stars rfl)) (by rfl) (by walk_at "f")) (@jsc _ _ _ _ _ (@jset _ _ _ _ (0) _ _ sc_L_dial.nd rfl (Or.inl rfl) (@jop _ _ _ _ _ _ _ _ b_div (@jV _ 0 _ _ rfl (by walk_at "v")) (@jop _ _ _ _ _ _ _ _ b_pow (@ji _ _ _ _) (@ji _ _ _ _))) (by rfl) (by walk_at "f")) (@jsc _ _ _ _ _ (@jset _ _ _ _ (6) _ _ sc_L_dial.nd rfl (Or.inl rfl) (@jix _ _ _ _ _ _ (@jlst _ _ _ _ (@ja _ _ _ _ _ (@jop _ _ _ _ _ _ _ _ b_mod (@jV _ 0 _ _ rfl (by walk_at "v")) (@jop _ _ _ _ _ _ _ _ b_add (@jV _ 2 _ _ rfl (by walk_at "v")) (@ji _ _ _ _))) (@ja _ _ _ _ _ (@jop _ _ _ _ _ _ _ _ b_sub (@jop _ _ _ _ _ _ _ _ b_mod (@jV _ 0 _ _ rfl (by walk_at "v")) (@jop _ _ _ _ _ _ _ _ b_add (@jV _ 2 _ _ rfl (by walk_at "v")) (@ji _ _ _ _))) (@ji _ _ _ _)) (@ja0 _) (star1 rfl)) (star1 rfl))) (@jop _ _ _ _ _ _ _ _ b_div (@jop _ _ _ _ _ _ _ _ b_mod (@jop _ _ _ _ _ _ _ _ b_div (@jV _ 0 _ _ rfl (by walk_at "v")) (@ji _ _ _ _)) (@ji _ _ _ _)) (@ji _ _ _ _)) (fun _ _ => rfl)) (by rfl) (by walk_at "f")) (@jsc _ _ _ _ _ (@jset _ _ _ _ (7) _ _ sc_L_dial.nd rfl (Or.inl rfl) (@jix _ _ _ _ _ _ (@jlst _ _ _ _ (@ja _ _ _ _ _ (@jop _ _ _ _ _ _ _ _ b_mod (@jop _ _ _ _ _ _ _ _ b_div (@jV _ 0 _ _ rfl (by walk_at "v")) (@ji _ _ _ _)) (@jop _ _ _ _ _ _ _ _ b_add (@jV _ 2 _ _ rfl (by walk_at "v")) (@ji _ _ _ _))) (@ja _ _ _ _ _ (@jop _ _ _ _ _ _ _ _ b_sub (@jop _ _ _ _ _ _ _ _ b_mod (@jop _ _ _ _ _ _ _ _ b_div (@jV _ 0 _ _ rfl (by walk_at "v")) (@ji _ _ _ _)) (@jop _ _ _ _ _ _ _ _ b_add (@jV _ 2 _ _ rfl (by walk_at "v")) (@ji _ _ _ _))) (@ji _ _ _ _)) (@ja0 _) (star1 rfl)) (star1 rfl))) (@jop _ _ _ _ _ _ _ _ b_div (@jop _ _ _ _ _ _ _ _ b_mod (@jop _ _ _ _ _ _ _ _ b_div (@jV _ 0 _ _ rfl (by walk_at "v")) (@ji _ _ _ _)) (@ji _ _ _ _)) (@ji _ _ _ _)) (fun _ _ => rfl)) (by rfl) (by walk_at "f")) (@jsc _ _ _ _ _ (@jset _ _ _ _ (8) _ _ sc_L_dial.nd rfl (Or.inl rfl) (@jcallC _ _ _ _ _ _ _ _ _ _ C_L_on (hr.mono (by omega)) rfl (@ja _ _ _ _ _ (@jcallC _ _ _ _ _ _ _ _ _ _ C_L_on (hr.mono (by omega)) rfl (@ja _ _ _ _ _ (@jV _ 5 _ _ rfl (by walk_at "v")) (@ja _ _ _ _ _ (@jV _ 10 _ _ rfl (by walk_at "v")) (@ja _ _ _ _ _ (@jV _ 6 _ _ rfl (by walk_at "v")) (@ja0 _) (star1 rfl)) (star1 rfl)) (star1 rfl)) (by decide) (star1 rfl) (stars rfl)) (@ja _ _ _ _ _ (@jV _ 11 _ _ rfl (by walk_at "v")) (@ja _ _ _ _ _ (@jV _ 7 _ _ rfl (by walk_at "v")) (@ja0 _) (star1 rfl)) (star1 rfl)) (star1 rfl)) (by decide) (star1 rfl) (stars rfl)) (by rfl) (by walk_at "f")) (@jsc _ _ _ _ _ (@jset _ _ _ _ (9) _ _ sc_L_dial.nd rfl (Or.inl rfl) (@jcallC _ _ _ _ _ _ _ _ _ _ C_L_on (hr.mono (by omega)) rfl (@ja _ _ _ _ _ (@jV _ 8 _ _ rfl (by walk_at "v")) (@ja _ _ _ _ _ (@jV _ 3 _ _ rfl (by walk_at "v")) (@ja _ _ _ _ _ (@jop _ _ _ _ _ _ _ _ b_add (@ji _ _ _ _) (@jop _ _ _ _ _ _ _ _ b_mod (@jop _ _ _ _ _ _ _ _ b_div (@jV _ 0 _ _ rfl (by walk_at "v")) (@ji _ _ _ _)) (@ji _ _ _ _))) (@ja0 _) (star1 rfl)) (star1 rfl)) (star1 rfl)) (by decide) (star1 rfl) (stars rfl)) (by rfl) (by walk_at "f")) (@js1 _ _ _ (@jret _ _ _ _ (@jtup _ _ _ _ _ (@ja _ _ _ _ _ (@jtup _ _ _ _ _ (@ja _ _ _ _ _ (@jV _ 5 _ _ rfl (by walk_at "v")) (@ja _ _ _ _ _ (@jcallC _ _ _ _ _ _ _ _ _ _ C_L_on (hr.mono (by omega)) rfl (@ja _ _ _ _ _ (@jtup _ _ _ _ _ (@ja _ _ _ _ _ (@ji _ _ _ _) (@ja _ _ _ _ _ (@ji _ _ _ _) (@ja _ _ _ _ _ (@ji _ _ _ _) (@ja0 _) (star1 rfl)) (star1 rfl)) (star1 rfl))) (@ja _ _ _ _ _ (@jV _ 10 _ _ rfl (by walk_at "v")) (@ja _ _ _ _ _ (@jV _ 2 _ _ rfl (by walk_at "v")) (@ja0 _) (star1 rfl)) (star1 rfl)) (star1 rfl)) (by decide) (star1 rfl) (stars rfl)) (@ja _ _ _ _ _ (@jcallC _ _ _ _ _ _ _ _ _ _ C_L_on (hr.mono (by omega)) rfl (@ja _ _ _ _ _ (@jtup _ _ _ _ _ (@ja _ _ _ _ _ (@ji _ _ _ _) (@ja _ _ _ _ _ (@ji _ _ _ _) (@ja _ _ _ _ _ (@ji _ _ _ _) (@ja0 _) (star1 rfl)) (star1 rfl)) (star1 rfl))) (@ja _ _ _ _ _ (@jV _ 11 _ _ rfl (by walk_at "v")) (@ja _ _ _ _ _ (@jV _ 2 _ _ rfl (by walk_at "v")) (@ja0 _) (star1 rfl)) (star1 rfl)) (star1 rfl)) (by decide) (star1 rfl) (stars rfl)) (@ja0 _) (star1 rfl)) (star1 rfl)) (star1 rfl))) (@ja _ _ _ _ _ (@jV _ 9 _ _ rfl (by walk_at "v")) (@ja _ _ _ _ _ (@jV _ 8 _ _ rfl (by walk_at "v")) (@ja0 _) (star1 rfl)) (star1 rfl)) (star1 rfl)))))))))))))))))))) ok_L_dial)
abbrev st_L_fence : Stmt := top 50
theorem sc_L_fence : FnScope ["_law_number", "_law_sun_here", "_law_dials", "_law_point", "_law_direction", "_law_many", "_law_met", "_law_i", "_law_j", "_law_corner", "_law_one", "_law_two"] ["_law_number", "_law_sun_here", "_law_dials"] (defScope st_L_fence) := by walk_at "s"
theorem fn_L_fence {f : Addr} {fd : FuncData} (F : Fun K "_law_fence" "_law_fence" st_L_fence f fd) (m : mg "_law_fence" = some (.ref f)) (C_L_pair : Cal P w K mg base 2 "_law_pair" ["_law_number", "_law_most"] sp_L_pair) (C_L_on : Cal P w K mg base 1 "_law_on" ["_law_one", "_law_other", "_law_many"] sp_L_on) (z_len : mg "len" = none) : Cal P w K mg base 3 "_law_fence" ["_law_number", "_law_sun_here", "_law_dials"] sp_L_fence :=
  .mk F m (F.binds fun _ _ _ _ _ _ us hl => args3 hl fun _ _ _ => rfl) (fnT (W := w_L_fence) F sc_L_fence len_L_fence (fun cdv A outer s H E hr =>
    (@jsc _ _ _ _ _ (@jset _ _ _ _ (3) _ _ sc_L_fence.nd rfl (Or.inl rfl) (@jtup _ _ _ _ _ (@ja _ _ _ _ _ (@ji _ _ _ _) (@ja _ _ _ _ _ (@ji _ _ _ _) (@ja _ _ _ _ _ (@ji _ _ _ _) (@ja0 _) (star1 rfl)) (star1 rfl)) (star1 rfl))) (by rfl) (by walk_at "f")) (@jsc _ _ _ _ _ (@jsif _ _ _ _ _ _ _ _ (@tcmp _ _ _ _ _ _ _ _ (c_ne hr) (@jV _ 2 _ _ rfl (by walk_at "v")) (@jlst _ _ _ _ (@ja0 _)) (nomark _)) (@js1 _ _ _ (@jset _ _ _ _ (3) _ _ sc_L_fence.nd rfl (Or.inl rfl) (@jix _ _ _ _ _ _ (@jix _ _ _ _ _ _ (@jV _ 2 _ _ rfl (by walk_at "v")) (@jop _ _ _ _ _ _ _ _ b_mod (@jV _ 0 _ _ rfl (by walk_at "v")) (@jblt _ _ _ _ _ _ _ _ _ bl_len rfl z_len boot_len (@ja _ _ _ _ _ (@jV _ 2 _ _ rfl (by walk_at "v")) (@ja0 _) (star1 rfl)) (by decide) (by decide) (star1 rfl) (stars rfl))) (fun _ _ => rfl)) (@ji _ _ _ _) (fun _ _ => rfl)) (by rfl) (by walk_at "f"))) (@js0 _)) (@jsc _ _ _ _ _ (@jset _ _ _ _ (4) _ _ sc_L_fence.nd rfl (Or.inl rfl) (@jix _ _ _ _ _ _ (@jix _ _ _ _ _ _ (@jV _ 1 _ _ rfl (by walk_at "v")) (@jop _ _ _ _ _ _ _ _ b_mod (@jop _ _ _ _ _ _ _ _ b_div (@jV _ 0 _ _ rfl (by walk_at "v")) (@ji _ _ _ _)) (@jblt _ _ _ _ _ _ _ _ _ bl_len rfl z_len boot_len (@ja _ _ _ _ _ (@jV _ 1 _ _ rfl (by walk_at "v")) (@ja0 _) (star1 rfl)) (by decide) (by decide) (star1 rfl) (stars rfl))) (fun _ _ => rfl)) (@ji _ _ _ _) (fun _ _ => rfl)) (by rfl) (by walk_at "f")) (@jsc _ _ _ _ _ (@jset _ _ _ _ (0) _ _ sc_L_fence.nd rfl (Or.inl rfl) (@jop _ _ _ _ _ _ _ _ b_div (@jV _ 0 _ _ rfl (by walk_at "v")) (@ji _ _ _ _)) (by rfl) (by walk_at "f")) (@jsc _ _ _ _ _ (@jset _ _ _ _ (5) _ _ sc_L_fence.nd rfl (Or.inl rfl) (@jop _ _ _ _ _ _ _ _ b_add (@ji _ _ _ _) (@jop _ _ _ _ _ _ _ _ b_mod (@jV _ 0 _ _ rfl (by walk_at "v")) (@ji _ _ _ _))) (by rfl) (by walk_at "f")) (@jsc _ _ _ _ _ (@jasg _ _ _ _ _ _ (@jgt _ _ _ _ _ _ rfl (@jgsc _ _ _ _ _ (@jg _ _ (10) _ sc_L_fence.nd rfl (Or.inl rfl) (by walk_at "f")) (@jgsc _ _ _ _ _ (@jg _ _ (11) _ sc_L_fence.nd rfl (Or.inl rfl) (by walk_at "f")) (@jgs0 _) (by rfl)) (by rfl)) (by rfl) (by rfl)) (@jcallC _ _ _ _ _ _ _ _ _ _ C_L_pair (hr.mono (by omega)) rfl (@ja _ _ _ _ _ (@jop _ _ _ _ _ _ _ _ b_div (@jV _ 0 _ _ rfl (by walk_at "v")) (@ji _ _ _ _)) (@ja _ _ _ _ _ (@ji _ _ _ _) (@ja0 _) (star1 rfl)) (star1 rfl)) (by decide) (star1 rfl) (stars rfl)) (by rfl) (by rfl) (by rfl)) (@jsc _ _ _ _ _ (@jset _ _ _ _ (0) _ _ sc_L_fence.nd rfl (Or.inl rfl) (@jop _ _ _ _ _ _ _ _ b_div (@jV _ 0 _ _ rfl (by walk_at "v")) (@jop _ _ _ _ _ _ _ _ b_pow (@ji _ _ _ _) (@ji _ _ _ _))) (by rfl) (by walk_at "f")) (@jsc _ _ _ _ _ (@jset _ _ _ _ (6) _ _ sc_L_fence.nd rfl (Or.inl rfl) (@jcallC _ _ _ _ _ _ _ _ _ _ C_L_on (hr.mono (by omega)) rfl (@ja _ _ _ _ _ (@jV _ 3 _ _ rfl (by walk_at "v")) (@ja _ _ _ _ _ (@jV _ 4 _ _ rfl (by walk_at "v")) (@ja _ _ _ _ _ (@jop _ _ _ _ _ _ _ _ b_sub (@jop _ _ _ _ _ _ _ _ b_mod (@jV _ 0 _ _ rfl (by walk_at "v")) (@ji _ _ _ _)) (@ji _ _ _ _)) (@ja0 _) (star1 rfl)) (star1 rfl)) (star1 rfl)) (by decide) (star1 rfl) (stars rfl)) (by rfl) (by walk_at "f")) (@jsc _ _ _ _ _ (@jset _ _ _ _ (7) _ _ sc_L_fence.nd rfl (Or.inl rfl) (@jop _ _ _ _ _ _ _ _ b_sub (@jop _ _ _ _ _ _ _ _ b_mod (@jop _ _ _ _ _ _ _ _ b_div (@jV _ 0 _ _ rfl (by walk_at "v")) (@ji _ _ _ _)) (@jop _ _ _ _ _ _ _ _ b_add (@jV _ 5 _ _ rfl (by walk_at "v")) (@ji _ _ _ _))) (@ji _ _ _ _)) (by rfl) (by walk_at "f")) (@jsc _ _ _ _ _ (@jset _ _ _ _ (8) _ _ sc_L_fence.nd rfl (Or.inl rfl) (@jop _ _ _ _ _ _ _ _ b_sub (@jop _ _ _ _ _ _ _ _ b_mod (@jop _ _ _ _ _ _ _ _ b_div (@jV _ 0 _ _ rfl (by walk_at "v")) (@ji _ _ _ _)) (@jop _ _ _ _ _ _ _ _ b_add (@jV _ 5 _ _ rfl (by walk_at "v")) (@ji _ _ _ _))) (@ji _ _ _ _)) (by rfl) (by walk_at "f")) (@jsc _ _ _ _ _ (@jset _ _ _ _ (9) _ _ sc_L_fence.nd rfl (Or.inl rfl) (@jcallC _ _ _ _ _ _ _ _ _ _ C_L_on (hr.mono (by omega)) rfl (@ja _ _ _ _ _ (@jcallC _ _ _ _ _ _ _ _ _ _ C_L_on (hr.mono (by omega)) rfl (@ja _ _ _ _ _ (@jV _ 6 _ _ rfl (by walk_at "v")) (@ja _ _ _ _ _ (@jV _ 10 _ _ rfl (by walk_at "v")) (@ja _ _ _ _ _ (@jop _ _ _ _ _ _ _ _ b_sub (@ji _ _ _ _) (@jV _ 7 _ _ rfl (by walk_at "v"))) (@ja0 _) (star1 rfl)) (star1 rfl)) (star1 rfl)) (by decide) (star1 rfl) (stars rfl)) (@ja _ _ _ _ _ (@jV _ 11 _ _ rfl (by walk_at "v")) (@ja _ _ _ _ _ (@jop _ _ _ _ _ _ _ _ b_sub (@ji _ _ _ _) (@jV _ 8 _ _ rfl (by walk_at "v"))) (@ja0 _) (star1 rfl)) (star1 rfl)) (star1 rfl)) (by decide) (star1 rfl) (stars rfl)) (by rfl) (by walk_at "f")) (@js1 _ _ _ (@jret _ _ _ _ (@jtup _ _ _ _ _ (@ja _ _ _ _ _ (@jV _ 9 _ _ rfl (by walk_at "v")) (@ja _ _ _ _ _ (@jcallC _ _ _ _ _ _ _ _ _ _ C_L_on (hr.mono (by omega)) rfl (@ja _ _ _ _ _ (@jtup _ _ _ _ _ (@ja _ _ _ _ _ (@ji _ _ _ _) (@ja _ _ _ _ _ (@ji _ _ _ _) (@ja _ _ _ _ _ (@ji _ _ _ _) (@ja0 _) (star1 rfl)) (star1 rfl)) (star1 rfl))) (@ja _ _ _ _ _ (@jV _ 10 _ _ rfl (by walk_at "v")) (@ja _ _ _ _ _ (@jV _ 5 _ _ rfl (by walk_at "v")) (@ja0 _) (star1 rfl)) (star1 rfl)) (star1 rfl)) (by decide) (star1 rfl) (stars rfl)) (@ja _ _ _ _ _ (@jcallC _ _ _ _ _ _ _ _ _ _ C_L_on (hr.mono (by omega)) rfl (@ja _ _ _ _ _ (@jtup _ _ _ _ _ (@ja _ _ _ _ _ (@ji _ _ _ _) (@ja _ _ _ _ _ (@ji _ _ _ _) (@ja _ _ _ _ _ (@ji _ _ _ _) (@ja0 _) (star1 rfl)) (star1 rfl)) (star1 rfl))) (@ja _ _ _ _ _ (@jV _ 11 _ _ rfl (by walk_at "v")) (@ja _ _ _ _ _ (@jV _ 5 _ _ rfl (by walk_at "v")) (@ja0 _) (star1 rfl)) (star1 rfl)) (star1 rfl)) (by decide) (star1 rfl) (stars rfl)) (@ja0 _) (star1 rfl)) (star1 rfl)) (star1 rfl))))))))))))))))) ok_L_fence)
abbrev st_L_name : Stmt := top 51
theorem sc_L_name : FnScope ["_law_script", "_law_k", "_law_letters", "_law_pad", "_law_middle"] ["_law_script", "_law_k"] (defScope st_L_name) := by walk_at "s"
theorem fn_L_name {f : Addr} {fd : FuncData} (F : Fun K "_law_name" "_law_name" st_L_name f fd) (m : mg "_law_name" = some (.ref f)) (C_L_wide : Cal P w K mg base 2 "_law_wide" ["_law_script", "_law_k"] sp_L_wide) : Cal P w K mg base 3 "_law_name" ["_law_script", "_law_k"] sp_L_name :=
  .mk F m (F.binds fun _ _ _ _ _ _ us hl => args2 hl fun _ _ => rfl) (fnT (W := w_L_name) F sc_L_name len_L_name (fun cdv A outer s H E hr =>
    (@jsc _ _ _ _ _ (@jset _ _ _ _ (2) _ _ sc_L_name.nd rfl (Or.inl rfl) (@js _ _ _ _) (by rfl) (by walk_at "f")) (@jsc _ _ _ _ _ (@jset _ _ _ _ (3) _ _ sc_L_name.nd rfl (Or.inl rfl) (@jcallC _ _ _ _ _ _ _ _ _ _ C_L_wide (hr.mono (by omega)) rfl (@ja _ _ _ _ _ (@jV _ 0 _ _ rfl (by walk_at "v")) (@ja _ _ _ _ _ (@ji _ _ _ _) (@ja0 _) (star1 rfl)) (star1 rfl)) (by decide) (star1 rfl) (stars rfl)) (by rfl) (by walk_at "f")) (@jsc _ _ _ _ _ (@jset _ _ _ _ (4) _ _ sc_L_name.nd rfl (Or.inl rfl) (@jop _ _ _ _ _ _ _ _ b_addS (@jixS _ _ _ _ _ _ (@jV _ 2 _ _ rfl (by walk_at "v")) (@jop _ _ _ _ _ _ _ _ b_mod (@jop _ _ _ _ _ _ _ _ b_add (@jV _ 1 _ _ rfl (by walk_at "v")) (@jop _ _ _ _ _ _ _ _ b_div (@jV _ 3 _ _ rfl (by walk_at "v")) (@ji _ _ _ _))) (@ji _ _ _ _)) (fun _ _ => rfl)) (@jixS _ _ _ _ _ _ (@jV _ 2 _ _ rfl (by walk_at "v")) (@jop _ _ _ _ _ _ _ _ b_div (@jV _ 1 _ _ rfl (by walk_at "v")) (@ji _ _ _ _)) (fun _ _ => rfl))) (by rfl) (by walk_at "f")) (@js1 _ _ _ (@jret _ _ _ _ (@jop _ _ _ _ _ _ _ _ b_addS (@jop _ _ _ _ _ _ _ _ b_addS (@jop _ _ _ _ _ _ _ _ b_mulS (@js _ _ _ _) (@jop _ _ _ _ _ _ _ _ b_mod (@jV _ 3 _ _ rfl (by walk_at "v")) (@ji _ _ _ _))) (@jV _ 4 _ _ rfl (by walk_at "v"))) (@jop _ _ _ _ _ _ _ _ b_mulS (@js _ _ _ _) (@jop _ _ _ _ _ _ _ _ b_mod (@jop _ _ _ _ _ _ _ _ b_div (@jV _ 3 _ _ rfl (by walk_at "v")) (@ji _ _ _ _)) (@ji _ _ _ _)))))))))) ok_L_name)
abbrev st_L_yard : Stmt := top 52
theorem sc_L_yard : FnScope ["_law_script", "_law_most_dials", "_law_most_shuts", "_law_most_hours", "_law_shape", "_law_sun_here", "_law_dials", "_law_k", "_law_shuts", "_law_named", "_law_faces"] ["_law_script", "_law_most_dials", "_law_most_shuts", "_law_most_hours"] (defScope st_L_yard) := by walk_at "s"
theorem fn_L_yard {f : Addr} {fd : FuncData} (F : Fun K "_law_yard" "_law_yard" st_L_yard f fd) (m : mg "_law_yard" = some (.ref f)) (C_L_wide : Cal P w K mg base 2 "_law_wide" ["_law_script", "_law_k"] sp_L_wide) (C_L_sun : CalO P w K mg base 3 "_law_sun" ["_law_script", "_law_many"] sp_L_sun) (C_L_dial : Cal P w K mg base 3 "_law_dial" ["_law_number", "_law_sun_here"] sp_L_dial) (C_L_fence : Cal P w K mg base 3 "_law_fence" ["_law_number", "_law_sun_here", "_law_dials"] sp_L_fence) (C_L_name : Cal P w K mg base 3 "_law_name" ["_law_script", "_law_k"] sp_L_name) (z_range : mg "range" = none) (z_len : mg "len" = none) : CalOT P w K mg base 4 "_law_yard" ["_law_script", "_law_most_dials", "_law_most_shuts", "_law_most_hours"] sp_L_yard :=
  .mk F m (F.binds fun _ _ _ _ _ _ us hl => args4 hl fun _ _ _ _ => rfl) (fnOT (W := w_L_yard) (is := [5, 9, 10]) (ini := (defBody st_L_yard).dropLast) F sc_L_yard len_L_yard rfl (by decide) (by decide) (fun cdv A outer s H E hr => ⟨
    (@jsc _ _ _ _ _ (@jset _ _ _ _ (4) _ _ sc_L_yard.nd rfl (Or.inl rfl) (@jop _ _ _ _ _ _ _ _ b_div (@jcallC _ _ _ _ _ _ _ _ _ _ C_L_wide (hr.mono (by omega)) rfl (@ja _ _ _ _ _ (@jV _ 0 _ _ rfl (by walk_at "v")) (@ja _ _ _ _ _ (@ji _ _ _ _) (@ja0 _) (star1 rfl)) (star1 rfl)) (by decide) (star1 rfl) (stars rfl)) (@ji _ _ _ _)) (by rfl) (by walk_at "f")) (@jsc _ _ _ _ _ (@jsetO _ _ _ _ _ _ (5) _ _ _ _ _ _ _ sc_L_yard.nd rfl (Or.inl rfl) C_L_sun (hr.mono (by omega)) rfl (@ja _ _ _ _ _ (@jV _ 0 _ _ rfl (by walk_at "v")) (@ja _ _ _ _ _ (@jop _ _ _ _ _ _ _ _ b_add (@ji _ _ _ _) (@jop _ _ _ _ _ _ _ _ b_mod (@jV _ 4 _ _ rfl (by walk_at "v")) (@jV _ 3 _ _ rfl (by walk_at "v")))) (@ja0 _) (star1 rfl)) (star1 rfl)) (by decide) (star1 rfl) (stars rfl) (by rfl) (by walk_at "f")) (@jsc _ _ _ _ _ (@jown _ _ _ _ (6) _ _ _ sc_L_yard.nd rfl (Or.inr rfl) (@ja0 _) (by rfl) (by walk_at "f")) (@jsc _ _ _ _ _ (@jfor _ _ _ _ _ _ _ _ PassesOwn.never rfl (@jiRange1 _ _ _ _ _ _ rfl z_range (@ja _ _ _ _ _ (@jop _ _ _ _ _ _ _ _ b_mod (@jop _ _ _ _ _ _ _ _ b_div (@jV _ 4 _ _ rfl (by walk_at "v")) (@ji _ _ _ _)) (@jop _ _ _ _ _ _ _ _ b_add (@jV _ 1 _ _ rfl (by walk_at "v")) (@ji _ _ _ _))) (@ja0 _) (star1 rfl)) (by rfl)) (@jg _ _ (7) _ sc_L_yard.nd rfl (Or.inl rfl) (by walk_at "f")) (@js1 _ _ _ (@japp _ _ _ _ _ _ _ _ _ (pv 6) (@jfzE _ 5 _ _ (@jcallC _ _ _ _ _ _ _ _ _ _ C_L_dial (hr.mono (by omega)) rfl (@ja _ _ _ _ _ (@jcallC _ _ _ _ _ _ _ _ _ _ C_L_wide (hr.mono (by omega)) rfl (@ja _ _ _ _ _ (@jV _ 0 _ _ rfl (by walk_at "v")) (@ja _ _ _ _ _ (@jop _ _ _ _ _ _ _ _ b_add (@ji _ _ _ _) (@jV _ 7 _ _ rfl (by walk_at "v"))) (@ja0 _) (star1 rfl)) (star1 rfl)) (by decide) (star1 rfl) (stars rfl)) (@ja _ _ _ _ _ (@jV _ 5 _ _ rfl (by walk_at "v")) (@ja0 _) (star1 rfl)) (star1 rfl)) (by decide) (star1 rfl) (stars rfl))) (by rfl) (by rfl) (by rfl) (by rfl) (by rfl) (by rfl))) (fun _ => rfl)) (@jsc _ _ _ _ _ (@jown _ _ _ _ (8) _ _ _ sc_L_yard.nd rfl (Or.inr rfl) (@ja0 _) (by rfl) (by walk_at "f")) (@jfrz _ _ 6 _ (@jsc _ _ _ _ _ (@jfor _ _ _ _ _ _ _ _ PassesOwn.never rfl (@jiRange1 _ _ _ _ _ _ rfl z_range (@ja _ _ _ _ _ (@jop _ _ _ _ _ _ _ _ b_mod (@jop _ _ _ _ _ _ _ _ b_div (@jV _ 4 _ _ rfl (by walk_at "v")) (@ji _ _ _ _)) (@jop _ _ _ _ _ _ _ _ b_add (@jV _ 2 _ _ rfl (by walk_at "v")) (@ji _ _ _ _))) (@ja0 _) (star1 rfl)) (by rfl)) (@jg _ _ (7) _ sc_L_yard.nd rfl (Or.inl rfl) (by walk_at "f")) (@js1 _ _ _ (@japp _ _ _ _ _ _ _ _ _ (pv 8) (@jfzE _ 5 _ _ (@jcallC _ _ _ _ _ _ _ _ _ _ C_L_fence (hr.mono (by omega)) rfl (@ja _ _ _ _ _ (@jcallC _ _ _ _ _ _ _ _ _ _ C_L_wide (hr.mono (by omega)) rfl (@ja _ _ _ _ _ (@jV _ 0 _ _ rfl (by walk_at "v")) (@ja _ _ _ _ _ (@jop _ _ _ _ _ _ _ _ b_add (@ji _ _ _ _) (@jV _ 7 _ _ rfl (by walk_at "v"))) (@ja0 _) (star1 rfl)) (star1 rfl)) (by decide) (star1 rfl) (stars rfl)) (@ja _ _ _ _ _ (@jV _ 5 _ _ rfl (by walk_at "v")) (@ja _ _ _ _ _ (@jV _ 6 _ _ rfl (by walk_at "v")) (@ja0 _) (star1 rfl)) (star1 rfl)) (star1 rfl)) (by decide) (star1 rfl) (stars rfl))) (by rfl) (by rfl) (by rfl) (by rfl) (by rfl) (by rfl))) (fun _ => rfl)) (@jfrz _ _ 8 _ (@jsc _ _ _ _ _ (@jsetcO _ _ _ _ _ _ _ (defScope st_L_yard) (["_law_k"]) (["_law_script" , "_law_most_dials" , "_law_most_shuts" , "_law_most_hours" , "_law_shape" , "_law_sun_here" , "_law_dials" , "_law_k" , "_law_shuts" , "_law_named" , "_law_faces"]) ([("_law_script" , 0) , ("_law_shuts" , 8)]) _ _ _ _ (9) _ _ _ sc_L_yard.nd rfl (Or.inl rfl) rfl rfl rfl (@jiRange1 _ _ _ _ _ _ rfl z_range (@ja _ _ _ _ _ (@jblt _ _ _ _ _ _ _ _ _ bl_len rfl z_len boot_len (@ja _ _ _ _ _ (@jV _ 8 _ _ rfl (by walk_at "v")) (@ja0 _) (star1 rfl)) (by decide) (by decide) (star1 rfl) (stars rfl)) (@ja0 _) (star1 rfl)) (by rfl)) rfl rfl (by decide +kernel) (by decide +kernel) (by decide +kernel) (by decide +kernel) (fun cl C s3 H2 ex => (@jg _ _ (0) _ (show List.Nodup (["_law_k" , "_law_script" , "_law_shuts"] : List Str) from by decide +kernel) rfl (Or.inl rfl) (by walk_at "f"))) (fun cl C s3 H2 ex => (@jts0 _)) (fun cl C s3 H2 ex => (@jtup _ _ _ _ _ (@ja _ _ _ _ _ (@jcallC _ _ _ _ _ _ _ _ _ _ C_L_name (hr.mono (by omega)) rfl (@ja _ _ _ _ _ (@jV _ 1 _ _ rfl (by walk_at "v")) (@ja _ _ _ _ _ (@jV _ 0 _ _ rfl (by walk_at "v")) (@ja0 _) (star1 rfl)) (star1 rfl)) (by decide) (star1 rfl) (stars rfl)) (@ja _ _ _ _ _ (@jix _ _ _ _ _ _ (@jV _ 2 _ _ rfl (by walk_at "v")) (@jV _ 0 _ _ rfl (by walk_at "v")) (fun _ _ => rfl)) (@ja0 _) (star1 rfl)) (star1 rfl)))) (fun _ => rfl) (by rfl) (by walk_at "f")) (@js1 _ _ _ (@jsetcO _ _ _ _ _ _ _ (defScope st_L_yard) (["_law_k"]) (["_law_script" , "_law_most_dials" , "_law_most_shuts" , "_law_most_hours" , "_law_shape" , "_law_sun_here" , "_law_dials" , "_law_k" , "_law_shuts" , "_law_named" , "_law_faces"]) ([("_law_script" , 0) , ("_law_dials" , 6)]) _ _ _ _ (10) _ _ _ sc_L_yard.nd rfl (Or.inl rfl) rfl rfl rfl (@jiRange1 _ _ _ _ _ _ rfl z_range (@ja _ _ _ _ _ (@jblt _ _ _ _ _ _ _ _ _ bl_len rfl z_len boot_len (@ja _ _ _ _ _ (@jV _ 6 _ _ rfl (by walk_at "v")) (@ja0 _) (star1 rfl)) (by decide) (by decide) (star1 rfl) (stars rfl)) (@ja0 _) (star1 rfl)) (by rfl)) rfl rfl (by decide +kernel) (by decide +kernel) (by decide +kernel) (by decide +kernel) (fun cl C s3 H2 ex => (@jg _ _ (0) _ (show List.Nodup (["_law_k" , "_law_script" , "_law_dials"] : List Str) from by decide +kernel) rfl (Or.inl rfl) (by walk_at "f"))) (fun cl C s3 H2 ex => (@jts0 _)) (fun cl C s3 H2 ex => (@jtup _ _ _ _ _ (@ja _ _ _ _ _ (@jcallC _ _ _ _ _ _ _ _ _ _ C_L_name (hr.mono (by omega)) rfl (@ja _ _ _ _ _ (@jV _ 1 _ _ rfl (by walk_at "v")) (@ja _ _ _ _ _ (@jop _ _ _ _ _ _ _ _ b_add (@ji _ _ _ _) (@jV _ 0 _ _ rfl (by walk_at "v"))) (@ja0 _) (star1 rfl)) (star1 rfl)) (by decide) (star1 rfl) (stars rfl)) (@ja _ _ _ _ _ (@jix _ _ _ _ _ _ (@jix _ _ _ _ _ _ (@jV _ 2 _ _ rfl (by walk_at "v")) (@jV _ 0 _ _ rfl (by walk_at "v")) (fun _ _ => rfl)) (@ji _ _ _ _) (fun _ _ => rfl)) (@ja _ _ _ _ _ (@jix _ _ _ _ _ _ (@jix _ _ _ _ _ _ (@jV _ 2 _ _ rfl (by walk_at "v")) (@jV _ 0 _ _ rfl (by walk_at "v")) (fun _ _ => rfl)) (@ji _ _ _ _) (fun _ _ => rfl)) (@ja0 _) (star1 rfl)) (star1 rfl)) (star1 rfl)))) (fun _ => rfl) (by rfl) (by walk_at "f")))))))))))), (@pv_cons _ _ _ _ _ (pv 5) (@pv_cons _ _ _ _ _ (pv 9) (@pv_cons _ _ _ _ _ (pv 10) (@pv_nil _) (star1 rfl)) (star1 rfl)) (star1 rfl))⟩) ok_L_yard)
abbrev st_L_law : Stmt := top 58
theorem sc_L_law : FnScope ["_law_script", "_law_yard_here", "_law_number", "_law_handed", "_law_hour", "_law_direction", "_law_name_here", "_law_plate", "_law_tip", "_law_due", "_law_found"] ["_law_script"] (defScope st_L_law) := by walk_at "s"
theorem fn_L_law {f : Addr} {fd : FuncData} (F : Fun K "law" "law" st_L_law f fd) (C_L_told : Cal P w K mg base 4 "_law_told" ["_law_yard_here", "_law_hour", "_law_name_here"] sp_L_told) (C_P_told_at : CalOT P w K mg base 8 "told_at" ["yard", "hour", "name"] sp_P_told_at) (C_L_same : Cal P w K mg base 1 "_law_same" ["_law_found", "_law_due"] sp_L_same) (C_L_yard : CalOT P w K mg base 4 "_law_yard" ["_law_script", "_law_most_dials", "_law_most_shuts", "_law_most_hours"] sp_L_yard) (C_L_wide : Cal P w K mg base 2 "_law_wide" ["_law_script", "_law_k"] sp_L_wide) (C_L_name : Cal P w K mg base 3 "_law_name" ["_law_script", "_law_k"] sp_L_name) (z_list : mg "list" = none) (z_len : mg "len" = none) : FnT P w K mg base 9 f fd ["_law_script"] lawSp :=
  fnT (W := w_L_law) F sc_L_law len_law (fun cdv A outer s H E hr =>
    (@jent _ _ _ (@jfc _ _ _ _ _ (@jfborn _ _ _ _ _ _ (1) _ _ _ _ _ _ _ sc_L_law.nd rfl (Or.inl rfl) C_L_yard (hr.mono (by omega)) rfl (@ja _ _ _ _ _ (@jV _ 0 _ _ rfl (by walk_at "v")) (@ja _ _ _ _ _ (@ji _ _ _ _) (@ja _ _ _ _ _ (@ji _ _ _ _) (@ja _ _ _ _ _ (@ji _ _ _ _) (@ja0 _) (star1 rfl)) (star1 rfl)) (star1 rfl)) (star1 rfl)) (by decide) (star1 rfl) (stars rfl) (by rfl) (by walk_at "f")) (@jfc _ _ _ _ _ (@jfset _ _ _ _ (2) _ _ sc_L_law.nd rfl (Or.inl rfl) (@jcallC _ _ _ _ _ _ _ _ _ _ C_L_wide (hr.mono (by omega)) rfl (@ja _ _ _ _ _ (@jV _ 0 _ _ rfl (by walk_at "v")) (@ja _ _ _ _ _ (@ji _ _ _ _) (@ja0 _) (star1 rfl)) (star1 rfl)) (by decide) (star1 rfl) (stars rfl)) (by rfl) (by walk_at "f")) (@jfc _ _ _ _ _ (@jfif _ _ _ _ _ _ _ _ (@jw _ _ _ (@tand _ _ _ _ _ _ _ (@tcmp _ _ _ _ _ _ _ _ (c_ne hr) (@jix _ _ _ _ _ _ (@jV _ 1 _ _ rfl (by walk_at "v")) (@ji _ _ _ _) (fun _ _ => rfl)) (@jlst _ _ _ _ (@ja0 _)) (nomark _)) (@tand1 _ _ _ _ (@tcmp _ _ _ _ _ _ _ _ (c_eq hr) (@jop _ _ _ _ _ _ _ _ b_mod (@jV _ 2 _ _ rfl (by walk_at "v")) (@ji _ _ _ _)) (@ji _ _ _ _) (nomark _))))) (@jf1 _ _ _ (@jfapp _ _ _ _ (1) (1) _ _ _ _ _ _ _ _ rfl (pv 1) (@jtup _ _ _ _ _ (@ja _ _ _ _ _ (@jcallC _ _ _ _ _ _ _ _ _ _ C_L_name (hr.mono (by omega)) rfl (@ja _ _ _ _ _ (@jV _ 0 _ _ rfl (by walk_at "v")) (@ja _ _ _ _ _ (@ji _ _ _ _) (@ja0 _) (star1 rfl)) (star1 rfl)) (by decide) (star1 rfl) (stars rfl)) (@ja _ _ _ _ _ (@jix _ _ _ _ _ _ (@jix _ _ _ _ _ _ (@jix _ _ _ _ _ _ (@jV _ 1 _ _ rfl (by walk_at "v")) (@ji _ _ _ _) (fun _ _ => rfl)) (@jop _ _ _ _ _ _ _ _ b_mod (@jop _ _ _ _ _ _ _ _ b_div (@jV _ 2 _ _ rfl (by walk_at "v")) (@ji _ _ _ _)) (@jblt _ _ _ _ _ _ _ _ _ bl_len rfl z_len boot_len (@ja _ _ _ _ _ (@jix _ _ _ _ _ _ (@jV _ 1 _ _ rfl (by walk_at "v")) (@ji _ _ _ _) (fun _ _ => rfl)) (@ja0 _) (star1 rfl)) (by decide) (by decide) (star1 rfl) (stars rfl))) (fun _ _ => rfl)) (@ji _ _ _ _) (fun _ _ => rfl)) (@ja0 _) (star1 rfl)) (star1 rfl))) (fun _ _ => rfl) (by rfl) (by rfl) (by rfl) (by rfl) (star1 rfl) (stars rfl))) (@jf0 _)) (@jfc _ _ _ _ _ (@jfif _ _ _ _ _ _ _ _ (@jw _ _ _ (@tand _ _ _ _ _ _ _ (@tcmp _ _ _ _ _ _ _ _ (c_ne hr) (@jix _ _ _ _ _ _ (@jV _ 1 _ _ rfl (by walk_at "v")) (@ji _ _ _ _) (fun _ _ => rfl)) (@jlst _ _ _ _ (@ja0 _)) (nomark _)) (@tand1 _ _ _ _ (@tcmp _ _ _ _ _ _ _ _ (c_eq hr) (@jop _ _ _ _ _ _ _ _ b_mod (@jop _ _ _ _ _ _ _ _ b_div (@jV _ 2 _ _ rfl (by walk_at "v")) (@ji _ _ _ _)) (@ji _ _ _ _)) (@ji _ _ _ _) (nomark _))))) (@jf1 _ _ _ (@jfapp _ _ _ _ (1) (1) _ _ _ _ _ _ _ _ rfl (pv 1) (@jtup _ _ _ _ _ (@ja _ _ _ _ _ (@jcallC _ _ _ _ _ _ _ _ _ _ C_L_name (hr.mono (by omega)) rfl (@ja _ _ _ _ _ (@jV _ 0 _ _ rfl (by walk_at "v")) (@ja _ _ _ _ _ (@ji _ _ _ _) (@ja0 _) (star1 rfl)) (star1 rfl)) (by decide) (star1 rfl) (stars rfl)) (@ja _ _ _ _ _ (@jix _ _ _ _ _ _ (@jix _ _ _ _ _ _ (@jix _ _ _ _ _ _ (@jV _ 1 _ _ rfl (by walk_at "v")) (@ji _ _ _ _) (fun _ _ => rfl)) (@jop _ _ _ _ _ _ _ _ b_mod (@jop _ _ _ _ _ _ _ _ b_div (@jV _ 2 _ _ rfl (by walk_at "v")) (@ji _ _ _ _)) (@jblt _ _ _ _ _ _ _ _ _ bl_len rfl z_len boot_len (@ja _ _ _ _ _ (@jix _ _ _ _ _ _ (@jV _ 1 _ _ rfl (by walk_at "v")) (@ji _ _ _ _) (fun _ _ => rfl)) (@ja0 _) (star1 rfl)) (by decide) (by decide) (star1 rfl) (stars rfl))) (fun _ _ => rfl)) (@ji _ _ _ _) (fun _ _ => rfl)) (@ja0 _) (star1 rfl)) (star1 rfl))) (fun _ _ => rfl) (by rfl) (by rfl) (by rfl) (by rfl) (star1 rfl) (stars rfl))) (@jf0 _)) (@jlv _ _ _ (@jsc _ _ _ _ _ (@jset _ _ _ _ (3) _ _ sc_L_law.nd rfl (Or.inl rfl) (@jtup _ _ _ _ _ (@ja _ _ _ _ _ (@jty _ _ _ _ _ _ _ _ _ ty_list rfl z_list boot_list (@ja _ _ _ _ _ (@jix _ _ _ _ _ _ (@jV _ 1 _ _ rfl (by walk_at "v")) (@ji _ _ _ _) (fun _ _ => rfl)) (@ja0 _) (star1 rfl)) (by decide) (by decide) (star1 rfl) (stars rfl)) (@ja _ _ _ _ _ (@jty _ _ _ _ _ _ _ _ _ ty_list rfl z_list boot_list (@ja _ _ _ _ _ (@jix _ _ _ _ _ _ (@jV _ 1 _ _ rfl (by walk_at "v")) (@ji _ _ _ _) (fun _ _ => rfl)) (@ja0 _) (star1 rfl)) (by decide) (by decide) (star1 rfl) (stars rfl)) (@ja _ _ _ _ _ (@jty _ _ _ _ _ _ _ _ _ ty_list rfl z_list boot_list (@ja _ _ _ _ _ (@jix _ _ _ _ _ _ (@jV _ 1 _ _ rfl (by walk_at "v")) (@ji _ _ _ _) (fun _ _ => rfl)) (@ja0 _) (star1 rfl)) (by decide) (by decide) (star1 rfl) (stars rfl)) (@ja0 _) (star1 rfl)) (star1 rfl)) (star1 rfl))) (by rfl) (by walk_at "f")) (@jsc _ _ _ _ _ (@jfor _ _ _ _ _ _ _ _ PassesOwn.never rfl (@jiSeq _ _ _ _ (@jix _ _ _ _ _ _ (@jV _ 1 _ _ rfl (by walk_at "v")) (@ji _ _ _ _) (fun _ _ => rfl))) (@jgt _ _ _ _ _ _ rfl (@jgsc _ _ _ _ _ (@jg _ _ (4) _ sc_L_law.nd rfl (Or.inl rfl) (by walk_at "f")) (@jgsc _ _ _ _ _ (@jg _ _ (5) _ sc_L_law.nd rfl (Or.inl rfl) (by walk_at "f")) (@jgs0 _) (by rfl)) (by rfl)) (by rfl) (by rfl)) (@js1 _ _ _ (@jfor _ _ _ _ _ _ _ _ PassesOwn.never rfl (@jiSeq _ _ _ _ (@jix _ _ _ _ _ _ (@jV _ 1 _ _ rfl (by walk_at "v")) (@ji _ _ _ _) (fun _ _ => rfl))) (@jgt _ _ _ _ _ _ rfl (@jgsc _ _ _ _ _ (@jg _ _ (6) _ sc_L_law.nd rfl (Or.inl rfl) (by walk_at "f")) (@jgsc _ _ _ _ _ (@jg _ _ (7) _ sc_L_law.nd rfl (Or.inl rfl) (by walk_at "f")) (@jgsc _ _ _ _ _ (@jg _ _ (8) _ sc_L_law.nd rfl (Or.inl rfl) (by walk_at "f")) (@jgs0 _) (by rfl)) (by rfl)) (by rfl)) (by rfl) (by rfl)) (@jsc _ _ _ _ _ (@jset _ _ _ _ (9) _ _ sc_L_law.nd rfl (Or.inl rfl) (@jcallC _ _ _ _ _ _ _ _ _ _ C_L_told (hr.mono (by omega)) rfl (@ja _ _ _ _ _ (@jV _ 1 _ _ rfl (by walk_at "v")) (@ja _ _ _ _ _ (@jV _ 4 _ _ rfl (by walk_at "v")) (@ja _ _ _ _ _ (@jV _ 6 _ _ rfl (by walk_at "v")) (@ja0 _) (star1 rfl)) (star1 rfl)) (star1 rfl)) (by decide) (star1 rfl) (stars rfl)) (by rfl) (by walk_at "f")) (@jent _ _ _ (@jfc _ _ _ _ _ (@jfborn _ _ _ _ _ _ (10) _ _ _ _ _ _ _ sc_L_law.nd rfl (Or.inl rfl) C_P_told_at (hr.mono (by omega)) rfl (@ja _ _ _ _ _ (@jV _ 3 _ _ rfl (by walk_at "v")) (@ja _ _ _ _ _ (@jV _ 4 _ _ rfl (by walk_at "v")) (@ja _ _ _ _ _ (@jV _ 6 _ _ rfl (by walk_at "v")) (@ja0 _) (star1 rfl)) (star1 rfl)) (star1 rfl)) (by decide) (star1 rfl) (stars rfl) (by rfl) (by walk_at "f")) (@jfc _ _ _ _ _ (@jfif _ _ _ _ _ _ _ _ (@jw _ _ _ (@tor _ _ _ _ _ _ _ (@tnot _ _ _ _ (@tval _ _ _ (@jcallC _ _ _ _ _ _ _ _ _ _ C_L_same (hr.mono (by omega)) rfl (@ja _ _ _ _ _ (@jV _ 10 _ _ rfl (by walk_at "v")) (@ja _ _ _ _ _ (@jV _ 9 _ _ rfl (by walk_at "v")) (@ja0 _) (star1 rfl)) (star1 rfl)) (by decide) (star1 rfl) (stars rfl)) (fun _ => rfl))) (@tor1 _ _ _ _ (@tcmp _ _ _ _ _ _ _ _ (c_ne hr) (@jV _ 3 _ _ rfl (by walk_at "v")) (@jV _ 1 _ _ rfl (by walk_at "v")) (nomark _))))) (@jf1 _ _ _ (@jfret _ _ _ _ (@jb _ _ _ _))) (@jf0 _)) (@jf1 _ _ _ (@jfif _ _ _ _ _ _ _ _ (@tcmp _ _ _ _ _ _ _ _ (c_eq hr) (@jix _ _ _ _ _ _ (@jV _ 9 _ _ rfl (by walk_at "v")) (@ji _ _ _ _) (fun _ _ => rfl)) (@js _ _ _ _) (nomark _)) (@jfc _ _ _ _ _ (@jfapp _ _ _ _ (10) (1) _ _ _ _ _ _ _ _ rfl (pv 10) (@js _ _ _ _) (fun _ _ => rfl) (by rfl) (by rfl) (by rfl) (by rfl) (star1 rfl) (stars rfl)) (@jf1 _ _ _ (@jfif _ _ _ _ _ _ _ _ (@tnot _ _ _ _ (@tval _ _ _ (@jcallC _ _ _ _ _ _ _ _ _ _ C_L_same (hr.mono (by omega)) rfl (@ja _ _ _ _ _ (@jcallOT _ _ _ _ _ _ _ _ _ _ C_P_told_at (hr.mono (by omega)) rfl (@ja _ _ _ _ _ (@jV _ 3 _ _ rfl (by walk_at "v")) (@ja _ _ _ _ _ (@jV _ 4 _ _ rfl (by walk_at "v")) (@ja _ _ _ _ _ (@jV _ 6 _ _ rfl (by walk_at "v")) (@ja0 _) (star1 rfl)) (star1 rfl)) (star1 rfl)) (by decide) (star1 rfl) (stars rfl)) (@ja _ _ _ _ _ (@jV _ 9 _ _ rfl (by walk_at "v")) (@ja0 _) (star1 rfl)) (star1 rfl)) (by decide) (star1 rfl) (stars rfl)) (fun _ => rfl))) (@jf1 _ _ _ (@jfret _ _ _ _ (@jb _ _ _ _))) (@jf0 _)))) (@jf0 _))))))) (fun _ => rfl))) (fun _ => rfl)) (@js1 _ _ _ (@jret _ _ _ _ (@jb _ _ _ _)))))))))))) ok_L_law
end
theorem all_mk {l : PySem.W.OpenLaw} {w : World} {K : PySem.W.Frag} {h : Heap} {mg : Str → Option Value} {fa f0 f1 f2 f3 f4 f5 f6 f7 f8 f9 f10 f11 f12 f13 f14 f15 f16 f17 f18 f19 f20 f21 f22 f23 f24 f25 f26 f27 f28 f29 f30 f31 f32 f33 f34 f35 f36 f37 f38 f39 f40 f41 f42 f43 f44 : Addr} (X : K.In h) (G : h.Ns mainGlobals mg) (hfa : mg "law" = some (.ref fa))
    {od0 an0 od1 an1 od2 an2 od3 an3 od4 an4 od5 an5 od6 an6 od7 an7 od8 an8 od9 an9 od10 an10 od11 an11 od12 an12 od13 an13 od14 an14 od15 an15 od16 an16 od17 an17 od18 an18 od19 an19 od20 an20 od21 an21 od22 an22 od23 an23 od24 an24 od25 an25 od26 an26 od27 an27 od28 an28 od29 an29 od30 an30 od31 an31 od32 an32 od33 an33 od34 an34 od35 an35 od36 an36 od37 an37 od38 an38 od39 an39 od40 an40 od41 an41 od42 an42 od43 an43 od44 an44 : Option Addr} {sl0 sl1 sl2 sl3 sl4 sl5 sl6 sl7 sl8 sl9 sl10 sl11 sl12 sl13 sl14 sl15 sl16 sl17 sl18 sl19 sl20 sl21 sl22 sl23 sl24 sl25 sl26 sl27 sl28 sl29 sl30 sl31 sl32 sl33 sl34 sl35 sl36 sl37 sl38 sl39 sl40 sl41 sl42 sl43 sl44 : Array (Option Value)} {oc0 kV0 dc0 pm0 cd0 ct0 oc1 kV1 dc1 pm1 cd1 ct1 oc2 kV2 dc2 pm2 cd2 ct2 oc3 kV3 dc3 pm3 cd3 ct3 oc4 kV4 dc4 pm4 cd4 ct4 oc5 kV5 dc5 pm5 cd5 ct5 oc6 kV6 dc6 pm6 cd6 ct6 oc7 kV7 dc7 pm7 cd7 ct7 oc8 kV8 dc8 pm8 cd8 ct8 oc9 kV9 dc9 pm9 cd9 ct9 oc10 kV10 dc10 pm10 cd10 ct10 oc11 kV11 dc11 pm11 cd11 ct11 oc12 kV12 dc12 pm12 cd12 ct12 oc13 kV13 dc13 pm13 cd13 ct13 oc14 kV14 dc14 pm14 cd14 ct14 oc15 kV15 dc15 pm15 cd15 ct15 oc16 kV16 dc16 pm16 cd16 ct16 oc17 kV17 dc17 pm17 cd17 ct17 oc18 kV18 dc18 pm18 cd18 ct18 oc19 kV19 dc19 pm19 cd19 ct19 oc20 kV20 dc20 pm20 cd20 ct20 oc21 kV21 dc21 pm21 cd21 ct21 oc22 kV22 dc22 pm22 cd22 ct22 oc23 kV23 dc23 pm23 cd23 ct23 oc24 kV24 dc24 pm24 cd24 ct24 oc25 kV25 dc25 pm25 cd25 ct25 oc26 kV26 dc26 pm26 cd26 ct26 oc27 kV27 dc27 pm27 cd27 ct27 oc28 kV28 dc28 pm28 cd28 ct28 oc29 kV29 dc29 pm29 cd29 ct29 oc30 kV30 dc30 pm30 cd30 ct30 oc31 kV31 dc31 pm31 cd31 ct31 oc32 kV32 dc32 pm32 cd32 ct32 oc33 kV33 dc33 pm33 cd33 ct33 oc34 kV34 dc34 pm34 cd34 ct34 oc35 kV35 dc35 pm35 cd35 ct35 oc36 kV36 dc36 pm36 cd36 ct36 oc37 kV37 dc37 pm37 cd37 ct37 oc38 kV38 dc38 pm38 cd38 ct38 oc39 kV39 dc39 pm39 cd39 ct39 oc40 kV40 dc40 pm40 cd40 ct40 oc41 kV41 dc41 pm41 cd41 ct41 oc42 kV42 dc42 pm42 cd42 ct42 oc43 kV43 dc43 pm43 cd43 ct43 oc44 kV44 dc44 pm44 cd44 ct44 : Value}
    (a0 : PySem.W.nsIn K mainGlobals "_law_cross" = some (some (.ref f0))) (l0 : K.lookup f0 = some ⟨oc0, od0, .func (PySem.W.fnOf "_law_cross" "_law_cross" (defArgs st_L_cross) (defBody st_L_cross) (defScope st_L_cross) .none kV0 dc0 pm0 an0 cd0 ct0), sl0⟩) (c0 : PySem.W.codeIn K cd0 "_law_cross" = true) (k0 : PySem.W.keepIn K (.ref f0) = true)
    (a1 : PySem.W.nsIn K mainGlobals "_law_dot" = some (some (.ref f1))) (l1 : K.lookup f1 = some ⟨oc1, od1, .func (PySem.W.fnOf "_law_dot" "_law_dot" (defArgs st_L_dot) (defBody st_L_dot) (defScope st_L_dot) .none kV1 dc1 pm1 an1 cd1 ct1), sl1⟩) (c1 : PySem.W.codeIn K cd1 "_law_dot" = true) (k1 : PySem.W.keepIn K (.ref f1) = true)
    (a2 : PySem.W.nsIn K mainGlobals "_law_on" = some (some (.ref f2))) (l2 : K.lookup f2 = some ⟨oc2, od2, .func (PySem.W.fnOf "_law_on" "_law_on" (defArgs st_L_on) (defBody st_L_on) (defScope st_L_on) .none kV2 dc2 pm2 an2 cd2 ct2), sl2⟩) (c2 : PySem.W.codeIn K cd2 "_law_on" = true) (k2 : PySem.W.keepIn K (.ref f2) = true)
    (a3 : PySem.W.nsIn K mainGlobals "_law_ratio" = some (some (.ref f3))) (l3 : K.lookup f3 = some ⟨oc3, od3, .func (PySem.W.fnOf "_law_ratio" "_law_ratio" (defArgs st_L_ratio) (defBody st_L_ratio) (defScope st_L_ratio) .none kV3 dc3 pm3 an3 cd3 ct3), sl3⟩) (c3 : PySem.W.codeIn K cd3 "_law_ratio" = true) (k3 : PySem.W.keepIn K (.ref f3) = true)
    (a4 : PySem.W.nsIn K mainGlobals "_law_places" = some (some (.ref f4))) (l4 : K.lookup f4 = some ⟨oc4, od4, .func (PySem.W.fnOf "_law_places" "_law_places" (defArgs st_L_places) (defBody st_L_places) (defScope st_L_places) .none kV4 dc4 pm4 an4 cd4 ct4), sl4⟩) (c4 : PySem.W.codeIn K cd4 "_law_places" = true) (k4 : PySem.W.keepIn K (.ref f4) = true)
    (a5 : PySem.W.nsIn K mainGlobals "_law_within" = some (some (.ref f5))) (l5 : K.lookup f5 = some ⟨oc5, od5, .func (PySem.W.fnOf "_law_within" "_law_within" (defArgs st_L_within) (defBody st_L_within) (defScope st_L_within) .none kV5 dc5 pm5 an5 cd5 ct5), sl5⟩) (c5 : PySem.W.codeIn K cd5 "_law_within" = true) (k5 : PySem.W.keepIn K (.ref f5) = true)
    (a6 : PySem.W.nsIn K mainGlobals "_law_hides" = some (some (.ref f6))) (l6 : K.lookup f6 = some ⟨oc6, od6, .func (PySem.W.fnOf "_law_hides" "_law_hides" (defArgs st_L_hides) (defBody st_L_hides) (defScope st_L_hides) .none kV6 dc6 pm6 an6 cd6 ct6), sl6⟩) (c6 : PySem.W.codeIn K cd6 "_law_hides" = true) (k6 : PySem.W.keepIn K (.ref f6) = true)
    (a7 : PySem.W.nsIn K mainGlobals "_law_told" = some (some (.ref f7))) (l7 : K.lookup f7 = some ⟨oc7, od7, .func (PySem.W.fnOf "_law_told" "_law_told" (defArgs st_L_told) (defBody st_L_told) (defScope st_L_told) .none kV7 dc7 pm7 an7 cd7 ct7), sl7⟩) (c7 : PySem.W.codeIn K cd7 "_law_told" = true) (k7 : PySem.W.keepIn K (.ref f7) = true)
    (a8 : PySem.W.nsIn K mainGlobals "is_whole" = some (some (.ref f8))) (l8 : K.lookup f8 = some ⟨oc8, od8, .func (PySem.W.fnOf "is_whole" "is_whole" (defArgs st_P_is_whole) (defBody st_P_is_whole) (defScope st_P_is_whole) .none kV8 dc8 pm8 an8 cd8 ct8), sl8⟩) (c8 : PySem.W.codeIn K cd8 "is_whole" = true) (k8 : PySem.W.keepIn K (.ref f8) = true)
    (a9 : PySem.W.nsIn K mainGlobals "direction_at" = some (some (.ref f9))) (l9 : K.lookup f9 = some ⟨oc9, od9, .func (PySem.W.fnOf "direction_at" "direction_at" (defArgs st_P_direction_at) (defBody st_P_direction_at) (defScope st_P_direction_at) .none kV9 dc9 pm9 an9 cd9 ct9), sl9⟩) (c9 : PySem.W.codeIn K cd9 "direction_at" = true) (k9 : PySem.W.keepIn K (.ref f9) = true)
    (a10 : PySem.W.nsIn K mainGlobals "dial_of" = some (some (.ref f10))) (l10 : K.lookup f10 = some ⟨oc10, od10, .func (PySem.W.fnOf "dial_of" "dial_of" (defArgs st_P_dial_of) (defBody st_P_dial_of) (defScope st_P_dial_of) .none kV10 dc10 pm10 an10 cd10 ct10), sl10⟩) (c10 : PySem.W.codeIn K cd10 "dial_of" = true) (k10 : PySem.W.keepIn K (.ref f10) = true)
    (a11 : PySem.W.nsIn K mainGlobals "is_up" = some (some (.ref f11))) (l11 : K.lookup f11 = some ⟨oc11, od11, .func (PySem.W.fnOf "is_up" "is_up" (defArgs st_P_is_up) (defBody st_P_is_up) (defScope st_P_is_up) .none kV11 dc11 pm11 an11 cd11 ct11), sl11⟩) (c11 : PySem.W.codeIn K cd11 "is_up" = true) (k11 : PySem.W.keepIn K (.ref f11) = true)
    (a12 : PySem.W.nsIn K mainGlobals "cross_of" = some (some (.ref f12))) (l12 : K.lookup f12 = some ⟨oc12, od12, .func (PySem.W.fnOf "cross_of" "cross_of" (defArgs st_P_cross_of) (defBody st_P_cross_of) (defScope st_P_cross_of) .none kV12 dc12 pm12 an12 cd12 ct12), sl12⟩) (c12 : PySem.W.codeIn K cd12 "cross_of" = true) (k12 : PySem.W.keepIn K (.ref f12) = true)
    (a13 : PySem.W.nsIn K mainGlobals "front_of" = some (some (.ref f13))) (l13 : K.lookup f13 = some ⟨oc13, od13, .func (PySem.W.fnOf "front_of" "front_of" (defArgs st_P_front_of) (defBody st_P_front_of) (defScope st_P_front_of) .none kV13 dc13 pm13 an13 cd13 ct13), sl13⟩) (c13 : PySem.W.codeIn K cd13 "front_of" = true) (k13 : PySem.W.keepIn K (.ref f13) = true)
    (a14 : PySem.W.nsIn K mainGlobals "dot_of" = some (some (.ref f14))) (l14 : K.lookup f14 = some ⟨oc14, od14, .func (PySem.W.fnOf "dot_of" "dot_of" (defArgs st_P_dot_of) (defBody st_P_dot_of) (defScope st_P_dot_of) .none kV14 dc14 pm14 an14 cd14 ct14), sl14⟩) (c14 : PySem.W.codeIn K cd14 "dot_of" = true) (k14 : PySem.W.keepIn K (.ref f14) = true)
    (a15 : PySem.W.nsIn K mainGlobals "comes_from_ahead" = some (some (.ref f15))) (l15 : K.lookup f15 = some ⟨oc15, od15, .func (PySem.W.fnOf "comes_from_ahead" "comes_from_ahead" (defArgs st_P_comes_from_ahead) (defBody st_P_comes_from_ahead) (defScope st_P_comes_from_ahead) .none kV15 dc15 pm15 an15 cd15 ct15), sl15⟩) (c15 : PySem.W.codeIn K cd15 "comes_from_ahead" = true) (k15 : PySem.W.keepIn K (.ref f15) = true)
    (a16 : PySem.W.nsIn K mainGlobals "as_point" = some (some (.ref f16))) (l16 : K.lookup f16 = some ⟨oc16, od16, .func (PySem.W.fnOf "as_point" "as_point" (defArgs st_P_as_point) (defBody st_P_as_point) (defScope st_P_as_point) .none kV16 dc16 pm16 an16 cd16 ct16), sl16⟩) (c16 : PySem.W.codeIn K cd16 "as_point" = true) (k16 : PySem.W.keepIn K (.ref f16) = true)
    (a17 : PySem.W.nsIn K mainGlobals "greatest_factor" = some (some (.ref f17))) (l17 : K.lookup f17 = some ⟨oc17, od17, .func (PySem.W.fnOf "greatest_factor" "greatest_factor" (defArgs st_P_greatest_factor) (defBody st_P_greatest_factor) (defScope st_P_greatest_factor) .none kV17 dc17 pm17 an17 cd17 ct17), sl17⟩) (c17 : PySem.W.codeIn K cd17 "greatest_factor" = true) (k17 : PySem.W.keepIn K (.ref f17) = true)
    (a18 : PySem.W.nsIn K mainGlobals "ratio_of" = some (some (.ref f18))) (l18 : K.lookup f18 = some ⟨oc18, od18, .func (PySem.W.fnOf "ratio_of" "ratio_of" (defArgs st_P_ratio_of) (defBody st_P_ratio_of) (defScope st_P_ratio_of) .none kV18 dc18 pm18 an18 cd18 ct18), sl18⟩) (c18 : PySem.W.codeIn K cd18 "ratio_of" = true) (k18 : PySem.W.keepIn K (.ref f18) = true)
    (a19 : PySem.W.nsIn K mainGlobals "ratio_less" = some (some (.ref f19))) (l19 : K.lookup f19 = some ⟨oc19, od19, .func (PySem.W.fnOf "ratio_less" "ratio_less" (defArgs st_P_ratio_less) (defBody st_P_ratio_less) (defScope st_P_ratio_less) .none kV19 dc19 pm19 an19 cd19 ct19), sl19⟩) (c19 : PySem.W.codeIn K cd19 "ratio_less" = true) (k19 : PySem.W.keepIn K (.ref f19) = true)
    (a20 : PySem.W.nsIn K mainGlobals "point_less" = some (some (.ref f20))) (l20 : K.lookup f20 = some ⟨oc20, od20, .func (PySem.W.fnOf "point_less" "point_less" (defArgs st_P_point_less) (defBody st_P_point_less) (defScope st_P_point_less) .none kV20 dc20 pm20 an20 cd20 ct20), sl20⟩) (c20 : PySem.W.codeIn K cd20 "point_less" = true) (k20 : PySem.W.keepIn K (.ref f20) = true)
    (a21 : PySem.W.nsIn K mainGlobals "ratio_times" = some (some (.ref f21))) (l21 : K.lookup f21 = some ⟨oc21, od21, .func (PySem.W.fnOf "ratio_times" "ratio_times" (defArgs st_P_ratio_times) (defBody st_P_ratio_times) (defScope st_P_ratio_times) .none kV21 dc21 pm21 an21 cd21 ct21), sl21⟩) (c21 : PySem.W.codeIn K cd21 "ratio_times" = true) (k21 : PySem.W.keepIn K (.ref f21) = true)
    (a22 : PySem.W.nsIn K mainGlobals "ratio_sum" = some (some (.ref f22))) (l22 : K.lookup f22 = some ⟨oc22, od22, .func (PySem.W.fnOf "ratio_sum" "ratio_sum" (defArgs st_P_ratio_sum) (defBody st_P_ratio_sum) (defScope st_P_ratio_sum) .none kV22 dc22 pm22 an22 cd22 ct22), sl22⟩) (c22 : PySem.W.codeIn K cd22 "ratio_sum" = true) (k22 : PySem.W.keepIn K (.ref f22) = true)
    (a23 : PySem.W.nsIn K mainGlobals "point_dot" = some (some (.ref f23))) (l23 : K.lookup f23 = some ⟨oc23, od23, .func (PySem.W.fnOf "point_dot" "point_dot" (defArgs st_P_point_dot) (defBody st_P_point_dot) (defScope st_P_point_dot) .none kV23 dc23 pm23 an23 cd23 ct23), sl23⟩) (c23 : PySem.W.codeIn K cd23 "point_dot" = true) (k23 : PySem.W.keepIn K (.ref f23) = true)
    (a24 : PySem.W.nsIn K mainGlobals "ratio_by" = some (some (.ref f24))) (l24 : K.lookup f24 = some ⟨oc24, od24, .func (PySem.W.fnOf "ratio_by" "ratio_by" (defArgs st_P_ratio_by) (defBody st_P_ratio_by) (defScope st_P_ratio_by) .none kV24 dc24 pm24 an24 cd24 ct24), sl24⟩) (c24 : PySem.W.codeIn K cd24 "ratio_by" = true) (k24 : PySem.W.keepIn K (.ref f24) = true)
    (a25 : PySem.W.nsIn K mainGlobals "meeting_of" = some (some (.ref f25))) (l25 : K.lookup f25 = some ⟨oc25, od25, .func (PySem.W.fnOf "meeting_of" "meeting_of" (defArgs st_P_meeting_of) (defBody st_P_meeting_of) (defScope st_P_meeting_of) .none kV25 dc25 pm25 an25 cd25 ct25), sl25⟩) (c25 : PySem.W.codeIn K cd25 "meeting_of" = true) (k25 : PySem.W.keepIn K (.ref f25) = true)
    (a26 : PySem.W.nsIn K mainGlobals "shadow_of" = some (some (.ref f26))) (l26 : K.lookup f26 = some ⟨oc26, od26, .func (PySem.W.fnOf "shadow_of" "shadow_of" (defArgs st_P_shadow_of) (defBody st_P_shadow_of) (defScope st_P_shadow_of) .none kV26 dc26 pm26 an26 cd26 ct26), sl26⟩) (c26 : PySem.W.codeIn K cd26 "shadow_of" = true) (k26 : PySem.W.keepIn K (.ref f26) = true)
    (a27 : PySem.W.nsIn K mainGlobals "lies_on" = some (some (.ref f27))) (l27 : K.lookup f27 = some ⟨oc27, od27, .func (PySem.W.fnOf "lies_on" "lies_on" (defArgs st_P_lies_on) (defBody st_P_lies_on) (defScope st_P_lies_on) .none kV27 dc27 pm27 an27 cd27 ct27), sl27⟩) (c27 : PySem.W.codeIn K cd27 "lies_on" = true) (k27 : PySem.W.keepIn K (.ref f27) = true)
    (a28 : PySem.W.nsIn K mainGlobals "number_at" = some (some (.ref f28))) (l28 : K.lookup f28 = some ⟨oc28, od28, .func (PySem.W.fnOf "number_at" "number_at" (defArgs st_P_number_at) (defBody st_P_number_at) (defScope st_P_number_at) .none kV28 dc28 pm28 an28 cd28 ct28), sl28⟩) (c28 : PySem.W.codeIn K cd28 "number_at" = true) (k28 : PySem.W.keepIn K (.ref f28) = true)
    (a29 : PySem.W.nsIn K mainGlobals "point_of" = some (some (.ref f29))) (l29 : K.lookup f29 = some ⟨oc29, od29, .func (PySem.W.fnOf "point_of" "point_of" (defArgs st_P_point_of) (defBody st_P_point_of) (defScope st_P_point_of) .none kV29 dc29 pm29 an29 cd29 ct29), sl29⟩) (c29 : PySem.W.codeIn K cd29 "point_of" = true) (k29 : PySem.W.keepIn K (.ref f29) = true)
    (a30 : PySem.W.nsIn K mainGlobals "goes_towards" = some (some (.ref f30))) (l30 : K.lookup f30 = some ⟨oc30, od30, .func (PySem.W.fnOf "goes_towards" "goes_towards" (defArgs st_P_goes_towards) (defBody st_P_goes_towards) (defScope st_P_goes_towards) .none kV30 dc30 pm30 an30 cd30 ct30), sl30⟩) (c30 : PySem.W.codeIn K cd30 "goes_towards" = true) (k30 : PySem.W.keepIn K (.ref f30) = true)
    (a31 : PySem.W.nsIn K mainGlobals "hides_point" = some (some (.ref f31))) (l31 : K.lookup f31 = some ⟨oc31, od31, .func (PySem.W.fnOf "hides_point" "hides_point" (defArgs st_P_hides_point) (defBody st_P_hides_point) (defScope st_P_hides_point) .none kV31 dc31 pm31 an31 cd31 ct31), sl31⟩) (c31 : PySem.W.codeIn K cd31 "hides_point" = true) (k31 : PySem.W.keepIn K (.ref f31) = true)
    (a32 : PySem.W.nsIn K mainGlobals "names_hiding" = some (some (.ref f32))) (l32 : K.lookup f32 = some ⟨oc32, od32, .func (PySem.W.fnOf "names_hiding" "names_hiding" (defArgs st_P_names_hiding) (defBody st_P_names_hiding) (defScope st_P_names_hiding) .none kV32 dc32 pm32 an32 cd32 ct32), sl32⟩) (c32 : PySem.W.codeIn K cd32 "names_hiding" = true) (k32 : PySem.W.keepIn K (.ref f32) = true)
    (a33 : PySem.W.nsIn K mainGlobals "told_at" = some (some (.ref f33))) (l33 : K.lookup f33 = some ⟨oc33, od33, .func (PySem.W.fnOf "told_at" "told_at" (defArgs st_P_told_at) (defBody st_P_told_at) (defScope st_P_told_at) .none kV33 dc33 pm33 an33 cd33 ct33), sl33⟩) (c33 : PySem.W.codeIn K cd33 "told_at" = true) (k33 : PySem.W.keepIn K (.ref f33) = true)
    (a34 : PySem.W.nsIn K mainGlobals "_law_same" = some (some (.ref f34))) (l34 : K.lookup f34 = some ⟨oc34, od34, .func (PySem.W.fnOf "_law_same" "_law_same" (defArgs st_L_same) (defBody st_L_same) (defScope st_L_same) .none kV34 dc34 pm34 an34 cd34 ct34), sl34⟩) (c34 : PySem.W.codeIn K cd34 "_law_same" = true) (k34 : PySem.W.keepIn K (.ref f34) = true)
    (a35 : PySem.W.nsIn K mainGlobals "_law_cell" = some (some (.ref f35))) (l35 : K.lookup f35 = some ⟨oc35, od35, .func (PySem.W.fnOf "_law_cell" "_law_cell" (defArgs st_L_cell) (defBody st_L_cell) (defScope st_L_cell) .none kV35 dc35 pm35 an35 cd35 ct35), sl35⟩) (c35 : PySem.W.codeIn K cd35 "_law_cell" = true) (k35 : PySem.W.keepIn K (.ref f35) = true)
    (a36 : PySem.W.nsIn K mainGlobals "_law_wide" = some (some (.ref f36))) (l36 : K.lookup f36 = some ⟨oc36, od36, .func (PySem.W.fnOf "_law_wide" "_law_wide" (defArgs st_L_wide) (defBody st_L_wide) (defScope st_L_wide) .none kV36 dc36 pm36 an36 cd36 ct36), sl36⟩) (c36 : PySem.W.codeIn K cd36 "_law_wide" = true) (k36 : PySem.W.keepIn K (.ref f36) = true)
    (a37 : PySem.W.nsIn K mainGlobals "_law_sun" = some (some (.ref f37))) (l37 : K.lookup f37 = some ⟨oc37, od37, .func (PySem.W.fnOf "_law_sun" "_law_sun" (defArgs st_L_sun) (defBody st_L_sun) (defScope st_L_sun) .none kV37 dc37 pm37 an37 cd37 ct37), sl37⟩) (c37 : PySem.W.codeIn K cd37 "_law_sun" = true) (k37 : PySem.W.keepIn K (.ref f37) = true)
    (a38 : PySem.W.nsIn K mainGlobals "_law_triple" = some (some (.ref f38))) (l38 : K.lookup f38 = some ⟨oc38, od38, .func (PySem.W.fnOf "_law_triple" "_law_triple" (defArgs st_L_triple) (defBody st_L_triple) (defScope st_L_triple) .none kV38 dc38 pm38 an38 cd38 ct38), sl38⟩) (c38 : PySem.W.codeIn K cd38 "_law_triple" = true) (k38 : PySem.W.keepIn K (.ref f38) = true)
    (a39 : PySem.W.nsIn K mainGlobals "_law_pair" = some (some (.ref f39))) (l39 : K.lookup f39 = some ⟨oc39, od39, .func (PySem.W.fnOf "_law_pair" "_law_pair" (defArgs st_L_pair) (defBody st_L_pair) (defScope st_L_pair) .none kV39 dc39 pm39 an39 cd39 ct39), sl39⟩) (c39 : PySem.W.codeIn K cd39 "_law_pair" = true) (k39 : PySem.W.keepIn K (.ref f39) = true)
    (a40 : PySem.W.nsIn K mainGlobals "_law_dial" = some (some (.ref f40))) (l40 : K.lookup f40 = some ⟨oc40, od40, .func (PySem.W.fnOf "_law_dial" "_law_dial" (defArgs st_L_dial) (defBody st_L_dial) (defScope st_L_dial) .none kV40 dc40 pm40 an40 cd40 ct40), sl40⟩) (c40 : PySem.W.codeIn K cd40 "_law_dial" = true) (k40 : PySem.W.keepIn K (.ref f40) = true)
    (a41 : PySem.W.nsIn K mainGlobals "_law_fence" = some (some (.ref f41))) (l41 : K.lookup f41 = some ⟨oc41, od41, .func (PySem.W.fnOf "_law_fence" "_law_fence" (defArgs st_L_fence) (defBody st_L_fence) (defScope st_L_fence) .none kV41 dc41 pm41 an41 cd41 ct41), sl41⟩) (c41 : PySem.W.codeIn K cd41 "_law_fence" = true) (k41 : PySem.W.keepIn K (.ref f41) = true)
    (a42 : PySem.W.nsIn K mainGlobals "_law_name" = some (some (.ref f42))) (l42 : K.lookup f42 = some ⟨oc42, od42, .func (PySem.W.fnOf "_law_name" "_law_name" (defArgs st_L_name) (defBody st_L_name) (defScope st_L_name) .none kV42 dc42 pm42 an42 cd42 ct42), sl42⟩) (c42 : PySem.W.codeIn K cd42 "_law_name" = true) (k42 : PySem.W.keepIn K (.ref f42) = true)
    (a43 : PySem.W.nsIn K mainGlobals "_law_yard" = some (some (.ref f43))) (l43 : K.lookup f43 = some ⟨oc43, od43, .func (PySem.W.fnOf "_law_yard" "_law_yard" (defArgs st_L_yard) (defBody st_L_yard) (defScope st_L_yard) .none kV43 dc43 pm43 an43 cd43 ct43), sl43⟩) (c43 : PySem.W.codeIn K cd43 "_law_yard" = true) (k43 : PySem.W.keepIn K (.ref f43) = true)
    (a44 : PySem.W.nsIn K mainGlobals "law" = some (some (.ref f44))) (l44 : K.lookup f44 = some ⟨oc44, od44, .func (PySem.W.fnOf "law" "law" (defArgs st_L_law) (defBody st_L_law) (defScope st_L_law) .none kV44 dc44 pm44 an44 cd44 ct44), sl44⟩) (c44 : PySem.W.codeIn K cd44 "law" = true) (k44 : PySem.W.keepIn K (.ref f44) = true)
    (z0 : PySem.W.nsIn K mainGlobals "abs" = some none)
    (z1 : PySem.W.nsIn K mainGlobals "sorted" = some none)
    (z2 : PySem.W.nsIn K mainGlobals "isinstance" = some none)
    (z3 : PySem.W.nsIn K mainGlobals "int" = some none)
    (z4 : PySem.W.nsIn K mainGlobals "bool" = some none)
    (z5 : PySem.W.nsIn K mainGlobals "str" = some none)
    (z6 : PySem.W.nsIn K mainGlobals "tuple" = some none)
    (z7 : PySem.W.nsIn K mainGlobals "range" = some none)
    (z8 : PySem.W.nsIn K mainGlobals "all" = some none)
    (z9 : PySem.W.nsIn K mainGlobals "len" = some none)
    (z10 : PySem.W.nsIn K mainGlobals "list" = some none)
    : ∃ fd : FuncData, (∀ (s : Shared) (v : Value), BindsTo s fd ⟨[v], []⟩ [("_law_script", v)]) ∧ ∀ base : Heap, K.In base → base.Ns mainGlobals mg → FnOk l.prog w K mg base CX0 9 fa fd ["_law_script"] (spT K 1 lawSp) := by
  have e := hfa.symm.trans (PySem.W.mg_of X G a44)
  cases e
  have F0 := fun_mk (st := st_L_cross) l0 c0 k0
  have F1 := fun_mk (st := st_L_dot) l1 c1 k1
  have F2 := fun_mk (st := st_L_on) l2 c2 k2
  have F3 := fun_mk (st := st_L_ratio) l3 c3 k3
  have F4 := fun_mk (st := st_L_places) l4 c4 k4
  have F5 := fun_mk (st := st_L_within) l5 c5 k5
  have F6 := fun_mk (st := st_L_hides) l6 c6 k6
  have F7 := fun_mk (st := st_L_told) l7 c7 k7
  have F8 := fun_mk (st := st_P_is_whole) l8 c8 k8
  have F9 := fun_mk (st := st_P_direction_at) l9 c9 k9
  have F10 := fun_mk (st := st_P_dial_of) l10 c10 k10
  have F11 := fun_mk (st := st_P_is_up) l11 c11 k11
  have F12 := fun_mk (st := st_P_cross_of) l12 c12 k12
  have F13 := fun_mk (st := st_P_front_of) l13 c13 k13
  have F14 := fun_mk (st := st_P_dot_of) l14 c14 k14
  have F15 := fun_mk (st := st_P_comes_from_ahead) l15 c15 k15
  have F16 := fun_mk (st := st_P_as_point) l16 c16 k16
  have F17 := fun_mk (st := st_P_greatest_factor) l17 c17 k17
  have F18 := fun_mk (st := st_P_ratio_of) l18 c18 k18
  have F19 := fun_mk (st := st_P_ratio_less) l19 c19 k19
  have F20 := fun_mk (st := st_P_point_less) l20 c20 k20
  have F21 := fun_mk (st := st_P_ratio_times) l21 c21 k21
  have F22 := fun_mk (st := st_P_ratio_sum) l22 c22 k22
  have F23 := fun_mk (st := st_P_point_dot) l23 c23 k23
  have F24 := fun_mk (st := st_P_ratio_by) l24 c24 k24
  have F25 := fun_mk (st := st_P_meeting_of) l25 c25 k25
  have F26 := fun_mk (st := st_P_shadow_of) l26 c26 k26
  have F27 := fun_mk (st := st_P_lies_on) l27 c27 k27
  have F28 := fun_mk (st := st_P_number_at) l28 c28 k28
  have F29 := fun_mk (st := st_P_point_of) l29 c29 k29
  have F30 := fun_mk (st := st_P_goes_towards) l30 c30 k30
  have F31 := fun_mk (st := st_P_hides_point) l31 c31 k31
  have F32 := fun_mk (st := st_P_names_hiding) l32 c32 k32
  have F33 := fun_mk (st := st_P_told_at) l33 c33 k33
  have F34 := fun_mk (st := st_L_same) l34 c34 k34
  have F35 := fun_mk (st := st_L_cell) l35 c35 k35
  have F36 := fun_mk (st := st_L_wide) l36 c36 k36
  have F37 := fun_mk (st := st_L_sun) l37 c37 k37
  have F38 := fun_mk (st := st_L_triple) l38 c38 k38
  have F39 := fun_mk (st := st_L_pair) l39 c39 k39
  have F40 := fun_mk (st := st_L_dial) l40 c40 k40
  have F41 := fun_mk (st := st_L_fence) l41 c41 k41
  have F42 := fun_mk (st := st_L_name) l42 c42 k42
  have F43 := fun_mk (st := st_L_yard) l43 c43 k43
  have F44 := fun_mk (st := st_L_law) l44 c44 k44
  have z_abs := PySem.W.mg_none_of X G z0
  have z_sorted := PySem.W.mg_none_of X G z1
  have z_isinstance := PySem.W.mg_none_of X G z2
  have z_int := PySem.W.mg_none_of X G z3
  have z_bool := PySem.W.mg_none_of X G z4
  have z_str := PySem.W.mg_none_of X G z5
  have z_tuple := PySem.W.mg_none_of X G z6
  have z_range := PySem.W.mg_none_of X G z7
  have z_all := PySem.W.mg_none_of X G z8
  have z_len := PySem.W.mg_none_of X G z9
  have z_list := PySem.W.mg_none_of X G z10
  refine ⟨PySem.W.fnOf "law" "law" (defArgs st_L_law) (defBody st_L_law) (defScope st_L_law) .none kV44 dc44 pm44 an44 cd44 ct44, fun s v => .of_eq rfl, fun base _ _ => ?_⟩
  have C_L_cross := fn_L_cross (P := l.prog) (w := w) (base := base) F0 (PySem.W.mg_of X G a0)
  have C_L_dot := fn_L_dot (P := l.prog) (w := w) (base := base) F1 (PySem.W.mg_of X G a1)
  have C_L_on := fn_L_on (P := l.prog) (w := w) (base := base) F2 (PySem.W.mg_of X G a2)
  have C_L_ratio := fn_L_ratio (P := l.prog) (w := w) (base := base) F3 (PySem.W.mg_of X G a3) z_abs
  have C_L_places := fn_L_places (P := l.prog) (w := w) (base := base) F4 (PySem.W.mg_of X G a4) C_L_cross C_L_dot C_L_ratio
  have C_L_within := fn_L_within (P := l.prog) (w := w) (base := base) F5 (PySem.W.mg_of X G a5)
  have C_L_hides := fn_L_hides (P := l.prog) (w := w) (base := base) F6 (PySem.W.mg_of X G a6) C_L_cross C_L_on C_L_places C_L_within C_L_dot
  have C_L_told := fn_L_told (P := l.prog) (w := w) (base := base) F7 (PySem.W.mg_of X G a7) C_L_cross C_L_dot C_L_on C_L_places C_L_within C_L_hides z_sorted
  have C_P_is_whole := fn_P_is_whole (P := l.prog) (w := w) (base := base) F8 (PySem.W.mg_of X G a8) z_isinstance z_int z_bool
  have C_P_direction_at := fn_P_direction_at (P := l.prog) (w := w) (base := base) F9 (PySem.W.mg_of X G a9) C_P_is_whole
  have C_P_dial_of := fn_P_dial_of (P := l.prog) (w := w) (base := base) F10 (PySem.W.mg_of X G a10) z_isinstance z_str
  have C_P_is_up := fn_P_is_up (P := l.prog) (w := w) (base := base) F11 (PySem.W.mg_of X G a11) C_P_direction_at
  have C_P_cross_of := fn_P_cross_of (P := l.prog) (w := w) (base := base) F12 (PySem.W.mg_of X G a12)
  have C_P_front_of := fn_P_front_of (P := l.prog) (w := w) (base := base) F13 (PySem.W.mg_of X G a13) C_P_cross_of
  have C_P_dot_of := fn_P_dot_of (P := l.prog) (w := w) (base := base) F14 (PySem.W.mg_of X G a14)
  have C_P_comes_from_ahead := fn_P_comes_from_ahead (P := l.prog) (w := w) (base := base) F15 (PySem.W.mg_of X G a15) C_P_front_of C_P_dot_of
  have C_P_as_point := fn_P_as_point (P := l.prog) (w := w) (base := base) F16 (PySem.W.mg_of X G a16) z_tuple
  have C_P_greatest_factor := fn_P_greatest_factor (P := l.prog) (w := w) (base := base) F17 (PySem.W.mg_of X G a17) z_abs
  have C_P_ratio_of := fn_P_ratio_of (P := l.prog) (w := w) (base := base) F18 (PySem.W.mg_of X G a18) C_P_is_whole C_P_greatest_factor
  have C_P_ratio_less := fn_P_ratio_less (P := l.prog) (w := w) (base := base) F19 (PySem.W.mg_of X G a19) C_P_ratio_of
  have C_P_point_less := fn_P_point_less (P := l.prog) (w := w) (base := base) F20 (PySem.W.mg_of X G a20) C_P_ratio_less z_range z_tuple
  have C_P_ratio_times := fn_P_ratio_times (P := l.prog) (w := w) (base := base) F21 (PySem.W.mg_of X G a21) C_P_ratio_of
  have C_P_ratio_sum := fn_P_ratio_sum (P := l.prog) (w := w) (base := base) F22 (PySem.W.mg_of X G a22) C_P_ratio_of
  have C_P_point_dot := fn_P_point_dot (P := l.prog) (w := w) (base := base) F23 (PySem.W.mg_of X G a23) C_P_ratio_times C_P_ratio_sum z_range
  have C_P_ratio_by := fn_P_ratio_by (P := l.prog) (w := w) (base := base) F24 (PySem.W.mg_of X G a24) C_P_ratio_of
  have C_P_meeting_of := fn_P_meeting_of (P := l.prog) (w := w) (base := base) F25 (PySem.W.mg_of X G a25) C_P_front_of C_P_dot_of C_P_point_less C_P_cross_of C_P_point_dot C_P_ratio_by
  have C_P_shadow_of := fn_P_shadow_of (P := l.prog) (w := w) (base := base) F26 (PySem.W.mg_of X G a26) C_P_comes_from_ahead C_P_as_point C_P_meeting_of
  have C_P_lies_on := fn_P_lies_on (P := l.prog) (w := w) (base := base) F27 (PySem.W.mg_of X G a27) z_all
  have C_P_number_at := fn_P_number_at (P := l.prog) (w := w) (base := base) F28 (PySem.W.mg_of X G a28) C_P_ratio_times C_P_ratio_sum
  have C_P_point_of := fn_P_point_of (P := l.prog) (w := w) (base := base) F29 (PySem.W.mg_of X G a29) C_P_number_at z_range z_tuple
  have C_P_goes_towards := fn_P_goes_towards (P := l.prog) (w := w) (base := base) F30 (PySem.W.mg_of X G a30) C_P_front_of C_P_point_less C_P_point_dot C_P_dot_of
  have C_P_hides_point := fn_P_hides_point (P := l.prog) (w := w) (base := base) F31 (PySem.W.mg_of X G a31) C_P_goes_towards C_P_meeting_of C_P_lies_on
  have C_P_names_hiding := fn_P_names_hiding (P := l.prog) (w := w) (base := base) F32 (PySem.W.mg_of X G a32) C_P_point_of C_P_hides_point z_sorted
  have C_P_told_at := fn_P_told_at (P := l.prog) (w := w) (base := base) F33 (PySem.W.mg_of X G a33) C_P_direction_at C_P_dial_of C_P_is_up C_P_shadow_of C_P_lies_on C_P_names_hiding
  have C_L_same := fn_L_same (P := l.prog) (w := w) (base := base) F34 (PySem.W.mg_of X G a34) z_isinstance z_tuple z_len z_list
  have C_L_cell := fn_L_cell (P := l.prog) (w := w) (base := base) F35 (PySem.W.mg_of X G a35) z_len
  have C_L_wide := fn_L_wide (P := l.prog) (w := w) (base := base) F36 (PySem.W.mg_of X G a36) C_L_cell z_len
  have C_L_sun := fn_L_sun (P := l.prog) (w := w) (base := base) F37 (PySem.W.mg_of X G a37) C_L_wide z_range
  have C_L_triple := fn_L_triple (P := l.prog) (w := w) (base := base) F38 (PySem.W.mg_of X G a38)
  have C_L_pair := fn_L_pair (P := l.prog) (w := w) (base := base) F39 (PySem.W.mg_of X G a39) C_L_triple C_L_cross
  have C_L_dial := fn_L_dial (P := l.prog) (w := w) (base := base) F40 (PySem.W.mg_of X G a40) C_L_pair C_L_cross C_L_dot C_L_triple C_L_on z_len
  have C_L_fence := fn_L_fence (P := l.prog) (w := w) (base := base) F41 (PySem.W.mg_of X G a41) C_L_pair C_L_on z_len
  have C_L_name := fn_L_name (P := l.prog) (w := w) (base := base) F42 (PySem.W.mg_of X G a42) C_L_wide
  have C_L_yard := fn_L_yard (P := l.prog) (w := w) (base := base) F43 (PySem.W.mg_of X G a43) C_L_wide C_L_sun C_L_dial C_L_fence C_L_name z_range z_len
  exact (fn_L_law (P := l.prog) (w := w) (base := base) F44 C_L_told C_P_told_at C_L_same C_L_yard C_L_wide C_L_name z_list z_len).ok
end TL
open PySem PySem.W PyProof.Rows
def PySem.W.Fast.tw6647503903901039143 : Nat := 0
def PySem.W.Fast.tw15880415901919794045 : Nat := 0
def PySem.W.Fast.tw17837550448243812169 : Nat := 0
def PySem.W.Fast.tw10678058213324988807 : Nat := 0
def PySem.W.Fast.tw8447527390501891862 : Nat := 0
def PySem.W.Fast.tw10302120535145943396 : Nat := 0
def PySem.W.Fast.tw6797357935069885257 : Nat := 0
def PySem.W.Fast.tw4345648170305171575 : Nat := 0
def PySem.W.Fast.tw10708741249994065835 : Nat := 0
def PySem.W.Fast.tw4420983695649509804 : Nat := 0
def PySem.W.Fast.tw14114686726173541609 : Nat := 0
def PySem.W.Fast.tw12570784689611285558 : Nat := 0
def PySem.W.Fast.tw7694164929416965775 : Nat := 0
def PySem.W.Fast.tw5472638556205649503 : Nat := 0
def PySem.W.Fast.tw15863892607242183587 : Nat := 0
def PySem.W.Fast.tw6222643096164520459 : Nat := 0
def PySem.W.Fast.tw4402949073174192319 : Nat := 0
def PySem.W.Fast.tw1859166966181160095 : Nat := 0
def PySem.W.Fast.tw14194106608604956174 : Nat := 0
def PySem.W.Fast.tw10163600453962108628 : Nat := 0
def PySem.W.Fast.tw821820914842801063 : Nat := 0
def PySem.W.Fast.tw3893618391683168522 : Nat := 0
def PySem.W.Fast.tw16950312315097722281 : Nat := 0
def PySem.W.Fast.tw15486594996702245176 : Nat := 0
def PySem.W.Fast.tw14325314935603819427 : Nat := 0
def PySem.W.Fast.tw13130482319227301244 : Nat := 0
def PySem.W.Fast.tw2946349991238583177 : Nat := 0
def PySem.W.Fast.tw16859134165592170317 : Nat := 0
def PySem.W.Fast.tw5707680319133573794 : Nat := 0
def PySem.W.Fast.tw952505033388202592 : Nat := 0
def PySem.W.Fast.tw7515072611727460558 : Nat := 0
def PySem.W.Fast.tw14062632073399210634 : Nat := 0
def PySem.W.Fast.tw15255670289341374737 : Nat := 0
def PySem.W.Fast.tw11785351362070221763 : Nat := 0
def PySem.W.Fast.tw17714564322997601840 : Nat := 0
def PySem.W.Fast.tw7759638952916979741 : Nat := 0
def PySem.W.Fast.tw2810925311139444512 : Nat := 0
def PySem.W.Fast.tw3262865241275272352 : Nat := 0
def PySem.W.Fast.tw3686587917431629532 : Nat := 0
def PySem.W.Fast.tw13823946015499939971 : Nat := 0
def PySem.W.Fast.tw5266292195029587300 : Nat := 0
def PySem.W.Fast.tw4055721222387258437 : Nat := 0
def PySem.W.Fast.tw17377902999939908462 : Nat := 0
def PySem.W.Fast.tw8488294961826888445 : Nat := 0
def PySem.W.Fast.tw4405257008499664238 : Nat := 0
def PySem.W.Fast.tw7502057829461908017 : Nat := 0
def PySem.W.Fast.tw1087900694379974470 : Nat := 0
def PySem.W.Fast.tw5779863365810462631 : Nat := 0
def PySem.W.Fast.tw9293361993373015189 : Nat := 0
def PySem.W.Fast.tw5780087551763970819 : Nat := 0
def PySem.W.Fast.tw10936925136944494392 : Nat := 0
def PySem.W.Fast.tw7222322220207561836 : Nat := 0
def PySem.W.Fast.tw9896793909076159843 : Nat := 0
def PySem.W.Fast.tw5469587356870378215 : Nat := 0
def PySem.W.Fast.tw7405114217463528350 : Nat := 0
def PySem.W.Fast.tw10196466411273238662 : Nat := 0
def PySem.W.Fast.tw9982861342792263127 : Nat := 0
def PySem.W.Fast.tw8484573726659988492 : Nat := 0
def PySem.W.Fast.tw5520580311430502422 : Nat := 0
def PySem.W.Fast.tw6281250774765930368 : Nat := 0
def PySem.W.Fast.tw5880413728432528416 : Nat := 0
set_option maxRecDepth 100000 in
set_option maxHeartbeats 0 in
theorem PySem.Challenge.cw_dialyard_k34_told_in_order_holds : PySem.Challenge.rw_dialyard_k34_told_in_order.Holds := by
  w_on; o_law; k_head; (case hw => w_witness2)
  k_fill
  refine TL.walk (l := PySem.Challenge.rw_dialyard_k34_told_in_order) (x := "_law_script") (k := 9) rfl rfl ⟨rfl, by decide, by decide⟩ (fun w h Y => PySem.W.kIn_of Y) ?F
  case F =>
    intro w mg fa h KX G hmg
    refine' TL.all_mk KX G hmg ?a0 ?l0 ?c0 ?k0 ?a1 ?l1 ?c1 ?k1 ?a2 ?l2 ?c2 ?k2 ?a3 ?l3 ?c3 ?k3 ?a4 ?l4 ?c4 ?k4 ?a5 ?l5 ?c5 ?k5 ?a6 ?l6 ?c6 ?k6 ?a7 ?l7 ?c7 ?k7 ?a8 ?l8 ?c8 ?k8 ?a9 ?l9 ?c9 ?k9 ?a10 ?l10 ?c10 ?k10 ?a11 ?l11 ?c11 ?k11 ?a12 ?l12 ?c12 ?k12 ?a13 ?l13 ?c13 ?k13 ?a14 ?l14 ?c14 ?k14 ?a15 ?l15 ?c15 ?k15 ?a16 ?l16 ?c16 ?k16 ?a17 ?l17 ?c17 ?k17 ?a18 ?l18 ?c18 ?k18 ?a19 ?l19 ?c19 ?k19 ?a20 ?l20 ?c20 ?k20 ?a21 ?l21 ?c21 ?k21 ?a22 ?l22 ?c22 ?k22 ?a23 ?l23 ?c23 ?k23 ?a24 ?l24 ?c24 ?k24 ?a25 ?l25 ?c25 ?k25 ?a26 ?l26 ?c26 ?k26 ?a27 ?l27 ?c27 ?k27 ?a28 ?l28 ?c28 ?k28 ?a29 ?l29 ?c29 ?k29 ?a30 ?l30 ?c30 ?k30 ?a31 ?l31 ?c31 ?k31 ?a32 ?l32 ?c32 ?k32 ?a33 ?l33 ?c33 ?k33 ?a34 ?l34 ?c34 ?k34 ?a35 ?l35 ?c35 ?k35 ?a36 ?l36 ?c36 ?k36 ?a37 ?l37 ?c37 ?k37 ?a38 ?l38 ?c38 ?k38 ?a39 ?l39 ?c39 ?k39 ?a40 ?l40 ?c40 ?k40 ?a41 ?l41 ?c41 ?k41 ?a42 ?l42 ?c42 ?k42 ?a43 ?l43 ?c43 ?k43 ?a44 ?l44 ?c44 ?k44 ?z0 ?z1 ?z2 ?z3 ?z4 ?z5 ?z6 ?z7 ?z8 ?z9 ?z10
    (case a0 => k_is)
    (case l0 => k_is)
    (case c0 => k_is)
    (case k0 => k_is)
    (case a1 => k_is)
    (case l1 => k_is)
    (case c1 => k_is)
    (case k1 => k_is)
    (case a2 => k_is)
    (case l2 => k_is)
    (case c2 => k_is)
    (case k2 => k_is)
    (case a3 => k_is)
    (case l3 => k_is)
    (case c3 => k_is)
    (case k3 => k_is)
    (case a4 => k_is)
    (case l4 => k_is)
    (case c4 => k_is)
    (case k4 => k_is)
    (case a5 => k_is)
    (case l5 => k_is)
    (case c5 => k_is)
    (case k5 => k_is)
    (case a6 => k_is)
    (case l6 => k_is)
    (case c6 => k_is)
    (case k6 => k_is)
    (case a7 => k_is)
    (case l7 => k_is)
    (case c7 => k_is)
    (case k7 => k_is)
    (case a8 => k_is)
    (case l8 => k_is)
    (case c8 => k_is)
    (case k8 => k_is)
    (case a9 => k_is)
    (case l9 => k_is)
    (case c9 => k_is)
    (case k9 => k_is)
    (case a10 => k_is)
    (case l10 => k_is)
    (case c10 => k_is)
    (case k10 => k_is)
    (case a11 => k_is)
    (case l11 => k_is)
    (case c11 => k_is)
    (case k11 => k_is)
    (case a12 => k_is)
    (case l12 => k_is)
    (case c12 => k_is)
    (case k12 => k_is)
    (case a13 => k_is)
    (case l13 => k_is)
    (case c13 => k_is)
    (case k13 => k_is)
    (case a14 => k_is)
    (case l14 => k_is)
    (case c14 => k_is)
    (case k14 => k_is)
    (case a15 => k_is)
    (case l15 => k_is)
    (case c15 => k_is)
    (case k15 => k_is)
    (case a16 => k_is)
    (case l16 => k_is)
    (case c16 => k_is)
    (case k16 => k_is)
    (case a17 => k_is)
    (case l17 => k_is)
    (case c17 => k_is)
    (case k17 => k_is)
    (case a18 => k_is)
    (case l18 => k_is)
    (case c18 => k_is)
    (case k18 => k_is)
    (case a19 => k_is)
    (case l19 => k_is)
    (case c19 => k_is)
    (case k19 => k_is)
    (case a20 => k_is)
    (case l20 => k_is)
    (case c20 => k_is)
    (case k20 => k_is)
    (case a21 => k_is)
    (case l21 => k_is)
    (case c21 => k_is)
    (case k21 => k_is)
    (case a22 => k_is)
    (case l22 => k_is)
    (case c22 => k_is)
    (case k22 => k_is)
    (case a23 => k_is)
    (case l23 => k_is)
    (case c23 => k_is)
    (case k23 => k_is)
    (case a24 => k_is)
    (case l24 => k_is)
    (case c24 => k_is)
    (case k24 => k_is)
    (case a25 => k_is)
    (case l25 => k_is)
    (case c25 => k_is)
    (case k25 => k_is)
    (case a26 => k_is)
    (case l26 => k_is)
    (case c26 => k_is)
    (case k26 => k_is)
    (case a27 => k_is)
    (case l27 => k_is)
    (case c27 => k_is)
    (case k27 => k_is)
    (case a28 => k_is)
    (case l28 => k_is)
    (case c28 => k_is)
    (case k28 => k_is)
    (case a29 => k_is)
    (case l29 => k_is)
    (case c29 => k_is)
    (case k29 => k_is)
    (case a30 => k_is)
    (case l30 => k_is)
    (case c30 => k_is)
    (case k30 => k_is)
    (case a31 => k_is)
    (case l31 => k_is)
    (case c31 => k_is)
    (case k31 => k_is)
    (case a32 => k_is)
    (case l32 => k_is)
    (case c32 => k_is)
    (case k32 => k_is)
    (case a33 => k_is)
    (case l33 => k_is)
    (case c33 => k_is)
    (case k33 => k_is)
    (case a34 => k_is)
    (case l34 => k_is)
    (case c34 => k_is)
    (case k34 => k_is)
    (case a35 => k_is)
    (case l35 => k_is)
    (case c35 => k_is)
    (case k35 => k_is)
    (case a36 => k_is)
    (case l36 => k_is)
    (case c36 => k_is)
    (case k36 => k_is)
    (case a37 => k_is)
    (case l37 => k_is)
    (case c37 => k_is)
    (case k37 => k_is)
    (case a38 => k_is)
    (case l38 => k_is)
    (case c38 => k_is)
    (case k38 => k_is)
    (case a39 => k_is)
    (case l39 => k_is)
    (case c39 => k_is)
    (case k39 => k_is)
    (case a40 => k_is)
    (case l40 => k_is)
    (case c40 => k_is)
    (case k40 => k_is)
    (case a41 => k_is)
    (case l41 => k_is)
    (case c41 => k_is)
    (case k41 => k_is)
    (case a42 => k_is)
    (case l42 => k_is)
    (case c42 => k_is)
    (case k42 => k_is)
    (case a43 => k_is)
    (case l43 => k_is)
    (case c43 => k_is)
    (case k43 => k_is)
    (case a44 => k_is)
    (case l44 => k_is)
    (case c44 => k_is)
    (case k44 => k_is)
    (case z0 => k_is)
    (case z1 => k_is)
    (case z2 => k_is)
    (case z3 => k_is)
    (case z4 => k_is)
    (case z5 => k_is)
    (case z6 => k_is)
    (case z7 => k_is)
    (case z8 => k_is)
    (case z9 => k_is)
    (case z10 => k_is)
