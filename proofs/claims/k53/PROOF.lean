import PyProof.Rows.All
import Wide.All
import OpenK.AllK
import Wide.FinOn
import Lean
import PyProof.EqAt
import PyProof.EqKinds
import PyProof.TupleCall
import PySem.Challenge.RW_dialyard_k53_staffs_refused
set_option Elab.async false
set_option linter.all false
set_option maxRecDepth 100000
namespace L2
open PySem PySem.Spec PyProof.Rows
abbrev Key := Sum Int Str
def keyIs : Key → Value → Bool
  | .inl k, v => Value.isInt k v
  | .inr x, v => Value.isStrOf x v
def keyH (w : World) : Key → Int
  | .inl k => hashInt k
  | .inr x => hashStr w x
theorem keyIs_shape : ∀ {k : Key} {v : Value}, keyIs k v = true → (∃ i t, k = Sum.inl i ∧ v = Value.int i t) ∨ (∃ x t, k = Sum.inr x ∧ v = Value.str x t)
  | .inl i, v, h => by
    obtain ⟨t, e⟩ := Value.isInt_shape (k := i) (v := v) h
    exact .inl ⟨i, t, rfl, e⟩
  | .inr x, v, h => by
    obtain ⟨t, e⟩ := Value.isStrOf_shape (x := x) (v := v) h
    exact .inr ⟨x, t, rfl, e⟩
theorem keyIs_int (i : Int) (t : Tok) : keyIs (.inl i) (.int i t) = true := by simp [keyIs, Value.isInt]
theorem key_ll (a b : Int) : decide ((Sum.inl a : Key) = Sum.inl b) = (a == b) := by
  by_cases e : a = b
  · subst e; simp
  · have h : ¬ (Sum.inl a : Key) = Sum.inl b := fun q => e (Sum.inl.inj q)
    rw [decide_eq_false h]
    exact (beq_eq_false_iff_ne.mpr e).symm
theorem key_rr (a b : Str) : decide ((Sum.inr a : Key) = Sum.inr b) = decide (a = b) := by
  by_cases e : a = b
  · subst e; simp
  · have h : ¬ (Sum.inr a : Key) = Sum.inr b := fun q => e (Sum.inr.inj q)
    rw [decide_eq_false h, decide_eq_false e]
theorem key_lr (a : Int) (b : Str) : decide ((Sum.inl a : Key) = Sum.inr b) = false := decide_eq_false (fun q => nomatch q)
theorem key_rl (a : Str) (b : Int) : decide ((Sum.inr a : Key) = Sum.inl b) = false := decide_eq_false (fun q => nomatch q)
def mixKind (prog : Program) (w : World) : PySem.KeyKind prog w Key where
  is := keyIs
  hash := keyH w
  inj := fun v a b ha hb => by
    rcases keyIs_shape ha with ⟨i, t, rfl, rfl⟩ | ⟨x, t, rfl, rfl⟩
    · rcases keyIs_shape hb with ⟨j, u, rfl, e⟩ | ⟨y, u, rfl, e⟩
      · injection e with e1 _; rw [e1]
      · exact nomatch e
    · rcases keyIs_shape hb with ⟨j, u, rfl, e⟩ | ⟨y, u, rfl, e⟩
      · exact nomatch e
      · injection e with e1 _; rw [e1]
  byValue := fun k v h => by
    rcases keyIs_shape h with ⟨i, t, rfl, rfl⟩ | ⟨x, t, rfl, rfl⟩ <;> rfl
  pyHash := fun hv h => by
    rcases keyIs_shape hv with ⟨i, t, rfl, rfl⟩ | ⟨x, t, rfl, rfl⟩
    · exact wpAny_pyHash_int h
    · exact wpAny_pyHash_str h
  eqBool := fun hu hv h => by
    rcases keyIs_shape hu with ⟨i, t, rfl, rfl⟩ | ⟨x, t, rfl, rfl⟩
    · rcases keyIs_shape hv with ⟨j, u, rfl, rfl⟩ | ⟨y, u, rfl, rfl⟩
      · rw [key_ll] at h; exact wpAny_eqBool_int h
      · rw [key_lr] at h; exact SeqAt.EqAt.int_str i t y u _ _ _ _ h
    · rcases keyIs_shape hv with ⟨j, u, rfl, rfl⟩ | ⟨y, u, rfl, rfl⟩
      · rw [key_rl] at h; exact SeqAt.EqAt.str_int x t j u _ _ _ _ h
      · rw [key_rr] at h; exact wpAny_eqBool_str h
  «strs» := fun k x t v h => by
    rcases keyIs_shape h with ⟨i, u, rfl, e⟩ | ⟨y, u, rfl, e⟩
    · exact nomatch e
    · injection e with e1 _
      subst e1
      cases v <;> rfl
theorem mixKind_int (prog : Program) (w : World) (i : Int) (t : Tok) : (mixKind prog w).is (.inl i) (.int i t) = true := keyIs_int i t
end L2
namespace L2
open PySem PySem.Spec PyProof.Rows
inductive V where
  | non | bl (b : Bool) | int (i : Int) | str (x : Str) | byt (b : Array UInt8) | flt (b : UInt64) | ref (a : Addr) | ty (n : String)
  deriving DecidableEq
def RelV : V → Value → Prop
  | .non, u => u = Value.none
  | .bl b, u => u = Value.bool b
  | .int i, u => ∃ t, u = Value.int i t
  | .str x, u => ∃ t, u = Value.str x t
  | .byt b, u => ∃ t, u = Value.bytes b t
  | .flt b, u => ∃ t, u = Value.float b t
  | .ref a, u => u = Value.ref a
  | .ty n, u => u = Value.type n
abbrev Vals : List V → List Value → Prop := Paired RelV
theorem Vals.length {xs : List V} {us : List Value} (r : Vals xs us) : xs.length = us.length := Paired.length r
theorem Vals.get : ∀ {xs : List V} {us : List Value} {i : Nat} {x : V}, Vals xs us → xs[i]? = some x → ∃ u, us[i]? = some u ∧ RelV x u
  | _, _, _, _, .nil, e => by simp at e
  | _, _, 0, _, .cons r _, e => by simp at e; subst e; exact ⟨_, rfl, r⟩
  | _, _, i + 1, x, .cons _ t, e => by
    obtain ⟨u, h1, h2⟩ := Vals.get (i := i) (x := x) t (by simpa using e)
    exact ⟨u, by simpa using h1, h2⟩
theorem Vals.set {x : V} {u : Value} (r : RelV x u) : ∀ {xs : List V} {us : List Value} (i : Nat), Vals xs us → Vals (xs.set i x) (us.set i u)
  | _, _, _, .nil => .nil
  | _, _, 0, .cons _ t => .cons r t
  | _, _, i + 1, .cons q t => .cons q (Vals.set r i t)
theorem Vals.append : ∀ {xs ys : List V} {us ws : List Value}, Vals xs us → Vals ys ws → Vals (xs ++ ys) (us ++ ws)
  | _, _, _, _, .nil, s => s
  | _, _, _, _, .cons r t, s => .cons r (Vals.append t s)
theorem Vals.take : ∀ {xs : List V} {us : List Value} (n : Nat), Vals xs us → Vals (xs.take n) (us.take n)
  | _, _, 0, _ => .nil
  | _, _, _ + 1, .nil => .nil
  | _, _, n + 1, .cons r t => .cons r (Vals.take n t)
theorem Vals.drop : ∀ {xs : List V} {us : List Value} (n : Nat), Vals xs us → Vals (xs.drop n) (us.drop n)
  | _, _, 0, r => r
  | _, _, _ + 1, .nil => .nil
  | _, _, n + 1, .cons _ t => Vals.drop n t
def RelO : Option V → Option Value → Prop
  | some v, some u => RelV v u
  | none, none => True
  | _, _ => False
def KV {κ : Type} : List (κ × V) → List (κ × Value) → Prop := Paired fun (p : κ × V) (q : κ × Value) => p.1 = q.1 ∧ RelV p.2 q.2
def kV : Key → V
  | .inl i => .int i
  | .inr x => .str x
inductive HO where
  | lst (xs : List V)
  | tup (xs : List V)
  | dK (kvs : List (Key × V)) | dT (kvs : List (List Key × V))
  | set (S : Int → Bool) (n : Nat)
  | ins (C dx : Addr) (fs : List (Str × V))
  | own (x : Addr)
  | xd (fs : List (Str × V))
  | met (f x : Addr)
  | rng (lo hi : Int)
  | frz (o : Obj) (u : HO)
  | tbl (ps : Array Value)
  | ext (φ : Heap → Prop)
abbrev Hp := Addr → Option HO
def upd (H : Hp) (a : Addr) (o : HO) : Hp := fun b => if b = a then some o else H b
theorem upd_same {H : Hp} {a : Addr} {o : HO} : upd H a o a = some o := by unfold upd; rw [if_pos rfl]
theorem upd_ne {H : Hp} {a b : Addr} {o : HO} (h : b ≠ a) : upd H a o b = H b := by unfold upd; rw [if_neg h]
theorem ne_of_none {H : Hp} {a b : Addr} {o : HO} (h : H a = some o) (h' : H b = none) : a ≠ b := by
  intro e; subst e; rw [h] at h'; cases h'
section
variable (P : Program) (w : World)
def ObjOk (H : Hp) (h : Heap) (a : Addr) : HO → Prop
  | .lst xs => xs.length ≤ sizeLine ∧ ∃ (its : List Value) (n : Nat), Vals xs its ∧ h.get? a = some { cls := .type "list", data := .seq its.toArray n }
  | .tup xs => xs.length ≤ sizeLine ∧ ∃ its : List Value, Vals xs its ∧ IsTup h a its.toArray
  | .dK kvs => kvs.length ≤ sizeLine ∧ (a == sysModules) = false ∧ ∃ vs, KV kvs vs ∧ h.DictOf (mixKind P w) a vs
  | .dT kvs => kvs.length ≤ sizeLine ∧ (a == sysModules) = false ∧ ∃ xs : List (List Key × Addr × Value),
      Paired (fun (p : List Key × V) (q : List Key × Addr × Value) => p.1 = q.1 ∧ H q.2.1 = some (.tup (p.1.map kV)) ∧ RelV p.2 q.2.2) kvs xs ∧
      ∃ o es ep, h.get? a = some o ∧ o.ExactDict ∧ o.data = .dict es ep ∧ es.toList = xs.map (entryOfKey (tupleKind (mixKind P w))) ∧ (xs.map (·.1)).Nodup
  | .set S n => h.SetOf (intKind P w) a S n
  | .ins C dx fs => H dx = some (.own a) ∧ fs.length ≤ 1000 ∧ dx ≠ a ∧ h.get? a = some (PySem.W.instObj C dx) ∧
      ∃ mA, h.Ns1 dx mA ∧ (∀ f, RelO (fs.lookup f) (mA f)) ∧ PySem.Within mA (fs.map (·.1))
  | .own _ => ∃ o, h.get? a = some o
  | .xd fs => ∃ mA, h.Ns1 a mA ∧ ∀ f, RelO (fs.lookup f) (mA f)
  | .rng lo hi => ∃ t u v, h.get? a = some { cls := .type "range", data := .fields #[.int lo t, .int hi u, .int 1 v] }
  | .frz o u => h.get? a = some o ∧ ObjOk H h a u
  | .tbl ps => h.get? a = some { cls := .none, data := .fields ps }
  | .met f x => h.get? a = some (PySem.W.methodObj (.ref f) (.ref x))
  | .ext φ => φ h ∧ (∃ o, h.get? a = some o) ∧ ∀ h1 h2 : Heap, φ h1 → (∀ o, h1.get? a = some o → h2.get? a = some o) → φ h2
def HOk (H : Hp) (h : Heap) : Prop := ∀ a o, H a = some o → ObjOk P w H h a o
end
section
variable {P : Program} {w : World} {H H' : Hp} {h h' : Heap} {a : Addr} {o : HO}
theorem ObjOk.lt (x : ObjOk P w H h a o) : a < h.objs.size := by
  cases o with
  | lst xs => obtain ⟨_, _, _, _, e⟩ := x; exact Heap.lt_size e
  | tup xs => obtain ⟨_, _, _, p⟩ := x; exact p.lt
  | dK kvs => obtain ⟨_, _, _, _, o, _, _, e, _⟩ := x; exact Heap.lt_size e
  | dT kvs => obtain ⟨_, _, _, _, o, _, _, e, _⟩ := x; exact Heap.lt_size e
  | set S n => obtain ⟨o, _, _, _, e, _⟩ := x; exact Heap.lt_size e
  | ins C dx fs => obtain ⟨_, _, _, e, _⟩ := x; exact Heap.lt_size e
  | own y => obtain ⟨_, e⟩ := x; exact Heap.lt_size e
  | xd fs => obtain ⟨_, ⟨_, _, _, e, _⟩, _⟩ := x; exact Heap.lt_size e
  | rng lo hi => obtain ⟨_, _, _, e⟩ := x; exact Heap.lt_size e
  | frz ob u => obtain ⟨e, _⟩ := x; exact Heap.lt_size e
  | tbl ps => exact Heap.lt_size (show h.get? a = some _ from x)
  | met f y => exact Heap.lt_size (show h.get? a = some _ from x)
  | ext φ => obtain ⟨_, ⟨_, e⟩, _⟩ := x; exact Heap.lt_size e
theorem Paired.mapP {α β : Type} {F G : α → β → Prop} : ∀ {l₁ : List α} {l₂ : List β}, Paired F l₁ l₂ → (∀ a b, F a b → G a b) → Paired G l₁ l₂
  | _, _, .nil, _ => .nil
  | _, _, .cons r t, f => .cons (f _ _ r) (Paired.mapP t f)
theorem ObjOk.stay (x : ObjOk P w H h a o) (k : ∀ b u, (b = a ∨ H b = some (.own a)) → h.get? b = some u → h'.get? b = some u)
    (ho : ∀ b, H b = some (.own a) → H' b = some (.own a)) (ht : ∀ b xs, H b = some (.tup xs) → H' b = some (.tup xs)) : ObjOk P w H' h' a o := by
  induction o with
  | lst xs => obtain ⟨z, its, n, r, e⟩ := x; exact ⟨z, its, n, r, k _ _ (.inl rfl) e⟩
  | tup xs => obtain ⟨z, its, r, ob, e, c⟩ := x; exact ⟨z, its, r, ob, k _ _ (.inl rfl) e, c⟩
  | dK kvs => obtain ⟨z, y, vs, r, ob, es, ep, e, c⟩ := x; exact ⟨z, y, vs, r, ob, es, ep, k _ _ (.inl rfl) e, c⟩
  | dT kvs =>
    obtain ⟨z, y, xs, r, ob, es, ep, e, c⟩ := x
    exact ⟨z, y, xs, Paired.mapP r fun p q z => ⟨z.1, ht _ _ z.2.1, z.2.2⟩, ob, es, ep, k _ _ (.inl rfl) e, c⟩
  | set S n => obtain ⟨ob, es, ep, t, e, c⟩ := x; exact ⟨ob, es, ep, t, k _ _ (.inl rfl) e, c⟩
  | ins C dx fs =>
    obtain ⟨d, z, ne, e, mA, ⟨od, es, ep, e2, c⟩, r⟩ := x
    exact ⟨ho _ d, z, ne, k _ _ (.inl rfl) e, mA, ⟨od, es, ep, k _ _ (.inr d) e2, c⟩, r⟩
  | own y => obtain ⟨ob, e⟩ := x; exact ⟨ob, k _ _ (.inl rfl) e⟩
  | xd fs => obtain ⟨mA, ⟨od, es, ep, e, c⟩, r⟩ := x; exact ⟨mA, ⟨od, es, ep, k _ _ (.inl rfl) e, c⟩, r⟩
  | rng lo hi => obtain ⟨t, u, v, e⟩ := x; exact ⟨t, u, v, k _ _ (.inl rfl) e⟩
  | frz ob u ih => obtain ⟨e, q⟩ := x; exact ⟨k _ _ (.inl rfl) e, ih q⟩
  | tbl ps =>
    have e : h.get? a = some { cls := .none, data := .fields ps } := x
    show h'.get? a = some { cls := .none, data := .fields ps }
    exact k a _ (.inl rfl) e
  | met f y =>
    have e : h.get? a = some (PySem.W.methodObj (.ref f) (.ref y)) := x
    show h'.get? a = some (PySem.W.methodObj (.ref f) (.ref y))
    exact k a _ (.inl rfl) e
  | ext φ => obtain ⟨p, ⟨o, e⟩, st⟩ := x; exact ⟨st _ _ p fun o q => k _ _ (.inl rfl) q, ⟨o, k _ _ (.inl rfl) e⟩, st⟩
theorem HOk.lt (x : HOk P w H h) (e : H a = some o) : a < h.objs.size := (x a o e).lt
theorem HOk.fresh (x : HOk P w H h) (e : h.objs.size ≤ a) : H a = none := by
  cases q : H a with
  | none => rfl
  | some u => exact absurd (Nat.lt_of_lt_of_le (x.lt q) e) (Nat.lt_irrefl _)
theorem HOk.kept (x : HOk P w H h) (k : ∀ b u, h.get? b = some u → h'.get? b = some u) : HOk P w H h' := fun a o e =>
  (x a o e).stay (fun b u _ q => k b u q) (fun _ q => q) fun _ _ q => q
theorem HOk.laid (x : HOk P w H h) (k : ∀ b u, h.get? b = some u → h'.get? b = some u) (hp : h.objs.size ≤ a) (new : ObjOk P w (upd H a o) h' a o) : HOk P w (upd H a o) h' := fun b u e => by
  have hn := x.fresh hp
  by_cases hb : b = a
  · subst hb; rw [upd_same] at e; cases e; exact new
  · rw [upd_ne hb] at e
    exact (x b u e).stay (fun c v _ q => k c v q) (fun c q => by rw [upd_ne (ne_of_none q hn)]; exact q) fun c xs q => by rw [upd_ne (ne_of_none q hn)]; exact q
end
def Rd (H : Hp) (a : Addr) (u : HO) : Prop := H a = some u ∨ ∃ o, H a = some (.frz o u)
theorem Rd.of {H : Hp} {a : Addr} {u : HO} (h : H a = some u) : Rd H a u := .inl h
theorem Rd.ok {P : Program} {w : World} {H : Hp} {h : Heap} {a : Addr} {u : HO} (r : Rd H a u) (x : HOk P w H h) : ObjOk P w H h a u := by
  rcases r with r | ⟨o, r⟩
  · exact x a u r
  · obtain ⟨_, q⟩ := x a _ r
    exact q
def Mut : Option HO → Prop
  | some (.lst _) => True
  | some (.dK _) => True
  | some (.dT _) => True
  | some (.set _ _) => True
  | some (.ins _ _ _) => True
  | some (.ext _) => True
  | _ => False
section
variable {P : Program} {w : World} {H : Hp} {h h' : Heap} {x e : Addr} {o' : HO}
theorem HOk.write (ok : HOk P w H h) (mu : Mut (H x)) (he : e = x ∨ H e = some (.own x)) (k : ∀ b u, b ≠ e → h.get? b = some u → h'.get? b = some u) (heo : ∃ u, h'.get? e = some u)
    (new : ObjOk P w (upd H x o') h' x o') : HOk P w (upd H x o') h' := fun b u q => by
  have nown : ∀ c y, H c = some (.own y) → c ≠ x := fun c y r z => by subst z; rw [r] at mu; exact mu
  have ntup : ∀ c xs, H c = some (.tup xs) → c ≠ x := fun c xs r z => by subst z; rw [r] at mu; exact mu
  by_cases hb : b = x
  · subst hb; rw [upd_same] at q; cases q; exact new
  · rw [upd_ne hb] at q
    by_cases hbe : b = e
    · have q' : H b = some (.own x) := by
        rcases he with z | z
        · exact absurd (hbe.trans z) hb
        · rw [hbe]; exact z
      rw [q] at q'; cases q'
      obtain ⟨v, hv⟩ := heo
      exact ⟨v, by rw [hbe]; exact hv⟩
    · refine (ok b u q).stay (fun c v hc r => k c v ?_ r) (fun c r => by rw [upd_ne (nown c b r)]; exact r) fun c xs r => by rw [upd_ne (ntup c xs r)]; exact r
      rcases hc with rfl | hc
      · exact hbe
      · rintro rfl
        rcases he with z | z
        · exact nown c b hc z
        · rw [hc] at z; cases z; exact hb rfl
end
structure Un (fs ex : List Addr) (H H' : Hp) (h h' : Heap) : Prop where
  keep : ∀ b o, h.get? b = some o → H b = none → b ∉ fs → b ∉ ex → h'.get? b = some o
  slot : ∀ b o, h.get? b = some o → H b = none → b ∈ fs → b ∉ ex → ∃ sl, h'.get? b = some { o with slots := sl }
  free : ∀ b o, h.get? b = some o → H b = none → b ∉ ex → H' b = none
  there : ∀ b o, h.get? b = some o → b ∉ ex → ∃ o', h'.get? b = some o'
  tups : ∀ b xs, H b = some (.tup xs) → H' b = some (.tup xs)
  frzs : ∀ b o u, H b = some (.frz o u) → H' b = some (.frz o u)
  tbls : ∀ b ps, H b = some (.tbl ps) → ∃ more, H' b = some (.tbl (ps ++ more))
section
variable {fs fs' ex ex' : List Addr} {H H1 H2 : Hp} {h h1 h2 h' : Heap} {a x e : Addr} {o : HO}
theorem Un.any (u : Un fs ex H H1 h h1) {b : Addr} {ob : Obj} (q : h.get? b = some ob) (n : H b = none) (hx : b ∉ ex) : ∃ sl, h1.get? b = some { ob with slots := sl } := by
  by_cases hb : b ∈ fs
  · exact u.slot b ob q n hb hx
  · exact ⟨ob.slots, u.keep b ob q n hb hx⟩
theorem Un.trans (a : Un fs ex H H1 h h1) (b : Un fs ex H1 H2 h1 h2) : Un fs ex H H2 h h2 where
  keep := fun c ob q n hc hx => b.keep c ob (a.keep c ob q n hc hx) (a.free c ob q n hx) hc hx
  slot := fun c ob q n hc hx => by
    obtain ⟨sl, e1⟩ := a.slot c ob q n hc hx
    obtain ⟨sl', e2⟩ := b.slot c _ e1 (a.free c ob q n hx) hc hx
    exact ⟨sl', e2⟩
  free := fun c ob q n hx => by
    obtain ⟨o', e1⟩ := a.there c ob q hx
    exact b.free c o' e1 (a.free c ob q n hx) hx
  there := fun c ob q hx => by
    obtain ⟨o', e1⟩ := a.there c ob q hx
    exact b.there c o' e1 hx
  tups := fun c xs q => b.tups c xs (a.tups c xs q)
  frzs := fun c ob xs q => b.frzs c ob xs (a.frzs c ob xs q)
  tbls := fun c ps q => by
    obtain ⟨m1, e1⟩ := a.tbls c ps q
    obtain ⟨m2, e2⟩ := b.tbls c _ e1
    exact ⟨m1 ++ m2, by rw [e2, Array.append_assoc]⟩
theorem Un.kept (k : ∀ b u, h.get? b = some u → h'.get? b = some u) : Un fs ex H H h h' :=
  ⟨fun b ob q _ _ _ => k b ob q, fun b ob q _ _ _ => ⟨ob.slots, k b ob q⟩, fun _ _ _ n _ => n, fun b ob q _ => ⟨ob, k b ob q⟩, fun _ _ q => q, fun _ _ _ q => q, fun _ ps q => ⟨#[], by rw [q]; simp⟩⟩
theorem Un.refl : Un fs ex H H h h := Un.kept fun _ _ q => q
theorem Un.laid (k : ∀ b u, h.get? b = some u → h'.get? b = some u) (hp : h.objs.size ≤ a) (hn : H a = none) : Un fs ex H (upd H a o) h h' where
  keep := fun b u q _ _ _ => k b u q
  slot := fun b u q _ _ _ => ⟨u.slots, k b u q⟩
  free := fun b u q n _ => by rw [upd_ne (Nat.ne_of_lt (Nat.lt_of_lt_of_le (Heap.lt_size q) hp))]; exact n
  there := fun b u q _ => ⟨u, k b u q⟩
  tups := fun b xs q => by rw [upd_ne (ne_of_none q hn)]; exact q
  frzs := fun b u xs q => by rw [upd_ne (ne_of_none q hn)]; exact q
  tbls := fun b ps q => ⟨#[], by rw [upd_ne (ne_of_none q hn), q]; simp⟩
theorem Un.write (mu : Mut (H x)) (he : e = x ∨ H e = some (.own x)) (k : ∀ b u, b ≠ e → h.get? b = some u → h'.get? b = some u) (heo : ∃ u, h'.get? e = some u) : Un fs ex H (upd H x o) h h' := by
  have hx : ∀ b, H b = none → b ≠ x := fun b n z => by subst z; rw [n] at mu; exact mu
  have hb : ∀ b, H b = none → b ≠ e := fun b n z => by
    subst z
    rcases he with r | r
    · exact hx b n r
    · rw [n] at r; cases r
  have hm : ∀ b u, H b = some u → ¬ Mut (some u) → b ≠ x := fun b u q nm z => by subst z; rw [q] at mu; exact nm mu
  refine ⟨fun b u q n _ _ => k b u (hb b n) q, fun b u q n _ _ => ⟨u.slots, k b u (hb b n) q⟩, fun b u q n _ => by rw [upd_ne (hx b n)]; exact n, fun b u q _ => ?_,
    fun b xs q => by rw [upd_ne (hm b _ q fun z => z)]; exact q, fun b u xs q => by rw [upd_ne (hm b _ q fun z => z)]; exact q, fun b ps q => ⟨#[], by rw [upd_ne (hm b _ q fun z => z), q]; simp⟩⟩
  by_cases hbe : b = e
  · subst hbe; exact heo
  · exact ⟨u, k b u hbe q⟩
theorem Un.mono (u : Un fs ex H H1 h h1) (hs : ∀ b ∈ fs, b ∈ fs') (hx : ∀ b ∈ ex, b ∈ ex') : Un fs' ex' H H1 h h1 :=
  ⟨fun b ob q n hb he => u.keep b ob q n (fun z => hb (hs b z)) fun z => he (hx b z), fun _ _ q n _ he => u.any q n fun z => he (hx _ z), fun b ob q n he => u.free b ob q n fun z => he (hx b z), fun b ob q he => u.there b ob q fun z => he (hx b z), u.tups, u.frzs, u.tbls⟩
end
def trk (h : Heap) (H : Hp) : List Addr := (List.range h.objs.size).filter fun a => (H a).isSome
def hidT (h : Heap) (H : Hp) : Heap := PySem.W.hideAll h (trk h H)
theorem hidT_size (h : Heap) (H : Hp) : (hidT h H).objs.size = h.objs.size := PySem.W.hideAll_size _ _
theorem hidT_get {h : Heap} {H : Hp} {b : Addr} {o : Obj} (e : h.get? b = some o) (n : H b = none) : (hidT h H).get? b = some o :=
  PySem.W.hideAll_get _ e fun hm => by
    have q : (H b).isSome = true := (List.mem_filter.mp hm).2
    rw [n] at q; simp at q
theorem of_hidT {h : Heap} {H : Hp} {b : Addr} {o : Obj} (e : (hidT h H).get? b = some o) : h.get? b = some o ∧ H b = none := by
  have e' : h.get? b = some o := PySem.W.of_hideAll (trk h H) e
  refine ⟨e', ?_⟩
  cases q : H b with
  | none => rfl
  | some x =>
    have hm : b ∈ trk h H := List.mem_filter.mpr ⟨List.mem_range.mpr (Heap.lt_size e'), by simp [q]⟩
    have z : (hidT h H).get? b = none := PySem.W.hideAll_none (trk h H) hm
    rw [z] at e; cases e
def allNews (g h : Heap) (L : Addr) : List (Addr × Obj) := (List.range h.objs.size).filterMap fun a => if a = L ∨ (g.get? a).isSome = true then none else (h.get? a).map fun o => (a, o)
def rest (g h : Heap) (L d : Addr) : List (Addr × Obj) := (allNews g h L).filter fun p => decide (p.1 ≠ d)
end L2
namespace L2
open PySem PySem.Spec PyProof.Rows
structure Mod (K : PySem.W.Frag) (mg : Str → Option Value) (base : Heap) : Prop where
  kin : K.In base
  glob : base.Ns mainGlobals mg
  blt : ∃ mb, base.Ns builtinsNs mb ∧ ∀ x : Str, x ≠ "__name__" → mb x = bootBuiltins x
  nolimit : base.NoLimit
structure Cx where
  prog : Program
  w : World
  K : PySem.W.Frag
  mg : Str → Option Value
  base : Heap
  A : Around
  N : List Str
  s₀ : Shared
  H₀ : Hp
  env : Env
  outer : List Env
  stack : List Env
  ex : List Addr
  fn : Str → Bool
  calm : Bool
  pn : List (Addr × Obj)
  xe : Value → Shared → Prop
def frs (l : List Env) : List Addr := l.filterMap (·.frame)
abbrev Cx.fs (X : Cx) : List Addr := frs X.outer
def Vis (sc : Scope) (x : Str) : Prop := sc.names.lookup x = some .local ∨ sc.names.lookup x = some .cell ∨ sc.names.lookup x = some .free
def Loc (sc : Scope) (x : Str) : Prop := sc.names.lookup x = some .local ∨ sc.names.lookup x = some .cell
def Look (env : Env) (h : Heap) (m : Str → Option Value) (x : Str) (u : Value) : Prop :=
  (env.kindOf x = some .local ∧ m x = some u) ∨ ((env.kindOf x = some .cell ∨ env.kindOf x = some .free) ∧ ∃ c, env.cells.lookup x = some c ∧ h.IsCell c (some u))
structure Cx.Ok (X : Cx) : Prop where
  mod : Mod X.K X.mg X.base
  kind : X.env.scope.kind = .function
  glob : X.env.globals = mainGlobals
  blt : X.env.builtins = builtinsNs
  above : X.s₀.heap.objs.size ≤ X.env.locals
  inj : ∀ x y c, X.env.cells.lookup x = some c → X.env.cells.lookup y = some c → x = y
  has : ∀ x, (X.env.kindOf x = some .cell ∨ X.env.kindOf x = some .free) → ∃ c, X.env.cells.lookup x = some c
  cab : ∀ x c, X.fn x = true → X.env.cells.lookup x = some c → X.s₀.heap.objs.size ≤ c
  hd : X.calm = true → X.A.handled = none
  frames : X.A.frames = some X.stack
  stk : X.stack = X.outer ∨ (X.stack = X.env :: X.outer ∧ X.env.frame = some X.env.locals)
  exf : ∀ b ∈ X.ex, b ≠ X.env.locals ∧ ∀ x c, X.env.cells.lookup x = some c → c ≠ b
  bs : ∀ b o, X.base.get? b = some o → X.s₀.heap.get? b = some o ∧ X.H₀ b = none
  bsz : X.base.objs.size ≤ X.s₀.heap.objs.size
  noex : ∀ b o, X.base.get? b = some o → b ∉ X.ex
  exfs : ∀ b ∈ X.ex, b ∉ X.fs
  funs : X.s₀.heap.FunFrames X.base X.outer
  frf : ∀ b ∈ X.fs, X.H₀ b = none
structure Inv (X : Cx) (pins : List (Addr × Obj)) (σ : List (Option V)) (H : Hp) (s : Shared) : Prop where
  ok : X.Ok
  os : s.os = X.s₀.os
  bare : AllBare s.gens
  base : Un X.fs X.ex X.H₀ H X.s₀.heap s.heap
  loc : ∃ m, s.heap.Ns X.env.locals m ∧ ∀ (i : Nat) (x : Str) (v : V), X.N[i]? = some x → σ[i]? = some (some v) → Vis X.env.scope x → ∃ u, RelV v u ∧ Look X.env s.heap m x u
  cell : ∀ x c, X.env.cells.lookup x = some c → ∃ v, s.heap.IsCell c v
  free : H X.env.locals = none
  freeC : ∀ x c, X.env.cells.lookup x = some c → H c = none
  pin : ∀ p ∈ X.pn ++ pins, s.heap.get? p.1 = some p.2 ∧ H p.1 = none ∧ p.1 ≠ X.env.locals ∧ p.1 ∉ X.fs ∧ ∀ v, p.2.data ≠ .cell v
  hok : HOk X.prog X.w H s.heap
  len : σ.length = X.N.length
section
variable {X : Cx} {pins : List (Addr × Obj)} {σ : List (Option V)} {H H' : Hp} {s : Shared} {h' : Heap}
theorem Cx.Ok.nofr (ok : X.Ok) {b : Addr} {o : Obj} (e : X.base.get? b = some o) : b ∉ X.fs := fun hb => by
  have := (ok.funs.mem hb).1
  rw [e] at this; cases this
theorem Inv.bs (I : Inv X pins σ H s) : ∀ b o, X.base.get? b = some o → s.heap.get? b = some o ∧ H b = none := fun b o e =>
  ⟨I.base.keep b o (I.ok.bs b o e).1 (I.ok.bs b o e).2 (I.ok.nofr e) (I.ok.noex b o e), I.base.free b o (I.ok.bs b o e).1 (I.ok.bs b o e).2 (I.ok.noex b o e)⟩
theorem Inv.bk (I : Inv X pins σ H s) : ∀ b o, X.base.get? b = some o → s.heap.get? b = some o := fun b o e => (I.bs b o e).1
theorem Inv.mod (I : Inv X pins σ H s) : Mod X.K X.mg X.base := I.ok.mod
theorem Inv.kIn (I : Inv X pins σ H s) : X.K.In s.heap := I.ok.mod.kin.keeps I.bk
theorem Inv.nolimit (I : Inv X pins σ H s) : s.heap.NoLimit := I.ok.mod.nolimit.keeps I.bk
theorem Inv.lt (I : Inv X pins σ H s) : X.env.locals < s.heap.objs.size := let ⟨_, hn, _⟩ := I.loc; hn.lt
theorem Inv.sz (I : Inv X pins σ H s) : X.s₀.heap.objs.size ≤ s.heap.objs.size := Nat.le_trans I.ok.above (Nat.le_of_lt I.lt)
theorem Inv.nofs (I : Inv X pins σ H s) {a : Addr} (h : s.heap.objs.size ≤ a) : a ∉ X.fs := fun hb => by
  obtain ⟨_, o, ho, _⟩ := I.ok.funs.mem hb
  exact absurd (Nat.lt_of_lt_of_le (Heap.lt_size ho) (Nat.le_trans I.sz h)) (Nat.lt_irrefl _)
theorem Inv.cne (I : Inv X pins σ H s) : ∀ x c, X.env.cells.lookup x = some c → c ≠ X.env.locals := fun x c e z => by
  obtain ⟨v, o, ho, hd⟩ := I.cell x c e
  obtain ⟨m, ⟨o', es, ep, ho', hd', _⟩, _⟩ := I.loc
  rw [z, ho'] at ho; cases ho; rw [hd'] at hd; cases hd
theorem Inv.funs (I : Inv X pins σ H s) : s.heap.FunFrames X.base X.outer := by
  have all : ∀ (l : List Env), (∀ b ∈ frs l, b ∈ X.fs) → X.s₀.heap.FunFrames X.base l → s.heap.FunFrames X.base l := by
    intro l
    induction l with
    | nil => intro _ _; trivial
    | cons env r ih =>
      intro hs hl
      obtain ⟨hk, ⟨L, o, hf, hn, ho, hd⟩, hr⟩ := hl
      have hL : L ∈ X.fs := hs L (by unfold frs; rw [List.filterMap_cons, hf]; exact List.mem_cons_self)
      obtain ⟨sl, e⟩ := I.base.slot L o ho (I.ok.frf L hL) hL fun z => I.ok.exfs L z hL
      exact ⟨hk, ⟨L, _, hf, hn, e, hd⟩, ih (fun b hb => hs b (by unfold frs; rw [List.filterMap_cons, hf]; exact List.mem_cons_of_mem _ hb)) hr⟩
  exact all X.outer (fun _ hb => hb) I.ok.funs
theorem Inv.stack (I : Inv X pins σ H s) : s.heap.FunFrames X.base X.stack := by
  rcases I.ok.stk with e | ⟨e, hf⟩
  · rw [e]; exact I.funs
  · rw [e]
    obtain ⟨m, hn, _⟩ := I.loc
    refine .cons (by rw [I.ok.kind]; decide) hf hn ?_ I.funs
    exact Heap.get?_none_of_le (Nat.le_trans I.ok.bsz I.ok.above)
theorem Inv.stkSub (I : Inv X pins σ H s) : ∀ b ∈ frs X.stack, b ∈ X.env.locals :: X.fs := fun b hb => by
  rcases I.ok.stk with e | ⟨e, hf⟩
  · rw [e] at hb; exact List.mem_cons_of_mem _ hb
  · rw [e] at hb
    unfold frs at hb
    rw [List.filterMap_cons, hf] at hb
    exact hb
theorem Inv.stkFree (I : Inv X pins σ H s) : ∀ b ∈ frs X.stack, H b = none := fun b hb => by
  rcases List.mem_cons.mp (I.stkSub b hb) with e | hb
  · rw [e]; exact I.free
  · obtain ⟨_, o, ho, _⟩ := I.ok.funs.mem hb
    exact I.base.free b o ho (I.ok.frf b hb) fun z => I.ok.exfs b z hb
theorem Inv.step {g' : Array GenState} {t' : Nat} {d' : Drawn} {ch : List Addr} (I : Inv X pins σ H s)
    (hch : ∀ b ∈ ch, (b ∈ X.ex ∨ X.s₀.heap.objs.size ≤ b) ∧ b ≠ X.env.locals ∧ (∀ x c, X.env.cells.lookup x = some c → c ≠ b) ∧ ∀ p ∈ X.pn ++ pins, p.1 ≠ b)
    (keep : ∀ b o, b ≠ X.env.locals → b ∉ X.fs → b ∉ ch → s.heap.get? b = some o → H b = none → h'.get? b = some o)
    (slot : ∀ b o, b ≠ X.env.locals → b ∈ X.fs → b ∉ ch → s.heap.get? b = some o → H b = none → ∃ sl, h'.get? b = some { o with slots := sl }) (free : ∀ b o, b ∉ ch → s.heap.get? b = some o → H b = none → H' b = none)
    (there : ∀ b o, b ∉ ch → s.heap.get? b = some o → ∃ o', h'.get? b = some o')
    (tups : ∀ b xs, H b = some (.tup xs) → H' b = some (.tup xs)) (frzs : ∀ b o u, H b = some (.frz o u) → H' b = some (.frz o u)) (tbls : ∀ b ps, H b = some (.tbl ps) → ∃ more, H' b = some (.tbl (ps ++ more)))
    (ns : ∀ m, s.heap.Ns X.env.locals m → h'.Ns X.env.locals m) (hok : HOk X.prog X.w H' h') (hg : AllBare g') :
    Inv X pins σ H' { s with heap := h', gens := g', drawn := d', toks := t' } := by
  have neL : ∀ b o, X.s₀.heap.get? b = some o → b ≠ X.env.locals := fun b o e => Nat.ne_of_lt (Nat.lt_of_lt_of_le (Heap.lt_size e) I.ok.above)
  have neC : ∀ b o, X.s₀.heap.get? b = some o → b ∉ X.ex → b ∉ ch := fun b o e hx hb => by
    rcases (hch b hb).1 with z | z
    · exact hx z
    · exact absurd (Nat.lt_of_lt_of_le (Heap.lt_size e) z) (Nat.lt_irrefl _)
  have cellK : ∀ x c, X.env.cells.lookup x = some c → ∀ v, s.heap.IsCell c v → h'.IsCell c v := fun x c e v ⟨o, ho, hd⟩ => by
    have nch : c ∉ ch := fun z => (hch c z).2.2.1 x c e rfl
    by_cases hc : c ∈ X.fs
    · obtain ⟨sl, q⟩ := slot c o (I.cne x c e) hc nch ho (I.freeC x c e)
      exact ⟨_, q, hd⟩
    · exact ⟨o, keep c o (I.cne x c e) hc nch ho (I.freeC x c e), hd⟩
  refine ⟨I.ok, I.os, hg, ⟨fun b o e n hb hx => ?_, fun b o e n hb hx => ?_, fun b o e n hx => ?_, fun b o e hx => ?_, fun b xs e => tups b xs (I.base.tups b xs e), fun b o xs e => frzs b o xs (I.base.frzs b o xs e), fun b ps e => ?_⟩, ?_, fun x c e => ?_, ?_, fun x c e => ?_, fun p hp => ?_, hok, I.len⟩
  · exact keep b o (neL b o e) hb (neC b o e hx) (I.base.keep b o e n hb hx) (I.base.free b o e n hx)
  · obtain ⟨sl, e1⟩ := I.base.slot b o e n hb hx
    obtain ⟨sl', e2⟩ := slot b _ (neL b o e) hb (neC b o e hx) e1 (I.base.free b o e n hx)
    exact ⟨sl', e2⟩
  · obtain ⟨o', e1⟩ := I.base.there b o e hx
    exact free b o' (neC b o e hx) e1 (I.base.free b o e n hx)
  · obtain ⟨o', e1⟩ := I.base.there b o e hx
    exact there b o' (neC b o e hx) e1
  · obtain ⟨m1, e1⟩ := I.base.tbls b ps e
    obtain ⟨m2, e2⟩ := tbls b _ e1
    exact ⟨m1 ++ m2, by rw [e2, Array.append_assoc]⟩
  · obtain ⟨m, hn, hl⟩ := I.loc
    refine ⟨m, ns m hn, fun i x v e1 e2 e3 => ?_⟩
    obtain ⟨u, r, l⟩ := hl i x v e1 e2 e3
    refine ⟨u, r, ?_⟩
    rcases l with l | ⟨k, c, e, z⟩
    · exact .inl l
    · exact .inr ⟨k, c, e, cellK x c e _ z⟩
  · obtain ⟨v, z⟩ := I.cell x c e
    exact ⟨v, cellK x c e v z⟩
  · obtain ⟨m, ⟨o, _, _, ho, _⟩, _⟩ := I.loc
    exact free _ o (fun z => (hch _ z).2.1 rfl) ho I.free
  · obtain ⟨v, o, ho, hd⟩ := I.cell x c e
    exact free c o (fun z => (hch c z).2.2.1 x c e rfl) ho (I.freeC x c e)
  · obtain ⟨e, n, ne, nf, d⟩ := I.pin p hp
    have nch : p.1 ∉ ch := fun z => (hch p.1 z).2.2.2 p hp rfl
    exact ⟨keep p.1 p.2 ne nf nch e n, free p.1 p.2 nch e n, ne, nf, d⟩
theorem Inv.un {t' : Nat} (I : Inv X pins σ H s) (u : Un X.fs [] H H' s.heap h') (hok : HOk X.prog X.w H' h') : Inv X pins σ H' { s with heap := h', toks := t' } := by
  obtain ⟨m, ⟨o, es, ep, ho, r⟩, _⟩ := id I.loc
  obtain ⟨sl, hL⟩ := u.any ho I.free (by simp)
  exact I.step (g' := s.gens) (d' := s.drawn) (ch := []) (fun _ z => nomatch z) (fun b o _ hb _ e n => u.keep b o e n hb (by simp)) (fun b o _ hb _ e n => u.slot b o e n hb (by simp)) (fun b o _ e n => u.free b o e n (by simp)) (fun b o _ e => u.there b o e (by simp)) u.tups u.frzs u.tbls (fun m' hm => by
    obtain ⟨o', es', ep', ho', r'⟩ := hm
    rw [ho] at ho'; cases ho'
    exact ⟨_, es', ep', hL, r'⟩) hok I.bare
theorem Inv.call {g' : Array GenState} {t' : Nat} {d' : Drawn} {ch : List Addr} (I : Inv X pins σ H s) (u : Un (frs X.stack) ch H H' s.heap h') (hok : HOk X.prog X.w H' h') (hg : AllBare g')
    (hch : ∀ b ∈ ch, (b ∈ X.ex ∨ X.s₀.heap.objs.size ≤ b) ∧ b ≠ X.env.locals ∧ (∀ x c, X.env.cells.lookup x = some c → c ≠ b) ∧ ∀ p ∈ X.pn ++ pins, p.1 ≠ b) :
    Inv X pins σ H' { s with heap := h', gens := g', drawn := d', toks := t' } := by
  obtain ⟨m, ⟨o, es, ep, ho, r⟩, _⟩ := id I.loc
  obtain ⟨sl, hL⟩ := u.any ho I.free fun z => (hch _ z).2.1 rfl
  exact I.step (ch := ch) hch (fun b o hL hb hc e n => u.keep b o e n (fun z => (List.mem_cons.mp (I.stkSub b z)).elim hL hb) hc) (fun b o _ _ hc e n => u.any e n hc) (fun b o hc e n => u.free b o e n hc) (fun b o hc e => u.there b o e hc) u.tups u.frzs u.tbls (fun m' hm => by
    obtain ⟨o', es', ep', ho', r'⟩ := hm
    rw [ho] at ho'; cases ho'
    exact ⟨_, es', ep', hL, r'⟩) hok hg
theorem Inv.turned {t' : Nat} {it : Addr} (I : Inv X pins σ H s) (k : ∀ b o, b ≠ it → s.heap.get? b = some o → h'.get? b = some o) (hn : H it = none) (hL : it ≠ X.env.locals)
    (h1 : it ∈ X.ex ∨ X.s₀.heap.objs.size ≤ it) (h2 : ∀ x c, X.env.cells.lookup x = some c → c ≠ it) (h3 : ∀ p ∈ X.pn ++ pins, p.1 ≠ it) : Inv X pins σ H { s with heap := h', toks := t' } := by
  have nit : ∀ b u, H b = some u → b ≠ it := fun b u e z => by rw [z, hn] at e; cases e
  refine I.step (g' := s.gens) (d' := s.drawn) (ch := [it]) (fun b hb => ?_) (fun b o _ _ hc e _ => k b o (fun z => hc (by simp [z])) e) (fun b o _ _ hc e _ => ⟨o.slots, k b o (fun z => hc (by simp [z])) e⟩) (fun _ _ _ _ n => n)
    (fun b o hc e => ⟨o, k b o (fun z => hc (by simp [z])) e⟩) (fun _ _ e => e) (fun _ _ _ e => e) (fun b ps e => ⟨#[], by rw [e]; simp⟩) (fun m hm => ?_) (fun b u e => ?_) I.bare
  · have e : b = it := by simpa using hb
    subst e
    exact ⟨h1, hL, h2, h3⟩
  · obtain ⟨o, es, ep, ho, r⟩ := hm
    exact ⟨o, es, ep, k _ o (Ne.symm hL) ho, r⟩
  · refine (I.hok b u e).stay (fun c v hc q => k c v ?_ q) (fun _ q => q) fun _ _ q => q
    rcases hc with z | z
    · rw [z]; exact nit b u e
    · exact nit c _ z
theorem Inv.tok (I : Inv X pins σ H s) (t : Nat) : Inv X pins σ H { s with toks := t } := I.un (h' := s.heap) (t' := t) Un.refl I.hok
theorem Inv.kept {t' : Nat} (I : Inv X pins σ H s) (k : ∀ b u, s.heap.get? b = some u → h'.get? b = some u) : Inv X pins σ H { s with heap := h', toks := t' } := I.un (Un.kept k) (I.hok.kept k)
theorem Inv.laid {a : Addr} {o : HO} {t' : Nat} (I : Inv X pins σ H s) (k : ∀ b u, s.heap.get? b = some u → h'.get? b = some u) (hp : s.heap.objs.size ≤ a) (new : ObjOk X.prog X.w (upd H a o) h' a o) :
    Inv X pins σ (upd H a o) { s with heap := h', toks := t' } := I.un (Un.laid k hp (I.hok.fresh hp)) (I.hok.laid k hp new)
theorem Inv.write {x e : Addr} {o : HO} {t' : Nat} (I : Inv X pins σ H s) (mu : Mut (H x)) (he : e = x ∨ H e = some (.own x)) (k : ∀ b u, b ≠ e → s.heap.get? b = some u → h'.get? b = some u) (heo : ∃ u, h'.get? e = some u)
    (new : ObjOk X.prog X.w (upd H x o) h' x o) : Inv X pins σ (upd H x o) { s with heap := h', toks := t' } := I.un (Un.write mu he k heo) (I.hok.write mu he k heo new)
theorem Inv.pins_of {pins' : List (Addr × Obj)} (I : Inv X pins σ H s) (h : ∀ p ∈ pins', s.heap.get? p.1 = some p.2 ∧ H p.1 = none ∧ p.1 ≠ X.env.locals ∧ p.1 ∉ X.fs ∧ ∀ v, p.2.data ≠ .cell v) : Inv X pins' σ H s :=
  ⟨I.ok, I.os, I.bare, I.base, I.loc, I.cell, I.free, I.freeC, fun p hp => (List.mem_append.mp hp).elim (fun z => I.pin p (List.mem_append_left _ z)) (h p), I.hok, I.len⟩
theorem nodup_ix {N : List Str} (hN : N.Nodup) {i j : Nat} {x : Str} (a : N[i]? = some x) (b : N[j]? = some x) : i = j := by
  obtain ⟨h1, e1⟩ := List.getElem?_eq_some_iff.mp a
  obtain ⟨h2, e2⟩ := List.getElem?_eq_some_iff.mp b
  exact (List.getElem_inj hN).mp (e1.trans e2.symm)
theorem store_ok2 {M : Model} {A : Around} {E : Value → Shared → Prop} {i : Nat} {x : Str} {v : V} {u : Value} {Q : Unit → Shared → Prop} (I : Inv X pins σ H s) (hN : X.N.Nodup) (hi : X.N[i]? = some x) (hx : Loc X.env.scope x) (r : RelV v u)
    (h : ∀ s', Inv X pins (σ.set i (some v)) H s' → (∃ a, Heap.SameBut a s.heap s'.heap ∧ (a = X.env.locals ∨ X.env.cells.lookup x = some a)) → Q () s') (hf : X.fn x = true ∨ X.env.scope.names.lookup x = some .local := by first | exact .inl rfl | exact .inr rfl | assumption) : wpAny M A (storeName X.env x u) Q E s := by
  obtain ⟨m, hn, hl⟩ := id I.loc
  have hcls : (X.env.scope.kind == .class || (X.env.scope.kind == .module && X.env.locals != X.env.globals)) = false := by rw [I.ok.kind]; rfl
  have hiσ : i < σ.length := by rw [I.len]; exact (List.getElem?_eq_some_iff.mp hi).1
  have cne := I.cne
  have tracked : ∀ {a : Addr} {h' : Heap}, (∃ o, s.heap.get? a = some o ∧ H a = none) → Heap.SameBut a s.heap h' → HOk X.prog X.w H h' := fun {a h'} ha hs b ob e => by
    obtain ⟨_, _, hfree⟩ := ha
    refine (I.hok b ob e).stay (fun c w' hc q => (hs.2 c ?_).trans q) (fun _ q => q) fun _ _ q => q
    rintro rfl
    rcases hc with rfl | hc
    · rw [hfree] at e; cases e
    · rw [hfree] at hc; cases hc
  rcases hx with hk | hk
  · refine wpAny_storeName_local hk hn (fun h' hn' hs => ?_) hcls
    obtain ⟨oL, _, _, hoL, _⟩ := id hn
    refine h _ ⟨I.ok, I.os, I.bare, ⟨fun b o e n hb hx => ?_, fun b o e n hb hx => ?_, I.base.free, fun b o e hx => ?_, I.base.tups, I.base.frzs, I.base.tbls⟩, ⟨_, hn', fun j y v' e1 e2 e3 => ?_⟩, fun y c e => ?_, I.free, I.freeC, fun p hp => ?_, tracked ⟨oL, hoL, I.free⟩ hs, by simpa using I.len⟩ ⟨_, hs, .inl rfl⟩
    · exact (hs.2 b (Nat.ne_of_lt (Nat.lt_of_lt_of_le (Heap.lt_size e) I.ok.above))).trans (I.base.keep b o e n hb hx)
    · obtain ⟨sl, e1⟩ := I.base.slot b o e n hb hx
      exact ⟨sl, (hs.2 b (Nat.ne_of_lt (Nat.lt_of_lt_of_le (Heap.lt_size e) I.ok.above))).trans e1⟩
    · obtain ⟨o', e1⟩ := I.base.there b o e hx
      exact ⟨o', (hs.2 b (Nat.ne_of_lt (Nat.lt_of_lt_of_le (Heap.lt_size e) I.ok.above))).trans e1⟩
    · by_cases hj : j = i
      · subst hj
        rw [hi] at e1; cases e1
        rw [List.getElem?_set_self hiσ] at e2
        cases e2
        exact ⟨u, r, .inl ⟨hk, by simp⟩⟩
      · rw [List.getElem?_set_ne (Ne.symm hj)] at e2
        obtain ⟨u', r', q⟩ := hl j y v' e1 e2 e3
        refine ⟨u', r', ?_⟩
        rcases q with ⟨k, e⟩ | ⟨k, c, e, z⟩
        · refine .inl ⟨k, ?_⟩
          have : y ≠ x := fun e => hj (nodup_ix hN e1 (e ▸ hi))
          simp [this, e]
        · exact .inr ⟨k, c, e, z.sameBut hs (cne y c e)⟩
    · obtain ⟨w', z⟩ := I.cell y c e
      exact ⟨w', z.sameBut hs (cne y c e)⟩
    · obtain ⟨e, n, ne, nf, d⟩ := I.pin p hp
      exact ⟨(hs.2 p.1 ne).trans e, n, ne, nf, d⟩
  · have hfn : X.fn x = true := by
      rcases hf with z | z
      · exact z
      · rw [z] at hk; cases hk
    obtain ⟨c, hc⟩ := I.ok.has x (.inl hk)
    obtain ⟨w', z⟩ := I.cell x c hc
    refine wpAny_storeName_cell I.ok.kind hk hc z (fun h' hc' hs => ?_)
    obtain ⟨oc, hoc, hocd⟩ := id z
    refine h { s with heap := h' } ⟨I.ok, I.os, I.bare, ⟨fun b o e n hb hx => ?_, fun b o e n hb hx => ?_, I.base.free, fun b o e hx => ?_, I.base.tups, I.base.frzs, I.base.tbls⟩, ⟨m, hn.sameBut hs (Ne.symm (cne x c hc)), fun j y v' e1 e2 e3 => ?_⟩, fun y c' e => ?_, I.free, I.freeC, fun p hp => ?_, tracked ⟨oc, hoc, I.freeC x c hc⟩ hs, by simpa using I.len⟩ ⟨c, hs, .inr hc⟩
    · exact (hs.2 b (Nat.ne_of_lt (Nat.lt_of_lt_of_le (Heap.lt_size e) (I.ok.cab x c hfn hc)))).trans (I.base.keep b o e n hb hx)
    · obtain ⟨sl, e1⟩ := I.base.slot b o e n hb hx
      exact ⟨sl, (hs.2 b (Nat.ne_of_lt (Nat.lt_of_lt_of_le (Heap.lt_size e) (I.ok.cab x c hfn hc)))).trans e1⟩
    · obtain ⟨o', e1⟩ := I.base.there b o e hx
      exact ⟨o', (hs.2 b (Nat.ne_of_lt (Nat.lt_of_lt_of_le (Heap.lt_size e) (I.ok.cab x c hfn hc)))).trans e1⟩
    · by_cases hj : j = i
      · subst hj
        rw [hi] at e1; cases e1
        rw [List.getElem?_set_self hiσ] at e2
        cases e2
        exact ⟨u, r, .inr ⟨.inl hk, c, hc, hc'⟩⟩
      · rw [List.getElem?_set_ne (Ne.symm hj)] at e2
        obtain ⟨u', r', q⟩ := hl j y v' e1 e2 e3
        refine ⟨u', r', ?_⟩
        rcases q with q | ⟨k, c', e, z'⟩
        · exact .inl q
        · refine .inr ⟨k, c', e, z'.sameBut hs ?_⟩
          rintro rfl
          exact hj (nodup_ix hN e1 (I.ok.inj _ _ _ e hc ▸ hi))
    · by_cases hcc : c' = c
      · subst hcc; exact ⟨_, hc'⟩
      · obtain ⟨w2, z2⟩ := I.cell y c' e
        exact ⟨w2, z2.sameBut hs hcc⟩
    · obtain ⟨e, n, ne, nf, d⟩ := I.pin p hp
      refine ⟨(hs.2 p.1 ?_).trans e, n, ne, nf, d⟩
      intro q
      rw [q, hoc] at e
      have q' : oc = p.2 := Option.some.inj e
      exact d w' (by rw [← q']; exact hocd)
theorem store_ok {M : Model} {A : Around} {E : Value → Shared → Prop} {i : Nat} {x : Str} {v : V} {u : Value} {Q : Unit → Shared → Prop} (I : Inv X pins σ H s) (hN : X.N.Nodup) (hi : X.N[i]? = some x) (hx : Loc X.env.scope x) (r : RelV v u)
    (h : ∀ s', Inv X pins (σ.set i (some v)) H s' → Q () s') (hf : X.fn x = true ∨ X.env.scope.names.lookup x = some .local := by first | exact .inl rfl | exact .inr rfl | assumption) : wpAny M A (storeName X.env x u) Q E s :=
  store_ok2 I hN hi hx r (fun s' I' _ => h s' I') hf
theorem Inv.call' {s' : Shared} {ch : List Addr} (I : Inv X pins σ H s) (ho : s'.os = s.os) (u : Un (frs X.stack) ch H H' s.heap s'.heap) (hok : HOk X.prog X.w H' s'.heap) (hg : AllBare s'.gens)
    (hch : ∀ b ∈ ch, (b ∈ X.ex ∨ X.s₀.heap.objs.size ≤ b) ∧ b ≠ X.env.locals ∧ (∀ x c, X.env.cells.lookup x = some c → c ≠ b) ∧ ∀ p ∈ X.pn ++ pins, p.1 ≠ b) : Inv X pins σ H' s' := by
  obtain ⟨h', g', d', t', o'⟩ := s'
  have e : o' = s.os := ho
  subst e
  exact I.call (g' := g') (t' := t') (d' := d') u hok hg hch
end
abbrev XK := Value → Option Addr → Hp → Prop
abbrev St := List (Option V)
abbrev VK := V → Hp → Prop
abbrev TE := St → Hp → VK → Prop
abbrev TT := St → Hp → (Bool → Hp → Prop) → Prop
abbrev TA := St → Hp → (List V → Hp → Prop) → Prop
structure Ends where
  nx : St → Hp → Prop
  rt : VK
  bk : St → Hp → Prop := fun _ _ => False
  ct : St → Hp → Prop := fun _ _ => False
abbrev TS := Ends → St → Hp → Prop
def EP (X : Cx) (pins : List (Addr × Obj)) (σ : St) (Q : VK) (u : Value) (s' : Shared) : Prop := ∃ v H', Inv X pins σ H' s' ∧ RelV v u ∧ Q v H'
def TP (X : Cx) (pins : List (Addr × Obj)) (σ : St) (Q : Bool → Hp → Prop) (b : Bool) (s' : Shared) : Prop := ∃ H', Inv X pins σ H' s' ∧ Q b H'
def AP (X : Cx) (pins : List (Addr × Obj)) (σ : St) (Q : List V → Hp → Prop) (us : List Value) (s' : Shared) : Prop := ∃ vs H', Inv X pins σ H' s' ∧ Vals vs us ∧ Q vs H'
def SP (X : Cx) (pins : List (Addr × Obj)) (D : Ends) (f : Flow) (s' : Shared) : Prop :=
  match f with
  | .next => ∃ σ' H', Inv X pins σ' H' s' ∧ D.nx σ' H'
  | .brk => ∃ σ' H', Inv X pins σ' H' s' ∧ D.bk σ' H'
  | .cont => ∃ σ' H', Inv X pins σ' H' s' ∧ D.ct σ' H'
  | .ret u => ∃ v σ' H', Inv X pins σ' H' s' ∧ RelV v u ∧ D.rt v H'
def PE (X : Cx) (e : Expr) (t : TE) : Prop :=
  ∀ (pins : List (Addr × Obj)) (s : Shared) (σ : St) (H : Hp) (Q : VK), Inv X pins σ H s → t σ H Q → wpAny (model X.prog X.w) X.A (eval e X.env) (EP X pins σ Q) X.xe s
def PT (X : Cx) (e : Expr) (t : TT) : Prop :=
  ∀ (pins : List (Addr × Obj)) (s : Shared) (σ : St) (H : Hp) (Q : Bool → Hp → Prop), Inv X pins σ H s → t σ H Q → wpAny (model X.prog X.w) X.A (isTrue e X.env (eval e X.env)) (TP X pins σ Q) X.xe s
def PW (X : Cx) (e : Expr) (t : TT) : Prop :=
  ∀ (whole : Sem Value) (pins : List (Addr × Obj)) (s : Shared) (σ : St) (H : Hp) (Q : Bool → Hp → Prop), Inv X pins σ H s → t σ H Q → wpAny (model X.prog X.w) X.A (isTrue e X.env whole) (TP X pins σ Q) X.xe s
theorem PW.pt {X : Cx} {e : Expr} {t : TT} (h : PW X e t) : PT X e t := h _
def PA (X : Cx) (es : List Expr) (t : TA) : Prop :=
  ∀ (pos : Pos) (pins : List (Addr × Obj)) (s : Shared) (σ : St) (H : Hp) (Q : List V → Hp → Prop), Inv X pins σ H s → t σ H Q → wpAny (model X.prog X.w) X.A (spliced (backTo pos (starEach es X.env))) (AP X pins σ Q) X.xe s
def PS (X : Cx) (st : Stmt) (t : TS) : Prop :=
  ∀ (pins : List (Addr × Obj)) (s : Shared) (σ : St) (H : Hp) (D : Ends), Inv X pins σ H s → t D σ H → wpAny (model X.prog X.w) X.A (exec st X.env) (SP X pins D) X.xe s
def PSs (X : Cx) (st : List Stmt) (t : TS) : Prop :=
  ∀ (pins : List (Addr × Obj)) (s : Shared) (σ : St) (H : Hp) (D : Ends), Inv X pins σ H s → t D σ H → wpAny (model X.prog X.w) X.A (execs st X.env) (SP X pins D) X.xe s
theorem thn {α : Type} {t : Sem α} {Q Q' : α → Shared → Prop} {M : Model} {A : Around} {E : Value → Shared → Prop} {s : Shared} (h : wpAny M A t Q E s) (hQ : ∀ a s, Q a s → Q' a s) : wpAny M A t Q' E s := wpAny_mono h hQ fun _ _ x => x
end L2
namespace L2
open PySem PySem.Spec PyProof.Rows
section
variable {X : Cx}
def tVar (i : Nat) : TE := fun σ H Q => ∃ v, σ[i]? = some (some v) ∧ Q v H
def tC (v : V) : TE := fun _ H Q => Q v H
theorem pe_var {i : Nat} {x : Str} {pos : Pos} (hN : X.N[i]? = some x) (hv : Vis X.env.scope x) (hd : (x == ("__debug__" : Str)) = false := by decide) (hcd : (x == ("__classdict__" : Str)) = false := by decide) : PE X (.Name x pos) (tVar i) := by
  intro pins s σ H Q I h
  obtain ⟨v, e, h⟩ := h
  obtain ⟨m, hn, hl⟩ := I.loc
  obtain ⟨u, r, l⟩ := hl i x v hN e hv
  have fin : EP X pins σ Q u s := ⟨v, H, I, r, h⟩
  rcases l with ⟨hk, hm⟩ | ⟨hk, c, hc, hcell⟩
  · exact wpAny_Name (wpAny_loadName_local I.ok.kind hk hn hm fin) hd
  · rcases hk with hk | hk
    · exact wpAny_Name (wpAny_loadName_cell I.ok.kind hk hc hcell fin) hd
    · exact wpAny_Name (wpAny_loadName_free I.ok.kind hk hc hcell fin hcd) hd
theorem pe_int {i j pos} : PE X (.Constant (.int i) j pos) (tC (.int i)) := fun _ _ _ H _ I h => wpAny_Constant_int ⟨.int i, H, I.tok _, ⟨_, rfl⟩, h⟩
theorem pe_bl {b j pos} : PE X (.Constant (.bool b) j pos) (tC (.bl b)) := fun _ _ _ H _ I h => Constant_bool ⟨.bl b, H, I, rfl, h⟩
theorem pe_non {j pos} : PE X (.Constant .none j pos) (tC .non) := fun _ _ _ H _ I h => Constant_none ⟨.non, H, I, rfl, h⟩
theorem pe_str {x j pos} : PE X (.Constant (.str x) j pos) (tC (.str x)) := fun _ _ _ H _ I h => Calls.Constant_str ⟨.str x, H, I.tok _, ⟨_, rfl⟩, h⟩
def Gl (X : Cx) (x : Str) : Prop := X.env.kindOf x = some .globalImplicit
theorem ld_glob {E : Value → Shared → Prop} {pins : List (Addr × Obj)} {s : Shared} {σ : St} {H : Hp} {x : Str} {u : Value} {pos : Pos} {Q : Value → Shared → Prop} (I : Inv X pins σ H s) (hg : Gl X x) (hm : X.mg x = some u) (h : Q u s)
    (hd : (x == ("__debug__" : Str)) = false := by decide) : wpAny (model X.prog X.w) X.A (eval (.Name x pos) X.env) Q E s :=
  Calls.Name_function_global I.ok.kind hg (Calls.loadGlobal_global (by rw [I.ok.glob]; exact I.mod.glob.keeps I.bk) hm h) hd
theorem ld_blt {E : Value → Shared → Prop} {pins : List (Addr × Obj)} {s : Shared} {σ : St} {H : Hp} {x : Str} {u : Value} {pos : Pos} {Q : Value → Shared → Prop} (I : Inv X pins σ H s) (hg : Gl X x) (hm : X.mg x = none) (hv : bootBuiltins x = some u) (h : Q u s)
    (hn : x ≠ "__name__" := by decide) (hd : (x == ("__debug__" : Str)) = false := by decide) : wpAny (model X.prog X.w) X.A (eval (.Name x pos) X.env) Q E s := by
  obtain ⟨mb, h1, h2⟩ := I.mod.blt
  exact Calls.Name_function_global I.ok.kind hg (Calls.loadGlobal_builtin (by rw [I.ok.glob]; exact I.mod.glob.keeps I.bk) hm (by rw [I.ok.blt]; exact h1.keeps I.bk) ((h2 x hn).trans hv) h) hd
theorem pe_glob {x : Str} {v : V} {u : Value} {pos : Pos} (hg : Gl X x) (hm : X.mg x = some u) (r : RelV v u) (hd : (x == ("__debug__" : Str)) = false := by decide) : PE X (.Name x pos) (tC v) :=
  fun _ _ _ H _ I h => ld_glob I hg hm ⟨v, H, I, r, h⟩ hd
theorem pe_bltn {x : Str} {v : V} {u : Value} {pos : Pos} (hg : Gl X x) (hm : X.mg x = none) (hv : bootBuiltins x = some u) (r : RelV v u) (hn : x ≠ "__name__" := by decide) (hd : (x == ("__debug__" : Str)) = false := by decide) : PE X (.Name x pos) (tC v) :=
  fun _ _ _ H _ I h => ld_blt I hg hm hv ⟨v, H, I, r, h⟩ hn hd
variable {a b : Expr} {ta tb : TE} {pos : Pos}
def tB (t : TE) : TT := fun σ H Q => t σ H fun x H1 => ∃ c, x = .bl c ∧ Q c H1
theorem pt_val {e : Expr} {t : TE} (h : PE X e t) (he : ∀ whole, isTrue e X.env whole = (do let v ← whole; standAt e.pos; holding [v] (truthy v)) := by intro _; rfl) : PT X e (tB t) := by
  intro pins s σ H Q I hw
  refine isTrue_plain (thn (h pins s σ H _ I hw) fun v s1 ⟨x, H1, I1, r1, q1⟩ => ?_) (he _)
  obtain ⟨d, rfl, q⟩ := q1
  cases r1
  exact wpAny_truthy_bool ⟨H1, I1, q⟩
variable {tA tB' : TT} {rest : List Expr}
def tAnd (t u : TT) : TT := fun σ H Q => t σ H fun c H1 => if c = true then u σ H1 Q else Q false H1
def tOr (t u : TT) : TT := fun σ H Q => t σ H fun c H1 => if c = true then Q true H1 else u σ H1 Q
def tNot (t : TT) : TT := fun σ H Q => t σ H fun c H1 => Q (!c) H1
theorem pw_and1 (ha : PT X a tA) : PW X (.BoolOp .And [a] pos) tA := by
  intro wh pins s σ H Q I h
  refine isTrue_and (thn (ha pins s σ H Q I h) fun c s1 e => ?_)
  cases c with
  | true => exact isTrue_and_nil e
  | false => exact e
theorem pw_or1 (ha : PT X a tA) : PW X (.BoolOp .Or [a] pos) tA := by
  intro wh pins s σ H Q I h
  refine isTrue_or (thn (ha pins s σ H Q I h) fun c s1 e => ?_)
  cases c with
  | false => exact isTrue_or_nil e
  | true => exact e
theorem pw_and (ha : PT X a tA) (hb : PW X (.BoolOp .And (b :: rest) pos) tB') : PW X (.BoolOp .And (a :: b :: rest) pos) (tAnd tA tB') := by
  intro wh pins s σ H Q I h
  refine isTrue_and (thn (ha pins s σ H _ I h) fun c s1 ⟨H1, I1, q1⟩ => ?_)
  cases c with
  | true => exact hb wh pins s1 σ H1 Q I1 q1
  | false => exact ⟨H1, I1, q1⟩
theorem pw_or (ha : PT X a tA) (hb : PW X (.BoolOp .Or (b :: rest) pos) tB') : PW X (.BoolOp .Or (a :: b :: rest) pos) (tOr tA tB') := by
  intro wh pins s σ H Q I h
  refine isTrue_or (thn (ha pins s σ H _ I h) fun c s1 ⟨H1, I1, q1⟩ => ?_)
  cases c with
  | true => exact ⟨H1, I1, q1⟩
  | false => exact hb wh pins s1 σ H1 Q I1 q1
theorem pt_not (ha : PT X a tA) : PT X (.UnaryOp .Not a pos) (tNot tA) := by
  intro pins s σ H Q I h
  exact isTrue_not (ha pins s σ H (fun c H1 => Q (!c) H1) I h)
def tAndV (ta tb : TE) : TE := fun σ H Q => ta σ H fun x H1 => ∃ c, x = .bl c ∧ if c = true then tb σ H1 Q else Q (.bl false) H1
def tNotV (ta : TE) : TE := fun σ H Q => ta σ H fun x H1 => ∃ c, x = .bl c ∧ Q (.bl (!c)) H1
theorem pe_one {op} {t : TE} (h : PE X a t) : PE X (.BoolOp op [a] pos) t := fun pins s σ H Q I hw => BoolOp_one (h pins s σ H Q I hw)
theorem pe_and (ha : PE X a ta) (hb : PE X (.BoolOp .And (b :: rest) pos) tb) : PE X (.BoolOp .And (a :: b :: rest) pos) (tAndV ta tb) := by
  intro pins s σ H Q I h
  refine BoolOp_and (thn (ha pins s σ H _ I h) fun v s1 ⟨x, H1, I1, r1, q1⟩ => ?_)
  obtain ⟨c, rfl, q1⟩ := q1
  cases r1
  refine wpAny_truthy_bool ?_
  cases c with
  | true => exact hb pins s1 σ H1 Q I1 q1
  | false => exact ⟨.bl false, H1, I1, rfl, q1⟩
theorem pe_not (ha : PE X a ta) : PE X (.UnaryOp .Not a pos) (tNotV ta) := by
  intro pins s σ H Q I h
  refine UnaryOp_ (thn (ha pins s σ H _ I h) fun v s1 ⟨x, H1, I1, r1, q1⟩ => ?_)
  obtain ⟨c, rfl, q1⟩ := q1
  cases r1
  exact not_of (wpAny_truthy_bool ⟨.bl (!c), H1, I1, rfl, q1⟩)
def tIf (t : TT) (ta tb : TE) : TE := fun σ H Q => t σ H fun c H1 => if c = true then ta σ H1 Q else tb σ H1 Q
theorem pe_ifExp {c : Expr} (hc : PT X c tA) (ha : PE X a ta) (hb : PE X b tb) : PE X (.IfExp c a b pos) (tIf tA ta tb) := by
  intro pins s σ H Q I h
  refine wpAny_IfExp (thn (hc pins s σ H _ I h) fun d s1 ⟨H1, I1, q1⟩ => ?_)
  cases d with
  | true => exact ha pins s1 σ H1 Q I1 q1
  | false => exact hb pins s1 σ H1 Q I1 q1
end
end L2
namespace L2
open PySem PySem.Spec PyProof.Rows
def SqL (K : PySem.W.Frag) (H : Hp) (a : Addr) (xs : List V) : Prop :=
  Rd H a (.lst xs) ∨
    ∃ (o : Obj) (its : Array Value) (n : Nat), K.lookup a = some o ∧ o.cls = .type "list" ∧ o.dict = none ∧ o.data = .seq its n ∧ its.size ≤ sizeLine ∧ Vals xs its.toList
def SqT (K : PySem.W.Frag) (H : Hp) (a : Addr) (xs : List V) : Prop :=
  Rd H a (.tup xs) ∨
    ∃ (o : Obj) (its : Array Value) (n : Nat), K.lookup a = some o ∧ o.cls = .type "tuple" ∧ o.data = .seq its n ∧ its.size ≤ sizeLine ∧ Vals xs its.toList
def absV : Value → Option V
  | .none => some .non
  | .bool b => some (.bl b)
  | .int i _ => some (.int i)
  | .str x _ => some (.str x)
  | .bytes b _ => some (.byt b)
  | .float b _ => some (.flt b)
  | .ref a => some (.ref a)
  | .type n => some (.ty n)
  | _ => none
theorem RelV.abs {x : V} {u : Value} (r : RelV x u) : absV u = some x := by
  cases x with
  | non => cases r; rfl
  | bl _ => cases r; rfl
  | int _ => obtain ⟨t, rfl⟩ := r; rfl
  | str _ => obtain ⟨t, rfl⟩ := r; rfl
  | byt _ => obtain ⟨t, rfl⟩ := r; rfl
  | flt _ => obtain ⟨t, rfl⟩ := r; rfl
  | ref _ => cases r; rfl
  | ty _ => cases r; rfl
theorem RelV.inj {x y : V} {u : Value} (r : RelV x u) (q : RelV y u) : x = y := Option.some.inj (r.abs.symm.trans q.abs)
theorem Vals.inj : ∀ {xs ys : List V} {us : List Value}, Vals xs us → Vals ys us → xs = ys
  | _, _, _, .nil, .nil => rfl
  | _, _, _, .cons r t, .cons r' t' => by rw [r.inj r', Vals.inj t t']
section
variable {X : Cx} {pins : List (Addr × Obj)} {σ : St} {H : Hp} {s : Shared} {a : Addr} {xs ys : List V}
theorem SqL.of {K : PySem.W.Frag} (h : H a = some (.lst xs)) : SqL K H a xs := .inl (.inl h)
theorem SqT.of {K : PySem.W.Frag} (h : H a = some (.tup xs)) : SqT K H a xs := .inl (.inl h)
theorem Inv.list (I : Inv X pins σ H s) (h : SqL X.K H a xs) : ∃ its : List Value, Vals xs its ∧ PlainL s.heap a its.toArray ∧ xs.length ≤ sizeLine := by
  rcases h with h | ⟨o, its, n, hk, hc, hd, hs, hz, r⟩
  · obtain ⟨z, its, n, r, e⟩ := h.ok I.hok
    exact ⟨its, r, ⟨_, n, e, rfl, rfl, rfl⟩, z⟩
  · refine ⟨its.toList, r, ⟨o, n, I.kIn a o hk, hc, hd, by simpa using hs⟩, ?_⟩
    have e := r.length
    simp only [Array.length_toList] at e
    omega
theorem Inv.tuple (I : Inv X pins σ H s) (h : SqT X.K H a xs) : ∃ its : List Value, Vals xs its ∧ IsTup s.heap a its.toArray ∧ xs.length ≤ sizeLine := by
  rcases h with h | ⟨o, its, n, hk, hc, hs, hz, r⟩
  · obtain ⟨z, its, r, p⟩ := h.ok I.hok
    exact ⟨its, r, p, z⟩
  · refine ⟨its.toList, r, ⟨o, I.kIn a o hk, hc, n, by simpa using hs⟩, ?_⟩
    have e := r.length
    simp only [Array.length_toList] at e
    omega
theorem Inv.list_inj (I : Inv X pins σ H s) (h : SqL X.K H a xs) (h' : SqL X.K H a ys) : xs = ys := by
  obtain ⟨its, r, ⟨o, n, e, _, _, d⟩, _⟩ := I.list h
  obtain ⟨its', r', ⟨o', n', e', _, _, d'⟩, _⟩ := I.list h'
  rw [e] at e'; cases e'
  rw [d] at d'
  injection d' with d1 _
  have : its = its' := by simpa using congrArg Array.toList d1
  subst this
  exact r.inj r'
theorem Inv.tuple_inj (I : Inv X pins σ H s) (h : SqT X.K H a xs) (h' : SqT X.K H a ys) : xs = ys := by
  obtain ⟨its, r, ⟨o, e, _, n, d⟩, _⟩ := I.tuple h
  obtain ⟨its', r', ⟨o', e', _, n', d'⟩, _⟩ := I.tuple h'
  rw [e] at e'; cases e'
  rw [d] at d'
  injection d' with d1 _
  have : its = its' := by simpa using congrArg Array.toList d1
  subst this
  exact r.inj r'
end
abbrev Cx.wish (X : Cx) (E : Value → Shared → Prop) : Cx := { X with xe := E }
abbrev Cx.nox (X : Cx) : Cx := X.wish fun _ _ => False
theorem Cx.Ok.wish {X : Cx} (ok : X.Ok) (E : Value → Shared → Prop) : (X.wish E).Ok :=
  ⟨ok.mod, ok.kind, ok.glob, ok.blt, ok.above, ok.inj, ok.has, ok.cab, ok.hd, ok.frames, ok.stk, ok.exf, ok.bs, ok.bsz, ok.noex, ok.exfs, ok.funs, ok.frf⟩
theorem Cx.Ok.unwish {X : Cx} {E : Value → Shared → Prop} (ok : (X.wish E).Ok) : X.Ok :=
  ⟨ok.mod, ok.kind, ok.glob, ok.blt, ok.above, ok.inj, ok.has, ok.cab, ok.hd, ok.frames, ok.stk, ok.exf, ok.bs, ok.bsz, ok.noex, ok.exfs, ok.funs, ok.frf⟩
section
variable {X : Cx} {pins : List (Addr × Obj)} {σ : St} {H : Hp} {s : Shared} {E : Value → Shared → Prop}
theorem Inv.wish (I : Inv X pins σ H s) (E : Value → Shared → Prop) : Inv (X.wish E) pins σ H s := ⟨I.ok.wish E, I.os, I.bare, I.base, I.loc, I.cell, I.free, I.freeC, I.pin, I.hok, I.len⟩
theorem Inv.unwish (I : Inv (X.wish E) pins σ H s) : Inv X pins σ H s := ⟨I.ok.unwish, I.os, I.bare, I.base, I.loc, I.cell, I.free, I.freeC, I.pin, I.hok, I.len⟩
theorem SP.unwish {D : Ends} {f : Flow} {s' : Shared} (h : SP (X.wish E) pins D f s') : SP X pins D f s' := by
  cases f with
  | next => obtain ⟨σ', H', I, q⟩ := h; exact ⟨σ', H', I.unwish, q⟩
  | brk => obtain ⟨σ', H', I, q⟩ := h; exact ⟨σ', H', I.unwish, q⟩
  | cont => obtain ⟨σ', H', I, q⟩ := h; exact ⟨σ', H', I.unwish, q⟩
  | ret u => obtain ⟨v, σ', H', I, r, q⟩ := h; exact ⟨v, σ', H', I.unwish, r, q⟩
theorem PE.nox {e : Expr} {t : TE} (h : PE X.nox e t) : PE X e t := fun pins s σ H Q I hw =>
  wpAny_mono (h pins s σ H Q (I.wish _) hw) (fun _ _ ⟨v, H', I', r, q⟩ => ⟨v, H', I'.unwish, r, q⟩) fun _ _ z => False.elim z
theorem PT.nox {e : Expr} {t : TT} (h : PT X.nox e t) : PT X e t := fun pins s σ H Q I hw =>
  wpAny_mono (h pins s σ H Q (I.wish _) hw) (fun _ _ ⟨H', I', q⟩ => ⟨H', I'.unwish, q⟩) fun _ _ z => False.elim z
theorem PSs.nox {st : List Stmt} {t : TS} (h : PSs X.nox st t) : PSs X st t := fun pins s σ H D I hw =>
  wpAny_mono (h pins s σ H D (I.wish _) hw) (fun _ _ q => q.unwish) fun _ _ z => False.elim z
end
section
variable {X : Cx} {st : Stmt} {rest : List Stmt} {t u : TS} {e : Expr} {te : TE} {pos : Pos}
def tNext : TS := fun D σ H => D.nx σ H
def tSeq (t u : TS) : TS := fun D σ H => t { D with nx := u D } σ H
theorem pss_nil : PSs X [] tNext := fun _ _ σ H _ I h => wpAny_execs_nil ⟨σ, H, I, h⟩
theorem pss_cons (h1 : PS X st t) (h2 : PSs X rest u) : PSs X (st :: rest) (tSeq t u) := by
  intro pins s σ H D I h
  refine wpAny_execs_cons (thn (h1 pins s σ H { D with nx := u D } I h) fun f s1 q => ?_)
  cases f with
  | next =>
    obtain ⟨σ', H', I', q⟩ := q
    exact h2 pins s1 σ' H' D I' q
  | ret v => exact q
  | brk => exact q
  | cont => exact q
theorem pss_one (h1 : PS X st t) : PSs X [st] t := by
  intro pins s σ H D I h
  refine wpAny_execs_cons (thn (h1 pins s σ H D I h) fun f s1 q => ?_)
  cases f with
  | next => exact wpAny_execs_nil q
  | ret v => exact q
  | brk => exact q
  | cont => exact q
theorem Inv.quiet {pins : List (Addr × Obj)} {σ : St} {H : Hp} {s : Shared} (I : Inv X pins σ H s) : interactive X.env = false := by simp [interactive, I.ok.kind]
def tDrop (te : TE) : TS := fun D σ H => te σ H fun _ H1 => D.nx σ H1
theorem ps_expr (he : PE X e te) (hs : swapsWith e none pos.line X.env = pure false := by rfl) : PS X (.Expr e pos) (tDrop te) := by
  intro pins s σ H D I h
  exact wpAny_Expr_any (thn (he pins s σ H _ I h) fun v s1 ⟨x, H1, I1, r1, q1⟩ => ⟨σ, H1, I1, q1⟩) I.quiet hs
def tRet (te : TE) : TS := fun D σ H => te σ H D.rt
theorem ps_ret (he : PE X e te) : PS X (.Return (some e) pos) (tRet te) := by
  intro pins s σ H D I h
  exact wpAny_Return_some (thn (he pins s σ H _ I h) fun v s1 ⟨x, H1, I1, r1, q1⟩ => ⟨x, σ, H1, I1, r1, q1⟩)
def tIfS (c : TT) (t u : TS) : TS := fun D σ H => c σ H fun b H1 => if b = true then t D σ H1 else u D σ H1
theorem ps_if {c : Expr} {a b : List Stmt} {tc : TT} (hc : PT X c tc) (ha : PSs X a t) (hb : PSs X b u) : PS X (.If c a b pos) (tIfS tc t u) := by
  intro pins s σ H D I h
  refine wpAny_If (thn (hc pins s σ H _ I h) fun d s1 ⟨H1, I1, q1⟩ => ?_)
  cases d with
  | true => exact ha pins s1 σ H1 D I1 q1
  | false => exact hb pins s1 σ H1 D I1 q1
def tNever : TS := fun _ _ _ => False
theorem ps_never : PS X st tNever := fun _ _ _ _ _ _ h => h.elim
end
abbrev TG := V → St → Hp → (St → Hp → Prop) → Prop
abbrev TGs := List V → St → Hp → (St → Hp → Prop) → Prop
def PG (X : Cx) (target : Expr) (t : TG) : Prop :=
  ∀ (pins : List (Addr × Obj)) (s : Shared) (σ : St) (H : Hp) (v : V) (u : Value) (Q : St → Hp → Prop), Inv X pins σ H s → RelV v u → t v σ H Q →
    wpAny (model X.prog X.w) X.A (assign target X.env u) (fun _ s' => ∃ σ' H', Inv X pins σ' H' s' ∧ Q σ' H') X.xe s
def PGs (X : Cx) (ts : List Expr) (t : TGs) : Prop :=
  ∀ (pins : List (Addr × Obj)) (s : Shared) (σ : St) (H : Hp) (vs : List V) (us : List Value) (Q : St → Hp → Prop), Inv X pins σ H s → Vals vs us → t vs σ H Q →
    wpAny (model X.prog X.w) X.A (assignInOrder ((assignEach ts X.env).map (·.2)) us) (fun _ s' => ∃ σ' H', Inv X pins σ' H' s' ∧ Q σ' H') X.xe s
section
variable {X : Cx} {pos : Pos}
def gName (i : Nat) : TG := fun v σ H Q => Q (σ.set i (some v)) H
theorem pg_name {i : Nat} {x : Str} (hN : X.N.Nodup) (hi : X.N[i]? = some x) (hx : Loc X.env.scope x) (hf : X.fn x = true ∨ X.env.scope.names.lookup x = some .local := by first | exact .inl rfl | exact .inr rfl | assumption) : PG X (.Name x pos) (gName i) := by
  intro pins s σ H v u Q I r h
  exact wpAny_assign_Name (store_ok I hN hi hx r (fun s' I' => ⟨_, H, I', h⟩) hf)
def gNil : TGs := fun vs σ H Q => vs = [] ∧ Q σ H
def gCons (t : TG) (u : TGs) : TGs := fun vs σ H Q => ∃ v r, vs = v :: r ∧ t v σ H fun σ' H' => u r σ' H' Q
theorem pgs_nil : PGs X [] gNil := by
  intro pins s σ H vs us Q I r h
  obtain ⟨e, h⟩ := h
  subst e
  cases r
  exact assignInOrder_nil ⟨σ, H, I, h⟩
theorem pgs_cons {e : Expr} {es : List Expr} {t : TG} {u : TGs} (h1 : PG X e t) (h2 : PGs X es u)
    (hs : (assignEach (e :: es) X.env).map (·.2) = assign e X.env :: (assignEach es X.env).map (·.2) := by rfl) : PGs X (e :: es) (gCons t u) := by
  intro pins s σ H vs us Q I r h
  obtain ⟨v, vr, e1, h⟩ := h
  subst e1
  cases r with
  | cons r rr =>
    rw [hs]
    refine assignInOrder_cons (thn (h1 pins s σ H _ _ _ I r h) fun _ s1 ⟨σ1, H1, I1, q1⟩ => ?_)
    exact h2 pins s1 σ1 H1 _ _ Q I1 rr q1
def tAsg (te : TE) (g : TG) : TS := fun D σ H => te σ H fun x H1 => g x σ H1 D.nx
theorem ps_asg {tg e : Expr} {te : TE} {g : TG} (he : PE X e te) (hg : PG X tg g) (hs : swapsWithSole [tg] e pos.line X.env = pure false := by rfl) (hw : swappedStores [tg] e X.env = pure none := by rfl)
    (h1 : (assignEach [tg] X.env).map (·.2) = [assign tg X.env] := by rfl) : PS X (.Assign [tg] e pos) (tAsg te g) := by
  intro pins s σ H D I h
  refine wpAny_Assign_stores (thn (he pins s σ H _ I h) fun v s1 ⟨x, H1, I1, r1, q1⟩ => ?_) hs hw
  rw [h1]
  exact thn (hg pins s1 σ H1 x v _ I1 r1 q1) fun _ s2 q => q
theorem ps_set {i : Nat} {x : Str} {e : Expr} {te : TE} {pos' : Pos} (hN : X.N.Nodup) (hi : X.N[i]? = some x) (hx : Loc X.env.scope x) (he : PE X e te) (hs : swapsWith e (some (.Name x pos')) pos.line X.env = pure false := by rfl) (hf : X.fn x = true ∨ X.env.scope.names.lookup x = some .local := by first | exact .inl rfl | exact .inr rfl | assumption) :
    PS X (.Assign [.Name x pos'] e pos) (tAsg te (gName i)) := by
  intro pins s σ H D I h
  refine wpAny_Assign_Name (thn (he pins s σ H _ I h) fun v s1 ⟨y, H1, I1, r1, q1⟩ => ?_) hs
  exact store_ok I1 hN hi hx r1 (fun s2 I2 => ⟨_, H1, I2, q1⟩) hf
end
section
variable {X : Cx} {pos : Pos}
def tWhile (c : TT) (tb : TS) : TS := fun D σ H => ∃ W : Nat → St → Hp → Prop, (∃ m, W m σ H) ∧ ∀ m σ H, W m σ H →
  c σ H fun b H1 => if b = true then ∃ N : St → Hp → Prop, (∀ σ' H', N σ' H' → ∃ m', m' < m ∧ W m' σ' H') ∧ tb { D with nx := N, ct := N, bk := D.nx } σ H1 else D.nx σ H1
theorem ps_while {c : Expr} {body : List Stmt} {tc : TT} {tb : TS} (hp : PassesOwn (model X.prog X.w) X.A X.env X.xe) (hc : PT X c tc) (hb : PSs X body tb) : PS X (.While c body [] pos) (tWhile tc tb) := by
  intro pins s σ H D I h
  obtain ⟨W, ⟨m0, w0⟩, turn⟩ := h
  refine wpAny_While (codeAny_whileLoop (fun n s' => ∃ σ' H', Inv X pins σ' H' s' ∧ W n σ' H') ?_ m0 ⟨σ, H, I, w0⟩)
  rintro n s1 ⟨σ1, H1, I1, w1⟩
  refine wpAny_passesOwn hp (thn (hc pins s1 σ1 H1 _ I1 (turn n σ1 H1 w1)) fun b s2 ⟨H2, I2, q2⟩ => ?_)
  cases b with
  | true =>
    obtain ⟨N, hN, q2⟩ := q2
    rw [if_pos rfl]
    refine wpAny_passesOwn hp (thn (hb pins s2 σ1 H2 _ I2 q2) fun f s3 q3 => ?_)
    cases f with
    | next =>
      obtain ⟨σ3, H3, I3, n3⟩ := q3
      obtain ⟨m', hm, w3⟩ := hN σ3 H3 n3
      exact ⟨m', hm, σ3, H3, I3, w3⟩
    | cont =>
      obtain ⟨σ3, H3, I3, n3⟩ := q3
      obtain ⟨m', hm, w3⟩ := hN σ3 H3 n3
      exact ⟨m', hm, σ3, H3, I3, w3⟩
    | brk => exact q3
    | ret v => exact q3
  | false =>
    rw [if_neg Bool.false_ne_true]
    exact wpAny_execs_nil ⟨σ1, H2, I2, q2⟩
end
structure It where
  go : Nat → Hp → Prop
  yld : Nat → Hp → V → Hp → Prop
  stop : Nat → Hp → Prop
def FpOk (X : Cx) (pins : List (Addr × Obj)) (H : Hp) (b : Addr) : Prop :=
  H b = none ∧ b ≠ X.env.locals ∧ b ∉ X.fs ∧ (b ∈ X.ex ∨ X.s₀.heap.objs.size ≤ b) ∧ (∀ x c, X.env.cells.lookup x = some c → c ≠ b) ∧ ∀ p ∈ X.pn ++ pins, p.1 ≠ b
theorem Inv.fpOk {X : Cx} {pins : List (Addr × Obj)} {σ : St} {H H' : Hp} {s : Shared} {b : Addr} (I : Inv X pins σ H s) (hb : s.heap.objs.size ≤ b) (hn : H' b = none) : FpOk X pins H' b := by
  refine ⟨hn, Nat.ne_of_gt (Nat.lt_of_lt_of_le I.lt hb), I.nofs hb, .inr (Nat.le_trans I.sz hb), fun x c e z => ?_, fun p hp z => ?_⟩
  · obtain ⟨v, q⟩ := I.cell x c e
    exact absurd (Nat.lt_of_lt_of_le q.lt (by rw [z]; exact hb)) (Nat.lt_irrefl _)
  · exact absurd (Nat.lt_of_lt_of_le (Heap.lt_size (I.pin p hp).1) (by rw [z]; exact hb)) (Nat.lt_irrefl _)
structure Turn (P : Program) (w : World) (K : PySem.W.Frag) (tg : Expr) (J : It) (fp : List Addr) (it : Addr) (tn : Nat → Heap → Prop) : Prop where
  mem : it ∈ fp
  obj : ∀ i h, tn i h → ∀ b ∈ fp, ∃ o, h.get? b = some o ∧ ∀ v, o.data ≠ .cell v
  keep : ∀ i h h', tn i h → (∀ b ∈ fp, ∀ o, h.get? b = some o → h'.get? b = some o) → tn i h'
  item : ∀ (X : Cx), X.prog = P → X.w = w → X.K = K → X.calm = true → ∀ (i : Nat) (pins : List (Addr × Obj)) (s : Shared) (σ : St) (H : Hp) (E : Value → Shared → Prop), Inv X pins σ H s → (∀ b ∈ fp, FpOk X pins H b) → tn i s.heap → J.go i H →
    wpAny (model P w) X.A (pyNext (.ref it)) (fun r s1 => ∃ u, r = some u ∧
      wpAny (model P w) X.A (letOwnedTupleGo tg (.ref it) u) (fun _ s2 => ∃ x H', Inv X pins σ H' s2 ∧ RelV x u ∧ J.yld i H x H' ∧ tn (i + 1) s2.heap ∧ ∀ b ∈ fp, H' b = none) E s1) E s
  done : ∀ (X : Cx), X.prog = P → X.w = w → X.K = K → X.calm = true → ∀ (i : Nat) (pins : List (Addr × Obj)) (s : Shared) (σ : St) (H : Hp) (E : Value → Shared → Prop), Inv X pins σ H s → (∀ b ∈ fp, FpOk X pins H b) → tn i s.heap → J.stop i H →
    wpAny (model P w) X.A (pyNext (.ref it)) (fun r s1 => r = none ∧ Inv X pins σ H s1) E s
  self : ∀ (A : Around) (i : Nat) (s : Shared) (Q : Value → Shared → Prop) (E : Value → Shared → Prop), tn i s.heap → Q (.ref it) s → wpAny (model P w) A (pyIter (.ref it)) Q E s
abbrev TI := St → Hp → (It → Hp → Prop) → Prop
def PIE (X : Cx) (pins : List (Addr × Obj)) (σ : St) (tg : Expr) (R : It → Hp → Prop) (itv : Value) (s2 : Shared) : Prop :=
  ∃ (it : Addr) (fp : List Addr) (tn : Nat → Heap → Prop) (J : It) (H' : Hp), itv = .ref it ∧ Inv X pins σ H' s2 ∧ Turn X.prog X.w X.K tg J fp it tn ∧ tn 0 s2.heap ∧ (∀ b ∈ fp, FpOk X pins H' b) ∧ R J H'
def PI (X : Cx) (tg iter : Expr) (wi : TI) : Prop :=
  ∀ (pins : List (Addr × Obj)) (s : Shared) (σ : St) (H : Hp) (R : It → Hp → Prop), Inv X pins σ H s → wi σ H R →
    wpAny (model X.prog X.w) X.A (eval iter X.env) (fun v s1 => wpAny (model X.prog X.w) X.A (pyIter v) (PIE X pins σ tg R) X.xe s1) X.xe s
theorem go_of {M : Model} {A : Around} {E : Value → Shared → Prop} {s : Shared} {tg : Expr} {it : Addr} {u : Value} {o : Obj} {n : String} {vs : Array Value} {Q : Unit → Shared → Prop} (ho : s.heap.get? it = some o) (hc : o.cls = .type n) (hd : o.data = .fields vs)
    (hn : ["enumerate", "zip", "dict_itemiterator", "dict_reverseitemiterator", "odict_iterator", "itertools.zip_longest", "itertools.pairwise"].contains n = false) (hQ : Q () s) : wpAny M A (letOwnedTupleGo tg (.ref it) u) Q E s := by
  unfold letOwnedTupleGo
  cases tg <;> first
    | exact wpAny_pure hQ
    | (cases u <;> first
        | exact wpAny_pure hQ
        | (refine wpAny_bind (wpAny_load ho ?_)
           rw [hc, hd]
           show wpAny M A (if (["enumerate", "zip", "dict_itemiterator", "dict_reverseitemiterator", "odict_iterator", "itertools.zip_longest", "itertools.pairwise"].contains n && vs[0]? == some (rawInt _)) = true then _ else _) Q E s
           rw [if_neg (by intro h; rw [hn, Bool.false_and] at h; cases h)]
           exact wpAny_pure hQ))
def Itl (K : PySem.W.Frag) (a : Addr) : It :=
  ⟨fun i H => ∃ xs x, SqL K H a xs ∧ xs[i]? = some x, fun i H x H' => H' = H ∧ ∀ xs, SqL K H a xs → xs[i]? = some x, fun i H => ∃ xs, SqL K H a xs ∧ xs.length ≤ i⟩
def Itt (K : PySem.W.Frag) (a : Addr) : It :=
  ⟨fun i H => ∃ xs x, SqT K H a xs ∧ xs[i]? = some x, fun i H x H' => H' = H ∧ ∀ xs, SqT K H a xs → xs[i]? = some x, fun i H => ∃ xs, SqT K H a xs ∧ xs.length ≤ i⟩
def Itr (lo : Int) (n : Nat) : It := ⟨fun i _ => i < n, fun i H x H' => H' = H ∧ x = .int (lo + i), fun i _ => n ≤ i⟩
theorem turn_list {P : Program} {w : World} {K : PySem.W.Frag} {tg : Expr} (a it : Addr) : Turn P w K tg (Itl K a) [it] it (fun i h => h.IsListIter it a i) where
  mem := by simp
  obj := fun i h st b hb => by
    have e : b = it := by simpa using hb
    subst e
    obtain ⟨o, e, c, d⟩ := st
    exact ⟨o, e, fun v z => by rw [d] at z; cases z⟩
  keep := fun i h h' st k => st.at fun o e => k it (by simp) o e
  item := by
    intro X hP hw hK hc i pins s σ H E I hf st hg
    subst hP hw hK
    obtain ⟨xs, x, hq, hx⟩ := hg
    obtain ⟨its, rv, p, hz⟩ := I.list hq
    obtain ⟨u, hu, ru⟩ := rv.get hx
    obtain ⟨f0, f1, f2, f3, f4, f5⟩ := hf it (by simp)
    refine wpAny_pyNext_list_item st p.isList (x := u) (by simpa using hu) fun h' st' sb => ?_
    have I1 : Inv X pins σ H { s with heap := h' } := I.turned (t' := s.toks) (fun b o hb e => (sb.2 b hb).trans e) f0 f1 f3 f4 f5
    obtain ⟨o, e, c, d⟩ := id st'
    exact ⟨u, rfl, go_of (s := { s with heap := h' }) e c d (by decide) ⟨x, H, I1, ru, ⟨rfl, fun ys hy => by rw [I.list_inj hy hq]; exact hx⟩, st', fun b hb => (hf b hb).1⟩⟩
  done := by
    intro X hP hw hK hc i pins s σ H E I hf st hg
    subst hP hw hK
    obtain ⟨xs, hq, hx⟩ := hg
    obtain ⟨its, rv, p, hz⟩ := I.list hq
    obtain ⟨f0, f1, f2, f3, f4, f5⟩ := hf it (by simp)
    have hl := rv.length
    exact wpAny_pyNext_list_end (I.ok.hd hc) st p.isList (by simp; omega) fun h' eb => ⟨rfl, I.turned (t' := s.toks) (fun b o hb e => eb b o hb e) f0 f1 f3 f4 f5⟩
  self := fun _ _ _ _ _ st h => wpAny_pyIter_listiter st h
theorem turn_tuple {P : Program} {w : World} {K : PySem.W.Frag} {tg : Expr} (a it : Addr) : Turn P w K tg (Itt K a) [it] it (fun i h => h.IsTupleIter it a i) where
  mem := by simp
  obj := fun i h st b hb => by
    have e : b = it := by simpa using hb
    subst e
    obtain ⟨o, e, c, d⟩ := st
    exact ⟨o, e, fun v z => by rw [d] at z; cases z⟩
  keep := fun i h h' st k => st.at fun o e => k it (by simp) o e
  item := by
    intro X hP hw hK hc i pins s σ H E I hf st hg
    subst hP hw hK
    obtain ⟨xs, x, hq, hx⟩ := hg
    obtain ⟨its, rv, p, hz⟩ := I.tuple hq
    obtain ⟨u, hu, ru⟩ := rv.get hx
    obtain ⟨f0, f1, f2, f3, f4, f5⟩ := hf it (by simp)
    refine wpAny_pyNext_tuple_item st (show s.heap.IsTuple a its.toArray from p) (x := u) (by simpa using hu) fun h' st' sb => ?_
    have I1 : Inv X pins σ H { s with heap := h' } := I.turned (t' := s.toks) (fun b o hb e => (sb.2 b hb).trans e) f0 f1 f3 f4 f5
    obtain ⟨o, e, c, d⟩ := id st'
    exact ⟨u, rfl, go_of (s := { s with heap := h' }) e c d (by decide) ⟨x, H, I1, ru, ⟨rfl, fun ys hy => by rw [I.tuple_inj hy hq]; exact hx⟩, st', fun b hb => (hf b hb).1⟩⟩
  done := by
    intro X hP hw hK hc i pins s σ H E I hf st hg
    subst hP hw hK
    obtain ⟨xs, hq, hx⟩ := hg
    obtain ⟨its, rv, p, hz⟩ := I.tuple hq
    obtain ⟨f0, f1, f2, f3, f4, f5⟩ := hf it (by simp)
    have hl := rv.length
    exact wpAny_pyNext_tuple_end (I.ok.hd hc) st (show s.heap.IsTuple a its.toArray from p) (by simp; omega) fun h' eb => ⟨rfl, I.turned (t' := s.toks) (fun b o hb e => eb b o hb e) f0 f1 f3 f4 f5⟩
  self := fun _ _ _ _ _ st h => wpAny_pyIter_tupleiter st h
theorem turn_range {P : Program} {w : World} {K : PySem.W.Frag} {tg : Expr} (it : Addr) (lo : Int) (n : Nat) : Turn P w K tg (Itr lo n) [it] it (fun i h => IsRangeIter h it (lo + (i : Nat) * 1) ((n : Int) - (i : Nat)) 1) where
  mem := by simp
  obj := fun i h st b hb => by
    have e : b = it := by simpa using hb
    subst e
    exact ⟨_, st, fun v z => by
      have z' : Data.fields _ = Data.cell v := z
      cases z'⟩
  keep := fun i h h' st k => k it (by simp) _ st
  item := by
    intro X hP hw hK hc i pins s σ H E I hf st hg
    subst hP hw hK
    obtain ⟨f0, f1, f2, f3, f4, f5⟩ := hf it (by simp)
    have W := Walks.range (prog := X.prog) (w := X.w) (I.ok.hd hc) it lo 1 n
    refine W.item i s _ _ hg st fun v h' tk hv st' kk => ?_
    obtain ⟨t, rfl⟩ := hv
    have I1 : Inv X pins σ H { s with heap := h', toks := tk } := I.turned (fun b o hb e => kk b o (by simpa using hb) e) f0 f1 f3 f4 f5
    refine ⟨_, rfl, go_of (s := { s with heap := h', toks := tk }) (n := "range_iterator") st' rfl rfl (by decide) ⟨.int (lo + i), H, I1, ⟨t, ?_⟩, ⟨rfl, rfl⟩, st', fun b hb => (hf b hb).1⟩⟩
    rw [Int.mul_one]
  done := by
    intro X hP hw hK hc i pins s σ H E I hf st hg
    subst hP hw hK
    obtain ⟨f0, f1, f2, f3, f4, f5⟩ := hf it (by simp)
    exact wpAny_pyNext_range_end (I.ok.hd hc) st (by have : n ≤ i := hg; omega) fun h' eb => ⟨rfl, I.turned (t' := s.toks) (fun b o hb e => eb b o hb e) f0 f1 f3 f4 f5⟩
  self := fun _ _ _ _ _ st h => wpAny_pyIter_rangeiter st h
end L2
namespace L2
open PySem PySem.Spec PyProof.Rows
section
variable {X : Cx} {tg : Expr}
theorem range_it {pins : List (Addr × Obj)} {σ : St} {H : Hp} {s : Shared} {R : It → Hp → Prop} {E : Value → Shared → Prop} {lo hi : Int} {t u v : Tok} {tk : Nat} (I : Inv X pins σ H s) (h1 : -(2 ^ 62) ≤ lo) (h2 : lo < 2 ^ 62) (h3 : -(2 ^ 62) ≤ hi) (h4 : hi < 2 ^ 62)
    (q : R (Itr lo (hi - lo).toNat) H) : wpAny (model X.prog X.w) X.A (pyIter (.ref s.heap.objs.size)) (PIE X pins σ tg R) E { s with heap := s.heap.push { cls := .type "range", data := .fields #[.int lo t, .int hi u, .int 1 v] }, toks := tk } := by
  refine wpAny_pyIter_range (IsRange.new ..) (small_one h1 h2 h3 h4) ?_
  have I1 : Inv X pins σ H { s with heap := s.heap.push { cls := .type "range", data := .fields #[.int lo t, .int hi u, .int 1 v] }, toks := tk } := I.kept fun b o e => Heap.get?_push_of_some _ e
  refine ⟨(s.heap.push { cls := .type "range", data := .fields #[.int lo t, .int hi u, .int 1 v] }).objs.size, [(s.heap.push { cls := .type "range", data := .fields #[.int lo t, .int hi u, .int 1 v] }).objs.size], _, _, H, rfl,
    I1.kept (t' := tk) fun b o e => Heap.get?_push_of_some _ e, turn_range _ lo (hi - lo).toNat, ?_, fun b hb => ?_, q⟩
  · have e1 : lo + ((0 : Nat) : Int) * 1 = lo := by simp
    have e2 : (((hi - lo).toNat : Nat) : Int) - ((0 : Nat) : Int) = Builtin.Range.rangeSize lo hi 1 := by rw [rangeSize_one]; split <;> omega
    show IsRangeIter _ _ (lo + ((0 : Nat) : Int) * 1) ((((hi - lo).toNat : Nat) : Int) - ((0 : Nat) : Int)) 1
    rw [e1, e2]
    exact Heap.get?_push_size _ rfl
  · have e : b = (s.heap.push { cls := .type "range", data := .fields #[.int lo t, .int hi u, .int 1 v] }).objs.size := by simpa using hb
    subst e
    exact I1.fpOk (Nat.le_refl _) (I1.hok.fresh (Nat.le_refl _))
def iRng1 (ta : TA) : TI := fun σ H R => ta σ H fun vs H1 => ∃ j : Int, vs = [.int j] ∧ -(2 ^ 62) ≤ j ∧ j < 2 ^ 62 ∧ R (Itr 0 j.toNat) H1
theorem pi_range1 {a : Expr} {ta : TA} {p pos : Pos} (hg : Gl X "range") (hm : X.mg "range" = none) (ha : PA X [a] ta) (hs : starEach [a] X.env = [(false, eval a X.env)] := by rfl) : PI X tg (.Call (.Name "range" p) [a] [] pos) (iRng1 ta) := by
  intro pins s σ H R I h
  refine Call_ (ld_blt I hg hm boot_range (PyProof.Rows.callWith_type1 (thn (ha pos pins s σ H _ I h) fun us s1 ⟨vs, H1, I1, r1, q1⟩ => ?_) hs rfl))
  obtain ⟨j, e, q1, q2, q⟩ := q1
  subst e
  cases r1 with
  | cons r rr =>
    cases rr
    obtain ⟨t, rfl⟩ := r
    exact call_range_1 (range_it I1 (by omega) (by omega) q1 q2 (by simpa using q))
def tFor (wi : TI) (g : TG) (tb : TS) : TS := fun D σ H => wi σ H fun J H1 => ∃ W : Nat → Nat → St → Hp → Prop, (∃ m, W 0 m σ H1) ∧ ∀ i m σ H, W i m σ H →
  (J.stop i H ∧ D.nx σ H) ∨ (J.go i H ∧ ∃ N : St → Hp → Prop, (∀ σ' H', N σ' H' → ∃ m', m' < m ∧ W (i + 1) m' σ' H') ∧ ∀ x H', J.yld i H x H' → g x σ H' fun σ2 H2 => tb { D with nx := N, ct := N, bk := D.nx } σ2 H2)
def pinsAt (fp : List Addr) (h : Heap) : List (Addr × Obj) := fp.filterMap fun b => (h.get? b).map fun o => (b, o)
theorem mem_pinsAt {fp : List Addr} {h : Heap} {b : Addr} {o : Obj} (hb : b ∈ fp) (e : h.get? b = some o) : (b, o) ∈ pinsAt fp h := List.mem_filterMap.mpr ⟨b, hb, by rw [e]; rfl⟩
theorem of_pinsAt {fp : List Addr} {h : Heap} {p : Addr × Obj} (hp : p ∈ pinsAt fp h) : p.1 ∈ fp ∧ h.get? p.1 = some p.2 := by
  obtain ⟨b, hb, e⟩ := List.mem_filterMap.mp hp
  cases q : h.get? b with
  | none => rw [q] at e; cases e
  | some o =>
    rw [q] at e
    have e' : (b, o) = p := Option.some.inj e
    subst e'
    exact ⟨hb, q⟩
theorem Inv.pinned {pins : List (Addr × Obj)} {σ : St} {H : Hp} {s : Shared} {fp : List Addr} (I : Inv X pins σ H s) (hf : ∀ b ∈ fp, FpOk X pins H b) (ho : ∀ b ∈ fp, ∃ o, s.heap.get? b = some o ∧ ∀ v, o.data ≠ .cell v) : Inv X (pins ++ pinsAt fp s.heap) σ H s :=
  I.pins_of fun p hp => (List.mem_append.mp hp).elim (fun z => I.pin p (List.mem_append_right _ z)) fun z => by
    obtain ⟨hb, e⟩ := of_pinsAt z
    obtain ⟨f0, f1, f2, _⟩ := hf p.1 hb
    obtain ⟨o, e', d⟩ := ho p.1 hb
    rw [e] at e'; cases e'
    exact ⟨e, f0, f1, f2, d⟩
theorem Inv.unpinned {pins pl : List (Addr × Obj)} {σ : St} {H : Hp} {s : Shared} (I : Inv X (pins ++ pl) σ H s) : Inv X pins σ H s := I.pins_of fun p hp => I.pin p (List.mem_append_right _ (List.mem_append_left _ hp))
theorem ps_for {iter : Expr} {body : List Stmt} {wi : TI} {g : TG} {tb : TS} {pos : Pos} (hp : PassesOwn (model X.prog X.w) X.A X.env X.xe) (hc : X.calm = true) (hi : PI X tg iter wi) (hg : PG X tg g) (hb : PSs X body tb)
    (hs : ∀ x, foldedSetIterable iter X.env x = pure x := by intro _; rfl) : PS X (.For tg iter body [] pos) (tFor wi g tb) := by
  intro pins s σ H D I h
  refine wpAny_For (thn (hi pins s σ H _ I h) fun v s1 h1 => thn h1 fun itv s2 h2 => ?_) hs
  obtain ⟨it, fp, tn, J, H2, e, I2, T, st2, f2, W, ⟨m0, w0⟩, turn⟩ := h2
  subst e
  have stat : ∀ {H' : Hp}, (∀ b ∈ fp, H' b = none) → ∀ b ∈ fp, FpOk X pins H' b := fun hn b hb => ⟨hn b hb, (f2 b hb).2⟩
  refine codeAny_forLoop_any (fun n s' => ∃ i σ' H', Inv X pins σ' H' s' ∧ tn i s'.heap ∧ (∀ b ∈ fp, H' b = none) ∧ W i n σ' H') ?_ m0 ⟨0, σ, H2, I2, st2, fun b hb => (f2 b hb).1, w0⟩
  rintro n s3 ⟨i, σ3, H3, I3, st3, fr3, w3⟩
  rcases turn i n σ3 H3 w3 with ⟨stop, qn⟩ | ⟨go, N, hN, step⟩
  · refine wpAny_passesOwn hp (thn (T.done X rfl rfl rfl hc i pins s3 σ3 H3 X.xe I3 (stat fr3) st3 stop) fun r s4 ⟨hr, I4⟩ => ?_)
    subst hr
    exact wpAny_execs_nil ⟨σ3, H3, I4, qn⟩
  · refine wpAny_passesOwn hp (thn (T.item X rfl rfl rfl hc i pins s3 σ3 H3 X.xe I3 (stat fr3) st3 go) fun r s4 ⟨u, hr, h4⟩ => ?_)
    subst hr
    refine wpAny_passesOwn hp (thn h4 fun _ s5 ⟨x, H5, I5, r5, y5, st5, fr5⟩ => ?_)
    have I5' := I5.pinned (stat fr5) (T.obj _ _ st5)
    refine wpAny_passesOwn hp (thn (hg _ s5 σ3 H5 x u _ I5' r5 (step x H5 y5)) fun _ s6 ⟨σ6, H6, I6, q6⟩ => ?_)
    refine wpAny_passesOwn hp (thn (hb _ s6 σ6 H6 _ I6 q6) fun f s7 q7 => ?_)
    have again : ∀ {σ7 : St} {H7 : Hp}, Inv X (pins ++ pinsAt fp s5.heap) σ7 H7 s7 → N σ7 H7 → ∃ m, m < n ∧ ∃ i σ' H', Inv X pins σ' H' s7 ∧ tn i s7.heap ∧ (∀ b ∈ fp, H' b = none) ∧ W i m σ' H' := fun {σ7 H7} I7 n7 => by
      obtain ⟨m', hm, w7⟩ := hN σ7 H7 n7
      refine ⟨m', hm, i + 1, σ7, H7, I7.unpinned, T.keep _ _ _ st5 fun b hb o e => (I7.pin (b, o) (List.mem_append_right _ (List.mem_append_right _ (mem_pinsAt hb e)))).1, fun b hb => ?_, w7⟩
      obtain ⟨o, e, d⟩ := T.obj _ _ st5 b hb
      exact (I7.pin (b, o) (List.mem_append_right _ (List.mem_append_right _ (mem_pinsAt hb e)))).2.1
    cases f with
    | next => obtain ⟨σ7, H7, I7, n7⟩ := q7; exact again I7 n7
    | cont => obtain ⟨σ7, H7, I7, n7⟩ := q7; exact again I7 n7
    | brk => obtain ⟨σ7, H7, I7, q7⟩ := q7; exact ⟨σ7, H7, I7.unpinned, q7⟩
    | ret v => obtain ⟨x7, σ7, H7, I7, r7, q7⟩ := q7; exact ⟨x7, σ7, H7, I7.unpinned, r7, q7⟩
end
end L2
namespace L2
open PySem PySem.Spec PyProof.Rows
abbrev R2 := V → V → Hp → VK → Prop
def OpR (X : Cx) (f : Value → Value → Sem Value) (r : R2) : Prop :=
  ∀ (pins : List (Addr × Obj)) (s : Shared) (σ : St) (H : Hp) (x y : V) (v u : Value) (Q : VK), Inv X pins σ H s → RelV x v → RelV y u → r x y H Q →
    wpAny (model X.prog X.w) X.A (f v u) (EP X pins σ Q) X.xe s
def UnR (X : Cx) (f : Value → Sem Value) (r : V → Hp → VK → Prop) : Prop :=
  ∀ (pins : List (Addr × Obj)) (s : Shared) (σ : St) (H : Hp) (x : V) (v : Value) (Q : VK), Inv X pins σ H s → RelV x v → r x H Q →
    wpAny (model X.prog X.w) X.A (f v) (EP X pins σ Q) X.xe s
def CallR (X : Cx) (f : Value) (r : List V → Hp → VK → Prop) : Prop :=
  ∀ (pins : List (Addr × Obj)) (s : Shared) (σ : St) (H : Hp) (xs : List V) (us : List Value) (Q : VK), Inv X pins σ H s → Vals xs us → r xs H Q →
    wpAny (model X.prog X.w) X.A (call f us) (EP X pins σ Q) X.xe s
def tOp (r : R2) (ta tb : TE) : TE := fun σ H Q => ta σ H fun x H1 => tb σ H1 fun y H2 => r x y H2 Q
def tUn (r : V → Hp → VK → Prop) (ta : TE) : TE := fun σ H Q => ta σ H fun x H1 => r x H1 Q
def rI (C : Int → Int → Prop) (g : Int → Int → V) : R2 := fun x y H Q => ∃ i j, x = .int i ∧ y = .int j ∧ C i j ∧ Q (g i j) H
def rI0 (g : Int → Int → V) : R2 := fun x y H Q => ∃ i j, x = .int i ∧ y = .int j ∧ Q (g i j) H
def rU (g : Int → V) : V → Hp → VK → Prop := fun x H Q => ∃ i, x = .int i ∧ Q (g i) H
section
variable {X : Cx} {a b c : Expr} {ta tb tc : TE} {pos : Pos}
theorem binT (ha : PE X a ta) (hb : PE X b tb) {pins : List (Addr × Obj)} {s : Shared} {σ : St} {H : Hp} {R : V → V → Hp → Prop} (I : Inv X pins σ H s)
    (h : ta σ H fun x H1 => tb σ H1 fun y H2 => R x y H2) {Q : Value → Shared → Prop} {f : Value → Value → Sem Value}
    (hf : ∀ v u s2 x y H2, Inv X pins σ H2 s2 → RelV x v → RelV y u → R x y H2 → wpAny (model X.prog X.w) X.A (f v u) Q X.xe s2) :
    wpAny (model X.prog X.w) X.A (eval a X.env) (fun v s₁ => wpAny (model X.prog X.w) X.A (eval b X.env) (fun u s₂ => wpAny (model X.prog X.w) X.A (f v u) Q X.xe s₂) X.xe s₁) X.xe s := by
  refine thn (ha pins s σ H _ I h) fun v s1 ⟨x, H1, I1, r1, q1⟩ => ?_
  refine thn (hb pins s1 σ H1 _ I1 q1) fun u s2 ⟨y, H2, I2, r2, q2⟩ => ?_
  exact hf v u s2 x y H2 I2 r1 r2 q2
theorem pe_op {op : Operator} {r : R2} (ho : OpR X (binaryOp op) r) (ha : PE X a ta) (hb : PE X b tb) : PE X (.BinOp a op b pos) (tOp r ta tb) := by
  intro pins s σ H Q I h
  exact wpAny_BinOp (binT ha hb I h fun v u s2 x y H2 I2 rx ry q => ho pins s2 σ H2 x y v u Q I2 rx ry q)
theorem pe_un {op : UnaryOp} {r : V → Hp → VK → Prop} (ho : UnR X (unaryOp op) r) (ha : PE X a ta) : PE X (.UnaryOp op a pos) (tUn r ta) := by
  intro pins s σ H Q I h
  exact UnaryOp_ (thn (ha pins s σ H _ I h) fun v s1 ⟨x, H1, I1, r1, q1⟩ => ho pins s1 σ H1 x v Q I1 r1 q1)
theorem opI {f : Value → Value → Sem Value} {C : Int → Int → Prop} {g : Int → Int → Int}
    (rule : ∀ (i j : Int) (t u : Tok) (s : Shared) (Q : Value → Shared → Prop) (E : Value → Shared → Prop), C i j → Q (.int (g i j) s.toks) { s with toks := s.toks + 1 } → wpAny (model X.prog X.w) X.A (f (.int i t) (.int j u)) Q E s) :
    OpR X f (rI C fun i j => .int (g i j)) := by
  intro pins s σ H x y v u Q I rx ry h
  obtain ⟨i, j, rfl, rfl, hc, q⟩ := h
  obtain ⟨t, rfl⟩ := rx
  obtain ⟨t', rfl⟩ := ry
  exact rule i j t t' s _ _ hc ⟨.int (g i j), H, I.tok _, ⟨_, rfl⟩, q⟩
theorem opI0 {f : Value → Value → Sem Value} {g : Int → Int → Int}
    (rule : ∀ (i j : Int) (t u : Tok) (s : Shared) (Q : Value → Shared → Prop) (E : Value → Shared → Prop), Q (.int (g i j) s.toks) { s with toks := s.toks + 1 } → wpAny (model X.prog X.w) X.A (f (.int i t) (.int j u)) Q E s) :
    OpR X f (rI0 fun i j => .int (g i j)) := by
  intro pins s σ H x y v u Q I rx ry h
  obtain ⟨i, j, rfl, rfl, q⟩ := h
  obtain ⟨t, rfl⟩ := rx
  obtain ⟨t', rfl⟩ := ry
  exact rule i j t t' s _ _ ⟨.int (g i j), H, I.tok _, ⟨_, rfl⟩, q⟩
theorem opB0 {f : Value → Value → Sem Value} {g : Int → Int → Bool}
    (rule : ∀ (i j : Int) (t u : Tok) (s : Shared) (Q : Value → Shared → Prop) (E : Value → Shared → Prop), Q (.bool (g i j)) s → wpAny (model X.prog X.w) X.A (f (.int i t) (.int j u)) Q E s) :
    OpR X f (rI0 fun i j => .bl (g i j)) := by
  intro pins s σ H x y v u Q I rx ry h
  obtain ⟨i, j, rfl, rfl, q⟩ := h
  obtain ⟨t, rfl⟩ := rx
  obtain ⟨t', rfl⟩ := ry
  exact rule i j t t' s _ _ ⟨.bl (g i j), H, I, rfl, q⟩
def CPow (i j : Int) : Prop := 0 ≤ j ∧ j ≤ 1000000 ∧ i.natAbs < 2 ^ 64
def CMul (i j : Int) : Prop := (-(2 ^ 64) < i ∧ i < 2 ^ 64) ∨ (-(2 ^ 64) < j ∧ j < 2 ^ 64)
theorem CMul.ok {i j : Int} (h : CMul i j) : IntMulOk i j := by
  rcases h with ⟨h1, h2⟩ | ⟨h1, h2⟩
  · exact .of_left (intBits_le_64 h1 h2)
  · exact .of_right (intBits_le_64 h1 h2)
theorem op_add : OpR X (binaryOp .Add) (rI0 fun i j => .int (i + j)) := opI0 fun _ _ _ _ _ _ _ q => add_int q
theorem op_sub : OpR X (binaryOp .Sub) (rI0 fun i j => .int (i - j)) := opI0 fun _ _ _ _ _ _ _ q => sub_int q
theorem op_modN : OpR X (binaryOp .Mod) (rI (fun _ j => j ≠ 0) fun i j => .int (i.fmod j)) := opI fun _ _ _ _ _ _ _ hc q => mod_int' hc q
theorem unI {f : Value → Sem Value} {g : Int → Int}
    (rule : ∀ (i : Int) (t : Tok) (s : Shared) (Q : Value → Shared → Prop) (E : Value → Shared → Prop), Q (.int (g i) s.toks) { s with toks := s.toks + 1 } → wpAny (model X.prog X.w) X.A (f (.int i t)) Q E s) :
    UnR X f (rU fun i => .int (g i)) := by
  intro pins s σ H x v Q I rx h
  obtain ⟨i, rfl, q⟩ := h
  obtain ⟨t, rfl⟩ := rx
  exact rule i t s _ _ ⟨.int (g i), H, I.tok _, ⟨_, rfl⟩, q⟩
theorem un_neg : UnR X (unaryOp .USub) (rU fun i => .int (-i)) := unI fun _ _ _ _ _ q => neg_int q
end
section
variable {X : Cx} {a b c : Expr} {ta tb tc : TE} {pos : Pos}
theorem fin_bl {pins : List (Addr × Obj)} {σ : St} {H : Hp} {s : Shared} {Q : VK} {k k' : Bool} (I : Inv X pins σ H s) (q : Q (.bl k) H) (e : k = k') : EP X pins σ Q (.bool k') s := by
  subst e
  exact ⟨.bl k, H, I, rfl, q⟩
theorem op_lt : OpR X (compareOp .Lt) (rI0 fun i j => .bl (decide (i < j))) := opB0 fun _ _ _ _ _ _ _ q => lt_int q
theorem op_le : OpR X (compareOp .LtE) (rI0 fun i j => .bl (decide (i ≤ j))) := opB0 fun _ _ _ _ _ _ _ q => le_int q
theorem op_gt : OpR X (compareOp .Gt) (rI0 fun i j => .bl (decide (j < i))) := opB0 fun _ _ _ _ _ _ _ q => gt_int q
theorem op_isN : OpR X (compareOp .Is) (fun x y H Q => y = .non ∧ Q (.bl (decide (x = .non))) H) := by
  intro pins s σ H x y v u Q I rx ry h
  obtain ⟨rfl, q⟩ := h
  cases ry
  refine is_none_gen (fin_bl I q ?_)
  cases x <;> first
    | (cases rx; rfl)
    | (obtain ⟨t, rfl⟩ := rx; rfl)
theorem op_notN : OpR X (compareOp .IsNot) (fun x y H Q => y = .non ∧ Q (.bl (!decide (x = .non))) H) := by
  intro pins s σ H x y v u Q I rx ry h
  obtain ⟨rfl, q⟩ := h
  cases ry
  refine isnot_none_gen (fin_bl I q ?_)
  cases x <;> first
    | (cases rx; rfl)
    | (obtain ⟨t, rfl⟩ := rx; rfl)
theorem OpR.or {f : Value → Value → Sem Value} {r r' : R2} (h : OpR X f r) (h' : OpR X f r') : OpR X f (fun x y H Q => r x y H Q ∨ r' x y H Q) := by
  intro pins s σ H x y v u Q I rx ry q
  rcases q with q | q
  · exact h pins s σ H x y v u Q I rx ry q
  · exact h' pins s σ H x y v u Q I rx ry q
theorem nomark (b : Expr) {op : CmpOp} (h : op ≠ .In := by decide) (h2 : op ≠ .NotIn := by decide) : behindInMarks op b = false := by
  have e1 : (op == CmpOp.In) = false := by cases op <;> first | rfl | exact absurd rfl h
  have e2 : (op == CmpOp.NotIn) = false := by cases op <;> first | rfl | exact absurd rfl h2
  cases b <;> simp [behindInMarks, e1, e2]
theorem pe_cmpR {op : CmpOp} {r : R2} (ho : OpR X (compareOp op) r) (ha : PE X a ta) (hb : PE X b tb) (hm : behindInMarks op b = false) : PE X (.Compare a [op] [b] pos) (tOp r ta tb) := by
  intro pins s σ H Q I h
  exact wpAny_Compare1 (binT ha hb I h fun v u s2 x y H2 I2 rx ry q => ho pins s2 σ H2 x y v u Q I2 rx ry q) hm
def tTest (t : TE) : TT := fun σ H Q => t σ H fun x H' => ∃ k, x = .bl k ∧ Q k H'
theorem pt_cmpR {op : CmpOp} {r : R2} (ho : OpR X (compareOp op) r) (ha : PE X a ta) (hb : PE X b tb) (hm : behindInMarks op b = false) : PT X (.Compare a [op] [b] pos) (tTest (tOp r ta tb)) := by
  intro pins s σ H Q I h
  refine wpAny_isTrue_Compare1 (thn (ha pins s σ H _ I h) fun v s1 ⟨x, H1, I1, r1, q1⟩ => thn (hb pins s1 σ H1 _ I1 q1) fun u s2 ⟨y, H2, I2, r2, q2⟩ =>
    thn (ho pins s2 σ H2 x y v u _ I2 r1 r2 q2) fun c s3 ⟨z, H3, I3, r3, k, e, q3⟩ => ?_) hm
  subst e
  cases r3
  exact wpAny_truthy_bool ⟨H3, I3, q3⟩
theorem line63 : (sizeLine : Nat) < 2 ^ 63 := by rw [sizeLine_eq]; decide
theorem vals1 {x : V} {us : List Value} (r : Vals [x] us) : ∃ u, us = [u] ∧ RelV x u := by
  cases r with
  | cons r1 r2 => cases r2; exact ⟨_, rfl, r1⟩
theorem vals2 {x y : V} {us : List Value} (r : Vals [x, y] us) : ∃ u w', us = [u, w'] ∧ RelV x u ∧ RelV y w' := by
  cases r with
  | cons r1 r2 =>
    cases r2 with
    | cons r3 r4 => cases r4; exact ⟨_, _, rfl, r1, r3⟩
theorem call_abs : CallR X (.builtin "abs") (fun xs H Q => ∃ i, xs = [.int i] ∧ Q (.int (if i < 0 then -i else i)) H) := by
  intro pins s σ H xs us Q I r h
  obtain ⟨i, rfl, q⟩ := h
  obtain ⟨u, rfl, t, rfl⟩ := vals1 r
  exact call_abs_int fun u tk => ⟨.int (if i < 0 then -i else i), H, I.tok _, ⟨_, rfl⟩, q⟩
end
end L2
namespace L2
open PySem PySem.Spec PyProof.Rows
structure ObjM (h : Heap) (x dx C : Addr) (mA : Str → Option Value) : Prop where
  obj : h.get? x = some (PySem.W.instObj C dx)
  ns : h.Ns1 dx mA
  ne : dx ≠ x
theorem lookIn_ns {h : Heap} {dx : Addr} {mA : Str → Option Value} (n : h.Ns1 dx mA) : ∃ od, h.get? dx = some od ∧ ∀ name, PySem.W.lookIn name od = some (mA name) := by
  obtain ⟨o, es, ep, ho, hd, hk, _, hm⟩ := n
  refine ⟨o, ho, fun name => ?_⟩
  have e := hm name
  unfold nsFind findBy at e
  rw [← Array.find?_toList] at e
  unfold PySem.W.lookIn
  rw [hd]
  dsimp only
  split
  · rename_i y q
    rw [q] at e
    exact congrArg some e
  · rename_i q
    rw [q] at e
    have a : es.toList.any (·.refKey) = false := by
      rw [List.any_eq_false]
      intro y hy
      obtain ⟨z, t, hkey⟩ := hk y (Array.mem_toList_iff.mp hy)
      simp [DictEntry.refKey, hkey]
    have a' : ¬ es.toList.any (·.refKey) = true := by rw [a]; exact Bool.false_ne_true
    rw [if_neg a']
    exact congrArg some e
theorem ObjM.look {h : Heap} {x dx C : Addr} {mA : Str → Option Value} (I : ObjM h x dx C mA) : ∃ od, PySem.W.InstAt h x (PySem.W.instObj C dx) C (some od) ∧ ∀ name, PySem.W.lookIn name od = some (mA name) :=
  let ⟨od, ho, hl⟩ := lookIn_ns I.ns
  ⟨od, ⟨I.obj, rfl, rfl, ho⟩, hl⟩
section
variable {prog : Program} {w : World} {A : Around} {E : Value → Shared → Prop} {s : Shared} {K : PySem.W.Frag} {x dx C f : Addr} {mA : Str → Option Value} {name : Str} {v : Value}
end
section
variable {P : Program} {w : World} {H H' : Hp} {h h' : Heap} {a C dx : Addr} {fs fs' : List (Str × V)}
end
structure Cls (K : PySem.W.Frag) (C : Addr) : Prop where
  pg : PySem.W.plainGet K C Str.empty = true
  hd : PySem.W.hasDictIn K C = true
  po : PySem.W.plainOver K C = true
  sa : PySem.W.findIn K (.ref C) "__setattr__" = some (some (.builtin "object.__setattr__"))
theorem Cls.get {K : PySem.W.Frag} {C : Addr} (c : Cls K C) (f : Str) : PySem.W.plainGet K C f = true := c.pg
structure Con (K : PySem.W.Frag) (C : Addr) (f : Str) (v : V) (u : Value) : Prop where
  at_ : PySem.W.findIn K (.ref C) f = some (some u)
  rel : RelV v u
  get : PySem.W.specialIn K u "__get__" = some none
  cp : PySem.W.copiedNames.contains f = false
structure Meth (K : PySem.W.Frag) (C : Addr) (m : Str) (f : Addr) : Prop where
  at_ : PySem.W.findIn K (.ref C) m = some (some (.ref f))
  fn : PySem.W.isFn K (.ref f) = true
  kp : PySem.W.keepIn K (.ref f) = true
section
variable {X : Cx} {pins : List (Addr × Obj)} {σ : St} {H : Hp} {s : Shared} {a C dx : Addr} {fs : List (Str × V)} {f : Str} {v : V} {A : Around} {E : Value → Shared → Prop}
theorem Inv.made (I : Inv X pins σ H s) : Inv X pins σ (upd (upd H s.heap.objs.size (.own (s.heap.objs.size + 1))) (s.heap.objs.size + 1) (.ins C s.heap.objs.size []))
    { s with heap := (s.heap.push PySem.W.emptyDict).push (PySem.W.instObj C s.heap.objs.size) } := by
  have e1 : (s.heap.push PySem.W.emptyDict).get? s.heap.objs.size = some PySem.W.emptyDict := Heap.get?_push_size s.heap rfl
  have e2 : ((s.heap.push PySem.W.emptyDict).push (PySem.W.instObj C s.heap.objs.size)).get? (s.heap.objs.size + 1) = some (PySem.W.instObj C s.heap.objs.size) := by
    have := Heap.get?_push_size (s.heap.push PySem.W.emptyDict) (o := PySem.W.instObj C s.heap.objs.size) rfl
    rwa [Heap.size_push] at this
  have e3 : (s.heap.push PySem.W.emptyDict).Ns s.heap.objs.size (fun _ => none) := ⟨PySem.W.emptyDict, #[], _, e1, rfl, (fun e he => absurd he (by simp)), fun _ => rfl⟩
  have I1 := I.laid (a := s.heap.objs.size) (o := .own (s.heap.objs.size + 1)) (h' := s.heap.push PySem.W.emptyDict) (t' := s.toks) (fun b u q => Heap.get?_push_of_some _ q) (Nat.le_refl _) ⟨_, e1⟩
  refine I1.laid (a := s.heap.objs.size + 1) (o := .ins C s.heap.objs.size []) (t' := s.toks) (fun b u q => Heap.get?_push_of_some _ q) (Nat.le_of_eq (Heap.size_push _ _)) ?_
  have ne : s.heap.objs.size ≠ s.heap.objs.size + 1 := Nat.ne_of_lt (Nat.lt_succ_self _)
  refine ⟨by rw [upd_ne ne, upd_same], Nat.zero_le _, ne, e2, fun _ => none, (Heap.Ns1.of_empty e3).at fun o q => Heap.get?_push_of_some _ q, fun _ => True.intro, fun y hy => absurd rfl hy⟩
theorem attr_of {prog : Program} {w : World} {env : Env} {e : Expr} {f : Str} {pos : Pos} {s : Shared} {Q : Value → Shared → Prop} (hb : attributeBase e f env (eval e env) = eval e env)
    (h : wpAny (model prog w) A (eval e env) (fun o s₁ => wpAny (model prog w) A (getAttr o f true) Q E s₁) E s) : wpAny (model prog w) A (eval (.Attribute e f pos) env) Q E s :=
  Attribute_any_ h (by rw [arm_eval_Attribute, hb])
end
section
variable {X : Cx} {o e value : Expr} {f : Str} {pos pos' tpos : Pos} {ta tv : TE}
end
section
variable {X : Cx} {pins : List (Addr × Obj)} {σ : St} {H : Hp} {s : Shared} {A : Around} {E : Value → Shared → Prop} {Q : Value → Shared → Prop} {c : Value} {b : Bool}
inductive TyOf (K : PySem.W.Frag) (H : Hp) : V → Value → Prop where
  | non : TyOf K H .non (.type "NoneType")
  | bl (x : Bool) : TyOf K H (.bl x) (.type "bool")
  | int (i : Int) : TyOf K H (.int i) (.type "int")
  | str (x : Str) : TyOf K H (.str x) (.type "str")
  | flt (x : UInt64) : TyOf K H (.flt x) (.type "float")
  | lst {a : Addr} {xs : List V} (e : H a = some (.lst xs)) : TyOf K H (.ref a) (.type "list")
  | frz {a : Addr} {o : Obj} {xs : List V} (e : H a = some (.frz o (.lst xs))) : TyOf K H (.ref a) (.type "list")
  | tup {a : Addr} {xs : List V} (e : H a = some (.tup xs)) : TyOf K H (.ref a) (.type "tuple")
  | dK {a : Addr} {kvs : List (Key × V)} (e : H a = some (.dK kvs)) : TyOf K H (.ref a) (.type "dict")
  | dT {a : Addr} {kvs : List (List Key × V)} (e : H a = some (.dT kvs)) : TyOf K H (.ref a) (.type "dict")
  | ins {a C dx : Addr} {fs : List (Str × V)} (e : H a = some (.ins C dx fs)) (cl : Cls K C) (ha : PySem.W.findIn K (.ref C) "__class__" = some (some (.builtin "object.__class__")))
      (hn : PySem.W.specialIn K (.builtin "object.__class__") "__get__" = some (some (.builtin "getset_descriptor.__get__"))) (htk : PySem.W.takesIn K (.builtin "object.__class__") = some true)
      (hm : PySem.W.mroIn K C (.type "object") = some true) : TyOf K H (.ref a) (.ref C)
end
end L2
namespace L2
open PySem PySem.Spec PyProof.Rows
structure Room (k : Nat) (A : Around) : Prop where
  hd : A.handled = none
  dp : A.depth + 3 * k + 5 < recursionLimit
  un : A.units + 16 * k + 200 < cLine
theorem Room.mono {j k : Nat} {A : Around} (r : Room k A) (h : j ≤ k) : Room j A := ⟨r.hd, by have := r.dp; omega, by have := r.un; omega⟩
theorem Room.deeper {k : Nat} {A : Around} (r : Room (k + 1) A) (env : Env) : Room k (A.deeper env) :=
  ⟨r.hd, by have := r.dp; show A.depth + 1 + 3 * k + 5 < _; omega, by have := r.un; show A.units + 3 + 16 * k + 200 < _; omega⟩
theorem Room.in1 {k : Nat} {A : Around} (r : Room (k + 1) A) : Room k A.in1 :=
  ⟨r.hd, by have := r.dp; show A.depth + 3 * k + 5 < _; omega, by have := r.un; show A.units + 1 + 16 * k + 200 < _; omega⟩
theorem make_depth {A : Around} {C : Addr} {us : List Value} {kw : List (Str × Value)} : (A.under (.builtin "type.__call__" ⟨.ref C :: us, kw⟩)).depth = A.depth + 1 := by
  first | rfl | simp [Around.under, Code.weight, Code.isCreation, Code.isGuard, Code.isCaller, Code.frames, Code.isFrame, guardIds]
theorem make_units {A : Around} {C : Addr} {us : List Value} {kw : List (Str × Value)} : (A.under (.builtin "type.__call__" ⟨.ref C :: us, kw⟩)).units = A.units + 1 := by
  first | rfl | simp [Around.under, Code.cUnits, Code.frames, Code.isFrame]
theorem Room.make {k : Nat} {A : Around} (r : Room (k + 1) A) (C : Addr) (us : List Value) (kw : List (Str × Value)) : Room k (A.under (.builtin "type.__call__" ⟨.ref C :: us, kw⟩)) :=
  ⟨r.hd, by have := r.dp; rw [make_depth]; omega, by have := r.un; rw [make_units]; omega⟩
theorem Room.depth {k : Nat} {A : Around} (r : Room k A) : A.depth < recursionLimit := by have := r.dp; omega
theorem Room.units {k : Nat} {A : Around} (r : Room k A) : A.units + 64 < cLine := by have := r.un; omega
def tNil : TA := fun _ H Q => Q [] H
def tCons (ta : TE) (tr : TA) : TA := fun σ H Q => ta σ H fun x H1 => tr σ H1 fun xs H2 => Q (x :: xs) H2
section
variable {X : Cx} {e : Expr} {es : List Expr} {te : TE} {t : TA} {pos : Pos}
theorem pa_nil : PA X [] tNil := fun _ _ _ _ H Q I h => Calls.spliced_nil ⟨[], H, I, .nil, h⟩
theorem pa_cons (ha : PE X e te) (hr : PA X es t) (hs : starEach (e :: es) X.env = (false, eval e X.env) :: starEach es X.env := by rfl) : PA X (e :: es) (tCons te t) := by
  intro pos pins s σ H Q I h
  rw [hs]
  show wpAny _ _ (spliced ((false, eval e X.env) :: backTo pos (starEach es X.env))) _ _ s
  refine Calls.spliced_cons (thn (ha pins s σ H _ I h) fun u s1 ⟨x, H1, I1, r1, q1⟩ => ?_)
  exact thn (hr pos pins s1 σ H1 _ I1 q1) fun us s2 ⟨xs, H2, I2, r2, q2⟩ => ⟨x :: xs, H2, I2, .cons r1 r2, q2⟩
def tTup (t : TA) : TE := fun σ H Q => t σ H fun xs H1 => xs.length ≤ sizeLine ∧ ∀ p, H1 p = none → Q (.ref p) (upd H1 p (.tup xs))
def tLst (t : TA) : TE := fun σ H Q => t σ H fun xs H1 => xs.length ≤ sizeLine ∧ ∀ p, H1 p = none → Q (.ref p) (upd H1 p (.lst xs))
theorem pe_tup {x1} (h : PA X es t) : PE X (.Tuple es x1 pos) (tTup t) := by
  intro pins s σ H Q I hq
  refine wpAny_Tuple_spliced (thn (h pos pins s σ H _ I hq) fun us s1 ⟨xs, H1, I1, r, z, q⟩ => ⟨by rw [← r.length]; exact z, ?_⟩)
  have hf : H1 s1.heap.objs.size = none := I1.hok.fresh (Nat.le_refl _)
  refine ⟨.ref s1.heap.objs.size, upd H1 s1.heap.objs.size (.tup xs), I1.laid (t' := s1.toks) (fun b u e => Heap.get?_push_of_some _ e) (Nat.le_refl _) ?_, rfl, q _ hf⟩
  exact ⟨z, us, r, ⟨_, Heap.get?_push_size _ rfl, rfl, _, rfl⟩⟩
theorem pe_lst (h : PA X es t) : PE X (.List es pos) (tLst t) := by
  intro pins s σ H Q I hq
  refine wpAny_List_spliced (thn (h pos pins s σ H _ I hq) fun us s1 ⟨xs, H1, I1, r, z, q⟩ => ⟨by rw [← r.length]; exact z, ?_⟩)
  have hf : H1 s1.heap.objs.size = none := I1.hok.fresh (Nat.le_refl _)
  refine ⟨.ref s1.heap.objs.size, upd H1 s1.heap.objs.size (.lst xs), I1.laid (t' := s1.toks) (fun b u e => Heap.get?_push_of_some _ e) (Nat.le_refl _) ?_, rfl, q _ hf⟩
  exact ⟨z, us, 0, r, Heap.get?_push_size _ rfl⟩
end
abbrev Sp := List V → Hp → VK → XK → Prop
abbrev CXT := List Env → Hp → Shared → XK → Value → Shared → Prop
structure Env0 (P : Program) (w : World) (K : PySem.W.Frag) (mg : Str → Option Value) (base : Heap) (A : Around) (outer : List Env) (s : Shared) (H : Hp) : Prop where
  frames : A.frames = some outer
  mod : Mod K mg base
  bs : ∀ b o, base.get? b = some o → s.heap.get? b = some o ∧ H b = none
  bsz : base.objs.size ≤ s.heap.objs.size
  funs : s.heap.FunFrames base outer
  frf : ∀ b ∈ frs outer, H b = none
  hok : HOk P w H s.heap
  bare : AllBare s.gens
def CE (outer : List Env) (P : Program) (w : World) (H : Hp) (s : Shared) (Q : VK) (u : Value) (s' : Shared) : Prop :=
  ∃ v H', s'.os = s.os ∧ AllBare s'.gens ∧ Un (frs outer) [] H H' s.heap s'.heap ∧ HOk P w H' s'.heap ∧ RelV v u ∧ Q v H'
def CR (CX : CXT) (outer : List Env) (P : Program) (w : World) (H : Hp) (s : Shared) (Q : VK) (E : XK) (r : Result) (s' : Shared) : Prop :=
  match r with
  | .ok (.ret u) => CE outer P w H s Q u s'
  | .ok _ => False
  | .error e => CX outer H s E e s'
structure FnOk (P : Program) (w : World) (K : PySem.W.Frag) (mg : Str → Option Value) (base : Heap) (CX : CXT) (k : Nat) (f : Addr) (fd : FuncData) (ps : List Str) (sp : Sp) : Prop where
  len : ∀ vs H Q E, sp vs H Q E → vs.length = ps.length
  run : ∀ (A : Around) (outer : List Env) (s : Shared) (H : Hp) (args : Args) (us : List Value) (vs : List V) (Q : VK) (E : XK), Room k A → Env0 P w K mg base A outer s H → BindsTo s fd args (ps.zip us) → Vals vs us → sp vs H Q E →
    codeAny (model P w) A (.call (.ref f) args) (CR CX outer P w H s Q E) s
theorem FnOk.mono {P : Program} {w : World} {K : PySem.W.Frag} {mg : Str → Option Value} {base : Heap} {CX : CXT} {j k : Nat} {f : Addr} {fd : FuncData} {ps : List Str} {sp : Sp} (F : FnOk P w K mg base CX j f fd ps sp) (h : j ≤ k) :
    FnOk P w K mg base CX k f fd ps sp := ⟨F.len, fun A outer s H args us vs Q E hr => F.run A outer s H args us vs Q E (hr.mono h)⟩
theorem FnOk.imp {P : Program} {w : World} {K : PySem.W.Frag} {mg : Str → Option Value} {base : Heap} {CX : CXT} {k : Nat} {f : Addr} {fd : FuncData} {ps : List Str} {sp sp' : Sp} (F : FnOk P w K mg base CX k f fd ps sp)
    (h : ∀ vs H Q E, sp' vs H Q E → sp vs H Q E) : FnOk P w K mg base CX k f fd ps sp' :=
  ⟨fun vs H Q E q => F.len vs H Q E (h _ _ _ _ q), fun A outer s H args us vs Q E hr he hb hv hs => F.run A outer s H args us vs Q E hr he hb hv (h _ _ _ _ hs)⟩
theorem Env0.make {P : Program} {w : World} {K : PySem.W.Frag} {mg : Str → Option Value} {base : Heap} {A : Around} {outer : List Env} {s : Shared} {H : Hp} (e : Env0 P w K mg base A outer s H) (C : Addr) (us : List Value) (kw : List (Str × Value)) :
    Env0 P w K mg base (A.under (.builtin "type.__call__" ⟨.ref C :: us, kw⟩)) outer s H := ⟨by first | exact e.frames | (simpa [Around.under, Code.envs, Code.isFrame, pushEnvs] using e.frames), e.mod, e.bs, e.bsz, e.funs, e.frf, e.hok, e.bare⟩
theorem Env0.in1 {P : Program} {w : World} {K : PySem.W.Frag} {mg : Str → Option Value} {base : Heap} {A : Around} {outer : List Env} {s : Shared} {H : Hp} (e : Env0 P w K mg base A outer s H) :
    Env0 P w K mg base A.in1 outer s H := ⟨e.frames, e.mod, e.bs, e.bsz, e.funs, e.frf, e.hok, e.bare⟩
section
variable {X : Cx} {pins : List (Addr × Obj)} {σ : St} {H : Hp} {s s' : Shared}
theorem Inv.env0 (I : Inv X pins σ H s) : Env0 X.prog X.w X.K X.mg X.base X.A X.stack s H :=
  ⟨I.ok.frames, I.ok.mod, I.bs, Nat.le_trans I.ok.bsz I.sz, I.stack, I.stkFree, I.hok, I.bare⟩
theorem Inv.after {Q : VK} {u : Value} (I : Inv X pins σ H s) (h : CE X.stack X.prog X.w H s Q u s') : EP X pins σ Q u s' := by
  obtain ⟨v, H', os, bare, un, hok, r, q⟩ := h
  obtain ⟨hh, g, d, t, os'⟩ := s'
  obtain rfl : os' = s.os := os
  exact ⟨v, H', I.call (h' := hh) (g' := g) (d' := d) (t' := t) (ch := []) un hok bare (fun b z => absurd z (by simp)), r, q⟩
end
def tCall (sp : Sp) (dvs : List V) (E : XK) (t : TA) : TE := fun σ H Q => t σ H fun vs H1 => sp (vs ++ dvs) H1 Q E
def Binds (K : PySem.W.Frag) (fd : FuncData) (ps : List Str) (ds : List Value) : Prop :=
  ∀ (s : Shared) (us : List Value), K.In s.heap → (us ++ ds).length = ps.length → BindsTo s fd ⟨us, []⟩ (ps.zip (us ++ ds))
theorem Binds.all {K : PySem.W.Frag} {fd : FuncData} {ps : List Str} (h : ∀ us : List Value, us.length = ps.length → bindArgs fd ⟨us, []⟩ = pure (ps.zip us)) : Binds K fd ps [] := fun s us _ hl => by
  rw [List.append_nil] at hl ⊢
  exact .of_eq (h us hl)
def Passes (CX : CXT) (X : Cx) (E : XK) : Prop := ∀ (pins : List (Addr × Obj)) (σ : St) (H : Hp) (s : Shared) (e : Value) (s' : Shared), Inv X pins σ H s → CX X.stack H s E e s' → X.xe e s'
section
variable {X : Cx} {CX : CXT} {k : Nat} {f C : Addr} {fd : FuncData} {ps : List Str} {sp : Sp} {dvs : List V} {ds : List Value} {E : XK} {x m : Str} {p pos apos : Pos} {e o : Expr} {es : List Expr} {ta : TE} {t : TA}
theorem run_fn {pins : List (Addr × Obj)} {σ : St} {H : Hp} {s : Shared} {Q : VK} {us : List Value} {vs : List V} (F : FnOk X.prog X.w X.K X.mg X.base CX k f fd ps sp) (hr : Room k X.A) (hb : Binds X.K fd ps ds) (hd : Vals dvs ds) (hx : Passes CX X E)
    (I : Inv X pins σ H s) (r : Vals vs us) (h : sp (vs ++ dvs) H Q E) : wpAny (model X.prog X.w) X.A (call (.ref f) us) (EP X pins σ Q) X.xe s := by
  have r2 : Vals (vs ++ dvs) (us ++ ds) := r.append hd
  have hl : (us ++ ds).length = ps.length := by rw [← r2.length]; exact F.len _ _ _ _ h
  refine wpAny_call (codeAny_mono (F.run X.A X.stack s H ⟨us, []⟩ (us ++ ds) (vs ++ dvs) Q E hr I.env0 (hb s us I.kIn hl) r2 h) fun r s' hq => ?_)
  cases r with
  | error e => exact hx pins σ H s e s' I hq
  | ok fl =>
    cases fl with
    | ret u => exact I.after hq
    | next => exact False.elim hq
    | brk => exact False.elim hq
    | cont => exact False.elim hq
theorem pe_call (F : FnOk X.prog X.w X.K X.mg X.base CX k f fd ps sp) (hr : Room k X.A) (hg : Gl X x) (hm : X.mg x = some (.ref f)) (hk : PySem.W.keepIn X.K (.ref f) = true) (hb : Binds X.K fd ps ds) (hd : Vals dvs ds) (hx : Passes CX X E)
    (ha : PA X (e :: es) t) (hdb : (x == ("__debug__" : Str)) = false := by decide) (he : starEach (e :: es) X.env = (false, eval e X.env) :: starEach es X.env := by rfl) (hpl : (backTo pos (starEach es X.env)).any (·.1) = false := by rfl) :
    PE X (.Call (.Name x p) (e :: es) [] pos) (tCall sp dvs E t) := by
  intro pins s σ H Q I h
  refine wpAny_Call_Name_kw (ld_glob I hg hm ?_ hdb)
  refine PySem.W.callWith_K (h₀ := X.base) I.ok.mod.kin hk (thn (ha pos pins s σ H _ I h) fun us s1 ⟨vs, H1, I1, r, q⟩ => ⟨I1.kIn, ?_⟩) he hpl
  exact run_fn F hr hb hd hx I1 r q
structure Mk (K : PySem.W.Frag) (C f : Addr) : Prop where
  makes : PySem.W.makesIn K C = true
  init : PySem.W.findIn K (.ref C) "__init__" = some (some (.ref f))
  fn : PySem.W.isFn K (.ref f) = true
  kp : PySem.W.keepIn K (.ref C) = true
end
section
variable {X : Cx} {CX : CXT} {k : Nat} {f C : Addr} {fd : FuncData} {ps ks : List Str} {sp : Sp} {E : XK} {x m : Str} {p pos apos kpos : Pos} {e o : Expr} {es : List Expr} {kws : List Keyword} {te ta : TE} {t tk : TA} {nm : Option Str}
structure KBinds (K : PySem.W.Frag) (fd : FuncData) (ps ks : List Str) (g : List Value → List Value → List Value) (gV : List V → List V → List V) : Prop where
  to : ∀ (s : Shared) (us ws : List Value), K.In s.heap → (g us ws).length = ps.length → BindsTo s fd ⟨us, ks.zip ws⟩ (ps.zip (g us ws))
  rel : ∀ {vs : List V} {us : List Value} {zs : List V} {ws : List Value}, Vals vs us → Vals zs ws → Vals (gV vs zs) (g us ws)
variable {g : List Value → List Value → List Value} {gV : List V → List V → List V}
end
structure FnScope (N P : List Str) (sc : Scope) : Prop where
  kind : sc.kind = .function
  co : sc.isCoroutine = false
  gen : sc.isGenerator = false
  nd : N.Nodup
  pre : N.take P.length = P
  par : ∀ x ∈ P, sc.names.lookup x = some .local ∨ sc.names.lookup x = some .cell
  nofree : ∀ y ∈ sc.names, y.2 ≠ .free
theorem bindL_out {kindOf : Str → Option NameKind} {x : Str} : ∀ {binds : List (Str × Value)} {m : Str → Option Value}, (∀ v, (x, v) ∉ binds) → bindL kindOf binds m x = m x
  | [], _, _ => rfl
  | (n, v) :: r, m, h => by
    unfold bindL
    rw [bindL_out fun w hw => h w (List.mem_cons_of_mem _ hw)]
    split
    · have : x ≠ n := by rintro rfl; exact h v List.mem_cons_self
      simp [this]
    · rfl
theorem bindC_out {kindOf : Str → Option NameKind} {x : Str} : ∀ {binds : List (Str × Value)} {m : Str → Option Value}, (∀ v, (x, v) ∉ binds) → bindC kindOf binds m x = m x
  | [], _, _ => rfl
  | (n, v) :: r, m, h => by
    unfold bindC
    rw [bindC_out fun w hw => h w (List.mem_cons_of_mem _ hw)]
    split
    · rfl
    · have : x ≠ n := by rintro rfl; exact h v List.mem_cons_self
      simp [this]
theorem bindL_get {kindOf : Str → Option NameKind} {x : Str} {v : Value} : ∀ {P : List Str} {vs : List Value} {i : Nat} {m : Str → Option Value}, P.Nodup → P[i]? = some x → vs[i]? = some v → kindOf x = some .local →
    bindL kindOf (P.zip vs) m x = some v
  | [], _, _, _, _, h, _, _ => by simp at h
  | _ :: _, [], _, _, _, _, h, _ => by simp at h
  | p :: P, w :: vs, 0, m, nd, h1, h2, hk => by
    simp at h1 h2; subst h1; subst h2
    show bindL kindOf ((p, w) :: P.zip vs) m p = _
    unfold bindL
    rw [bindL_out fun v hv => (List.nodup_cons.mp nd).1 (List.of_mem_zip hv).1, if_pos hk]
    simp
  | p :: P, w :: vs, i + 1, m, nd, h1, h2, hk => by
    show bindL kindOf ((p, w) :: P.zip vs) m x = _
    unfold bindL
    exact bindL_get (i := i) (List.nodup_cons.mp nd).2 (by simpa using h1) (by simpa using h2) hk
theorem bindC_get {kindOf : Str → Option NameKind} {x : Str} {v : Value} : ∀ {P : List Str} {vs : List Value} {i : Nat} {m : Str → Option Value}, P.Nodup → P[i]? = some x → vs[i]? = some v → kindOf x ≠ some .local →
    bindC kindOf (P.zip vs) m x = some v
  | [], _, _, _, _, h, _, _ => by simp at h
  | _ :: _, [], _, _, _, _, h, _ => by simp at h
  | p :: P, w :: vs, 0, m, nd, h1, h2, hk => by
    simp at h1 h2; subst h1; subst h2
    show bindC kindOf ((p, w) :: P.zip vs) m p = _
    unfold bindC
    rw [bindC_out fun v hv => (List.nodup_cons.mp nd).1 (List.of_mem_zip hv).1, if_neg hk]
    simp
  | p :: P, w :: vs, i + 1, m, nd, h1, h2, hk => by
    show bindC kindOf ((p, w) :: P.zip vs) m x = _
    unfold bindC
    exact bindC_get (i := i) (List.nodup_cons.mp nd).2 (by simpa using h1) (by simpa using h2) hk
def start (N : List Str) (vs : List V) : St := vs.map some ++ List.replicate (N.length - vs.length) none
def cxOf (CX : CXT) (P : Program) (w : World) (K : PySem.W.Frag) (mg : Str → Option Value) (base : Heap) (N : List Str) (qual : Str) (scope : Scope) (f : Addr) (cd : Value) (A : Around) (outer : List Env) (s : Shared) (H : Hp) (E : XK) : Cx where
  prog := P
  w := w
  K := K
  mg := mg
  base := base
  A := A.deeper (envOfC qual scope s.heap.objs.size f cd)
  N := N
  s₀ := s
  H₀ := H
  env := envOfC qual scope s.heap.objs.size f cd
  outer := outer
  stack := envOfC qual scope s.heap.objs.size f cd :: outer
  ex := []
  calm := true
  fn := fun _ => true
  pn := []
  xe := fun e s' => wpAny (model P w) (A.deeper (envOfC qual scope s.heap.objs.size f cd)) (leaving (envOfC qual scope s.heap.objs.size f cd) e) (fun _ s'' => CX outer H s E e s'') (fun e' s'' => CX outer H s E e' s'') s'
theorem cell_has {sc : Scope} {n : Nat} {x : Str} (h : sc.names.lookup x = some .cell) : ∃ c, (cellsFrom n sc.names []).lookup x = some c := by
  have q := PySem.W.cellsFrom_some sc.names n [] (.inl h)
  exact Option.isSome_iff_exists.mp q
theorem inv_start {CX : CXT} {P : Program} {w : World} {K : PySem.W.Frag} {mg : Str → Option Value} {base : Heap} {N ps : List Str} {qual : Str} {scope : Scope} {f : Addr} {cd : Value} {A : Around} {outer : List Env} {s s1 : Shared} {H : Hp} {E : XK} {us : List Value} {vs : List V}
    (S : FnScope N ps scope) (hd : A.handled = none) (e0 : Env0 P w K mg base A outer s H) (hl : vs.length = ps.length) (r : Vals vs us)
    (x : InCallC s s.heap.objs.size (bindL (envOfC qual scope s.heap.objs.size f cd).kindOf (ps.zip us) fun _ => none) (cellsFrom (s.heap.objs.size + 1) scope.names []) (bindC (envOfC qual scope s.heap.objs.size f cd).kindOf (ps.zip us) fun _ => none) s1) :
    Inv (cxOf CX P w K mg base N qual scope f cd A outer s H E) [] (start N vs) H s1 := by
  have hpl : ps.length ≤ N.length := by have := congrArg List.length S.pre; rw [List.length_take] at this; omega
  obtain ⟨h1, tk, rfl, hk⟩ := x.done
  have noA : ∀ b : Addr, b ∉ (cxOf CX P w K mg base N qual scope f cd A outer s H E).ex := fun b z => absurd (show b ∈ ([] : List Addr) from z) (by simp)
  refine ⟨⟨e0.mod, S.kind, rfl, rfl, Nat.le_refl _, fun y z c h1 h2 => ?_, fun y hy => ?_, fun y c _ h => ?_, fun _ => hd, Around.frames_deeper e0.frames, .inr ⟨rfl, rfl⟩, fun b z => absurd z (noA b), e0.bs, e0.bsz, fun b _ _ => noA b, fun b z => absurd z (noA b), e0.funs, e0.frf⟩,
    rfl, e0.bare, Un.kept hk, ⟨_, x.toInCall.ns, fun i y v h1 h2 h3 => ?_⟩, fun y c h => ⟨_, x.cell y c h⟩, e0.hok.fresh (Nat.le_refl _), fun y c h => ?_, fun p hp => absurd (show p ∈ ([] : List (Addr × Obj)) from hp) (by simp), e0.hok.kept hk, ?_⟩
  · exact name_of_addr x.apart (PySem.mem_of_lookup h1) (PySem.mem_of_lookup h2)
  · have hy : scope.names.lookup y = some .cell ∨ scope.names.lookup y = some .free := hy
    rcases hy with hy | hy
    · exact cell_has hy
    · exact absurd rfl (S.nofree _ (PySem.mem_of_lookup hy))
  · exact Nat.le_of_lt (x.above y c (PySem.mem_of_lookup h))
  · have hi : i < vs.length := by
      unfold start at h2
      by_cases hi : i < vs.length
      · exact hi
      · rw [List.getElem?_append_right (by simpa using hi)] at h2
        rw [List.getElem?_replicate] at h2
        split at h2 <;> cases h2
    have ha : vs[i]? = some v := by
      unfold start at h2
      rw [List.getElem?_append_left (by simpa using hi), List.getElem?_map] at h2
      cases e : vs[i]? with
      | none => rw [e] at h2; cases h2
      | some a => rw [e] at h2; cases h2; rfl
    obtain ⟨u, hu, rv⟩ := r.get ha
    have hp : ps[i]? = some y := by
      rw [← S.pre, List.getElem?_take_of_lt (by omega)]; exact h1
    have ndP : ps.Nodup := by rw [← S.pre]; exact S.nd.sublist (List.take_sublist _ _)
    refine ⟨u, rv, ?_⟩
    rcases S.par y (List.mem_of_getElem? hp) with k | k
    · exact .inl ⟨k, bindL_get ndP hp hu k⟩
    · obtain ⟨c, e⟩ := cell_has (n := s.heap.objs.size + 1) k
      refine .inr ⟨.inl k, c, e, ?_⟩
      have q := x.cell y c e
      rw [bindC_get ndP hp hu (by show scope.names.lookup y ≠ _; rw [k]; decide)] at q
      exact q
  · exact e0.hok.fresh (Nat.le_of_lt (x.above y c (PySem.mem_of_lookup h)))
  · unfold start
    show _ = N.length
    rw [List.length_append, List.length_map, List.length_replicate]
    omega
theorem fn_of {CX : CXT} {P : Program} {w : World} {K : PySem.W.Frag} {mg : Str → Option Value} {base : Heap} {k : Nat} {f : Addr} {name qual : Str} {params : Arguments} {body : List Stmt} {scope : Scope} {dV kV doc pm cdv ct oc : Value} {an od : Option Addr}
    {osl : Array (Option Value)} {N ps : List Str} {sp : Sp} (lk : K.lookup f = some ⟨oc, od, .func (PySem.W.fnOf name qual params body scope dV kV doc pm an cdv ct), osl⟩) (hcd : PySem.W.codeIn K cdv qual = true) (S : FnScope N ps scope)
    (len : ∀ vs H Q E, sp vs H Q E → vs.length = ps.length)
    (hbody : ∀ (A : Around) (outer : List Env) (s : Shared) (H : Hp) (vs : List V) (Q : VK) (E : XK), Room k (A.deeper (envOfC qual scope s.heap.objs.size f cdv)) → sp vs H Q E →
      ∃ t, PSs (cxOf CX P w K mg base N qual scope f cdv A outer s H E) body t ∧ t { nx := fun _ H' => Q .non H', rt := Q } (start N vs) H) :
    FnOk P w K mg base CX (k + 1) f (PySem.W.fnOf name qual params body scope dV kV doc pm an cdv ct) ps sp := by
  refine ⟨len, fun A outer s H args us vs Q E hr e0 hb r hsp => ?_⟩
  have hl := len _ _ _ _ hsp
  have KX : K.In s.heap := e0.mod.kin.keeps fun b o e => (e0.bs b o e).1
  have lim : s.heap.NoLimit := e0.mod.nolimit.keeps fun b o e => (e0.bs b o e).1
  have hkind : ∀ y ∈ ps.zip us, scope.names.lookup y.1 = some .local ∨ (scope.names.lookup y.1 = some .cell ∧ ((cellsFrom (s.heap.objs.size + 1) scope.names []).lookup y.1).isSome = true) := fun ⟨n, v⟩ hy => by
    rcases S.par n (List.of_mem_zip hy).1 with q | q
    · exact .inl q
    · exact .inr ⟨q, PySem.W.cellsFrom_some _ _ _ (.inl q)⟩
  refine codeAny_call_function hr.depth (KX _ _ lk) rfl S.co S.gen rfl (PySem.W.codeRec_of KX hcd) (hb _ _ _ _ ?_)
  refine wpAny_newFunctionEnv_cells S.kind hkind fun env he s1 x => ?_
  subst he
  refine ⟨lim.keeps x.toInCall.keep, codeAny_func ?_⟩
  obtain ⟨t, ht, hq⟩ := hbody A outer s H vs Q E (hr.deeper _) hsp
  have I : Inv (cxOf CX P w K mg base N qual scope f cdv A outer s H E) [] (start N vs) H s1 := inv_start S hr.hd e0 hl r x
  refine wpAny_mono (ht [] s1 (start N vs) H _ I hq) (fun fl s' hs => ?_) fun e s' hs => hs
  have fin : ∀ {σ' : St} {H' : Hp} {v : V} {u : Value}, Inv (cxOf CX P w K mg base N qual scope f cdv A outer s H E) [] σ' H' s' → RelV v u → Q v H' → CE outer P w H s Q u s' :=
    fun {σ' H' v u} J rv q => ⟨v, H', J.os, J.bare, J.base, J.hok, rv, q⟩
  cases fl with
  | ret u =>
    obtain ⟨v, σ', H', J, rv, q⟩ := hs
    exact fin J rv q
  | next =>
    obtain ⟨σ', H', J, q⟩ := hs
    exact fin (v := V.non) (u := Value.none) J rfl q
  | brk =>
    obtain ⟨_, _, _, q⟩ := hs
    exact False.elim q
  | cont =>
    obtain ⟨_, _, _, q⟩ := hs
    exact False.elim q
end L2
namespace L2
open PySem PySem.Spec PyProof.Rows
section
variable {X : Cx} {x : Str} {p pos : Pos} {e : Expr} {es : List Expr} {t : TA} {id T : String} {r : List V → Hp → VK → Prop}
def tCB (r : List V → Hp → VK → Prop) (t : TA) : TE := fun σ H Q => t σ H fun vs H1 => r vs H1 Q
theorem pe_callB (hc : CallR X (.builtin id) r) (hg : Gl X x) (hm : X.mg x = none) (hv : bootBuiltins x = some (.builtin id)) (ha : PA X (e :: es) t) (hn : x ≠ "__name__" := by decide) (hdb : (x == ("__debug__" : Str)) = false := by decide)
    (he : starEach (e :: es) X.env = (false, eval e X.env) :: starEach es X.env := by rfl) (hpl : (backTo pos (starEach es X.env)).any (·.1) = false := by rfl) : PE X (.Call (.Name x p) (e :: es) [] pos) (tCB r t) := by
  intro pins s σ H Q I h
  refine wpAny_Call_Name_kw (ld_blt I hg hm hv ?_ hn hdb)
  exact PyProof.Rows.callWith_builtin1 (thn (ha pos pins s σ H _ I h) fun us s1 ⟨vs, H1, I1, r1, q1⟩ => hc pins s1 σ H1 vs us Q I1 r1 q1) he hpl
theorem pe_callTy (hc : CallR X (.type T) r) (hg : Gl X x) (hm : X.mg x = none) (hv : bootBuiltins x = some (.type T)) (ha : PA X (e :: es) t) (hn : x ≠ "__name__" := by decide) (hdb : (x == ("__debug__" : Str)) = false := by decide)
    (he : starEach (e :: es) X.env = (false, eval e X.env) :: starEach es X.env := by rfl) (hpl : (backTo pos (starEach es X.env)).any (·.1) = false := by rfl) : PE X (.Call (.Name x p) (e :: es) [] pos) (tCB r t) := by
  intro pins s σ H Q I h
  refine wpAny_Call_Name_kw (ld_blt I hg hm hv ?_ hn hdb)
  exact PyProof.Rows.callWith_type1 (thn (ha pos pins s σ H _ I h) fun us s1 ⟨vs, H1, I1, r1, q1⟩ => hc pins s1 σ H1 vs us Q I1 r1 q1) he hpl
end
end L2
namespace HT
open PySem PyProof.Rows
section
open PySem.SeqAt
open PySem.AutoSeq1 (wpAny_loadPart')
open PySem.MeetsSeq PySem.MeetsSeq2 PySem.MeetsSeq3
end
section
variable {prog : Program} {w : World} {A : Around} {E : Value → Shared → Prop} {s : Shared}
theorem cat_tup {t b : Addr} {vs ws : List Value} {Q : Value → Shared → Prop} (ht : IsTup s.heap t vs.toArray) (hb : IsTup s.heap b ws.toArray) (hv : vs ≠ [])
    (h1 : ws = [] → Q (.ref t) s) (h2 : ws ≠ [] → Q (.ref s.heap.objs.size) { s with heap := s.heap.push { cls := .type "tuple", data := .seq (vs ++ ws).toArray } })
    (hsz : vs.length + ws.length ≤ sizeLine) : wpAny (model prog w) A (binaryOp .Add (.ref t) (.ref b)) Q E s := by
  obtain ⟨⟨cls, dd, data, sl⟩, ho, hc, n, hd⟩ := id ht
  obtain ⟨⟨cls2, dd2, data2, sl2⟩, ho2, hc2, n2, hd2⟩ := id hb
  simp only at hc hd hc2 hd2
  subst hc hd hc2 hd2
  have e : vs.toArray ++ ws.toArray = (vs ++ ws).toArray := by simp
  by_cases hw : ws = []
  · exact concat_meets ⟨_, ho, rfl⟩ ⟨_, ho2, rfl⟩ noFill_tuple_add seq_tuple_add PySem.F.slot_tuple_add PySem.F.entry_tuple_add (PySem.F.args_tuple_add_2 _ _)
      (tuple_addW1 t b vs.toArray ws.toArray n n2 dd dd2 sl sl2 (by simpa using hv) (by simp [hw])) ⟨ho, ho2, h1 hw⟩
  · refine concat_meets ⟨_, ho, rfl⟩ ⟨_, ho2, rfl⟩ noFill_tuple_add seq_tuple_add PySem.F.slot_tuple_add PySem.F.entry_tuple_add (PySem.F.args_tuple_add_2 _ _)
      (tuple_addW2 t b vs.toArray ws.toArray n n2 dd dd2 sl sl2 (by simpa using hv) (by simpa using hw) (by rw [List.size_toArray, List.size_toArray]; exact hsz)) ⟨ho, ho2, ?_⟩
    rw [e]
    exact h2 hw
def sIx (n d : Nat) : Option Int → Nat
  | none => d
  | some v => if v < 0 then (v + (n : Int)).toNat else min v.toNat n
theorem sIx_le (n d : Nat) (hd : d ≤ n) (o : Option Int) : sIx n d o ≤ n := by
  cases o with
  | none => exact hd
  | some v =>
    show (if v < 0 then (v + (n : Int)).toNat else min v.toNat n) ≤ n
    by_cases hv : v < 0
    · rw [if_pos hv]; omega
    · rw [if_neg hv]; exact Nat.min_le_right _ _
theorem clip_eq (v : Int) (n d : Nat) : (if v < 0 then max (v + (n : Int)) 0 else min v (n : Int)) = ((sIx n d (some v) : Nat) : Int) := by
  show (if v < 0 then max (v + (n : Int)) 0 else min v (n : Int)) = (((if v < 0 then (v + (n : Int)).toNat else min v.toNat n) : Nat) : Int)
  by_cases hv : v < 0
  · simp only [if_pos hv]; omega
  · simp only [if_neg hv]; omega
theorem adjust_gen (lo hi : Option Int) (n : Nat) : Builtin.Slice.sliceAdjust lo hi 1 (n : Int) = (((sIx n 0 lo : Nat) : Int), ((sIx n n hi : Nat) : Int)) := by
  have h1 : ¬ ((1 : Int) < 0) := by omega
  unfold Builtin.Slice.sliceAdjust
  simp only [h1, if_false]
  refine Prod.ext ?_ ?_
  · cases lo with
    | none => rfl
    | some v => exact clip_eq v n 0
  · cases hi with
    | none => rfl
    | some v => exact clip_eq v n n
theorem places_gen (i j : Nat) : Builtin.Slice.slicePlaces (i : Int) (j : Int) 1 = j - i := by
  unfold Builtin.Slice.slicePlaces
  have h1 : (1 : Int) > 0 := by omega
  simp only [h1, if_true, Int.ediv_one]
  split <;> omega
theorem slicePart_ {v : Value} {o : Option Int} {Q : Option Int → Shared → Prop} (p : IsPart v o) (h : Q o s) : wpAny (model prog w) A (Builtin.Slice.slicePartIndex v) Q E s := by
  cases p with
  | none => exact slicePart_none h
  | int i t => exact slicePart_int h
theorem sliceApplied_gen {sl : Addr} {vl vu : Value} {lo hi : Option Int} {n : Nat} {Q : Int × Int × Nat → Shared → Prop} (hs : s.heap.IsSliceOf sl vl vu .none) (pl : IsPart vl lo) (pu : IsPart vu hi)
    (h : Q (((sIx n 0 lo : Nat) : Int), 1, sIx n n hi - sIx n 0 lo) s) : wpAny (model prog w) A (Builtin.Slice.sliceApplied (.ref sl) (pure (n : Int))) Q E s := by
  obtain ⟨os, hos, hcs, hds⟩ := id hs
  unfold Builtin.Slice.sliceApplied Builtin.Slice.sliceFields
  refine wpAny_bind (wpAny_bind (wpAny_field hos hds (x := vl) rfl (wpAny_bind (wpAny_field hos hds (x := vu) rfl (wpAny_bind (wpAny_field hos hds (x := .none) rfl (wpAny_pure ?_)))))))
  refine wpAny_bind (slicePart_none ?_)
  show wpAny _ _ (if ((1 : Int) == 0) = true then _ else _) _ _ s
  rw [if_neg (by decide)]
  refine wpAny_bind (slicePart_ pl (wpAny_bind (slicePart_ pu (wpAny_bind (wpAny_pure ?_)))))
  show wpAny _ _ (match Builtin.Slice.sliceAdjust lo hi 1 (n : Int) with | (lo, hi) => pure (lo, (1 : Int), Builtin.Slice.slicePlaces lo hi 1)) _ _ s
  rw [adjust_gen lo hi n]
  show wpAny _ _ (pure (((sIx n 0 lo : Nat) : Int), (1 : Int), Builtin.Slice.slicePlaces ((sIx n 0 lo : Nat) : Int) ((sIx n n hi : Nat) : Int) 1)) _ _ s
  rw [places_gen]
  exact wpAny_pure h
theorem pick_gen (xs : Array Value) (i k : Nat) : ((List.range k).filterMap fun (m : Nat) => xs[((i : Int) + (m : Int) * 1).toNat]?).toArray = ((xs.toList.drop i).take k).toArray := by
  have e : (fun (m : Nat) => xs[((i : Int) + (m : Int) * 1).toNat]?) = fun m => xs[i + m]? := by
    funext m
    have : ((i : Int) + (m : Int) * 1).toNat = i + m := by omega
    rw [this]
  rw [e]
  have := pick_run xs i k
  rw [List.filterMap_map] at this
  have e2 : ((fun x => xs[x]?) ∘ fun x => i + x) = fun m => xs[i + m]? := rfl
  rw [e2] at this
  rw [this]
theorem getItem_tuple_cut {t sl : Addr} {items : Array Value} {vl vu : Value} {lo hi : Option Int} {Q : Value → Shared → Prop} (ht : IsTup s.heap t items) (hs : s.heap.IsSliceOf sl vl vu .none) (pl : IsPart vl lo) (pu : IsPart vu hi)
    (hw : ¬ (sIx items.size 0 lo = 0 ∧ sIx items.size items.size hi = items.size))
    (h : Q (.ref s.heap.objs.size) { s with heap := s.heap.push { cls := .type "tuple", data := .seq ((items.toList.drop (sIx items.size 0 lo)).take (sIx items.size items.size hi - sIx items.size 0 lo)).toArray } })
    (hsz : items.size ≤ sizeLine) : wpAny (model prog w) A (getItem (.ref t) (.ref sl)) Q E s := by
  have htake : sizeOk (.seq ((items.toList.drop (sIx items.size 0 lo)).take (sIx items.size items.size hi - sIx items.size 0 lo)).toArray) := by
    show ((items.toList.drop (sIx items.size 0 lo)).take (sIx items.size items.size hi - sIx items.size 0 lo)).toArray.size ≤ sizeLine
    rw [List.size_toArray, List.length_take, List.length_drop, Array.length_toList]
    omega
  have hj : sIx items.size items.size hi ≤ items.size := sIx_le _ _ (Nat.le_refl _) hi
  obtain ⟨os, hos, hcs, hds⟩ := id hs
  have hTs : s.TypeIs (.ref sl) "slice" := ⟨os, hos, hcs⟩
  unfold getItem
  try with_reducible refine wpAny_holding ?_
  first | refine wpAny_bind (wpAny_pure ?_) | skip
  refine wpAny_bind (wpAny_sequenceKey ht.typeIs (by decide) ?_)
  refine wpAny_bind (wpAny_callSpecial?_slot (name := Str.ofString "__getitem__") ht.typeIs PyProof.Rows.slot_tuple_getitem
    (wpAny_call_entry PyProof.Rows.slot_tuple_getitem ht.typeIs entry_tuple_getitem ?_ (args_tuple_getitem _ _)))
  show wpAny _ _ (Builtin.Tuple.tupleItemsOf (.ref t) >>= _) _ _ s
  refine wpAny_bind (tupleItemsOf_ ht ?_)
  refine wpAny_bind (wpAny_typeOf hTs ?_)
  rw [if_pos (by decide)]
  refine wpAny_bind (sliceApplied_gen hs pl pu ?_)
  have hno : ¬ ((((sIx items.size 0 lo : Nat) : Int) == 0 && (1 : Int) == 1 && (sIx items.size items.size hi - sIx items.size 0 lo) == items.size) = true) := by
    intro q
    rw [Bool.and_eq_true, Bool.and_eq_true] at q
    have q1 : ((sIx items.size 0 lo : Nat) : Int) = 0 := eq_of_beq q.1.1
    have q2 : sIx items.size items.size hi - sIx items.size 0 lo = items.size := eq_of_beq q.2
    exact hw ⟨by omega, by omega⟩
  show wpAny _ _ (if (((sIx items.size 0 lo : Nat) : Int) == 0 && (1 : Int) == 1 && (sIx items.size items.size hi - sIx items.size 0 lo) == items.size) = true then _ else _) _ _ s
  rw [if_neg hno, pick_gen]
  first
    | exact wpAny_bind (m := Builtin.Tuple.tupleExact _) (wpAny_newObj_type (wpAny_pure ⟨_, rfl, wpAny_pure h⟩) htake)
    | exact wpAny_bind (m := Builtin.Tuple.tupleExact _) (wpAny_newObj_type (wpAny_bind (wpAny_pure (wpAny_pure ⟨_, rfl, wpAny_pure h⟩))) htake)
    | exact wpAny_bind (wpAny_bind (m := Builtin.Tuple.tupleExact _) (wpAny_newObj_type (wpAny_pure (wpAny_pure ⟨_, rfl, wpAny_pure h⟩)) htake))
    | exact wpAny_bind (wpAny_bind (m := Builtin.Tuple.tupleExact _) (wpAny_newObj_type (wpAny_pure ⟨_, rfl, wpAny_pure h⟩) htake))
end
end HT
namespace L2
open PySem PySem.Spec PyProof.Rows
abbrev TO := St → Hp → (Option Int → Hp → Prop) → Prop
def PO (X : Cx) (e : Option Expr) (t : TO) : Prop :=
  ∀ (pins : List (Addr × Obj)) (s : Shared) (σ : St) (H : Hp) (Q : Option Int → Hp → Prop), Inv X pins σ H s → t σ H Q →
    wpAny (model X.prog X.w) X.A (evalPart e X.env) (fun u s' => ∃ o H', Inv X pins σ H' s' ∧ IsPart u o ∧ Q o H') X.xe s
def tNoPart : TO := fun _ H Q => Q none H
def tPart (t : TE) : TO := fun σ H Q => t σ H fun x H1 => ∃ i, x = .int i ∧ Q (some i) H1
section
variable {X : Cx} {e : Expr} {te : TE} {lo hi : Option Expr} {tl th : TO} {pos p2 : Pos}
theorem po_none : PO X none tNoPart := by
  intro pins s σ H Q I h
  rw [evalPart_none]
  exact wpAny_pure ⟨none, H, I, .none, h⟩
theorem po_some (h : PE X e te) : PO X (some e) (tPart te) := by
  intro pins s σ H Q I hw
  rw [evalPart_some]
  refine thn (h pins s σ H _ I hw) fun u s1 ⟨x, H1, I1, r1, q1⟩ => ?_
  obtain ⟨i, rfl, q⟩ := q1
  obtain ⟨t, rfl⟩ := r1
  exact ⟨some i, H1, I1, .int i t, q⟩
def SlR (X : Cx) (r : V → Option Int → Option Int → Hp → VK → Prop) : Prop :=
  ∀ (pins : List (Addr × Obj)) (s : Shared) (σ : St) (H : Hp) (x : V) (v vl vu : Value) (lo hi : Option Int) (sl : Addr) (Q : VK), Inv X pins σ H s → RelV x v → s.heap.IsSliceOf sl vl vu .none → IsPart vl lo → IsPart vu hi → r x lo hi H Q →
    ∃ T id, typeLookup (.type T) "__getitem__" = pure (some (.builtin id)) ∧ s.TypeIs v T ∧ wpAny (model X.prog X.w) X.A (getItem v (.ref sl)) (EP X pins σ Q) X.xe s
theorem SlR.or {r r' : V → Option Int → Option Int → Hp → VK → Prop} (h : SlR X r) (h' : SlR X r') : SlR X (fun x lo hi H Q => r x lo hi H Q ∨ r' x lo hi H Q) := by
  intro pins s σ H x v vl vu lo hi sl Q I rx hs pl pu q
  rcases q with q | q
  · exact h pins s σ H x v vl vu lo hi sl Q I rx hs pl pu q
  · exact h' pins s σ H x v vl vu lo hi sl Q I rx hs pl pu q
def tSl (r : V → Option Int → Option Int → Hp → VK → Prop) (te : TE) (tl th : TO) : TE := fun σ H Q => te σ H fun x H1 => tl σ H1 fun l H2 => th σ H2 fun u H3 => r x l u H3 Q
theorem pe_slice {r : V → Option Int → Option Int → Hp → VK → Prop} (hr : SlR X r) (he : PE X e te) (hl : PO X lo tl) (hu : PO X hi th) : PE X (.Subscript e (.Slice lo hi none p2) pos) (tSl r te tl th) := by
  intro pins s σ H Q I h
  refine Subscript_ (thn (he pins s σ H _ I h) fun v s1 ⟨x, H1, I1, r1, q1⟩ => ?_)
  refine wpAny_Slice (thn (hl pins s1 σ H1 _ I1 q1) fun vl s2 ⟨l, H2, I2, pl, q2⟩ => thn (hu pins s2 σ H2 _ I2 q2) fun vu s3 ⟨u, H3, I3, pu, q3⟩ => ?_)
  rw [evalPart_none]
  refine wpAny_pure ?_
  have I4 : Inv X pins σ H3 { s3 with heap := s3.heap.push { cls := .type "slice", data := .fields #[vl, vu, .none] } } := I3.kept (t' := s3.toks) fun b ob q => Heap.get?_push_of_some _ q
  obtain ⟨T, id, hT, ht, hg⟩ := hr pins { s3 with heap := s3.heap.push { cls := .type "slice", data := .fields #[vl, vu, .none] } } σ H3 x v vl vu l u s3.heap.objs.size Q I4 r1 (Heap.IsSliceOf.new ..) pl pu q3
  show wpAny (model X.prog X.w) X.A (subscriptTail e (.Slice lo hi none p2) v (.ref s3.heap.objs.size)) (EP X pins σ Q) X.xe { s3 with heap := s3.heap.push { cls := .type "slice", data := .fields #[vl, vu, .none] } }
  exact tail_any (ops := [.ref s3.heap.objs.size, v]) ht hT hg (by with_unfolding_all rfl)
def cutV (xs : List V) (lo hi : Option Int) : List V := (xs.drop (HT.sIx xs.length 0 lo)).take (HT.sIx xs.length xs.length hi - HT.sIx xs.length 0 lo)
theorem cutV_length (xs : List V) (lo hi : Option Int) : (cutV xs lo hi).length ≤ xs.length := by
  unfold cutV
  rw [List.length_take, List.length_drop]
  omega
def rSlT (K : PySem.W.Frag) : V → Option Int → Option Int → Hp → VK → Prop := fun x lo hi H Q => ∃ a xs, x = .ref a ∧ SqT K H a xs ∧
  ¬ (HT.sIx xs.length 0 lo = 0 ∧ HT.sIx xs.length xs.length hi = xs.length) ∧ ∀ p, H p = none → Q (.ref p) (upd H p (.tup (cutV xs lo hi)))
theorem sl_tup : SlR X (rSlT X.K) := by
  intro pins s σ H x v vl vu lo hi sl Q I rx hs pl pu h
  obtain ⟨a, xs, rfl, hx, hw, q⟩ := h
  cases rx
  obtain ⟨its, r, ht, hz⟩ := I.tuple hx
  have hlen : its.toArray.size = xs.length := by rw [List.size_toArray]; exact r.length.symm
  refine ⟨"tuple", _, PyProof.Rows.slot_tuple_getitem.lookup, ht.typeIs, ?_⟩
  refine HT.getItem_tuple_cut ht hs pl pu (by rw [hlen]; exact hw) ?_ (by rw [hlen]; exact hz)
  rw [hlen]
  refine ⟨.ref s.heap.objs.size, _, I.laid (t' := s.toks) (o := .tup (cutV xs lo hi)) (fun b ob q => Heap.get?_push_of_some _ q) (Nat.le_refl _) ?_, rfl, q _ (I.hok.fresh (Nat.le_refl _))⟩
  exact ⟨Nat.le_trans (cutV_length xs lo hi) hz, _, (r.drop (HT.sIx xs.length 0 lo)).take (HT.sIx xs.length xs.length hi - HT.sIx xs.length 0 lo), IsTup.new _ _⟩
theorem Vals.nil_iff {xs : List V} {us : List Value} (r : Vals xs us) : us = [] ↔ xs = [] := by
  cases r with
  | nil => simp
  | cons _ _ => simp
end
end L2
namespace L2
open PySem PySem.Spec PyProof.Rows
def ixN (n : Nat) (i : Int) : Option Nat := if 0 ≤ i then (if i < n then some i.toNat else none) else if -(n : Int) ≤ i then some (i + n).toNat else none
def atI {α : Type} (xs : List α) (i : Int) : Option α := (ixN xs.length i).bind fun j => xs[j]?
theorem ixN_seq {n : Nat} {i : Int} {j : Nat} (h : ixN n i = some j) : seqIndex? i n = some j ∧ j < n ∧ -(n : Int) ≤ i ∧ i < n := by
  unfold ixN at h
  by_cases h0 : 0 ≤ i
  · rw [if_pos h0] at h
    by_cases h1 : i < n
    · rw [if_pos h1] at h
      have e : i.toNat = j := Option.some.inj h
      exact ⟨by rw [seqIndex_of h0 h1, e], by omega, by omega, h1⟩
    · rw [if_neg h1] at h; cases h
  · rw [if_neg h0] at h
    by_cases h1 : -(n : Int) ≤ i
    · rw [if_pos h1] at h
      have e : (i + n).toNat = j := Option.some.inj h
      exact ⟨by rw [seqIndex_neg (by omega) h1, e], by omega, h1, by omega⟩
    · rw [if_neg h1] at h; cases h
theorem atI_get {α : Type} {xs : List α} {i : Int} {v : α} (h : atI xs i = some v) : ∃ j, seqIndex? i xs.length = some j ∧ xs[j]? = some v ∧ j < xs.length ∧ -(xs.length : Int) ≤ i ∧ i < xs.length := by
  unfold atI at h
  cases e : ixN xs.length i with
  | none => rw [e] at h; cases h
  | some j =>
    rw [e] at h
    obtain ⟨h1, h2, h3, h4⟩ := ixN_seq e
    exact ⟨j, h1, h, h2, h3, h4⟩
def PlainIx (b : Expr) : Prop := ∀ o i, subscripted b false o i = operate [o, i] (getItem o i)
def IxR (X : Cx) (r : R2) : Prop :=
  ∀ (value slice : Expr) (pins : List (Addr × Obj)) (s : Shared) (σ : St) (H : Hp) (x y : V) (v u : Value) (Q : VK), Inv X pins σ H s → RelV x v → RelV y u → r x y H Q →
    subscripted slice false v u = operate [v, u] (getItem v u) → wpAny (model X.prog X.w) X.A (subscriptTail value slice v u) (EP X pins σ Q) X.xe s
def MtR (X : Cx) (id : String) (r : V → List V → Hp → VK → Prop) : Prop :=
  ∀ (pins : List (Addr × Obj)) (s : Shared) (σ : St) (H : Hp) (x : V) (xs : List V) (v : Value) (us : List Value) (Q : VK), Inv X pins σ H s → RelV x v → Vals xs us → r x xs H Q →
    wpAny (model X.prog X.w) X.A (call (.builtin id) (v :: us)) (EP X pins σ Q) X.xe s
section
variable {X : Cx} {a b : Expr} {ta tb : TE} {pos : Pos}
theorem IxR.or {r r' : R2} (h : IxR X r) (h' : IxR X r') : IxR X (fun x y H Q => r x y H Q ∨ r' x y H Q) := by
  intro value slice pins s σ H x y v u Q I rx ry q hs
  rcases q with q | q
  · exact h value slice pins s σ H x y v u Q I rx ry q hs
  · exact h' value slice pins s σ H x y v u Q I rx ry q hs
theorem MtR.or {id : String} {r r' : V → List V → Hp → VK → Prop} (h : MtR X id r) (h' : MtR X id r') : MtR X id (fun x xs H Q => r x xs H Q ∨ r' x xs H Q) := by
  intro pins s σ H x xs v us Q I rx rs q
  rcases q with q | q
  · exact h pins s σ H x xs v us Q I rx rs q
  · exact h' pins s σ H x xs v us Q I rx rs q
theorem pe_ix {r : R2} (hr : IxR X r) (ha : PE X a ta) (hb : PE X b tb) (hs : PlainIx b) : PE X (.Subscript a b pos) (tOp r ta tb) := by
  intro pins s σ H Q I h
  exact Subscript_ (binT ha hb I h fun v u s2 x y H2 I2 rx ry q => hr a b pins s2 σ H2 x y v u Q I2 rx ry q (hs _ _))
def rIxL (K : PySem.W.Frag) : R2 := fun x y H Q => ∃ p xs i v, x = .ref p ∧ y = .int i ∧ SqL K H p xs ∧ atI xs i = some v ∧ Q v H
def rIxT (K : PySem.W.Frag) : R2 := fun x y H Q => ∃ p xs i v, x = .ref p ∧ y = .int i ∧ SqT K H p xs ∧ atI xs i = some v ∧ Q v H
def rIxS : R2 := fun x y H Q => ∃ z i c, x = .str z ∧ y = .int i ∧ z.length ≤ sizeLine ∧ atI z.cps.toList i = some c ∧ Q (.str ⟨#[c]⟩) H
theorem ix_list : IxR X (rIxL X.K) := by
  intro value slice pins s σ H x y v u Q I rx ry h hs
  obtain ⟨p, xs, i, z, rfl, rfl, hq, he, q⟩ := h
  cases rx
  obtain ⟨t, rfl⟩ := ry
  obtain ⟨its, r, pl, hz⟩ := I.list hq
  obtain ⟨j, h1, h2, h3, h4, h5⟩ := atI_get he
  obtain ⟨w, ew, rw'⟩ := r.get h2
  have hl := r.length
  have hn := line63
  have fin : EP X pins σ Q w s := ⟨z, H, I, rw', q⟩
  by_cases h0 : 0 ≤ i
  · have hj : i.toNat = j := by
      rw [seqIndex_of h0 h5] at h1
      exact Option.some.inj h1
    exact item_listR pl.isList h0 (by omega) (by rw [hj]; simpa using ew) fin hs
  · have hj : (i + (its.toArray.size : Int)).toNat = j := by
      rw [seqIndex_neg (by omega) h4] at h1
      rw [List.size_toArray, ← hl]
      exact Option.some.inj h1
    exact subscriptTail_builtinR (x := w) pl.isList.typeIs slot_list_getitem.lookup
      (wpAny_getItem_list_neg (Q := fun r s' => r = w ∧ EP X pins σ Q r s') pl.isList (by omega) (by rw [List.size_toArray] <;> omega) (by omega) (by rw [hj]; simpa using ew) ⟨rfl, fin⟩) hs
theorem ix_tup : IxR X (rIxT X.K) := by
  intro value slice pins s σ H x y v u Q I rx ry h hs
  obtain ⟨p, xs, i, z, rfl, rfl, hq, he, q⟩ := h
  cases rx
  obtain ⟨t, rfl⟩ := ry
  obtain ⟨its, r, pl, hz⟩ := I.tuple hq
  obtain ⟨j, h1, h2, h3, h4, h5⟩ := atI_get he
  obtain ⟨w, ew, rw'⟩ := r.get h2
  have hl := r.length
  have hn := line63
  have fin : EP X pins σ Q w s := ⟨z, H, I, rw', q⟩
  exact subscriptTail_builtinR (x := w) pl.typeIs slot_tuple_getitem.lookup
    (getItem_tuple (j := j) (Q := fun r s' => r = w ∧ EP X pins σ Q r s') pl (by omega) (by omega) (by rw [List.size_toArray, ← hl]; exact h1) (by simpa using ew) ⟨rfl, fin⟩) hs
theorem ix_str : IxR X rIxS := by
  intro value slice pins s σ H x y v u Q I rx ry h hs
  obtain ⟨z, i, c, rfl, rfl, hz, he, q⟩ := h
  obtain ⟨t, rfl⟩ := rx
  obtain ⟨t', rfl⟩ := ry
  obtain ⟨j, h1, h2, h3, h4, h5⟩ := atI_get he
  have hl : z.cps.toList.length = z.length := by simp [Str.length]
  rw [hl] at h1 h4 h5
  have hn := line63
  exact tail_any (typeIs_str s z t) slot_str_getitem.lookup (getItem_str (c := c) (by
    have e1 : decide (i < -(2 ^ 63 : Int)) = false := decide_eq_false (by omega)
    have e2 : decide (i ≥ 2 ^ 63) = false := decide_eq_false (by omega)
    rw [e1, e2, Bool.or_false]) (by rw [h1]; simpa using h2) ⟨.str ⟨#[c]⟩, H, I.tok _, ⟨_, rfl⟩, q⟩) hs
def rIx (K : PySem.W.Frag) : R2 := fun x y H Q => rIxL K x y H Q ∨ rIxT K x y H Q ∨ rIxS x y H Q
theorem ix_seq : IxR X (rIx X.K) := ix_list.or (ix_tup.or ix_str)
theorem Inv.lst {pins : List (Addr × Obj)} {σ : St} {H : Hp} {s : Shared} {p : Addr} {xs : List V} (I : Inv X pins σ H s) (h : H p = some (.lst xs)) :
    ∃ (its : List Value) (n : Nat), Vals xs its ∧ s.heap.get? p = some { cls := .type "list", data := .seq its.toArray n } ∧ xs.length ≤ sizeLine := by
  obtain ⟨z, its, n, r, e⟩ := I.hok p _ h
  exact ⟨its, n, r, e, z⟩
theorem slice_bounds (lo hi : Option Int) (n : Nat) : (sliceBounds lo hi none n).1 = ((HT.sIx n 0 lo : Nat) : Int) ∧ (sliceBounds lo hi none n).2.1 = ((HT.sIx n n hi : Nat) : Int) ∧ (sliceBounds lo hi none n).2.2 = 1 := by
  refine ⟨?_, ?_, rfl⟩
  · cases lo with
    | none => simp [sliceBounds, HT.sIx]
    | some i =>
      simp only [sliceBounds, HT.sIx, Option.getD_none, show (1 : Int) > 0 by decide, if_true]
      by_cases h : i < 0
      · simp only [h, if_true] <;> omega
      · simp only [h, if_false] <;> omega
  · cases hi with
    | none => simp [sliceBounds, HT.sIx]
    | some i =>
      simp only [sliceBounds, HT.sIx, Option.getD_none, show (1 : Int) > 0 by decide, if_true]
      by_cases h : i < 0
      · simp only [h, if_true] <;> omega
      · simp only [h, if_false] <;> omega
theorem slicePick_cut (its : List Value) (lo hi : Option Int) : slicePick its.toArray lo hi none = ((its.drop (HT.sIx its.length 0 lo)).take (HT.sIx its.length its.length hi - HT.sIx its.length 0 lo)).toArray := by
  obtain ⟨h1, h2, h3⟩ := slice_bounds lo hi its.toArray.size
  unfold slicePick
  rw [h1, h2, h3]
  simp only [sliceRange_one, pick_run, List.size_toArray] <;> rfl
theorem call_len_seq : CallR X (.builtin "len") (fun xs H Q => ∃ p ys, xs = [.ref p] ∧ (SqL X.K H p ys ∨ SqT X.K H p ys) ∧ Q (.int ys.length) H) := by
  intro pins s σ H xs us Q I r h
  obtain ⟨p, ys, rfl, hq, q⟩ := h
  obtain ⟨u, rfl, rx⟩ := vals1 r
  cases rx
  have hn := line63
  rcases hq with hq | hq
  · obtain ⟨its, r', pl, hz⟩ := I.list hq
    have hlen := r'.length
    exact Calls.call_len_list pl.isList (by simp only [List.size_toArray] <;> omega) ⟨.int ys.length, H, I.tok _, ⟨s.toks + 1, by rw [List.size_toArray, hlen]⟩, q⟩
  · obtain ⟨its, r', pl, hz⟩ := I.tuple hq
    have hlen := r'.length
    exact len_tuple pl (by simp only [List.size_toArray] <;> omega) ⟨.int ys.length, H, I.tok _, ⟨s.toks + 1, by rw [List.size_toArray, hlen]⟩, q⟩
theorem CallR.or {f : Value} {r r' : List V → Hp → VK → Prop} (h : CallR X f r) (h' : CallR X f r') : CallR X f (fun xs H Q => r xs H Q ∨ r' xs H Q) := by
  intro pins s σ H xs us Q I rs q
  rcases q with q | q
  · exact h pins s σ H xs us Q I rs q
  · exact h' pins s σ H xs us Q I rs q
theorem call_tuple_of : CallR X (.type "tuple") (fun xs H Q => ∃ p ys, xs = [.ref p] ∧ ((SqL X.K H p ys ∧ ∀ l, H l = none → Q (.ref l) (upd H l (.tup ys))) ∨ (SqT X.K H p ys ∧ Q (.ref p) H))) := by
  intro pins s σ H xs us Q I r h
  obtain ⟨p, ys, rfl, h⟩ := h
  obtain ⟨u, rfl, rx⟩ := vals1 r
  cases rx
  rcases h with ⟨hq, q⟩ | ⟨hq, q⟩
  · obtain ⟨its, r', pl, hz⟩ := I.list hq
    have hlen := r'.length
    refine call_tuple_list pl.isList (fun h' kp => ?_) (by simp only [List.size_toArray] <;> omega)
    have I1 : Inv X pins σ H { s with heap := h' } := I.kept (t' := s.toks) kp
    have I2 : Inv X pins σ (upd H h'.objs.size (.tup ys)) { s with heap := h'.push { cls := .type "tuple", data := .seq its.toArray } } :=
      I1.laid (t' := s.toks) (fun b o e => Heap.get?_push_of_some _ e) (Nat.le_refl _) (show ObjOk X.prog X.w _ _ _ (.tup ys) from ⟨hz, its, r', IsTup.new _ _⟩)
    exact ⟨.ref h'.objs.size, _, I2, rfl, q _ (I1.hok.fresh (Nat.le_refl _))⟩
  · obtain ⟨its, r', pl, hz⟩ := I.tuple hq
    exact call_tuple_same pl ⟨.ref p, H, I, rfl, q⟩
def tyV (K : PySem.W.Frag) (T : String) (x : V) (H : Hp) : Prop := match x with
  | .str _ => T = "str"
  | .int _ => T = "int"
  | .ref p => (T = "list" ∧ ∃ xs, SqL K H p xs) ∨ (T = "tuple" ∧ ∃ o, K.lookup p = some o ∧ o.cls = .type "tuple" ∧ o.dict = none) ∨
      (T = "dict" ∧ ((∃ kvs, H p = some (.dK kvs)) ∨ ∃ kvs, H p = some (.dT kvs))) ∨ (T = "set" ∧ ∃ S n, H p = some (.set S n))
  | _ => False
theorem tyV_is {pins : List (Addr × Obj)} {σ : St} {H : Hp} {s : Shared} {T : String} {x : V} {v : Value} (I : Inv X pins σ H s) (r : RelV x v) (ty : tyV X.K T x H) :
    s.TypeIs v T ∧ ∀ a, v = .ref a → ∃ ob, s.heap.get? a = some ob ∧ ob.dict = none := by
  cases x with
  | str z =>
    obtain ⟨t, rfl⟩ := r
    cases (show T = "str" from ty)
    exact ⟨typeIs_str s z t, fun _ e => nomatch e⟩
  | int i =>
    obtain ⟨t, rfl⟩ := r
    cases (show T = "int" from ty)
    exact ⟨typeIs_int s i t, fun _ e => nomatch e⟩
  | ref p =>
    cases r
    rcases ty with ⟨rfl, xs, hq⟩ | ⟨rfl, o, hk, hc, hd⟩ | ⟨rfl, hk⟩ | ⟨rfl, S, n, hk⟩
    · obtain ⟨its, _, pl, _⟩ := I.list hq
      refine ⟨pl.isList.typeIs, fun a e => ?_⟩
      cases e
      obtain ⟨o, n, e, c, hd, _⟩ := pl
      exact ⟨o, e, hd⟩
    · refine ⟨⟨o, I.kIn p o hk, hc⟩, fun a e => ?_⟩
      cases e
      exact ⟨o, I.kIn _ o hk, hd⟩
    · have z : ∃ o, s.heap.get? p = some o ∧ o.ExactDict := by
        rcases hk with ⟨kvs, hk⟩ | ⟨kvs, hk⟩
        · obtain ⟨_, _, _, _, o, _, _, e, ex, _⟩ := I.hok p _ hk
          exact ⟨o, e, ex⟩
        · obtain ⟨_, _, _, _, o, _, _, e, ex, _⟩ := I.hok p _ hk
          exact ⟨o, e, ex⟩
      obtain ⟨o, e, ex⟩ := z
      refine ⟨⟨o, e, ex.1⟩, fun a e2 => ?_⟩
      cases e2
      exact ⟨o, e, ex.2.1⟩
    · obtain ⟨o, _, _, _, e, ex, _⟩ := I.hok p _ hk
      refine ⟨⟨o, e, ex.1⟩, fun a e2 => ?_⟩
      cases e2
      exact ⟨o, e, ex.2.1⟩
  | _ => exact False.elim ty
def tBM (K : PySem.W.Frag) (T : String) (r : V → List V → Hp → VK → Prop) (to : TE) (t : TA) : TE := fun σ H Q => to σ H fun x H1 => tyV K T x H1 ∧ t σ H1 fun xs H2 => r x xs H2 Q
variable {o e : Expr} {es : List Expr} {to : TE} {t : TA} {name : Str} {apos cpos : Pos} {T id : String} {r : V → List V → Hp → VK → Prop}
theorem pe_bm (pa : PlainAttrs T) (slot : Slot T name id) (hty : typeOf (.builtin id) = pure (.type "method_descriptor")) (hm : MtR X id r) (ho : PE X o to) (ha : PA X (e :: es) t)
    (hbase : attributeBase o name X.env (eval o X.env) = eval o X.env := by rfl)
    (hfew : ((backTo cpos (starEach (e :: es) X.env)).all (fun x => !x.1) && (backToKw cpos (keywordEach [] X.env)).all (fun x => x.1.isSome)
      && decide ((e :: es).length + ([] : List Keyword).length + (if ([] : List Keyword).isEmpty then 0 else 1) < 30)) = true := by rfl)
    (hline : (apos.endLine == cpos.line) = true := by rfl) (hs : starEach (e :: es) X.env = (false, eval e X.env) :: starEach es X.env := by rfl) (hplain : (backTo cpos (starEach es X.env)).any (·.1) = false := by rfl) :
    PE X (.Call (.Attribute o name apos) (e :: es) [] cpos) (tBM X.K T r to t) := by
  intro pins s σ H Q I h
  refine wpAny_Call_method_late hbase hfew hline rfl (thn (ho pins s σ H _ I h) fun v s1 ⟨x, H1, I1, r1, ty, q1⟩ => ?_)
  obtain ⟨h1, h2⟩ := tyV_is I1 r1 ty
  refine ⟨T, id, pa, slot, hty, h1, h2, ?_⟩
  have hA := ha cpos pins s1 σ H1 _ I1 q1
  rw [hs] at hA ⊢
  refine Calls.callWith_builtin (by show (false || (backTo cpos (starEach es X.env)).any (·.1)) = false; rw [hplain] <;> rfl) (Calls.evalArgs_plain ?_)
  exact thn hA fun us s2 ⟨vs, H2, I2, r2, q2⟩ => hm pins s2 σ H2 x vs v us Q I2 r1 r2 q2
end
end L2
namespace L2
open PySem PySem.Spec PyProof.Rows
def MtM (X : Cx) (id : String) (r : V → List V → Hp → VK → Prop) : Prop :=
  ∀ (pins : List (Addr × Obj)) (s : Shared) (σ : St) (H : Hp) (x : V) (xs : List V) (v : Value) (us : List Value) (Q : VK), Inv X pins σ H s → RelV x v → Vals xs us → r x xs H Q →
    wpAny (model X.prog X.w) X.A (call (.builtin id) (v :: us)) (EP X pins σ Q) X.xe s
theorem Vals.one : ∀ {x : V} {us : List Value}, Vals [x] us → ∃ u, us = [u] ∧ RelV x u
  | _, _, .cons r .nil => ⟨_, rfl, r⟩
theorem Vals.dropLast {xs : List V} {us : List Value} (h : Vals xs us) : Vals xs.dropLast us.dropLast := by
  induction h with
  | nil => exact .nil
  | cons r t ih =>
    cases t with
    | nil => exact .nil
    | cons q t' => exact .cons r ih
theorem Vals.reverse {xs : List V} {us : List Value} (h : Vals xs us) : Vals xs.reverse us.reverse := by
  induction h with
  | nil => exact .nil
  | cons r t ih => rw [List.reverse_cons, List.reverse_cons]; exact Vals.append ih (.cons r .nil)
section
variable {X : Cx} {pins : List (Addr × Obj)} {σ : St} {H : Hp} {s : Shared} {l b : Addr} {xs ys zs : List V}
theorem Inv.lset {its its' : List Value} {n : Nat} {f : Array Value → Array Value} {t' : Nat} (I : Inv X pins σ H s) (hH : H l = some (.lst xs))
    (e : s.heap.get? l = some { cls := .type "list", data := .seq its.toArray n }) (hf : f its.toArray = its'.toArray) (hv : Vals ys its') (hz : ys.length ≤ sizeLine) :
    Inv X pins σ (upd H l (.lst ys)) { s with heap := s.heap.update l (Obj.mapSeq f), toks := t' } := by
  have q := PySem.IsL.update e f
  rw [hf] at q
  refine I.write (x := l) (e := l) (by rw [hH]; exact trivial) (.inl rfl) (fun b' u hb hu => (Heap.get?_update_other s.heap (Obj.mapSeq f) (Ne.symm hb)).trans hu) ⟨_, q⟩ ?_
  exact ⟨hz, its', _, hv, q⟩
theorem Inv.fresh (I : Inv X pins σ H s) : H s.heap.objs.size = none := I.hok.fresh (Nat.le_refl _)
theorem Inv.lstM (I : Inv X pins σ H s) (hH : H l = some (.lst xs)) : xs.length ≤ sizeLine ∧ ∃ (its : List Value) (n : Nat), Vals xs its ∧ xs.length = its.length ∧ s.heap.get? l = some { cls := .type "list", data := .seq its.toArray n } := by
  obtain ⟨z, its, n, r, e⟩ := I.hok l _ hH
  exact ⟨z, its, n, r, r.length, e⟩
end
section
variable {X : Cx}
def rAppend : V → List V → Hp → VK → Prop := fun x vs H Q => ∃ l xs y, x = .ref l ∧ vs = [y] ∧ H l = some (.lst xs) ∧ xs.length < sizeLine ∧ Q .non (upd H l (.lst (xs ++ [y])))
theorem mt_append : MtM X "list.append" rAppend := by
  intro pins s σ H x vs v us Q I rx rv h
  obtain ⟨l, xs, y, rfl, rfl, hH, hz, q⟩ := h
  cases rx
  obtain ⟨u, rfl, ru⟩ := rv.one
  obtain ⟨z, its, n, r, hl, e⟩ := I.lstM hH
  refine call_meets F.slot_list_append ⟨_, e, rfl⟩ F.entry_list_append (F.args_list_append_2 _ _) (PySem.list_append l its.toArray n u (by rw [List.size_toArray]; omega)) ⟨e, ?_⟩
  refine ⟨.non, _, I.lset (its' := its ++ [u]) hH e (by simp) (r.append (.cons ru .nil)) ?_, rfl, q⟩
  rw [List.length_append, List.length_singleton]
  omega
end
section
variable {prog : Program} {w : World} {A : Around} {E : Value → Shared → Prop} {s : Shared}
end
section
variable {X : Cx}
end
end L2
namespace Att
open PySem PySem.W PySem.Calls PyProof.Rows
theorem ints_of_wellAll {P : Params} {h : Heap} : ∀ (ns : List Int) (vs : List Value), WellAll P h vs (ns.map WData.int) → IntsAre vs ns := by
  intro ns
  induction ns with
  | nil =>
    intro vs w
    rw [List.map_nil] at w
    cases w
    exact .nil
  | cons n ns ih =>
    intro vs w
    rw [List.map_cons] at w
    cases w with
    | cons a b =>
      cases a
      exact .cons _ _ (ih _ b)
theorem script_of {l : OpenLaw} {n : Nat} (hn : l.most = some n) {P : Params} {h : Heap} {args : List WData} {vals : List Value}
    (hpre : l.row.toRowW.claim.pre args = true) (hwl : WellAll P h vals args) :
    ∃ a vs ns, vals = [Value.ref a] ∧ args = [WData.list (ns.map WData.int)] ∧ h.get? a = some { cls := .type "list", data := .seq vs.toArray } ∧ IntsAre vs ns ∧ ns.length ≤ n := by
  have hsh : WShape.hasAll [] args [.list .int] = true := (pre_splitW hpre).1
  have hc : l.pre.holds [] { args := args } = true := (pre_splitW hpre).2
  obtain ⟨d, r, rfl, h1, h2⟩ := hasAllW_cons hsh
  obtain rfl := hasAllW_nil h2
  obtain ⟨xs, rfl, h3⟩ := hasW_list h1
  obtain ⟨ns, rfl⟩ := items_int h3
  have hlen : ns.length ≤ n := by
    unfold OpenLaw.pre at hc
    have h4 : (WTm.not (.lt (.lit (.int (n : Int))) (.len (.arg 0)))).holds [] { args := [.list (ns.map .int)] } = true := by
      have h4 := (holds_andW hc).1
      rw [hn] at h4
      exact h4
    have h5 := condW_of h4 (w_not (w_lt w_lit (w_len_list (w_arg rfl))))
    rw [List.length_map] at h5
    refine Nat.le_of_not_lt fun q => ?_
    have q' : (n : Int) < ((ns.length : Nat) : Int) := by omega
    first
      | (rw [decide_eq_true q'] at h5; exact absurd h5 (by decide))
      | (simp at h5; omega)
  cases hwl with
  | cons w1 w2 =>
    cases w2
    cases w1 with
    | list ho hall => exact ⟨_, _, ns, rfl, rfl, ho, ints_of_wellAll ns _ hall, hlen⟩
theorem post_true (l : OpenLaw) (args : List WData) : l.row.toRowW.claim.post args (.bool true) args = true :=
  postW_of (r := l.row.toRowW) (X := (true == true))
    (show WShape.has [] (.bool true) .bool = true by first | rfl | decide | simp [WShape.has, WShape.arms, WShape.armsAll])
    (show (WTm.eq .res (.lit (.bool true))).value [] { args := args, res := some (.bool true), after := args } = some (.bool (true == true)) from w_eq_bool (w_res rfl) w_lit) rfl
theorem attach_call {l : OpenLaw} {n : Nat} {q : Program} {loose : List Str} {XP : (Str → Option Value) → Heap → Prop} {YP : World → Heap → Prop} {d : DefRec}
    (hn : l.most = some n) (hdf : d.params.defaults = [])
    (call : ∀ (w : World) (s₀ s₁ : Shared) (mg mb : Str → Option Value) (fa : Addr) (o : Obj) (pm cd doc : Value) (a : Addr) (vs : List Value) (ns : List Int),
      Ground q loose [] XP w s₀ mg mb s₁.heap → YP w s₁.heap →
      s₁.heap.get? fa = some o → o.data = .func (docDef d.name d.params d.body d.scope pm cd doc) → s₁.heap.CodeRec cd d.name → mg d.name = some (.ref fa) →
      s₁.heap.get? a = some { cls := .type "list", data := .seq vs.toArray } → IntsAre vs ns → ns.length ≤ n → s₁.gens = #[] →
      codeAny (model l.prog w) callerA (.call (.ref fa) ⟨[.ref a], []⟩) (fun r s' => r = .ok (.ret (.bool true)) ∧ OldK s₁.heap s'.heap ∧ s'.os = s₁.os ∧ AllBare s'.gens) s₁) :
    WalkO q loose XP YP l.row.toRowW d [] (fun f vs => PySem.call f vs) := by
  intro w s₀ s₁ mg mb G Y fa o pm cd doc dV kV ho hd hcd hD hmg hg args vals as hpre hlay hrd hwl hlo
  obtain rfl : dV = .none := Dflts.none hD hdf
  obtain rfl : kV = .none := Dflts.noKw hD
  obtain ⟨a, vs, ns, rfl, rfl, hobj, hints, hlen⟩ := script_of hn hpre hwl
  refine enter_call (codeAny_mono (call w s₀ s₁ mg mb fa o pm cd doc a vs ns G Y ho (fd_plain hd) hcd hmg hobj hints hlen hg) fun r s' hq => ?_)
  obtain ⟨rfl, h2, h3, h4⟩ := hq
  exact ⟨.inl ⟨.bool true, .bool true, [], rfl, fun _ => rfl, .bool true, post_true l _, fun _ => ⟨List.Pairwise.nil, fun _ hm => (nomatch hm)⟩⟩, h2, h3, h4⟩
section
variable {prog : Program} {w : World} {A : Around} {E : Value → Shared → Prop} {s : Shared} {K : Frag}
def ledger (h : Heap) (L d : Addr) : List (Addr × Obj) := (List.range h.objs.size).filterMap fun a => if a = L ∨ a = d then none else (h.get? a).map fun o => (a, o)
end
end Att
namespace L2
open PySem PySem.Spec PyProof.Rows
theorem vals_ints : ∀ {vs : List Value} {ns : List Int}, IntsAre vs ns → Vals (ns.map V.int) vs
  | _, _, .nil => .nil
  | _, _, .cons n t h => .cons ⟨t, rfl⟩ (vals_ints h)
def Only (H : Hp) : Prop := ∀ b, H b = none ∨ ∃ o xs, H b = some (.frz o (.lst xs))
theorem law_call {P : Program} {w : World} {K : PySem.W.Frag} {mg mb : Str → Option Value} {CX : CXT} {k : Nat} {fa a : Addr} {fd : FuncData} {x : Str} {sp : Sp} {s₁ : Shared} {vs : List Value} {ns : List Int}
    (KX : K.In s₁.heap) (hns : s₁.heap.Ns mainGlobals mg) (hb : s₁.heap.Ns builtinsNs mb) (hbb : ∀ x : Str, x ≠ "__name__" → mb x = bootBuiltins x) (hlim : s₁.heap.NoLimit) (hg : s₁.gens = #[])
    (ha : s₁.heap.get? a = some { cls := .type "list", data := .seq vs.toArray }) (hi : IntsAre vs ns) (hl : ns.length ≤ sizeLine) (hr : Room k callerA)
    (F : ∀ base : Heap, K.In base → base.Ns mainGlobals mg → FnOk P w K mg base CX k fa fd [x] sp) (hbind : ∀ (s : Shared) (u : Value), BindsTo s fd ⟨[u], []⟩ [(x, u)])
    (hsp : ∀ H : Hp, Only H → SqL K H a (ns.map V.int) → sp [.ref a] H (fun v _ => v = .bl true) fun _ _ _ => False)
    (hCX : ∀ H e s', CX [] H s₁ (fun _ _ _ => False) e s' → False) :
    codeAny (model P w) callerA (.call (.ref fa) ⟨[.ref a], []⟩) (fun r s' => r = .ok (.ret (.bool true)) ∧ OldK s₁.heap s'.heap ∧ s'.os = s₁.os ∧ AllBare s'.gens) s₁ := by
  have rv := vals_ints hi
  have lenV := hi.length
  have core : ∀ H : Hp, Only H → SqL K H a (ns.map V.int) → HOk P w H s₁.heap → (∀ b, H b ≠ none → b = a) → (H a ≠ none → K.lookup a = none) →
      codeAny (model P w) callerA (.call (.ref fa) ⟨[.ref a], []⟩) (fun r s' => r = .ok (.ret (.bool true)) ∧ OldK s₁.heap s'.heap ∧ s'.os = s₁.os ∧ AllBare s'.gens) s₁ := by
    intro H hO hS hok hA hK
    have base_of : ∀ {b : Addr} {o : Obj}, s₁.heap.get? b = some o → H b = none → (hidT s₁.heap H).get? b = some o := fun e n => hidT_get e n
    have noA : ∀ {b : Addr} {o : Obj} {es : Array DictEntry} {ep : Nat}, s₁.heap.get? b = some o → o.data = .dict es ep → H b = none := fun {b o es ep} e d => by
      cases q : H b with
      | none => rfl
      | some u =>
        have e' : b = a := hA b (by rw [q]; simp)
        subst e'
        rw [ha] at e; cases e
        have d' : Data.seq vs.toArray _ = Data.dict es ep := d
        cases d'
    have nsK : ∀ {b : Addr} {m : Str → Option Value}, s₁.heap.Ns b m → (hidT s₁.heap H).Ns b m := fun {b m} ⟨o, es, ep, e, d, r⟩ => ⟨o, es, ep, base_of e (noA e d), d, r⟩
    have hKb : K.In (hidT s₁.heap H) := fun b o e => base_of (KX b o e) (by
      cases q : H b with
      | none => rfl
      | some u =>
        have e' : b = a := hA b (by rw [q]; simp)
        subst e'
        rw [hK (by rw [q]; simp)] at e; cases e)
    have hM : Mod K mg (hidT s₁.heap H) := ⟨hKb, nsK hns, ⟨mb, nsK hb, hbb⟩, let ⟨mc, h1, h2⟩ := hlim; ⟨mc, nsK h1, h2⟩⟩
    have e0 : Env0 P w K mg (hidT s₁.heap H) callerA [] s₁ H := ⟨rfl, hM, fun b o e => of_hidT e, Nat.le_of_eq (hidT_size _ _), trivial, fun b hb => absurd (show b ∈ ([] : List Addr) from hb) (by simp), hok, .of_eq hg⟩
    refine codeAny_mono ((F _ hKb (nsK hns)).run callerA [] s₁ H ⟨[.ref a], []⟩ [.ref a] [.ref a] _ _ hr e0 (hbind s₁ (.ref a)) (.cons rfl .nil) (hsp H hO hS)) fun r s' h => ?_
    cases r with
    | error e => exact (hCX H e s' h).elim
    | ok fl =>
      cases fl with
      | next => exact False.elim h
      | brk => exact False.elim h
      | cont => exact False.elim h
      | ret u =>
        obtain ⟨v, H', os, bare, un, hok', r', q⟩ := h
        have q' : v = .bl true := q
        subst q'
        obtain rfl : u = Value.bool true := r'
        refine ⟨rfl, OldK.of_keep fun b o e => ?_, os, bare⟩
        cases q : H b with
        | none => exact un.keep b o e q (by intro z; exact absurd (show b ∈ ([] : List Addr) from z) (by simp)) (by simp)
        | some u =>
          rcases hO b with z | ⟨ob, xs, z⟩
          · rw [q] at z; cases z
          · have z2 := un.frzs b ob _ z
            obtain ⟨e1, _⟩ := hok b _ z
            obtain ⟨e2, _⟩ := hok' b _ z2
            rw [e] at e1; cases e1
            exact e2
  cases hk : K.lookup a with
  | some o =>
    have e := KX a o hk
    rw [ha] at e
    cases e
    refine core (fun _ => none) (fun _ => .inl rfl) (.inr ⟨_, vs.toArray, _, hk, rfl, rfl, rfl, by rw [List.size_toArray, lenV]; exact hl, by simpa using rv⟩) (fun b u z => by have z' : (none : Option HO) = some u := z; cases z') (fun b z => absurd rfl z) fun z => absurd rfl z
  | none =>
    refine core (fun b => if b = a then some (.frz { cls := .type "list", data := .seq vs.toArray } (.lst (ns.map V.int))) else none) (fun b => ?_) (.inl (.inr ⟨{ cls := .type "list", data := .seq vs.toArray }, if_pos rfl⟩)) (fun b u z => ?_) (fun b z => ?_) fun _ => hk
    · by_cases hb : b = a
      · exact .inr ⟨_, _, if_pos hb⟩
      · exact .inl (if_neg hb)
    · by_cases hb : b = a
      · have z' := (if_pos hb).symm.trans z
        cases z'
        subst hb
        exact ⟨ha, by rw [List.length_map]; exact hl, vs, _, rv, ha⟩
      · have z' := (if_neg hb).symm.trans z
        cases z'
    · by_cases hb : b = a
      · exact hb
      · exact absurd (if_neg hb) z
end L2
namespace L2
open PySem PySem.Spec PyProof.Rows
abbrev KOf {K : PySem.W.Frag} {h : Heap} (_ : K.In h) : PySem.W.Frag := K
theorem walk_of {l : PySem.W.OpenLaw} {n k : Nat} {q : Program} {loose : List Str} {XP : (Str → Option Value) → Heap → Prop} {YP : World → Heap → Prop} {d : DefRec} {K : Params → PySem.W.Frag} {CX : World → CXT} {sp : World → Sp} {x : Str}
    (hn : l.most = some n) (hn2 : n ≤ sizeLine) (hdf : d.params.defaults = []) (hr : Room k callerA)
    (hY : ∀ (w : World) (h : Heap), YP w h → (K w.params).In h)
    (F : ∀ (w : World) (mg : Str → Option Value) (fa : Addr) (h : Heap), (K w.params).In h → h.Ns mainGlobals mg → mg d.name = some (.ref fa) →
      ∃ fd : FuncData, (∀ (s : Shared) (u : Value), BindsTo s fd ⟨[u], []⟩ [(x, u)]) ∧
        ∀ base : Heap, (K w.params).In base → base.Ns mainGlobals mg → FnOk l.prog w (K w.params) mg base (CX w) k fa fd [x] (sp w))
    (hsp : ∀ (w : World) (H : Hp) (a : Addr) (ns : List Int), ns.length ≤ n → Only H → SqL (K w.params) H a (ns.map V.int) → sp w [.ref a] H (fun v _ => v = .bl true) fun _ _ _ => False)
    (hCX : ∀ (w : World) (H : Hp) (s : Shared) (e : Value) (s' : Shared), CX w [] H s (fun _ _ _ => False) e s' → False) :
    PySem.W.WalkO q loose XP YP l.row.toRowW d [] (fun f vs => PySem.call f vs) := by
  refine Att.attach_call hn hdf fun w s₀ s₁ mg mb fa o pm cd doc a vs ns G Y ho hd hcd hmg hobj hints hlen hg => ?_
  have KX := hY w _ Y
  obtain ⟨fd, hb, hF⟩ := F w mg fa _ KX G.T.g hmg
  exact law_call KX G.T.g G.T.b G.T.builtins G.T.nolimit hg hobj hints (Nat.le_trans hlen hn2) hr hF hb (fun H hO hS => hsp w H a ns hlen hO hS) fun H e s' => hCX w H s₁ e s'
end L2
namespace L2
open PySem PySem.Spec PyProof.Rows
def defArgs (s : Stmt) : Arguments := match s with
  | .FunctionDef _ a _ _ _ _ _ _ _ _ => a
  | _ => { posonlyargs := [], args := [], vararg := none, kwonlyargs := [], kw_defaults := [], kwarg := none, defaults := [] }
def defBody (s : Stmt) : List Stmt := match s with
  | .FunctionDef _ _ b _ _ _ _ _ _ _ => b
  | _ => []
def defScope (s : Stmt) : Scope := match s with
  | .FunctionDef _ _ _ _ _ _ sc _ _ _ => sc
  | _ => { kind := .function, names := [], isGenerator := false, isCoroutine := false }
abbrev CX0 : CXT := fun _ _ _ _ _ _ => False
abbrev E0 : XK := fun _ _ _ => False
theorem pass0 {X : Cx} : Passes CX0 X E0 := fun _ _ _ _ _ _ _ h => h.elim
structure Fun (K : PySem.W.Frag) (x qual : Str) (st : Stmt) (f : Addr) (fd : FuncData) : Prop where
  ex : ∃ (oc : Value) (od : Option Addr) (kV doc pm : Value) (an : Option Addr) (cdv ct : Value) (osl : Array (Option Value)),
    fd = PySem.W.fnOf x qual (defArgs st) (defBody st) (defScope st) .none kV doc pm an cdv ct ∧ K.lookup f = some ⟨oc, od, .func fd, osl⟩ ∧ PySem.W.codeIn K cdv qual = true
  kp : PySem.W.keepIn K (.ref f) = true
section
variable {P : Program} {w : World} {K : PySem.W.Frag} {mg : Str → Option Value} {base : Heap}
theorem Fun.ok {x qual : Str} {st : Stmt} {f : Addr} {fd : FuncData} {N ps : List Str} {k : Nat} {sp : Sp} (F : Fun K x qual st f fd) (S : FnScope N ps (defScope st)) (len : ∀ vs H Q E, sp vs H Q E → vs.length = ps.length)
    (hbody : ∀ (cdv : Value) (A : Around) (outer : List Env) (s : Shared) (H : Hp) (vs : List V) (Q : VK) (E : XK), Room k (A.deeper (envOfC qual (defScope st) s.heap.objs.size f cdv)) → sp vs H Q E →
      ∃ t, PSs (cxOf CX0 P w K mg base N qual (defScope st) f cdv A outer s H E).nox (defBody st) t ∧ t { nx := fun _ H' => Q .non H', rt := Q } (start N vs) H) : FnOk P w K mg base CX0 (k + 1) f fd ps sp := by
  obtain ⟨oc, od, kV, doc, pm, an, cdv, ct, osl, rfl, lk, hcd⟩ := F.ex
  refine fn_of lk hcd S len fun A outer s H vs Q E hr hsp => ?_
  obtain ⟨t, h, q⟩ := hbody cdv A outer s H vs Q E hr hsp
  exact ⟨t, h.nox, q⟩
theorem Fun.binds {x qual : Str} {st : Stmt} {f : Addr} {fd : FuncData} {ps : List Str} (F : Fun K x qual st f fd)
    (h : ∀ (kV doc pm : Value) (an : Option Addr) (cdv ct : Value) (us : List Value), us.length = ps.length → bindArgs (PySem.W.fnOf x qual (defArgs st) (defBody st) (defScope st) .none kV doc pm an cdv ct) ⟨us, []⟩ = pure (ps.zip us)) : Binds K fd ps [] := by
  obtain ⟨oc, od, kV, doc, pm, an, cdv, ct, osl, rfl, lk, hcd⟩ := F.ex
  exact .all (h kV doc pm an cdv ct)
theorem fun_mk {x qual : Str} {st : Stmt} {f : Addr} {oc : Value} {od an : Option Addr} {osl : Array (Option Value)} {kV doc pm cdv ct : Value} (l : K.lookup f = some ⟨oc, od, .func (PySem.W.fnOf x qual (defArgs st) (defBody st) (defScope st) .none kV doc pm an cdv ct), osl⟩)
    (c : PySem.W.codeIn K cdv qual = true) (k : PySem.W.keepIn K (.ref f) = true) : Fun K x qual st f (PySem.W.fnOf x qual (defArgs st) (defBody st) (defScope st) .none kV doc pm an cdv ct) := ⟨⟨oc, od, kV, doc, pm, an, cdv, ct, osl, rfl, l, c⟩, k⟩
end
theorem small1000 {n : Nat} (h : n ≤ 1000) : n < sizeLine := Nat.lt_of_le_of_lt h (by decide)
section
variable {X : Cx}
theorem pv (i : Nat) {x : Str} {pos : Pos} (hN : X.N[i]? = some x := by rfl) (hv : Vis X.env.scope x := by first | exact Or.inl rfl | exact Or.inr (Or.inl rfl) | exact Or.inr (Or.inr rfl)) (hd : (x == ("__debug__" : Str)) = false := by decide)
    (hcd : (x == ("__classdict__" : Str)) = false := by decide) : PE X (.Name x pos) (tVar i) := pe_var hN hv hd hcd
end
def Same (H H' : Hp) : Prop := ∀ b o, H b = some o → H' b = some o
theorem Same.refl (H : Hp) : Same H H := fun _ _ h => h
theorem Same.trans {H H1 H2 : Hp} (a : Same H H1) (b : Same H1 H2) : Same H H2 := fun c o h => b c o (a c o h)
theorem Same.free {H H' : Hp} (e : Same H H') {l : Addr} (h : H' l = Option.none) : H l = Option.none := by
  cases q : H l with
  | none => rfl
  | some o =>
    rw [e l o q] at h
    cases h
theorem Same.seq {K : PySem.W.Frag} {H H' : Hp} {a : Addr} {xs : List V} (e : Same H H') (h : SqL K H a xs) : SqL K H' a xs := by
  rcases h with (h | ⟨o, h⟩) | h
  · exact .inl (.inl (e _ _ h))
  · exact .inl (.inr ⟨o, e _ _ h⟩)
  · exact .inr h
end L2
section
set_option Elab.async false
set_option linter.all false
set_option maxRecDepth 100000
set_option maxHeartbeats 4000000
namespace TL
open PySem PySem.Spec PyProof.Rows L2
abbrev St := L2.St
def nst : Expr → Bool
  | .Starred _ _ => false
  | _ => true
theorem star1 {e : Expr} {es : List Expr} {env : Env} (h : nst e = true) : starEach (e :: es) env = (false, eval e env) :: starEach es env := by
  cases e <;> first | rfl | cases h
theorem stars {env : Env} {pos : Pos} : ∀ {es : List Expr}, es.all nst = true → (backTo pos (starEach es env)).any (·.1) = false
  | [], _ => rfl
  | e :: es, h => by
    rw [List.all_cons, Bool.and_eq_true] at h
    rw [star1 h.1]
    show (false || (backTo pos (starEach es env)).any (·.1)) = false
    rw [stars h.2]
    rfl
inductive T where
  | non | bl (b : Bool) | int (i : Int) | str (x : Str) | tup (ts : List T) | lst (ts : List T) | dct | exc (c : Str) | exf (c f : Str) (t : T)
abbrev kn (o : Obj) : HO := .frz o (.ext fun _ => True)
abbrev noDict : Obj := { cls := .type "dict", data := .dict #[] 0 }
structure ExcAt (K : PySem.W.Frag) (H : Hp) (c : Str) (p : Addr) : Prop where
  ex : ∃ (o : Obj) (C : Addr) (ws : Array Value), H p = some (kn o) ∧ o.cls = .ref C ∧ o.data = .fields ws ∧ PySem.W.nsIn K mainGlobals c = some (some (.ref C))
structure ExfAt (K : PySem.W.Frag) (H : Hp) (c f : Str) (p d : Addr) (od : Obj) (u : Value) : Prop where
  ex : ∃ (o : Obj) (C : Addr) (ws : Array Value), H p = some (kn o) ∧ o.cls = .ref C ∧ o.data = .fields ws ∧ o.dict = some d ∧ PySem.W.nsIn K mainGlobals c = some (some (.ref C))
  dict : H d = some (kn od)
  look : PySem.W.lookIn f od = some (some u)
def SqF (K : PySem.W.Frag) (H : Hp) (a : Addr) (xs : List V) : Prop :=
  (∃ o, H a = some (.frz o (.lst xs))) ∨
    ∃ (o : Obj) (its : Array Value) (n : Nat), K.lookup a = some o ∧ o.cls = .type "list" ∧ o.dict = none ∧ o.data = .seq its n ∧ its.size ≤ sizeLine ∧ Vals xs its.toList
mutual
def Rep (K : PySem.W.Frag) (H : Hp) : T → V → Prop
  | .non, v => v = .non
  | .bl b, v => v = .bl b
  | .int i, v => v = .int i
  | .str x, v => v = .str x
  | .tup ts, v => ∃ p vs, v = .ref p ∧ SqT K H p vs ∧ Reps K H ts vs
  | .lst ts, v => ∃ p vs, v = .ref p ∧ SqF K H p vs ∧ Reps K H ts vs
  | .dct, v => ∃ p, v = .ref p ∧ H p = some (kn noDict)
  | .exc c, v => ∃ p, v = .ref p ∧ ExcAt K H c p
  | .exf c f t, v => ∃ p, v = .ref p ∧ ∃ d od u y, ExfAt K H c f p d od u ∧ RelV y u ∧ Rep K H t y
def Reps (K : PySem.W.Frag) (H : Hp) : List T → List V → Prop
  | [], vs => vs = []
  | t :: ts, vs => ∃ v r, vs = v :: r ∧ Rep K H t v ∧ Reps K H ts r
end
structure Kp (H H' : Hp) : Prop where
  tup : ∀ b xs, H b = some (.tup xs) → H' b = some (.tup xs)
  frz : ∀ b o u, H b = some (.frz o u) → H' b = some (.frz o u)
theorem Kp.refl (H : Hp) : Kp H H := ⟨fun _ _ h => h, fun _ _ _ h => h⟩
theorem Kp.trans {H H1 H2 : Hp} (a : Kp H H1) (b : Kp H1 H2) : Kp H H2 := ⟨fun c xs h => b.tup c xs (a.tup c xs h), fun c o u h => b.frz c o u (a.frz c o u h)⟩
theorem Kp.of {H H' : Hp} (s : Same H H') : Kp H H' := ⟨fun b _ h => s b _ h, fun b _ _ h => s b _ h⟩
theorem same_new {H : Hp} {p : Addr} (h : H p = none) (o : HO) : Same H (upd H p o) := fun b u q => by rw [upd_ne (ne_of_none q h)]; exact q
theorem Kp.write {H : Hp} {p : Addr} {xs : List V} (h : H p = some (.lst xs)) (o : HO) : Kp H (upd H p o) :=
  ⟨fun b ys q => by rw [upd_ne (by rintro rfl; rw [h] at q; cases q)]; exact q, fun b ob u q => by rw [upd_ne (by rintro rfl; rw [h] at q; cases q)]; exact q⟩
section
variable {K : PySem.W.Frag} {H H' : Hp}
theorem SqF.sq {a : Addr} {xs : List V} (h : SqF K H a xs) : SqL K H a xs := h.elim (fun ⟨o, e⟩ => .inl (.inr ⟨o, e⟩)) .inr
theorem sqF_kp {a : Addr} {xs : List V} (k : Kp H H') (h : SqF K H a xs) : SqF K H' a xs := h.elim (fun ⟨o, e⟩ => .inl ⟨o, k.frz _ _ _ e⟩) .inr
theorem sqT_kp {a : Addr} {xs : List V} (k : Kp H H') (h : SqT K H a xs) : SqT K H' a xs := by
  rcases h with (h | ⟨o, h⟩) | h
  · exact .inl (.inl (k.tup _ _ h))
  · exact .inl (.inr ⟨o, k.frz _ _ _ h⟩)
  · exact .inr h
theorem rep_tup {ts : List T} {v : V} : Rep K H (.tup ts) v ↔ ∃ p vs, v = .ref p ∧ SqT K H p vs ∧ Reps K H ts vs := by rw [Rep]
theorem rep_lst {ts : List T} {v : V} : Rep K H (.lst ts) v ↔ ∃ p vs, v = .ref p ∧ SqF K H p vs ∧ Reps K H ts vs := by rw [Rep]
theorem rep_int {i : Int} {v : V} : Rep K H (.int i) v ↔ v = .int i := by rw [Rep]
theorem rep_bl {i : Bool} {v : V} : Rep K H (.bl i) v ↔ v = .bl i := by rw [Rep]
theorem rep_str {i : Str} {v : V} : Rep K H (.str i) v ↔ v = .str i := by rw [Rep]
theorem rep_non {v : V} : Rep K H .non v ↔ v = .non := by rw [Rep]
theorem rep_dct {v : V} : Rep K H .dct v ↔ ∃ p, v = .ref p ∧ H p = some (kn noDict) := by rw [Rep]
theorem rep_exc {c : Str} {v : V} : Rep K H (.exc c) v ↔ ∃ p, v = .ref p ∧ ExcAt K H c p := by rw [Rep]
theorem rep_exf {c f : Str} {t : T} {v : V} : Rep K H (.exf c f t) v ↔ ∃ p, v = .ref p ∧ ∃ d od u y, ExfAt K H c f p d od u ∧ RelV y u ∧ Rep K H t y := by rw [Rep]
theorem ExfAt.kp {c f : Str} {p d : Addr} {od : Obj} {u : Value} (k : Kp H H') (h : ExfAt K H c f p d od u) : ExfAt K H' c f p d od u := let ⟨o, C, ws, e, r⟩ := h.ex; ⟨⟨o, C, ws, k.frz _ _ _ e, r⟩, k.frz _ _ _ h.dict, h.look⟩
theorem ExcAt.kp {c : Str} {p : Addr} (k : Kp H H') (h : ExcAt K H c p) : ExcAt K H' c p := let ⟨o, C, ws, e, r⟩ := h.ex; ⟨o, C, ws, k.frz _ _ _ e, r⟩
theorem reps_nil {vs : List V} : Reps K H [] vs ↔ vs = [] := by rw [Reps]
theorem reps_cons {t : T} {ts : List T} {vs : List V} : Reps K H (t :: ts) vs ↔ ∃ v r, vs = v :: r ∧ Rep K H t v ∧ Reps K H ts r := by rw [Reps]
mutual
theorem Rep.kp (k : Kp H H') : ∀ {t : T} {v : V}, Rep K H t v → Rep K H' t v
  | .non, v, h => by rw [rep_non] at h ⊢; exact h
  | .bl b, v, h => by rw [rep_bl] at h ⊢; exact h
  | .int i, v, h => by rw [rep_int] at h ⊢; exact h
  | .str x, v, h => by rw [rep_str] at h ⊢; exact h
  | .tup ts, v, h => by
    rw [rep_tup] at h ⊢
    obtain ⟨p, vs, e, s, r⟩ := h
    exact ⟨p, vs, e, sqT_kp k s, Reps.kp k r⟩
  | .lst ts, v, h => by
    rw [rep_lst] at h ⊢
    obtain ⟨p, vs, e, s, r⟩ := h
    exact ⟨p, vs, e, sqF_kp k s, Reps.kp k r⟩
  | .dct, v, h => by
    rw [rep_dct] at h ⊢
    obtain ⟨p, e, q⟩ := h
    exact ⟨p, e, k.frz _ _ _ q⟩
  | .exc c, v, h => by
    rw [rep_exc] at h ⊢
    obtain ⟨p, e, q⟩ := h
    exact ⟨p, e, q.kp k⟩
  | .exf c f t, v, h => by
    rw [rep_exf] at h ⊢
    obtain ⟨p, e, d, od, u, y, q, r, a⟩ := h
    exact ⟨p, e, d, od, u, y, q.kp k, r, Rep.kp k a⟩
theorem Reps.kp (k : Kp H H') : ∀ {ts : List T} {vs : List V}, Reps K H ts vs → Reps K H' ts vs
  | [], vs, h => by rw [reps_nil] at h ⊢; exact h
  | t :: ts, vs, h => by
    rw [reps_cons] at h ⊢
    obtain ⟨v, r, e, a, b⟩ := h
    exact ⟨v, r, e, Rep.kp k a, Reps.kp k b⟩
end
theorem Reps.length : ∀ {ts : List T} {vs : List V}, Reps K H ts vs → vs.length = ts.length
  | [], vs, h => by rw [reps_nil] at h; subst h; rfl
  | t :: ts, vs, h => by
    rw [reps_cons] at h
    obtain ⟨v, r, e, a, b⟩ := h
    subst e
    simp [Reps.length b]
theorem Reps.get : ∀ {ts : List T} {vs : List V} {i : Nat} {t : T}, Reps K H ts vs → ts[i]? = some t → ∃ v, vs[i]? = some v ∧ Rep K H t v
  | [], vs, i, t, h, e => by simp at e
  | t :: ts, vs, 0, t', h, e => by
    rw [reps_cons] at h
    obtain ⟨v, r, rfl, a, b⟩ := h
    simp at e
    subst e
    exact ⟨v, rfl, a⟩
  | t :: ts, vs, i + 1, t', h, e => by
    rw [reps_cons] at h
    obtain ⟨v, r, rfl, a, b⟩ := h
    obtain ⟨u, h1, h2⟩ := Reps.get (i := i) b (by simpa using e)
    exact ⟨u, by simpa using h1, h2⟩
theorem Reps.append : ∀ {ts us : List T} {vs ws : List V}, Reps K H ts vs → Reps K H us ws → Reps K H (ts ++ us) (vs ++ ws)
  | [], us, vs, ws, h, q => by rw [reps_nil] at h; subst h; exact q
  | t :: ts, us, vs, ws, h, q => by
    rw [reps_cons] at h
    obtain ⟨v, r, rfl, a, b⟩ := h
    show Reps K H (t :: (ts ++ us)) (v :: (r ++ ws))
    rw [reps_cons]
    exact ⟨v, _, rfl, a, Reps.append b q⟩
theorem Reps.one {t : T} {v : V} (h : Rep K H t v) : Reps K H [t] [v] := by
  rw [reps_cons]
  exact ⟨v, [], rfl, h, reps_nil.mpr rfl⟩
theorem Reps.cons {t : T} {v : V} {ts : List T} {vs : List V} (h : Rep K H t v) (r : Reps K H ts vs) : Reps K H (t :: ts) (v :: vs) := by
  rw [reps_cons]
  exact ⟨v, vs, rfl, h, r⟩
theorem Reps.take : ∀ {ts : List T} {vs : List V} (n : Nat), Reps K H ts vs → Reps K H (ts.take n) (vs.take n)
  | [], vs, n, h => by rw [reps_nil] at h; subst h; simp [reps_nil]
  | t :: ts, vs, 0, h => by simp [reps_nil]
  | t :: ts, vs, n + 1, h => by
    rw [reps_cons] at h
    obtain ⟨v, r, rfl, a, b⟩ := h
    exact Reps.cons a (Reps.take n b)
theorem Reps.drop : ∀ {ts : List T} {vs : List V} (n : Nat), Reps K H ts vs → Reps K H (ts.drop n) (vs.drop n)
  | ts, vs, 0, h => by simpa using h
  | [], vs, n + 1, h => by rw [reps_nil] at h; subst h; simp [reps_nil]
  | t :: ts, vs, n + 1, h => by
    rw [reps_cons] at h
    obtain ⟨v, r, rfl, a, b⟩ := h
    exact Reps.drop n b
theorem reps_ints (ns : List Int) : Reps K H (ns.map T.int) (ns.map V.int) := by
  induction ns with
  | nil => exact reps_nil.mpr rfl
  | cons n r ih => exact Reps.cons (rep_int.mpr rfl) ih
end
inductive Slot where
  | no | val (t : T) | own (ts : List T) | see (ts : List T) | dic (ps : List (Int × T)) | vat (t : T) (v : V)
def sget : List Slot → Nat → Slot
  | [], _ => .no
  | s :: _, 0 => s
  | _ :: r, n + 1 => sget r n
def sput : List Slot → Nat → Slot → List Slot
  | [], _, _ => []
  | _ :: r, 0, x => x :: r
  | s :: r, n + 1, x => s :: sput r n x
theorem length_sput : ∀ (τ : List Slot) (i : Nat) (x : Slot), (sput τ i x).length = τ.length
  | [], _, _ => rfl
  | _ :: _, 0, _ => rfl
  | _ :: r, n + 1, x => by simp [sput, length_sput r n x]
theorem sget_same : ∀ {τ : List Slot} {i : Nat} {x : Slot}, i < τ.length → sget (sput τ i x) i = x
  | [], _, _, h => by simp at h
  | _ :: _, 0, _, _ => rfl
  | _ :: r, n + 1, x, h => by simp only [sput, sget]; exact sget_same (by simpa using h)
theorem sget_ne : ∀ {τ : List Slot} {i j : Nat} {x : Slot}, i ≠ j → sget (sput τ i x) j = sget τ j
  | [], _, _, _, _ => rfl
  | _ :: _, 0, 0, _, h => absurd rfl h
  | _ :: _, 0, _ + 1, _, _ => rfl
  | _ :: _, _ + 1, 0, _, _ => rfl
  | _ :: r, i + 1, j + 1, x, h => by simp only [sput, sget]; exact sget_ne (by omega)
theorem sget_big : ∀ {τ : List Slot} {i : Nat}, τ.length ≤ i → sget τ i = .no
  | [], _, _ => rfl
  | _ :: r, 0, h => by simp at h
  | _ :: r, i + 1, h => by simp only [sget]; exact sget_big (by simpa using h)
abbrev IntP := Int × V
def toK (q : IntP) : Key × V := (.inl q.1, q.2)
def SlotOk (K : PySem.W.Frag) (H0 H : Hp) : Slot → Option (Option V) → Prop
  | .no, _ => True
  | .val t, sv => ∃ v, sv = some (some v) ∧ Rep K H t v
  | .own ts, sv => ∃ p vs, sv = some (some (.ref p)) ∧ H p = some (.lst vs) ∧ Reps K H ts vs ∧ H0 p = none
  | .see ts, sv => ∃ p vs, sv = some (some (.ref p)) ∧ H p = some (.lst vs) ∧ Reps K H ts vs ∧ H0 p ≠ none
  | .dic ps, sv => ∃ (p : Addr) (o : Obj) (kvs : List (Int × V)), sv = some (some (.ref p)) ∧ H p = some (.frz o (.dK (kvs.map toK))) ∧ kvs.map (·.1) = ps.map (·.1) ∧ Reps K H (ps.map (·.2)) (kvs.map (·.2))
  | .vat t v, sv => sv = some (some v) ∧ Rep K H t v
structure RepSt (K : PySem.W.Frag) (H0 H : Hp) (σ : St) (τ : List Slot) : Prop where
  same : Same H0 H
  len : τ.length = σ.length
  slot : ∀ i, SlotOk K H0 H (sget τ i) (σ[i]?)
  apart : ∀ i j ts us p, i ≠ j → sget τ i = .own ts → sget τ j = .own us → σ[i]? = some (some (.ref p)) → σ[j]? = some (some (.ref p)) → False
section
variable {K : PySem.W.Frag} {H0 H H' : Hp} {σ : St} {τ : List Slot}
theorem SlotOk.mono {s : Slot} {sv : Option (Option V)} (k : Same H H') (h : SlotOk K H0 H s sv) : SlotOk K H0 H' s sv := by
  cases s with
  | no => trivial
  | val t => obtain ⟨v, e, r⟩ := h; exact ⟨v, e, r.kp (.of k)⟩
  | own ts => obtain ⟨p, vs, e, h1, r, n⟩ := h; exact ⟨p, vs, e, k _ _ h1, r.kp (.of k), n⟩
  | see ts => obtain ⟨p, vs, e, h1, r, n⟩ := h; exact ⟨p, vs, e, k _ _ h1, r.kp (.of k), n⟩
  | dic ps => obtain ⟨p, o, kvs, e, h1, ek, r⟩ := h; exact ⟨p, o, kvs, e, k _ _ h1, ek, r.kp (.of k)⟩
  | vat t v => exact ⟨h.1, h.2.kp (.of k)⟩
theorem RepSt.mono (R : RepSt K H0 H σ τ) (k : Same H H') : RepSt K H0 H' σ τ :=
  ⟨R.same.trans k, R.len, fun i => (R.slot i).mono k, R.apart⟩
theorem RepSt.put {i : Nat} {t : T} {v : V} (R : RepSt K H0 H σ τ) (r : Rep K H t v) : RepSt K H0 H (σ.set i (some v)) (sput τ i (.val t)) := by
  refine ⟨R.same, by rw [length_sput, List.length_set]; exact R.len, fun j => ?_, fun a b ts us p hab ha hb ea eb => ?_⟩
  · by_cases hij : i = j
    · subst hij
      by_cases hi : i < τ.length
      · rw [sget_same hi]
        exact ⟨v, List.getElem?_set_self (by rw [← R.len]; exact hi), r⟩
      · rw [sget_big (by rw [length_sput]; omega)]
        trivial
    · rw [sget_ne hij, List.getElem?_set_ne hij]
      exact R.slot j
  · have na : i ≠ a := by
      rintro rfl
      by_cases hi : i < τ.length
      · rw [sget_same hi] at ha; cases ha
      · rw [sget_big (by rw [length_sput]; omega)] at ha; cases ha
    have nb : i ≠ b := by
      rintro rfl
      by_cases hi : i < τ.length
      · rw [sget_same hi] at hb; cases hb
      · rw [sget_big (by rw [length_sput]; omega)] at hb; cases hb
    rw [sget_ne na] at ha
    rw [sget_ne nb] at hb
    rw [List.getElem?_set_ne na] at ea
    rw [List.getElem?_set_ne nb] at eb
    exact R.apart a b ts us p hab ha hb ea eb
theorem RepSt.putOwn {i : Nat} {ts : List T} {vs : List V} {p : Addr} (R : RepSt K H0 H σ τ) (hp : H p = none) (r : Reps K H ts vs) : RepSt K H0 (upd H p (.lst vs)) (σ.set i (some (.ref p))) (sput τ i (.own ts)) := by
  have S := same_new hp (.lst vs)
  refine ⟨R.same.trans S, by rw [length_sput, List.length_set]; exact R.len, fun j => ?_, fun a b ts' us q hab ha hb ea eb => ?_⟩
  · by_cases hij : i = j
    · subst hij
      by_cases hi : i < τ.length
      · rw [sget_same hi]
        exact ⟨p, vs, List.getElem?_set_self (by rw [← R.len]; exact hi), upd_same, r.kp (.of S), R.same.free hp⟩
      · rw [sget_big (by rw [length_sput]; omega)]
        trivial
    · rw [sget_ne hij, List.getElem?_set_ne hij]
      exact (R.slot j).mono S
  · -- an elder own list stands at a tracked place, the new one did not
    have old : ∀ c ts, i ≠ c → sget (sput τ i (.own ts')) c = .own ts → σ[c]? ≠ some (some (.ref p)) := fun c ts hc hcs e => by
      rw [sget_ne hc] at hcs
      have := R.slot c
      rw [hcs] at this
      obtain ⟨p', vs', e', h1, _⟩ := this
      rw [e] at e'
      cases e'
      rw [hp] at h1
      cases h1
    have isI : ∀ c, i = c → ∀ us, sget (sput τ i (.own ts)) c = .own us → (σ.set i (some (.ref p)))[c]? = some (some (.ref p)) := fun c hc us hcs => by
      subst hc
      by_cases hi : i < τ.length
      · exact List.getElem?_set_self (by rw [← R.len]; exact hi)
      · rw [sget_big (by rw [length_sput]; omega)] at hcs; cases hcs
    by_cases ia : i = a
    · have z := isI a ia _ ha
      rw [z] at ea
      cases ea
      have ib : i ≠ b := fun e => hab (ia.symm.trans e)
      rw [List.getElem?_set_ne ib] at eb
      refine old b us ib ?_ eb
      rw [sget_ne ib] at hb ⊢
      exact hb
    · rw [List.getElem?_set_ne ia] at ea
      by_cases ib : i = b
      · have z := isI b ib _ hb
        rw [z] at eb
        cases eb
        refine old a ts' ia ?_ ea
        rw [sget_ne ia] at ha ⊢
        exact ha
      · rw [List.getElem?_set_ne ib] at eb
        rw [sget_ne ia] at ha
        rw [sget_ne ib] at hb
        exact R.apart a b ts' us q hab ha hb ea eb
theorem RepSt.write {i : Nat} {ts ts2 : List T} {vs2 : List V} {p : Addr} {xs : List V} (R : RepSt K H0 H σ τ) (hs : sget τ i = .own ts) (hσ : σ[i]? = some (some (.ref p))) (hp : H p = some (.lst xs)) (r : Reps K H ts2 vs2) :
    RepSt K H0 (upd H p (.lst vs2)) σ (sput τ i (.own ts2)) := by
  have k := Kp.write hp (.lst vs2)
  have n0 : H0 p = none := by
    have := R.slot i
    rw [hs] at this
    obtain ⟨p', vs', e', _, _, n⟩ := this
    rw [hσ] at e'
    cases e'
    exact n
  have hi : i < τ.length := by
    by_cases hi : i < τ.length
    · exact hi
    · rw [sget_big (by omega)] at hs; cases hs
  refine ⟨fun b o h => ?_, by rw [length_sput]; exact R.len, fun j => ?_, fun a b ts' us q hab ha hb ea eb => ?_⟩
  · have := R.same b o h
    rw [upd_ne (by rintro rfl; rw [n0] at h; cases h)]
    exact this
  · by_cases hij : i = j
    · subst hij
      rw [sget_same hi]
      exact ⟨p, vs2, hσ, upd_same, r.kp k, n0⟩
    · rw [sget_ne hij]
      have sl := R.slot j
      cases e : sget τ j with
      | no => trivial
      | val t => rw [e] at sl; obtain ⟨v, e1, r1⟩ := sl; exact ⟨v, e1, r1.kp k⟩
      | dic ps => rw [e] at sl; obtain ⟨q, o, kvs, e1, h1, ek, r1⟩ := sl; exact ⟨q, o, kvs, e1, k.frz _ _ _ h1, ek, r1.kp k⟩
      | vat t v => rw [e] at sl; exact ⟨sl.1, sl.2.kp k⟩
      | own us =>
        rw [e] at sl
        obtain ⟨q, ws, e1, h1, r1, n1⟩ := sl
        have nq : q ≠ p := by rintro rfl; exact R.apart i j ts us q hij hs e hσ e1
        exact ⟨q, ws, e1, by rw [upd_ne nq]; exact h1, r1.kp k, n1⟩
      | see us =>
        rw [e] at sl
        obtain ⟨q, ws, e1, h1, r1, n1⟩ := sl
        have nq : q ≠ p := by rintro rfl; exact n1 n0
        exact ⟨q, ws, e1, by rw [upd_ne nq]; exact h1, r1.kp k, n1⟩
  · have old : ∀ c us, sget (sput τ i (.own ts2)) c = .own us → ∃ us', sget τ c = .own us' := fun c us h => by
      by_cases hc : i = c
      · subst hc; exact ⟨ts, hs⟩
      · rw [sget_ne hc] at h; exact ⟨us, h⟩
    obtain ⟨u1, h1⟩ := old a _ ha
    obtain ⟨u2, h2⟩ := old b _ hb
    exact R.apart a b u1 u2 q hab h1 h2 ea eb
theorem RepSt.freeze {i : Nat} {ts : List T} {vs : List V} {p : Addr} {o : Obj} (R : RepSt K H0 H σ τ) (hs : sget τ i = .own ts) (hσ : σ[i]? = some (some (.ref p))) (hp : H p = some (.lst vs)) (r : Reps K H ts vs) :
    RepSt K H0 (upd H p (.frz o (.lst vs))) σ (sput τ i (.val (.lst ts))) := by
  have k := Kp.write hp (.frz o (.lst vs))
  have n0 : H0 p = none := by
    have := R.slot i
    rw [hs] at this
    obtain ⟨p', vs', e', _, _, n⟩ := this
    rw [hσ] at e'
    cases e'
    exact n
  have hi : i < τ.length := by
    by_cases hi : i < τ.length
    · exact hi
    · rw [sget_big (by omega)] at hs; cases hs
  refine ⟨fun b o' h => ?_, by rw [length_sput]; exact R.len, fun j => ?_, fun a b ts' us q hab ha hb ea eb => ?_⟩
  · have := R.same b o' h
    rw [upd_ne (by rintro rfl; rw [n0] at h; cases h)]
    exact this
  · by_cases hij : i = j
    · subst hij
      rw [sget_same hi]
      exact ⟨.ref p, hσ, rep_lst.mpr ⟨p, vs, rfl, .inl ⟨o, upd_same⟩, r.kp k⟩⟩
    · rw [sget_ne hij]
      have sl := R.slot j
      cases e : sget τ j with
      | no => trivial
      | val t => rw [e] at sl; obtain ⟨v, e1, r1⟩ := sl; exact ⟨v, e1, r1.kp k⟩
      | dic ps => rw [e] at sl; obtain ⟨q, o, kvs, e1, h1, ek, r1⟩ := sl; exact ⟨q, o, kvs, e1, k.frz _ _ _ h1, ek, r1.kp k⟩
      | vat t v => rw [e] at sl; exact ⟨sl.1, sl.2.kp k⟩
      | own us =>
        rw [e] at sl
        obtain ⟨q, ws, e1, h1, r1, n1⟩ := sl
        have nq : q ≠ p := by rintro rfl; exact R.apart i j ts us q hij hs e hσ e1
        exact ⟨q, ws, e1, by rw [upd_ne nq]; exact h1, r1.kp k, n1⟩
      | see us =>
        rw [e] at sl
        obtain ⟨q, ws, e1, h1, r1, n1⟩ := sl
        have nq : q ≠ p := by rintro rfl; exact n1 n0
        exact ⟨q, ws, e1, by rw [upd_ne nq]; exact h1, r1.kp k, n1⟩
  · have na : i ≠ a := by
      rintro rfl
      rw [sget_same hi] at ha
      cases ha
    have nb : i ≠ b := by
      rintro rfl
      rw [sget_same hi] at hb
      cases hb
    rw [sget_ne na] at ha
    rw [sget_ne nb] at hb
    exact R.apart a b ts' us q hab ha hb ea eb
end
abbrev WE := List Slot → (T → Prop) → Prop
abbrev WT := List Slot → (Bool → Prop) → Prop
abbrev WA := List Slot → (List T → Prop) → Prop
structure DT where
  nx : List Slot → Prop
  rt : T → Prop
  bk : List Slot → Prop := fun _ => False
  ct : List Slot → Prop := fun _ => False
abbrev WS := DT → List Slot → Prop
def up (K : PySem.W.Frag) (H0 : Hp) (w : WE) : TE := fun σ H Q => ∃ (τ : List Slot) (Q0 : T → Prop), RepSt K H0 H σ τ ∧ w τ Q0 ∧ ∀ t v H', Same H H' → Rep K H' t v → Q0 t → Q v H'
def upT (K : PySem.W.Frag) (H0 : Hp) (w : WT) : TT := fun σ H Q => ∃ (τ : List Slot) (Q0 : Bool → Prop), RepSt K H0 H σ τ ∧ w τ Q0 ∧ ∀ b H', Same H H' → Q0 b → Q b H'
def upA (K : PySem.W.Frag) (H0 : Hp) (w : WA) : TA := fun σ H Q => ∃ (τ : List Slot) (Q0 : List T → Prop), RepSt K H0 H σ τ ∧ w τ Q0 ∧ ∀ ts vs H', Same H H' → Reps K H' ts vs → Q0 ts → Q vs H'
def upS (K : PySem.W.Frag) (H0 : Hp) (w : WS) : TS := fun D σ H => ∃ (τ : List Slot) (D0 : DT), RepSt K H0 H σ τ ∧ w D0 τ ∧
  (∀ τ' σ' H', Kp H H' → RepSt K H0 H' σ' τ' → D0.nx τ' → D.nx σ' H') ∧ (∀ t v H', Same H0 H' → Rep K H' t v → D0.rt t → D.rt v H') ∧
  (∀ τ' σ' H', Kp H H' → RepSt K H0 H' σ' τ' → D0.bk τ' → D.bk σ' H') ∧ (∀ τ' σ' H', Kp H H' → RepSt K H0 H' σ' τ' → D0.ct τ' → D.ct σ' H')
def JE (X : Cx) (e : Expr) (w : WE) : Prop := PE X e (up X.K X.H₀ w)
def JT (X : Cx) (e : Expr) (w : WT) : Prop := PT X e (upT X.K X.H₀ w)
def JA (X : Cx) (es : List Expr) (w : WA) : Prop := PA X es (upA X.K X.H₀ w)
def JS (X : Cx) (st : Stmt) (w : WS) : Prop := PS X st (upS X.K X.H₀ w)
def JSs (X : Cx) (st : List Stmt) (w : WS) : Prop := PSs X st (upS X.K X.H₀ w)
theorem pe_of {X : Cx} {e : Expr} {t t' : TE} (h : PE X e t) (f : ∀ σ H Q, t' σ H Q → t σ H Q) : PE X e t' := fun pins s σ H Q I hw => h pins s σ H Q I (f σ H Q hw)
theorem pt_of {X : Cx} {e : Expr} {t t' : TT} (h : PT X e t) (f : ∀ σ H Q, t' σ H Q → t σ H Q) : PT X e t' := fun pins s σ H Q I hw => h pins s σ H Q I (f σ H Q hw)
theorem pw_of {X : Cx} {e : Expr} {t t' : TT} (h : PW X e t) (f : ∀ σ H Q, t' σ H Q → t σ H Q) : PW X e t' := fun wh pins s σ H Q I hw => h wh pins s σ H Q I (f σ H Q hw)
theorem pa_of {X : Cx} {es : List Expr} {t t' : TA} (h : PA X es t) (f : ∀ σ H Q, t' σ H Q → t σ H Q) : PA X es t' := fun pos pins s σ H Q I hw => h pos pins s σ H Q I (f σ H Q hw)
theorem ps_of {X : Cx} {st : Stmt} {t t' : TS} (h : PS X st t) (f : ∀ D σ H, t' D σ H → t D σ H) : PS X st t' := fun pins s σ H D I hw => h pins s σ H D I (f D σ H hw)
theorem pss_of {X : Cx} {st : List Stmt} {t t' : TS} (h : PSs X st t) (f : ∀ D σ H, t' D σ H → t D σ H) : PSs X st t' := fun pins s σ H D I hw => h pins s σ H D I (f D σ H hw)
end TL
end
section
set_option Elab.async false
set_option linter.all false
set_option maxRecDepth 100000
set_option maxHeartbeats 4000000
namespace TL
open PySem PySem.Spec PyProof.Rows L2
section
variable {X : Cx} {a b c e : Expr} {es : List Expr} {wa wb wc w : WE} {pos : Pos}
def wVar (i : Nat) : WE := fun τ Q => match sget τ i with | .val t => Q t | .vat t _ => Q t | _ => False
def wC (t : T) : WE := fun _ Q => Q t
theorem je_of_var {i : Nat} (h : PE X e (tVar i)) : JE X e (wVar i) := pe_of h fun σ H Q ⟨τ, Q0, R, hw, k⟩ => by
  have s := R.slot i
  unfold wVar at hw
  cases z : sget τ i with
  | no => rw [z] at hw; exact hw.elim
  | own ts => rw [z] at hw; exact hw.elim
  | see ts => rw [z] at hw; exact hw.elim
  | dic ts => rw [z] at hw; exact hw.elim
  | vat t v =>
    rw [z] at hw s
    exact ⟨v, s.1, k t v H (.refl H) s.2 hw⟩
  | val t =>
    rw [z] at hw s
    obtain ⟨v, ev, r⟩ := s
    exact ⟨v, ev, k t v H (.refl H) r hw⟩
theorem jv (i : Nat) {x : Str} {pos : Pos} (hN : X.N[i]? = some x := by rfl) (hv : Vis X.env.scope x := by first | exact Or.inl rfl | exact Or.inr (Or.inl rfl) | exact Or.inr (Or.inr rfl)) (hd : (x == ("__debug__" : Str)) = false := by decide)
    (hcd : (x == ("__classdict__" : Str)) = false := by decide) : JE X (.Name x pos) (wVar i) := je_of_var (pe_var hN hv hd hcd)
theorem je_const {v : V} {t : T} (h : PE X e (tC v)) (r : ∀ H, Rep X.K H t v) : JE X e (wC t) := pe_of h fun σ H Q ⟨τ, Q0, R, hw, k⟩ => k t v H (.refl H) (r H) hw
theorem ji {i j pos} : JE X (.Constant (.int i) j pos) (wC (.int i)) := je_const pe_int fun _ => rep_int.mpr rfl
theorem jb {b j pos} : JE X (.Constant (.bool b) j pos) (wC (.bl b)) := je_const pe_bl fun _ => rep_bl.mpr rfl
theorem jn {j pos} : JE X (.Constant .none j pos) (wC .non) := je_const pe_non fun _ => rep_non.mpr rfl
theorem js {x j pos} : JE X (.Constant (.str x) j pos) (wC (.str x)) := je_const pe_str fun _ => rep_str.mpr rfl
def w2 (r : T → T → (T → Prop) → Prop) (wa wb : WE) : WE := fun τ Q => wa τ fun x => wb τ fun y => r x y Q
def BR (X : Cx) (op : Operator) (rT : T → T → (T → Prop) → Prop) : Prop := ∃ r : R2, OpR X (binaryOp op) r ∧ ∀ t1 t2 v1 v2 H (Q0 : T → Prop) (Q : VK), Rep X.K H t1 v1 → Rep X.K H t2 v2 → rT t1 t2 Q0 →
  (∀ t v H', Same H H' → Rep X.K H' t v → Q0 t → Q v H') → r v1 v2 H Q
theorem up2 {r : R2} {rT : T → T → (T → Prop) → Prop} {K : PySem.W.Frag} {H0 : Hp} (br : ∀ t1 t2 v1 v2 H (Q0 : T → Prop) (Q : VK), Rep K H t1 v1 → Rep K H t2 v2 → rT t1 t2 Q0 →
    (∀ t v H', Same H H' → Rep K H' t v → Q0 t → Q v H') → r v1 v2 H Q) (σ : St) (H : Hp) (Q : VK) (h : up K H0 (w2 rT wa wb) σ H Q) : tOp r (up K H0 wa) (up K H0 wb) σ H Q := by
  obtain ⟨τ, Q0, R, hw, k⟩ := h
  exact ⟨τ, _, R, hw, fun t1 v1 H1 S1 r1 q1 => ⟨τ, _, R.mono S1, q1, fun t2 v2 H2 S2 r2 q2 => br t1 t2 v1 v2 H2 Q0 Q (r1.kp (.of S2)) r2 q2 fun t v H' S3 r q => k t v H' (S1.trans (S2.trans S3)) r q⟩⟩
theorem jop {op : Operator} {rT : T → T → (T → Prop) → Prop} (h : BR X op rT) (ha : JE X a wa) (hb : JE X b wb) : JE X (.BinOp a op b pos) (w2 rT wa wb) := by
  obtain ⟨r, ho, br⟩ := h
  exact pe_of (pe_op ho ha hb) (up2 br)
def rAddT (x y : T) (Q : T → Prop) : Prop := match x, y with | .int i, .int j => Q (.int (i + j)) | _, _ => False
def rSubT (x y : T) (Q : T → Prop) : Prop := match x, y with | .int i, .int j => Q (.int (i - j)) | _, _ => False
def Lim (n : Nat) (i : Int) : Prop := i.natAbs < 10 ^ n
def MulOk (i j : Int) : Prop := (∃ m n, m ≤ 100000 ∧ n ≤ 100000 ∧ Lim m i ∧ Lim n j) ∨ Lim 19 i ∨ Lim 19 j
def DivOk (j : Int) : Prop := j ≠ 0 ∧ ∃ n, n ≤ 2200 ∧ Lim n j
def rMulT (x y : T) (Q : T → Prop) : Prop := match x, y with | .int i, .int j => MulOk i j ∧ Q (.int (i * j)) | _, _ => False
def rDivT (x y : T) (Q : T → Prop) : Prop := match x, y with | .int i, .int j => DivOk j ∧ Q (.int (i.fdiv j)) | _, _ => False
def rModT (x y : T) (Q : T → Prop) : Prop := match x, y with | .int i, .int j => j ≠ 0 ∧ Q (.int (i.fmod j)) | _, _ => False
def rPowT (x y : T) (Q : T → Prop) : Prop := match x, y with | .int i, .int j => CPow i j ∧ Q (.int (i ^ j.toNat)) | _, _ => False
theorem br_int {op : Operator} {C : Int → Int → Prop} {g : Int → Int → Int} (h : OpR X (binaryOp op) (rI C fun i j => .int (g i j))) :
    BR X op (fun x y Q => match x, y with | .int i, .int j => C i j ∧ Q (.int (g i j)) | _, _ => False) := by
  refine ⟨_, h, fun t1 t2 v1 v2 H Q0 Q r1 r2 q k => ?_⟩
  cases t1 <;> cases t2 <;> first | exact q.elim | skip
  rename_i i j
  exact ⟨i, j, rep_int.mp r1, rep_int.mp r2, q.1, k _ _ H (.refl H) (rep_int.mpr rfl) q.2⟩
theorem br_int0 {op : Operator} {g : Int → Int → Int} (h : OpR X (binaryOp op) (rI0 fun i j => .int (g i j))) :
    BR X op (fun x y Q => match x, y with | .int i, .int j => Q (.int (g i j)) | _, _ => False) := by
  refine ⟨_, h, fun t1 t2 v1 v2 H Q0 Q r1 r2 q k => ?_⟩
  cases t1 <;> cases t2 <;> first | exact q.elim | skip
  rename_i i j
  exact ⟨i, j, rep_int.mp r1, rep_int.mp r2, k _ _ H (.refl H) (rep_int.mpr rfl) q⟩
theorem b_add : BR X .Add rAddT := br_int0 op_add
theorem b_sub : BR X .Sub rSubT := br_int0 op_sub
theorem log2_of_lim {n : Nat} {i : Int} (h : Lim n i) : i.natAbs.log2 < 4 * n + 1 := by
  by_cases h0 : i.natAbs = 0
  · rw [h0]; simp
  · rw [Nat.log2_lt h0]
    have h1 : (10 : Nat) ^ n ≤ 16 ^ n := Nat.pow_le_pow_left (by decide) n
    have h2 : (16 : Nat) ^ n = 2 ^ (4 * n) := by rw [show (16 : Nat) = 2 ^ 4 from rfl, ← Nat.pow_mul]
    have h3 : (2 : Nat) ^ (4 * n + 1) = 2 ^ (4 * n) * 2 := Nat.pow_succ ..
    have h4 : i.natAbs < 10 ^ n := h
    have h5 : 0 < (2 : Nat) ^ (4 * n) := Nat.pos_of_ne_zero (by simp)
    omega
theorem bits_of_lim {n : Nat} {i : Int} (h : Lim n i) (hn : n ≤ 100000) : Builtin.Int.intBits i ≤ 2 ^ 20 := by
  have := log2_of_lim h
  have e : (2 : Nat) ^ 20 = 1048576 := by decide
  unfold Builtin.Int.intBits
  split <;> omega
theorem bits_of_19 {i : Int} (h : Lim 19 i) : Builtin.Int.intBits i ≤ 64 := by
  unfold Lim at h
  have h2 : i.natAbs < 2 ^ 64 := Nat.lt_of_lt_of_le h (by decide)
  unfold Builtin.Int.intBits
  split
  · omega
  · rename_i z
    have := (Nat.log2_lt (n := i.natAbs) (k := 64) (by simpa using z)).mpr h2
    omega
theorem MulOk.ok {i j : Int} (h : MulOk i j) : IntMulOk i j := by
  rcases h with ⟨m, n, hm, hn, a, b⟩ | a | b
  · exact .of_bits (bits_of_lim a hm) (bits_of_lim b hn)
  · exact .of_left (bits_of_19 a)
  · exact .of_right (bits_of_19 b)
theorem DivOk.ok {i j : Int} (h : DivOk j) : Builtin.divisionGoesByPylong i j = false := by
  obtain ⟨_, n, hn, a⟩ := h
  have := log2_of_lim a
  exact PyProof.noPylong_of_log2 (by omega)
theorem b_mul : BR X .Mult rMulT := br_int (C := MulOk) (opI fun _ _ _ _ _ _ _ hc q => mul_int q hc.ok)
theorem b_div : BR X .FloorDiv rDivT := br_int (C := fun _ j => DivOk j) (opI fun _ _ _ _ _ _ _ hc q => floordiv_int hc.1 q (.inl hc.ok))
theorem b_mod : BR X .Mod rModT := br_int (C := fun _ j => j ≠ 0) op_modN
def wNeg (wa : WE) : WE := fun τ Q => wa τ fun x => match x with | .int i => Q (.int (-i)) | _ => False
theorem jneg (ha : JE X a wa) : JE X (.UnaryOp .USub a pos) (wNeg wa) := pe_of (pe_un un_neg ha) fun σ H Q ⟨τ, Q0, R, hw, k⟩ => ⟨τ, _, R, hw, fun t v H1 S1 r1 q1 => by
  cases t <;> first | exact q1.elim | skip
  rename_i i
  exact ⟨i, rep_int.mp r1, k _ _ H1 S1 (rep_int.mpr rfl) q1⟩⟩
def CRT (X : Cx) (op : CmpOp) (cT : T → T → (Bool → Prop) → Prop) : Prop := ∃ r : R2, OpR X (compareOp op) r ∧ ∀ t1 t2 v1 v2 H (Q0 : Bool → Prop) (Q : VK), Rep X.K H t1 v1 → Rep X.K H t2 v2 → cT t1 t2 Q0 →
  (∀ b, Q0 b → Q (.bl b) H) → r v1 v2 H Q
def wCmp (cT : T → T → (Bool → Prop) → Prop) (wa wb : WE) : WE := fun τ Q => wa τ fun x => wb τ fun y => cT x y fun b => Q (.bl b)
def tCmpT (cT : T → T → (Bool → Prop) → Prop) (wa wb : WE) : WT := fun τ Q => wa τ fun x => wb τ fun y => cT x y Q
theorem jcmp {op : CmpOp} {cT : T → T → (Bool → Prop) → Prop} (h : CRT X op cT) (ha : JE X a wa) (hb : JE X b wb) (hm : behindInMarks op b = false) : JE X (.Compare a [op] [b] pos) (wCmp cT wa wb) := by
  obtain ⟨r, ho, br⟩ := h
  refine pe_of (pe_cmpR ho ha hb hm) fun σ H Q ⟨τ, Q0, R, hw, k⟩ => ?_
  exact ⟨τ, _, R, hw, fun t1 v1 H1 S1 r1 q1 => ⟨τ, _, R.mono S1, q1, fun t2 v2 H2 S2 r2 q2 => br t1 t2 v1 v2 H2 _ Q (r1.kp (.of S2)) r2 q2 fun b q => k _ _ H2 (S1.trans S2) (rep_bl.mpr rfl) q⟩⟩
theorem tcmp {op : CmpOp} {cT : T → T → (Bool → Prop) → Prop} (h : CRT X op cT) (ha : JE X a wa) (hb : JE X b wb) (hm : behindInMarks op b = false) : JT X (.Compare a [op] [b] pos) (tCmpT cT wa wb) := by
  obtain ⟨r, ho, br⟩ := h
  refine pt_of (pt_cmpR ho ha hb hm) fun σ H Q ⟨τ, Q0, R, hw, k⟩ => ?_
  exact ⟨τ, _, R, hw, fun t1 v1 H1 S1 r1 q1 => ⟨τ, _, R.mono S1, q1, fun t2 v2 H2 S2 r2 q2 => br t1 t2 v1 v2 H2 _ _ (r1.kp (.of S2)) r2 q2 fun b q => ⟨b, rfl, k _ H2 (S1.trans S2) q⟩⟩⟩
def cLtT (x y : T) (Q : Bool → Prop) : Prop := match x, y with | .int i, .int j => Q (decide (i < j)) | _, _ => False
def cLeT (x y : T) (Q : Bool → Prop) : Prop := match x, y with | .int i, .int j => Q (decide (i ≤ j)) | _, _ => False
def cGtT (x y : T) (Q : Bool → Prop) : Prop := match x, y with | .int i, .int j => Q (decide (j < i)) | _, _ => False
def cGeT (x y : T) (Q : Bool → Prop) : Prop := match x, y with | .int i, .int j => Q (decide (j ≤ i)) | _, _ => False
theorem cr_int {op : CmpOp} {g : Int → Int → Bool} (h : OpR X (compareOp op) (rI0 fun i j => .bl (g i j))) :
    CRT X op (fun x y Q => match x, y with | .int i, .int j => Q (g i j) | _, _ => False) := by
  refine ⟨_, h, fun t1 t2 v1 v2 H Q0 Q r1 r2 q k => ?_⟩
  cases t1 <;> cases t2 <;> first | exact q.elim | skip
  rename_i i j
  exact ⟨i, j, rep_int.mp r1, rep_int.mp r2, k _ q⟩
theorem c_lt : CRT X .Lt cLtT := cr_int op_lt
theorem c_le : CRT X .LtE cLeT := cr_int op_le
theorem c_gt : CRT X .Gt cGtT := cr_int op_gt
mutual
def eqT : T → T → Bool
  | .non, .non => true
  | .bl a, .bl b => a == b
  | .bl a, .int b => decide ((if a then 1 else 0) = b)
  | .int a, .bl b => decide (a = (if b then 1 else 0))
  | .int a, .int b => decide (a = b)
  | .str a, .str b => a == b
  | .tup xs, .tup ys => eqTs xs ys
  | .lst xs, .lst ys => eqTs xs ys
  | _, _ => false
def eqTs : List T → List T → Bool
  | [], [] => true
  | x :: xs, y :: ys => eqT x y && eqTs xs ys
  | _, _ => false
end
theorem eqTb (a b : Bool) : eqT (.bl a) (.bl b) = (a == b) := rfl
theorem eqTe (a b : Int) : eqT (.int a) (.int b) = decide (a = b) := rfl
theorem eqTf (a b : Str) : eqT (.str a) (.str b) = (a == b) := rfl
theorem eqTg (a b : List T) : eqT (.tup a) (.tup b) = eqTs a b := rfl
theorem eqTh (a b : List T) : eqT (.lst a) (.lst b) = eqTs a b := rfl
theorem eqTj (x y : T) (xs ys : List T) : eqTs (x :: xs) (y :: ys) = (eqT x y && eqTs xs ys) := rfl
mutual
def pd : T → PyData
  | .non => .none
  | .bl b => .bool b
  | .int i => .int i
  | .str x => .str x
  | .tup ts => .tuple (pds ts)
  | .lst ts => .list (pds ts)
  | .dct => .dict []
  | .exc _ => .dict []
  | .exf _ _ _ => .dict []
def pds : List T → List PyData
  | [] => []
  | t :: ts => pd t :: pds ts
end
mutual
theorem eqT_pd : ∀ x y : T, PyData.eqv (pd x) (pd y) = eqT x y
  | .tup xs, .tup ys => by simp only [pd, PyData.eqv, eqTg, eqTh]; exact eqTs_pd xs ys
  | .lst xs, .lst ys => by simp only [pd, PyData.eqv, eqTg, eqTh]; exact eqTs_pd xs ys
  | .non, y => by cases y <;> simp only [pd, PyData.eqv] <;> rfl
  | .bl _, y => by cases y <;> simp only [pd, PyData.eqv] <;> rfl
  | .int _, y => by cases y <;> simp only [pd, PyData.eqv] <;> rfl
  | .str _, y => by cases y <;> simp only [pd, PyData.eqv] <;> rfl
  | .tup _, .non => by simp only [pd, PyData.eqv] <;> rfl
  | .tup _, .bl _ => by simp only [pd, PyData.eqv] <;> rfl
  | .tup _, .int _ => by simp only [pd, PyData.eqv] <;> rfl
  | .tup _, .str _ => by simp only [pd, PyData.eqv] <;> rfl
  | .tup _, .lst _ => by simp only [pd, PyData.eqv] <;> rfl
  | .tup _, .dct => by simp only [pd, PyData.eqv] <;> rfl
  | .tup _, .exc _ => by simp only [pd, PyData.eqv] <;> rfl
  | .tup _, .exf _ _ _ => by simp only [pd, PyData.eqv] <;> rfl
  | .lst _, .dct => by simp only [pd, PyData.eqv] <;> rfl
  | .lst _, .exc _ => by simp only [pd, PyData.eqv] <;> rfl
  | .lst _, .exf _ _ _ => by simp only [pd, PyData.eqv] <;> rfl
  | .dct, y => by cases y <;> simp only [pd, PyData.eqv] <;> rfl
  | .exc _, y => by cases y <;> simp only [pd, PyData.eqv] <;> rfl
  | .exf _ _ _, y => by cases y <;> simp only [pd, PyData.eqv] <;> rfl
  | .lst _, .non => by simp only [pd, PyData.eqv] <;> rfl
  | .lst _, .bl _ => by simp only [pd, PyData.eqv] <;> rfl
  | .lst _, .int _ => by simp only [pd, PyData.eqv] <;> rfl
  | .lst _, .str _ => by simp only [pd, PyData.eqv] <;> rfl
  | .lst _, .tup _ => by simp only [pd, PyData.eqv] <;> rfl
theorem eqTs_pd : ∀ xs ys : List T, PyData.eqvAll (pds xs) (pds ys) = eqTs xs ys
  | [], [] => by simp only [pds, PyData.eqvAll] <;> rfl
  | [], _ :: _ => by simp only [pds, PyData.eqvAll] <;> rfl
  | _ :: _, [] => by simp only [pds, PyData.eqvAll] <;> rfl
  | x :: xs, y :: ys => by simp only [pds, PyData.eqvAll, eqTj]; rw [eqT_pd x y, eqTs_pd xs ys]
end
def plain (t : T) : Bool := (pd t).canLay0
def dep (t : T) : Nat := (pd t).depth
mutual
theorem reads_of {pins : List (Addr × Obj)} {s : Shared} {σ : St} {H : Hp} (I : Inv X pins σ H s) : ∀ {t : T} {v : V} {u : Value}, plain t = true → Rep X.K H t v → RelV v u → ∃ as, Reads s.heap u (pd t) as
  | .non, v, u, hp, r, q => by rw [rep_non] at r; subst r; cases q; exact ⟨_, .none⟩
  | .bl b, v, u, hp, r, q => by rw [rep_bl] at r; subst r; cases q; exact ⟨_, .bool b⟩
  | .int i, v, u, hp, r, q => by rw [rep_int] at r; subst r; obtain ⟨t, rfl⟩ := q; exact ⟨_, .int i t⟩
  | .str x, v, u, hp, r, q => by rw [rep_str] at r; subst r; obtain ⟨t, rfl⟩ := q; exact ⟨_, .str x t⟩
  | .tup ts, v, u, hp, r, q => by
    rw [rep_tup] at r
    obtain ⟨p, vs, rfl, sq, rr⟩ := r
    cases q
    obtain ⟨its, rv, ⟨o, ho, hc, n, hd⟩, _⟩ := I.tuple sq
    obtain ⟨as, ra⟩ := readss_of I (show PyData.canLayAll0 (pds ts) = true from by simpa [plain, pd, PyData.canLay0] using hp) rr rv
    exact ⟨_, .tuple ho hc hd (by simpa using ra)⟩
  | .lst ts, v, u, hp, r, q => by
    rw [rep_lst] at r
    obtain ⟨p, vs, rfl, sq, rr⟩ := r
    cases q
    obtain ⟨its, rv, pl, _⟩ := I.list sq.sq
    obtain ⟨o, ho, hc, n, hd⟩ := pl.isList
    obtain ⟨as, ra⟩ := readss_of I (show PyData.canLayAll0 (pds ts) = true from by simpa [plain, pd, PyData.canLay0] using hp) rr rv
    exact ⟨_, .list ho hc hd (by simpa using ra)⟩
  | .dct, v, u, hp, r, q => by simp [plain, pd, PyData.canLay0] at hp
  | .exc _, v, u, hp, r, q => by simp [plain, pd, PyData.canLay0] at hp
  | .exf _ _ _, v, u, hp, r, q => by simp [plain, pd, PyData.canLay0] at hp
theorem readss_of {pins : List (Addr × Obj)} {s : Shared} {σ : St} {H : Hp} (I : Inv X pins σ H s) : ∀ {ts : List T} {vs : List V} {us : List Value}, PyData.canLayAll0 (pds ts) = true → Reps X.K H ts vs → Vals vs us → ∃ as, ReadsAll s.heap us (pds ts) as
  | [], vs, us, hp, r, q => by rw [reps_nil] at r; subst r; cases q; exact ⟨_, .nil⟩
  | t :: ts, vs, us, hp, r, q => by
    have hp' : ((pd t).canLay0 && PyData.canLayAll0 (pds ts)) = true := hp
    rw [Bool.and_eq_true] at hp'
    rw [reps_cons] at r
    obtain ⟨v, vr, rfl, r1, r2⟩ := r
    cases q with
    | cons q1 q2 =>
      obtain ⟨as, a1⟩ := reads_of I hp'.1 r1 q1
      obtain ⟨bs, a2⟩ := readss_of I hp'.2 r2 q2
      exact ⟨_, .cons a1 a2⟩
end
def EqOk (x y : T) : Prop := plain x = true ∧ plain y = true ∧ min (dep x) (dep y) ≤ 60
def cEqT (x y : T) (Q : Bool → Prop) : Prop := match x, y with
  | .int i, .int j => Q (decide (i = j))
  | x, y => EqOk x y ∧ Q (eqT x y)
def cNeT (x y : T) (Q : Bool → Prop) : Prop := match x, y with
  | .int i, .int j => Q (!decide (i = j))
  | x, y => EqOk x y ∧ Q (!eqT x y)
theorem ok_ints (i j : Int) : EqOk (.int i) (.int j) := by
  refine ⟨by simp [plain, pd, PyData.canLay0], by simp [plain, pd, PyData.canLay0], by simp [dep, pd, PyData.depth]⟩
theorem cEqT_gen {x y : T} {Q : Bool → Prop} (h : cEqT x y Q) : EqOk x y ∧ Q (eqT x y) := by
  unfold cEqT at h
  split at h
  · exact ⟨ok_ints _ _, by simpa only [eqTe] using h⟩
  · exact h
theorem cNeT_gen {x y : T} {Q : Bool → Prop} (h : cNeT x y Q) : EqOk x y ∧ Q (!eqT x y) := by
  unfold cNeT at h
  split at h
  · exact ⟨ok_ints _ _, by simpa only [eqTe] using h⟩
  · exact h
theorem c_eq {k : Nat} (hr : Room k X.A) : CRT X .Eq cEqT := by
  refine ⟨fun x y H Q => ∃ t1 t2, Rep X.K H t1 x ∧ Rep X.K H t2 y ∧ EqOk t1 t2 ∧ Q (.bl (eqT t1 t2)) H, ?_, fun t1 t2 v1 v2 H Q0 Q r1 r2 q k => ?_⟩
  · intro pins s σ H x y v u Q I rx ry h
    obtain ⟨t1, t2, r1, r2, ⟨p1, p2, hd⟩, q⟩ := h
    obtain ⟨as, a1⟩ := reads_of I p1 r1 rx
    obtain ⟨bs, a2⟩ := reads_of I p2 r2 ry
    have hu := hr.units
    have hd' : min (pd t1).depth (pd t2).depth ≤ 60 := hd
    refine SeqAt.compareEq_reads a1 a2 p1 p2 (by omega) ⟨.bl _, H, I, rfl, ?_⟩
    rw [eqT_pd]
    exact q
  · obtain ⟨ok, q⟩ := cEqT_gen q
    exact ⟨t1, t2, r1, r2, ok, k _ q⟩
theorem c_ne {k : Nat} (hr : Room k X.A) : CRT X .NotEq cNeT := by
  refine ⟨fun x y H Q => ∃ t1 t2, Rep X.K H t1 x ∧ Rep X.K H t2 y ∧ EqOk t1 t2 ∧ Q (.bl (!eqT t1 t2)) H, ?_, fun t1 t2 v1 v2 H Q0 Q r1 r2 q k => ?_⟩
  · intro pins s σ H x y v u Q I rx ry h
    obtain ⟨t1, t2, r1, r2, ⟨p1, p2, hd⟩, q⟩ := h
    obtain ⟨as, a1⟩ := reads_of I p1 r1 rx
    obtain ⟨bs, a2⟩ := reads_of I p2 r2 ry
    have hu := hr.units
    have hd' : min (pd t1).depth (pd t2).depth ≤ 60 := hd
    refine SeqAt.compareNe_reads a1 a2 p1 p2 (by omega) ⟨.bl _, H, I, rfl, ?_⟩
    rw [eqT_pd]
    exact q
  · obtain ⟨ok, q⟩ := cNeT_gen q
    exact ⟨t1, t2, r1, r2, ok, k _ q⟩
def isNonT : T → Bool
  | .non => true
  | _ => false
def cIsN (x y : T) (Q : Bool → Prop) : Prop := match y with
  | .non => Q (isNonT x)
  | _ => False
def cNotN (x y : T) (Q : Bool → Prop) : Prop := match y with
  | .non => Q (!isNonT x)
  | _ => False
theorem rep_is_non {K : PySem.W.Frag} {H : Hp} {t : T} {v : V} (r : Rep K H t v) : decide (v = .non) = isNonT t := by
  cases t with
  | non => rw [rep_non] at r; subst r; rfl
  | bl b => rw [rep_bl] at r; subst r; rfl
  | int b => rw [rep_int] at r; subst r; rfl
  | str b => rw [rep_str] at r; subst r; rfl
  | tup b => rw [rep_tup] at r; obtain ⟨p, vs, rfl, _⟩ := r; rfl
  | lst b => rw [rep_lst] at r; obtain ⟨p, vs, rfl, _⟩ := r; rfl
  | dct => rw [rep_dct] at r; obtain ⟨p, rfl, _⟩ := r; rfl
  | exc c => rw [rep_exc] at r; obtain ⟨p, rfl, _⟩ := r; rfl
  | exf c f t => rw [rep_exf] at r; obtain ⟨p, rfl, _⟩ := r; rfl
theorem c_is : CRT X .Is cIsN := by
  refine ⟨_, op_isN, fun t1 t2 v1 v2 H Q0 Q r1 r2 q k => ?_⟩
  cases t2 <;> first | exact q.elim | skip
  refine ⟨rep_non.mp r2, ?_⟩
  rw [rep_is_non r1]
  exact k _ q
theorem c_isnot : CRT X .IsNot cNotN := by
  refine ⟨_, op_notN, fun t1 t2 v1 v2 H Q0 Q r1 r2 q k => ?_⟩
  cases t2 <;> first | exact q.elim | skip
  refine ⟨rep_non.mp r2, ?_⟩
  rw [rep_is_non r1]
  exact k _ q
def wChain (c1 c2 : T → T → (Bool → Prop) → Prop) (wa wb wc : WE) : WE := fun τ Q => wa τ fun x => wb τ fun y => c1 x y fun k => (k = true → wc τ fun z => c2 y z fun b => Q (.bl b)) ∧ (k = false → Q (.bl false))
def tChainT (c1 c2 : T → T → (Bool → Prop) → Prop) (wa wb wc : WE) : WT := fun τ Q => wa τ fun x => wb τ fun y => c1 x y fun k => (k = true → wc τ fun z => c2 y z Q) ∧ (k = false → Q false)
def JW (X : Cx) (e : Expr) (w : WT) : Prop := PW X e (upT X.K X.H₀ w)
theorem jw {e : Expr} {w : WT} (h : JW X e w) : JT X e w := PW.pt h
variable {ua ub : WT} {rest : List Expr}
def tAndT (ua ub : WT) : WT := fun τ Q => ua τ fun k => (k = true → ub τ Q) ∧ (k = false → Q false)
def tOrT (ua ub : WT) : WT := fun τ Q => ua τ fun k => (k = true → Q true) ∧ (k = false → ub τ Q)
def tNotT (ua : WT) : WT := fun τ Q => ua τ fun k => Q (!k)
def tVal (wa : WE) : WT := fun τ Q => wa τ fun x => match x with | .bl k => Q k | _ => False
theorem tand1 (ha : JT X a ua) : JW X (.BoolOp .And [a] pos) ua := pw_and1 ha
theorem tor1 (ha : JT X a ua) : JW X (.BoolOp .Or [a] pos) ua := pw_or1 ha
theorem tand (ha : JT X a ua) (hb : JW X (.BoolOp .And (b :: rest) pos) ub) : JW X (.BoolOp .And (a :: b :: rest) pos) (tAndT ua ub) := pw_of (pw_and ha hb) fun σ H Q ⟨τ, Q0, R, hw, k⟩ => by
  refine ⟨τ, _, R, hw, fun c H1 S1 q => ?_⟩
  cases c with
  | true => rw [if_pos rfl]; exact ⟨τ, _, R.mono S1, q.1 rfl, fun b H2 S2 q => k b H2 (S1.trans S2) q⟩
  | false => rw [if_neg Bool.false_ne_true]; exact k _ H1 S1 (q.2 rfl)
theorem tor (ha : JT X a ua) (hb : JW X (.BoolOp .Or (b :: rest) pos) ub) : JW X (.BoolOp .Or (a :: b :: rest) pos) (tOrT ua ub) := pw_of (pw_or ha hb) fun σ H Q ⟨τ, Q0, R, hw, k⟩ => by
  refine ⟨τ, _, R, hw, fun c H1 S1 q => ?_⟩
  cases c with
  | true => rw [if_pos rfl]; exact k _ H1 S1 (q.1 rfl)
  | false => rw [if_neg Bool.false_ne_true]; exact ⟨τ, _, R.mono S1, q.2 rfl, fun b H2 S2 q => k b H2 (S1.trans S2) q⟩
theorem tnot (ha : JT X a ua) : JT X (.UnaryOp .Not a pos) (tNotT ua) := pt_of (pt_not ha) fun σ H Q ⟨τ, Q0, R, hw, k⟩ => ⟨τ, _, R, hw, fun c H1 S1 q => k _ H1 S1 q⟩
theorem tval (ha : JE X a wa) (he : ∀ whole, isTrue a X.env whole = (do let v ← whole; standAt a.pos; holding [v] (truthy v)) := by intro _; rfl) : JT X a (tVal wa) :=
  pt_of (pt_val ha he) fun σ H Q ⟨τ, Q0, R, hw, k⟩ => ⟨τ, _, R, hw, fun t v H1 S1 r q => by
    cases t <;> first | exact q.elim | skip
    rename_i b
    exact ⟨b, rep_bl.mp r, k _ H1 S1 q⟩⟩
def wAndV (wa wb : WE) : WE := fun τ Q => wa τ fun x => match x with | .bl k => (k = true → wb τ Q) ∧ (k = false → Q (.bl false)) | _ => False
def wOrV (wa wb : WE) : WE := fun τ Q => wa τ fun x => match x with | .bl k => (k = true → Q (.bl true)) ∧ (k = false → wb τ Q) | _ => False
def wNotV (wa : WE) : WE := fun τ Q => wa τ fun x => match x with | .bl k => Q (.bl (!k)) | _ => False
theorem jone {op} (h : JE X a wa) : JE X (.BoolOp op [a] pos) wa := pe_one h
theorem jand (ha : JE X a wa) (hb : JE X (.BoolOp .And (b :: rest) pos) wb) : JE X (.BoolOp .And (a :: b :: rest) pos) (wAndV wa wb) := pe_of (pe_and ha hb) fun σ H Q ⟨τ, Q0, R, hw, k⟩ => by
  refine ⟨τ, _, R, hw, fun t v H1 S1 r q => ?_⟩
  cases t <;> first | exact q.elim | skip
  rename_i c
  refine ⟨c, rep_bl.mp r, ?_⟩
  cases c with
  | true => rw [if_pos rfl]; exact ⟨τ, _, R.mono S1, q.1 rfl, fun t v H2 S2 r q => k t v H2 (S1.trans S2) r q⟩
  | false => rw [if_neg Bool.false_ne_true]; exact k _ _ H1 S1 (rep_bl.mpr rfl) (q.2 rfl)
theorem jnot (ha : JE X a wa) : JE X (.UnaryOp .Not a pos) (wNotV wa) := pe_of (pe_not ha) fun σ H Q ⟨τ, Q0, R, hw, k⟩ => ⟨τ, _, R, hw, fun t v H1 S1 r q => by
  cases t <;> first | exact q.elim | skip
  rename_i c
  exact ⟨c, rep_bl.mp r, k _ _ H1 S1 (rep_bl.mpr rfl) q⟩⟩
def wIfE (ua : WT) (wa wb : WE) : WE := fun τ Q => ua τ fun k => (k = true → wa τ Q) ∧ (k = false → wb τ Q)
theorem jif (hc : JT X c ua) (ha : JE X a wa) (hb : JE X b wb) : JE X (.IfExp c a b pos) (wIfE ua wa wb) := pe_of (pe_ifExp hc ha hb) fun σ H Q ⟨τ, Q0, R, hw, k⟩ => by
  refine ⟨τ, _, R, hw, fun d H1 S1 q => ?_⟩
  cases d with
  | true => rw [if_pos rfl]; exact ⟨τ, _, R.mono S1, q.1 rfl, fun t v H2 S2 r q => k t v H2 (S1.trans S2) r q⟩
  | false => rw [if_neg Bool.false_ne_true]; exact ⟨τ, _, R.mono S1, q.2 rfl, fun t v H2 S2 r q => k t v H2 (S1.trans S2) r q⟩
variable {ws : WA}
def aNil : WA := fun _ Q => Q []
def aCons (wa : WE) (ws : WA) : WA := fun τ Q => wa τ fun x => ws τ fun xs => Q (x :: xs)
theorem ja0 : JA X [] aNil := pa_of pa_nil fun σ H Q ⟨τ, Q0, R, hw, k⟩ => k _ _ H (.refl H) (reps_nil.mpr rfl) hw
theorem ja (ha : JE X e wa) (hr : JA X es ws) (hs : starEach (e :: es) X.env = (false, eval e X.env) :: starEach es X.env := by exact star1 rfl) : JA X (e :: es) (aCons wa ws) := pa_of (pa_cons ha hr hs) fun σ H Q ⟨τ, Q0, R, hw, k⟩ =>
  ⟨τ, _, R, hw, fun t v H1 S1 r1 q1 => ⟨τ, _, R.mono S1, q1, fun ts vs H2 S2 r2 q2 => k _ _ H2 (S1.trans S2) (.cons (r1.kp (.of S2)) r2) q2⟩⟩
def wTup (ws : WA) : WE := fun τ Q => ws τ fun ts => ts.length ≤ 1000 ∧ Q (.tup ts)
def wLst (ws : WA) : WE := fun τ Q => ws τ fun ts => ts.length ≤ 1000 ∧ Q (.lst ts)
theorem few {n : Nat} (h : n ≤ 1000) : n ≤ sizeLine := Nat.le_of_lt (small1000 h)
theorem jtup {x1} (h : JA X es ws) : JE X (.Tuple es x1 pos) (wTup ws) := pe_of (pe_tup h) fun σ H Q ⟨τ, Q0, R, hw, k⟩ => ⟨τ, _, R, hw, fun ts vs H1 S1 r ⟨hl, q⟩ =>
  ⟨by rw [r.length]; exact few hl, fun p hp => k _ _ _ (S1.trans (same_new hp _)) (rep_tup.mpr ⟨p, vs, rfl, SqT.of upd_same, r.kp (.of (same_new hp _))⟩) q⟩⟩
def tLstF (t : TA) : TE := fun σ H Q => t σ H fun xs H1 => xs.length ≤ sizeLine ∧ ∀ p o, H1 p = none → Q (.ref p) (upd H1 p (.frz o (.lst xs)))
theorem pe_lstF {t : TA} (h : PA X es t) : PE X (.List es pos) (tLstF t) := by
  intro pins s σ H Q I hq
  refine wpAny_List_spliced (thn (h pos pins s σ H _ I hq) fun us s1 ⟨xs, H1, I1, r, z, q⟩ => ⟨by rw [← r.length]; exact z, ?_⟩)
  have hf : H1 s1.heap.objs.size = none := I1.hok.fresh (Nat.le_refl _)
  refine ⟨.ref s1.heap.objs.size, upd H1 s1.heap.objs.size (.frz { cls := .type "list", data := .seq us.toArray } (.lst xs)), I1.laid (t' := s1.toks) (fun b u e => Heap.get?_push_of_some _ e) (Nat.le_refl _) ?_, rfl, q _ _ hf⟩
  exact ⟨Heap.get?_push_size _ rfl, z, us, 0, r, Heap.get?_push_size _ rfl⟩
theorem jlst (h : JA X es ws) : JE X (.List es pos) (wLst ws) := pe_of (pe_lstF h) fun σ H Q ⟨τ, Q0, R, hw, k⟩ => ⟨τ, _, R, hw, fun ts vs H1 S1 r ⟨hl, q⟩ =>
  ⟨by rw [r.length]; exact few hl, fun p o hp => k _ _ _ (S1.trans (same_new hp _)) (rep_lst.mpr ⟨p, vs, rfl, .inl ⟨o, upd_same⟩, r.kp (.of (same_new hp _))⟩) q⟩⟩
def rIxTT (x y : T) (Q : T → Prop) : Prop := match x, y with
  | .tup ts, .int i => (match atI ts i with | some t => Q t | none => False)
  | .lst ts, .int i => (match atI ts i with | some t => Q t | none => False)
  | _, _ => False
theorem atI_reps {K : PySem.W.Frag} {H : Hp} {ts : List T} {vs : List V} {i : Int} {t : T} (r : Reps K H ts vs) (h : atI ts i = some t) : ∃ v, atI vs i = some v ∧ Rep K H t v := by
  unfold atI at h ⊢
  rw [r.length]
  cases e : ixN ts.length i with
  | none => rw [e] at h; cases h
  | some j =>
    rw [e] at h
    exact r.get h
theorem jix (ha : JE X a wa) (hb : JE X b wb) (hs : PlainIx b := by intro _ _; rfl) : JE X (.Subscript a b pos) (w2 rIxTT wa wb) := pe_of (pe_ix ix_seq ha hb hs) (up2 fun t1 t2 v1 v2 H Q0 Q r1 r2 q k => by
  cases t1 <;> cases t2 <;> first | exact q.elim | skip
  · rename_i ts i
    rw [rep_tup] at r1
    obtain ⟨p, vs, rfl, sq, rr⟩ := r1
    have q' : (match atI ts i with | some t => Q0 t | none => False) := q
    cases e : atI ts i with
    | none => rw [e] at q'; exact q'.elim
    | some t =>
      rw [e] at q'
      obtain ⟨v, ev, rv⟩ := atI_reps rr e
      exact .inr (.inl ⟨p, vs, i, v, rfl, rep_int.mp r2, sq, ev, k _ _ H (.refl H) rv q'⟩)
  · rename_i ts i
    rw [rep_lst] at r1
    obtain ⟨p, vs, rfl, sq, rr⟩ := r1
    have q' : (match atI ts i with | some t => Q0 t | none => False) := q
    cases e : atI ts i with
    | none => rw [e] at q'; exact q'.elim
    | some t =>
      rw [e] at q'
      obtain ⟨v, ev, rv⟩ := atI_reps rr e
      exact .inl ⟨p, vs, i, v, rfl, rep_int.mp r2, sq.sq, ev, k _ _ H (.refl H) rv q'⟩)
def BlR (X : Cx) (f : Value) (rT : List T → (T → Prop) → Prop) : Prop := ∃ r : List V → Hp → VK → Prop, CallR X f r ∧ ∀ ts vs H (Q0 : T → Prop) (Q : VK), Reps X.K H ts vs → rT ts Q0 →
  (∀ t v H', Same H H' → Rep X.K H' t v → Q0 t → Q v H') → r vs H Q
def wCB (rT : List T → (T → Prop) → Prop) (ws : WA) : WE := fun τ Q => ws τ fun ts => rT ts Q
theorem upCB {r : List V → Hp → VK → Prop} {rT : List T → (T → Prop) → Prop} {K : PySem.W.Frag} {H0 : Hp} (br : ∀ ts vs H (Q0 : T → Prop) (Q : VK), Reps K H ts vs → rT ts Q0 →
    (∀ t v H', Same H H' → Rep K H' t v → Q0 t → Q v H') → r vs H Q) (σ : St) (H : Hp) (Q : VK) (h : up K H0 (wCB rT ws) σ H Q) : tCB r (upA K H0 ws) σ H Q := by
  obtain ⟨τ, Q0, R, hw, k⟩ := h
  exact ⟨τ, _, R, hw, fun ts vs H1 S1 r1 q1 => br ts vs H1 Q0 Q r1 q1 fun t v H' S2 r q => k t v H' (S1.trans S2) r q⟩
theorem jblt {x : Str} {p : Pos} {id : String} {rT : List T → (T → Prop) → Prop} (h : BlR X (.builtin id) rT) (hg : Gl X x) (hm : X.mg x = none) (hv : bootBuiltins x = some (.builtin id)) (ha : JA X (e :: es) ws) (hn : x ≠ "__name__" := by decide)
    (hdb : (x == ("__debug__" : Str)) = false := by decide) (he : starEach (e :: es) X.env = (false, eval e X.env) :: starEach es X.env := by exact star1 rfl) (hpl : (backTo pos (starEach es X.env)).any (·.1) = false := by exact stars rfl) :
    JE X (.Call (.Name x p) (e :: es) [] pos) (wCB rT ws) := by
  obtain ⟨r, hc, br⟩ := h
  exact pe_of (pe_callB hc hg hm hv ha hn hdb he hpl) (upCB br)
theorem jty {x : Str} {p : Pos} {id : String} {rT : List T → (T → Prop) → Prop} (h : BlR X (.type id) rT) (hg : Gl X x) (hm : X.mg x = none) (hv : bootBuiltins x = some (.type id)) (ha : JA X (e :: es) ws) (hn : x ≠ "__name__" := by decide)
    (hdb : (x == ("__debug__" : Str)) = false := by decide) (he : starEach (e :: es) X.env = (false, eval e X.env) :: starEach es X.env := by exact star1 rfl) (hpl : (backTo pos (starEach es X.env)).any (·.1) = false := by exact stars rfl) :
    JE X (.Call (.Name x p) (e :: es) [] pos) (wCB rT ws) := by
  obtain ⟨r, hc, br⟩ := h
  exact pe_of (pe_callTy hc hg hm hv ha hn hdb he hpl) (upCB br)
theorem reps1 {K : PySem.W.Frag} {H : Hp} {t : T} {vs : List V} (r : Reps K H [t] vs) : ∃ v, vs = [v] ∧ Rep K H t v := by
  rw [reps_cons] at r
  obtain ⟨v, vr, rfl, r1, r2⟩ := r
  rw [reps_nil] at r2
  subst r2
  exact ⟨v, rfl, r1⟩
def rLenT (ts : List T) (Q : T → Prop) : Prop := match ts with
  | [.tup xs] => Q (.int xs.length)
  | [.lst xs] => Q (.int xs.length)
  | _ => False
theorem bl_len : BlR X (.builtin "len") rLenT := by
  refine ⟨_, call_len_seq, fun ts vs H Q0 Q r q k => ?_⟩
  unfold rLenT at q
  split at q
  · obtain ⟨v, rfl, r1⟩ := reps1 r
    rw [rep_tup] at r1
    obtain ⟨p, ys, rfl, sq, rr⟩ := r1
    exact ⟨p, ys, rfl, .inr sq, k _ _ H (.refl H) (rep_int.mpr (by rw [rr.length])) q⟩
  · obtain ⟨v, rfl, r1⟩ := reps1 r
    rw [rep_lst] at r1
    obtain ⟨p, ys, rfl, sq, rr⟩ := r1
    exact ⟨p, ys, rfl, .inl sq.sq, k _ _ H (.refl H) (rep_int.mpr (by rw [rr.length])) q⟩
  · exact q.elim
end
end TL
end
section
set_option Elab.async false
set_option linter.all false
set_option maxRecDepth 100000
set_option maxHeartbeats 4000000
namespace TL
open PySem PySem.Spec PyProof.Rows L2
section
variable {X : Cx} {a b c e : Expr} {es : List Expr} {wa wb wc w : WE} {ws : WA} {pos : Pos}
def rAbsT (ts : List T) (Q : T → Prop) : Prop := match ts with
  | [.int i] => Q (.int (if i < 0 then -i else i))
  | _ => False
theorem bl_abs : BlR X (.builtin "abs") rAbsT := by
  refine ⟨_, call_abs, fun ts vs H Q0 Q r q k => ?_⟩
  unfold rAbsT at q
  split at q
  · obtain ⟨v, rfl, r1⟩ := reps1 r
    rename_i i
    exact ⟨i, by rw [rep_int.mp r1], k _ _ H (.refl H) (rep_int.mpr rfl) q⟩
  · exact q.elim
def rMaxT (ts : List T) (Q : T → Prop) : Prop := match ts with
  | [.int i, .int j] => Q (.int (if j > i then j else i))
  | _ => False
def rMinT (ts : List T) (Q : T → Prop) : Prop := match ts with
  | [.int i, .int j] => Q (.int (if j < i then j else i))
  | _ => False
def rTupleT (ts : List T) (Q : T → Prop) : Prop := match ts with
  | [.tup xs] => Q (.tup xs)
  | [.lst xs] => Q (.tup xs)
  | _ => False
theorem ty_tuple : BlR X (.type "tuple") rTupleT := by
  refine ⟨_, call_tuple_of, fun ts vs H Q0 Q r q k => ?_⟩
  unfold rTupleT at q
  split at q
  · obtain ⟨v, rfl, r1⟩ := reps1 r
    have r' := r1
    rw [rep_tup] at r1
    obtain ⟨p, ys, rfl, sq, rr⟩ := r1
    exact ⟨p, ys, rfl, .inr ⟨sq, k _ _ H (.refl H) r' q⟩⟩
  · obtain ⟨v, rfl, r1⟩ := reps1 r
    rw [rep_lst] at r1
    obtain ⟨p, ys, rfl, sq, rr⟩ := r1
    exact ⟨p, ys, rfl, .inl ⟨sq.sq, fun l hl => k _ _ _ (same_new hl _) (rep_tup.mpr ⟨l, ys, rfl, SqT.of upd_same, rr.kp (.of (same_new hl _))⟩) q⟩⟩
  · exact q.elim
inductive Kd where
  | int | bool | tuple | list | str
def Kd.nm : Kd → String
  | .int => "int"
  | .bool => "bool"
  | .tuple => "tuple"
  | .list => "list"
  | .str => "str"
def isK : Kd → T → Bool
  | .int, .int _ => true
  | .int, .bl _ => true
  | .bool, .bl _ => true
  | .tuple, .tup _ => true
  | .list, .lst _ => true
  | .str, .str _ => true
  | _, _ => false
def noExc : T → Prop
  | .exc _ => False
  | .exf _ _ _ => False
  | _ => True
theorem call_isi (kd : Kd) : CallR X (.builtin "isinstance") (fun xs H Q => ∃ x t, xs = [x, .ty kd.nm] ∧ Rep X.K H t x ∧ noExc t ∧ Q (.bl (isK kd t)) H) := by
  intro pins s σ H xs us Q I r h
  obtain ⟨x, t, rfl, rt, ne, q⟩ := h
  obtain ⟨u, u', rfl, rx, r2⟩ := vals2 r
  obtain rfl : u' = Value.type kd.nm := r2
  have fin : ∀ tk, EP X pins σ Q (.bool (isK kd t)) { s with toks := tk } := fun tk => ⟨.bl _, H, I.tok tk, rfl, q⟩
  cases t with
  | non => rw [rep_non] at rt; subst rt; cases rx; exact PySem.W.kia_one PySem.W.kitx_none I.kIn True.intro (by cases kd <;> kernel_rfl) (fun z => nomatch z) fin
  | bl y => rw [rep_bl] at rt; subst rt; cases rx; exact PySem.W.kia_one PySem.W.kitx_bool I.kIn True.intro (by cases kd <;> kernel_rfl) (fun z => nomatch z) fin
  | int i => rw [rep_int] at rt; subst rt; obtain ⟨t, rfl⟩ := rx; exact PySem.W.kia_one PySem.W.kitx_int I.kIn True.intro (by cases kd <;> kernel_rfl) (fun z => nomatch z) fin
  | str y => rw [rep_str] at rt; subst rt; obtain ⟨t, rfl⟩ := rx; exact PySem.W.kia_one PySem.W.kitx_str I.kIn True.intro (by cases kd <;> kernel_rfl) (fun z => nomatch z) fin
  | tup ts =>
    rw [rep_tup] at rt
    obtain ⟨p, vs, rfl, sq, _⟩ := rt
    cases rx
    obtain ⟨its, _, ⟨o, h1, h2, _⟩, _⟩ := I.tuple sq
    exact PySem.W.kia_one PySem.W.kitx_tuple I.kIn ⟨o, h1, h2⟩ (by cases kd <;> kernel_rfl) (fun z => nomatch z) fin
  | lst ts =>
    rw [rep_lst] at rt
    obtain ⟨p, vs, rfl, sq, _⟩ := rt
    cases rx
    obtain ⟨its, _, pl, _⟩ := I.list sq.sq
    obtain ⟨o, h1, h2, _⟩ := pl.isList
    exact PySem.W.kia_one PySem.W.kitx_list I.kIn ⟨o, h1, h2⟩ (by cases kd <;> kernel_rfl) (fun z => nomatch z) fin
  | dct =>
    rw [rep_dct] at rt
    obtain ⟨p, rfl, hp⟩ := rt
    cases rx
    exact PySem.W.kia_one PySem.W.kitx_dict I.kIn ⟨_, (I.hok p _ hp).1, rfl⟩ (by cases kd <;> kernel_rfl) (fun z => nomatch z) fin
  | exc c => exact ne.elim
  | exf c f t => exact ne.elim
def wIsi (kd : Kd) (wa : WE) : WE := fun τ Q => wa τ fun t => noExc t ∧ Q (.bl (isK kd t))
theorem jisi (kd : Kd) {p pc : Pos} {x : Str} (ha : JE X e wa) (hg : Gl X "isinstance") (hm : X.mg "isinstance" = none) (hgc : Gl X x) (hmc : X.mg x = none) (hvc : bootBuiltins x = some (.type kd.nm))
    (hn : x ≠ "__name__" := by decide) (hd : (x == ("__debug__" : Str)) = false := by decide)
    (hs : starEach [e, .Name x pc] X.env = (false, eval e X.env) :: starEach [.Name x pc] X.env := by exact star1 rfl) (hs1 : starEach [.Name x pc] X.env = (false, eval (.Name x pc) X.env) :: starEach [] X.env := by rfl)
    (hpl : (backTo pos (starEach [.Name x pc] X.env)).any (·.1) = false := by exact stars rfl) : JE X (.Call (.Name "isinstance" p) [e, .Name x pc] [] pos) (wIsi kd wa) := by
  refine pe_of (pe_callB (call_isi kd) hg hm boot_isinstance (pa_cons ha (pa_cons (pe_bltn (v := .ty kd.nm) hgc hmc hvc rfl hn hd) pa_nil hs1) hs) (by decide) (by decide) hs hpl) fun σ H Q ⟨τ, Q0, R, hw, k⟩ => ?_
  exact ⟨τ, _, R, hw, fun t v H1 S1 r1 q1 => ⟨v, t, rfl, r1, q1.1, k _ _ H1 S1 (rep_bl.mpr rfl) q1.2⟩⟩
abbrev SpT := List T → (T → Prop) → Prop
def spT (K : PySem.W.Frag) (n : Nat) (S : SpT) : Sp := fun vs H Q _ => ∃ (ts : List T) (Q0 : T → Prop), vs.length = n ∧ Reps K H ts vs ∧ S ts Q0 ∧ ∀ t v H', Same H H' → Rep K H' t v → Q0 t → Q v H'
structure FnT (P : Program) (w : World) (K : PySem.W.Frag) (mg : Str → Option Value) (base : Heap) (k : Nat) (f : Addr) (fd : FuncData) (ps : List Str) (S : SpT) : Prop where
  ok : FnOk P w K mg base CX0 k f fd ps (spT K ps.length S)
  len : ∀ ts Q, S ts Q → ts.length = ps.length
def wCall (S : SpT) (ws : WA) : WE := fun τ Q => ws τ fun ts => S ts Q
theorem jcall {k : Nat} {f : Addr} {fd : FuncData} {ps : List Str} {S : SpT} {x : Str} {p : Pos} (F : FnT X.prog X.w X.K X.mg X.base k f fd ps S) (hr : Room k X.A) (hg : Gl X x) (hm : X.mg x = some (.ref f)) (hk : PySem.W.keepIn X.K (.ref f) = true)
    (hb : Binds X.K fd ps []) (ha : JA X (e :: es) ws) (hdb : (x == ("__debug__" : Str)) = false := by decide) (he : starEach (e :: es) X.env = (false, eval e X.env) :: starEach es X.env := by exact star1 rfl)
    (hpl : (backTo pos (starEach es X.env)).any (·.1) = false := by exact stars rfl) : JE X (.Call (.Name x p) (e :: es) [] pos) (wCall S ws) := by
  refine pe_of (pe_call F.ok hr hg hm hk hb .nil pass0 ha hdb he hpl) fun σ H Q ⟨τ, Q0, R, hw, k⟩ => ?_
  refine ⟨τ, _, R, hw, fun ts vs H1 S1 r1 q1 => ?_⟩
  have e0 : vs ++ [] = vs := List.append_nil vs
  show spT X.K ps.length S (vs ++ []) H1 Q E0
  rw [e0]
  exact ⟨ts, Q0, by rw [r1.length]; exact F.len _ _ q1, r1, q1, fun t v H' S2 r q => k t v H' (S1.trans S2) r q⟩
def startT (n : Nat) (ts : List T) : List Slot := ts.map Slot.val ++ List.replicate (n - ts.length) Slot.no
theorem sget_append_left : ∀ {l r : List Slot} {i : Nat}, i < l.length → sget (l ++ r) i = sget l i
  | [], _, _, h => by simp at h
  | _ :: _, _, 0, _ => rfl
  | _ :: l, r, i + 1, h => by simp only [List.cons_append, sget]; exact sget_append_left (by simpa using h)
theorem sget_append_right : ∀ {l r : List Slot} {i : Nat}, l.length ≤ i → sget (l ++ r) i = sget r (i - l.length)
  | [], _, _, _ => by simp
  | _ :: _, _, 0, h => by simp at h
  | _ :: l, r, i + 1, h => by
    simp only [List.cons_append, sget, List.length_cons]
    rw [sget_append_right (by simpa using h)]
    congr 1
    omega
theorem sget_no : ∀ (n i : Nat), sget (List.replicate n Slot.no) i = .no
  | 0, _ => rfl
  | _ + 1, 0 => rfl
  | n + 1, i + 1 => by simp only [List.replicate, sget]; exact sget_no n i
theorem sget_vals : ∀ {ts : List T} {i : Nat}, i < ts.length → ∃ t, ts[i]? = some t ∧ sget (ts.map Slot.val) i = .val t
  | [], _, h => by simp at h
  | t :: _, 0, _ => ⟨t, rfl, rfl⟩
  | _ :: r, i + 1, h => by
    obtain ⟨t, h1, h2⟩ := sget_vals (ts := r) (i := i) (by simpa using h)
    exact ⟨t, by simpa using h1, by simpa [sget] using h2⟩
theorem repSt_start {K : PySem.W.Frag} {H : Hp} {N : List Str} {ts : List T} {vs : List V} (r : Reps K H ts vs) : RepSt K H H (L2.start N vs) (startT N.length ts) := by
  have hl := r.length
  have noOwn : ∀ i us, sget (startT N.length ts) i ≠ .own us := fun i us e => by
    unfold startT at e
    by_cases hi : i < ts.length
    · rw [sget_append_left (by simpa using hi)] at e
      obtain ⟨t, _, h2⟩ := sget_vals hi
      rw [h2] at e
      cases e
    · rw [sget_append_right (by simpa using hi), sget_no] at e
      cases e
  refine ⟨.refl H, by unfold L2.start startT; simp [hl], fun i => ?_, fun i j ts' us p _ h1 _ _ _ => absurd h1 (noOwn i _)⟩
  unfold startT
  by_cases hi : i < ts.length
  · rw [sget_append_left (by simpa using hi)]
    obtain ⟨t, h1, h2⟩ := sget_vals hi
    rw [h2]
    obtain ⟨v, e, rv⟩ := r.get h1
    refine ⟨v, ?_, rv⟩
    unfold L2.start
    rw [List.getElem?_append_left (by simp [hl, hi]), List.getElem?_map, e]
    rfl
  · rw [sget_append_right (by simpa using hi), sget_no]
    trivial
theorem fnT {P : Program} {w : World} {K : PySem.W.Frag} {mg : Str → Option Value} {base : Heap} {x qual : Str} {st : Stmt} {f : Addr} {fd : FuncData} {N ps : List Str} {k : Nat} {S : SpT} {W : WS} (F : Fun K x qual st f fd) (SC : FnScope N ps (defScope st))
    (hlen : ∀ ts Q, S ts Q → ts.length = ps.length)
    (hbody : ∀ (cdv : Value) (A : Around) (outer : List Env) (s : Shared) (H : Hp) (E : XK), Room k (A.deeper (envOfC qual (defScope st) s.heap.objs.size f cdv)) → JSs (cxOf CX0 P w K mg base N qual (defScope st) f cdv A outer s H E).nox (defBody st) W)
    (hw : ∀ ts Q, S ts Q → W { nx := fun _ => Q .non, rt := Q } (startT N.length ts)) : FnT P w K mg base (k + 1) f fd ps S := by
  refine ⟨F.ok SC (fun vs H Q E h => ?_) (fun cdv A outer s H vs Q E hr h => ?_), hlen⟩
  · obtain ⟨_, _, e, _⟩ := h
    exact e
  obtain ⟨ts, Q0, e, r, hS, q⟩ := h
  refine ⟨_, hbody cdv A outer s H E hr, startT N.length ts, { nx := fun _ => Q0 .non, rt := Q0 }, repSt_start r, hw ts Q0 hS, fun τ' σ' H' _ R n => ?_, fun t v H' S r' n => q t v H' S r' n, fun τ' σ' H' _ R n => n.elim, fun τ' σ' H' _ R n => n.elim⟩
  exact q .non .non H' R.same (rep_non.mpr rfl) n
variable {st : Stmt} {rest : List Stmt} {t u : WS} {ua : WT}
def sNext : WS := fun D τ => D.nx τ
def sSeq (t u : WS) : WS := fun D τ => t { D with nx := u D } τ
theorem js0 : JSs X [] sNext := pss_of pss_nil fun D σ H ⟨τ, D0, R, hw, k, _⟩ => k τ σ H (.refl H) R hw
theorem js1 (h : JS X st t) : JSs X [st] t := pss_of (pss_one h) fun D σ H z => z
theorem jsc (h1 : JS X st t) (h2 : JSs X rest u) : JSs X (st :: rest) (sSeq t u) := pss_of (pss_cons h1 h2) fun D σ H ⟨τ, D0, R, hw, kn, kr, kb, kc⟩ =>
  ⟨τ, _, R, hw, fun τ' σ' H' K1 R' q => ⟨τ', D0, R', q, fun τ2 σ2 H2 K2 R2 q2 => kn τ2 σ2 H2 (K1.trans K2) R2 q2, kr, fun τ2 σ2 H2 K2 R2 q2 => kb τ2 σ2 H2 (K1.trans K2) R2 q2, fun τ2 σ2 H2 K2 R2 q2 => kc τ2 σ2 H2 (K1.trans K2) R2 q2⟩,
    kr, kb, kc⟩
def sRet (w : WE) : WS := fun D τ => w τ D.rt
theorem jret (h : JE X e w) : JS X (.Return (some e) pos) (sRet w) := ps_of (ps_ret h) fun D σ H ⟨τ, D0, R, hw, _, k, _⟩ => ⟨τ, _, R, hw, fun t v H' S r q => k t v H' (R.same.trans S) r q⟩
def sRetN : WS := fun D _ => D.rt .non
def sIf (ua : WT) (t u : WS) : WS := fun D τ => ua τ fun k => (k = true → t D τ) ∧ (k = false → u D τ)
theorem jsif {c : Expr} {a b : List Stmt} (hc : JT X c ua) (ha : JSs X a t) (hb : JSs X b u) : JS X (.If c a b pos) (sIf ua t u) := ps_of (ps_if hc ha hb) fun D σ H ⟨τ, D0, R, hw, kn, kr, kb, kc⟩ => by
  refine ⟨τ, _, R, hw, fun d H1 S1 q => ?_⟩
  have K1 := Kp.of S1
  cases d with
  | true => dsimp only; rw [if_pos rfl]; exact ⟨τ, D0, R.mono S1, q.1 rfl, fun τ2 σ2 H2 K2 R2 q2 => kn τ2 σ2 H2 (K1.trans K2) R2 q2, kr, fun τ2 σ2 H2 K2 R2 q2 => kb τ2 σ2 H2 (K1.trans K2) R2 q2, fun τ2 σ2 H2 K2 R2 q2 => kc τ2 σ2 H2 (K1.trans K2) R2 q2⟩
  | false => dsimp only; rw [if_neg Bool.false_ne_true]; exact ⟨τ, D0, R.mono S1, q.2 rfl, fun τ2 σ2 H2 K2 R2 q2 => kn τ2 σ2 H2 (K1.trans K2) R2 q2, kr, fun τ2 σ2 H2 K2 R2 q2 => kb τ2 σ2 H2 (K1.trans K2) R2 q2, fun τ2 σ2 H2 K2 R2 q2 => kc τ2 σ2 H2 (K1.trans K2) R2 q2⟩
def sExpr (w : WE) : WS := fun D τ => w τ fun _ => D.nx τ
def sSet (i : Nat) (w : WE) : WS := fun D τ => w τ fun t => D.nx (sput τ i (.val t))
theorem jset {i : Nat} {x : Str} {pos' : Pos} (hN : X.N.Nodup) (hi : X.N[i]? = some x) (hx : Loc X.env.scope x) (he : JE X e w) (hs : swapsWith e (some (.Name x pos')) pos.line X.env = pure false := by rfl)
    (hf : X.fn x = true ∨ X.env.scope.names.lookup x = some .local := by first | exact .inl rfl | exact .inr rfl | assumption) : JS X (.Assign [.Name x pos'] e pos) (sSet i w) :=
  ps_of (ps_set hN hi hx he hs hf) fun D σ H ⟨τ, D0, R, hw, k, _⟩ => ⟨τ, _, R, hw, fun t v H' S r q => k _ _ H' (.of S) ((R.mono S).put r) q⟩
def sOwn (i : Nat) (ws : WA) : WS := fun D τ => ws τ fun ts => ts.length ≤ 1000 ∧ D.nx (sput τ i (.own ts))
theorem jown {i : Nat} {x : Str} {pos' pl : Pos} (hN : X.N.Nodup) (hi : X.N[i]? = some x) (hx : Loc X.env.scope x) (he : JA X es ws) (hs : swapsWith (.List es pl) (some (.Name x pos')) pos.line X.env = pure false := by rfl)
    (hf : X.fn x = true ∨ X.env.scope.names.lookup x = some .local := by first | exact .inl rfl | exact .inr rfl | assumption) : JS X (.Assign [.Name x pos'] (.List es pl) pos) (sOwn i ws) :=
  ps_of (ps_set hN hi hx (pe_lst he) hs hf) fun D σ H ⟨τ, D0, R, hw, k, _⟩ => ⟨τ, _, R, hw, fun ts vs H' S r ⟨hl, q⟩ =>
    ⟨by rw [r.length]; exact few hl, fun p hp => k _ _ _ ((Kp.of S).trans (.of (same_new hp _))) ((R.mono S).putOwn hp r) q⟩⟩
def sApp (i : Nat) (w : WE) : WS := fun D τ => match sget τ i with
  | .own ts => w τ fun t => ts.length < 1000 ∧ D.nx (sput τ i (.own (ts ++ [t])))
  | _ => False
theorem japp {i : Nat} {x : Str} {px apos cpos : Pos} (hv : PE X (.Name x px) (tVar i)) (he : JE X e w)
    (hs : swapsWith (.Call (.Attribute (.Name x px) "append" apos) [e] [] cpos) none pos.line X.env = pure false := by rfl)
    (hbase : attributeBase (.Name x px) "append" X.env (eval (.Name x px) X.env) = eval (.Name x px) X.env := by rfl)
    (hfew : ((backTo cpos (starEach [e] X.env)).all (fun x => !x.1) && (backToKw cpos (keywordEach [] X.env)).all (fun x => x.1.isSome)
      && decide ([e].length + ([] : List Keyword).length + (if ([] : List Keyword).isEmpty then 0 else 1) < 30)) = true := by rfl)
    (hline : (apos.endLine == cpos.line) = true := by rfl) (hst : starEach [e] X.env = (false, eval e X.env) :: starEach [] X.env := by rfl) (hplain : (backTo cpos (starEach [] X.env)).any (·.1) = false := by rfl) :
    JS X (.Expr (.Call (.Attribute (.Name x px) "append" apos) [e] [] cpos) pos) (sApp i w) := by
  refine ps_of (ps_expr (pe_bm PySem.F.plainAttrs_list PySem.F.slot_list_append PySem.F.type_list_append mt_append hv (pa_cons he pa_nil hst) hbase hfew hline hst hplain) hs) fun D σ H ⟨τ, D0, R, hw, k, _⟩ => ?_
  unfold sApp at hw
  cases own : sget τ i with
  | no => rw [own] at hw; exact hw.elim
  | val t => rw [own] at hw; exact hw.elim
  | see t => rw [own] at hw; exact hw.elim
  | dic t => rw [own] at hw; exact hw.elim
  | vat t v => rw [own] at hw; exact hw.elim
  | own ts =>
    rw [own] at hw
    have sl := R.slot i
    rw [own] at sl
    obtain ⟨p, vs, ev, hp, rr, n0⟩ := sl
    refine ⟨.ref p, ev, .inl ⟨rfl, vs, SqL.of hp⟩, τ, _, R, hw, fun t v H' S r q => ?_⟩
    refine ⟨p, vs, v, rfl, rfl, S _ _ hp, by rw [rr.length]; exact small1000 (Nat.le_of_lt q.1), ?_⟩
    exact k _ _ _ ((Kp.of S).trans (Kp.write (S _ _ hp) _)) ((R.mono S).write own ev (S _ _ hp) ((rr.kp (.of S)).append (.one r))) q.2
def sFrz (i : Nat) (t : WS) : WS := fun D τ => match sget τ i with
  | .own ts => t D (sput τ i (.val (.lst ts)))
  | _ => False
theorem Inv.freeze {pins : List (Addr × Obj)} {σ : St} {H : Hp} {s : Shared} {p : Addr} {xs : List V} (I : Inv X pins σ H s) (h : H p = some (.lst xs)) : ∃ o, Inv X pins σ (upd H p (.frz o (.lst xs))) s := by
  obtain ⟨z, its, n, r, e⟩ := I.hok p _ h
  refine ⟨{ cls := .type "list", data := .seq its.toArray n }, ?_⟩
  have ne : ∀ {b : Addr} {o : HO}, H b = some o → o ≠ .lst xs → b ≠ p := fun q d z => by subst z; rw [h] at q; cases q; exact d rfl
  have nn : ∀ {b : Addr}, H b = none → b ≠ p := fun q z => by subst z; rw [h] at q; cases q
  have u : Un X.fs [] H (upd H p (.frz { cls := .type "list", data := .seq its.toArray n } (.lst xs))) s.heap s.heap := by
    refine ⟨fun b o q _ _ _ => q, fun b o q _ _ _ => ⟨o.slots, q⟩, fun b o _ q _ => by rw [upd_ne (nn q)]; exact q, fun b o q _ => ⟨o, q⟩, fun b ys q => ?_, fun b o' u' q => ?_, fun b ps q => ⟨#[], ?_⟩⟩
    · rw [upd_ne (by rintro rfl; rw [h] at q; cases q)]; exact q
    · rw [upd_ne (by rintro rfl; rw [h] at q; cases q)]; exact q
    · rw [upd_ne (by rintro rfl; rw [h] at q; cases q), q]; simp
  have hok : HOk X.prog X.w (upd H p (.frz { cls := .type "list", data := .seq its.toArray n } (.lst xs))) s.heap := fun b ob q => by
    by_cases hb : b = p
    · subst hb
      rw [upd_same] at q
      cases q
      exact ⟨e, z, its, n, r, e⟩
    · rw [upd_ne hb] at q
      refine (I.hok b ob q).stay (fun c v _ q => q) (fun c q => ?_) fun c ys q => ?_
      · rw [upd_ne (by rintro rfl; rw [h] at q; cases q)]; exact q
      · rw [upd_ne (by rintro rfl; rw [h] at q; cases q)]; exact q
  have := I.un (h' := s.heap) (t' := s.toks) u hok
  exact this
theorem jfrz (i : Nat) {sts : List Stmt} (h : JSs X sts t) : JSs X sts (sFrz i t) := by
  intro pins s σ H D I hw
  obtain ⟨τ, D0, R, hw, kn, kr, kb, kc⟩ := hw
  unfold sFrz at hw
  cases own : sget τ i with
  | no => rw [own] at hw; exact hw.elim
  | val t => rw [own] at hw; exact hw.elim
  | see t => rw [own] at hw; exact hw.elim
  | dic t => rw [own] at hw; exact hw.elim
  | vat t v => rw [own] at hw; exact hw.elim
  | own ts =>
    rw [own] at hw
    have sl := R.slot i
    rw [own] at sl
    obtain ⟨p, vs, ev, hp, rr, n0⟩ := sl
    obtain ⟨o, I'⟩ := Inv.freeze I hp
    have K1 := Kp.write hp (.frz o (.lst vs))
    exact h pins s σ _ D I' ⟨_, D0, R.freeze own ev hp rr, hw, fun τ2 σ2 H2 K2 R2 q2 => kn τ2 σ2 H2 (K1.trans K2) R2 q2, kr, fun τ2 σ2 H2 K2 R2 q2 => kb τ2 σ2 H2 (K1.trans K2) R2 q2, fun τ2 σ2 H2 K2 R2 q2 => kc τ2 σ2 H2 (K1.trans K2) R2 q2⟩
abbrev TGt := T → List Slot → (List Slot → Prop) → Prop
abbrev TGts := List T → List Slot → (List Slot → Prop) → Prop
def upG (K : PySem.W.Frag) (H0 : Hp) (g : TGt) : TG := fun v σ H Q => ∃ (t : T) (τ : List Slot) (Q0 : List Slot → Prop), RepSt K H0 H σ τ ∧ Rep K H t v ∧ g t τ Q0 ∧ ∀ τ' σ' H', Same H H' → RepSt K H0 H' σ' τ' → Q0 τ' → Q σ' H'
def upGs (K : PySem.W.Frag) (H0 : Hp) (g : TGts) : TGs := fun vs σ H Q => ∃ (ts : List T) (τ : List Slot) (Q0 : List Slot → Prop), RepSt K H0 H σ τ ∧ Reps K H ts vs ∧ g ts τ Q0 ∧ ∀ τ' σ' H', Same H H' → RepSt K H0 H' σ' τ' → Q0 τ' → Q σ' H'
def JG (X : Cx) (tg : Expr) (g : TGt) : Prop := PG X tg (upG X.K X.H₀ g)
def JGs (X : Cx) (tgs : List Expr) (g : TGts) : Prop := PGs X tgs (upGs X.K X.H₀ g)
theorem pg_of {tg : Expr} {t t' : TG} (h : PG X tg t) (f : ∀ v σ H Q, t' v σ H Q → t v σ H Q) : PG X tg t' := fun pins s σ H v u Q I r hw => h pins s σ H v u Q I r (f v σ H Q hw)
theorem pgs_of {tg : List Expr} {t t' : TGs} (h : PGs X tg t) (f : ∀ v σ H Q, t' v σ H Q → t v σ H Q) : PGs X tg t' := fun pins s σ H v u Q I r hw => h pins s σ H v u Q I r (f v σ H Q hw)
def gN (i : Nat) : TGt := fun t τ Q => Q (sput τ i (.val t))
theorem jg {i : Nat} {x : Str} (hN : X.N.Nodup) (hi : X.N[i]? = some x) (hx : Loc X.env.scope x) (hf : X.fn x = true ∨ X.env.scope.names.lookup x = some .local := by first | exact .inl rfl | exact .inr rfl | assumption) : JG X (.Name x pos) (gN i) :=
  pg_of (pg_name hN hi hx hf) fun v σ H Q ⟨t, τ, Q0, R, r, hw, k⟩ => k _ _ H (.refl H) (R.put r) hw
def gs0 : TGts := fun ts τ Q => match ts with | [] => Q τ | _ => False
def gsC (g : TGt) (gs : TGts) : TGts := fun ts τ Q => match ts with | t :: r => g t τ fun τ' => gs r τ' Q | [] => False
theorem jgs0 : JGs X [] gs0 := pgs_of pgs_nil fun vs σ H Q ⟨ts, τ, Q0, R, r, hw, k⟩ => by
  cases ts with
  | nil => exact ⟨reps_nil.mp r, k τ σ H (.refl H) R hw⟩
  | cons t r => exact hw.elim
theorem jgsc {e : Expr} {es : List Expr} {g : TGt} {gs : TGts} (h1 : JG X e g) (h2 : JGs X es gs) (hs : (assignEach (e :: es) X.env).map (·.2) = assign e X.env :: (assignEach es X.env).map (·.2) := by rfl) : JGs X (e :: es) (gsC g gs) :=
  pgs_of (pgs_cons h1 h2 hs) fun vs σ H Q ⟨ts, τ, Q0, R, r, hw, k⟩ => by
    cases ts with
    | nil => exact hw.elim
    | cons t ts =>
      rw [reps_cons] at r
      obtain ⟨v, vr, e1, r1, r2⟩ := r
      exact ⟨v, vr, e1, t, τ, _, R, r1, hw, fun τ1 σ1 H1 S1 R1 q1 => ⟨ts, τ1, Q0, R1, r2.kp (.of S1), q1, fun τ2 σ2 H2 S2 R2 q2 => k τ2 σ2 H2 (S1.trans S2) R2 q2⟩⟩
theorem draw_list {prog : Program} {w : World} {A : Around} {E : Value → Shared → Prop} {it l : Addr} {items : Array Value} (hne : l ≠ it) : ∀ (n i : Nat) (s : Shared) (Q : List Value → Shared → Prop), s.heap.IsListIter it l i → s.heap.IsList l items → i + n ≤ items.size →
    (∀ h', h'.IsListIter it l (i + n) → Heap.SameBut it s.heap h' → Q ((items.toList.drop i).take n) { s with heap := h' }) → wpAny (model prog w) A (draw (.ref it) n) Q E s
  | 0, i, s, Q, hit, _, _, hQ => by
    show wpAny _ _ (pure []) Q E s
    exact wpAny_pure (by simpa using hQ s.heap hit (Heap.SameBut.refl ..))
  | n + 1, i, s, Q, hit, ht, hle, hQ => by
    have hlt : i < items.size := by omega
    show wpAny _ _ (pyNext (.ref it) >>= _) Q E s
    refine wpAny_bind (wpAny_pyNext_list_item hit ht (x := items[i]) (by simp [hlt]) fun h₁ hit₁ hs₁ => ?_)
    refine wpAny_bind (wpAny_holding (draw_list hne n (i + 1) _ _ hit₁ (ht.extBut hs₁.extBut hne) (by omega) fun h₂ hit₂ hs₂ => wpAny_pure ?_))
    have hd : items.toList.drop i = items[i] :: items.toList.drop (i + 1) := by simp [List.drop_eq_getElem_cons, hlt]
    have := hQ h₂ (by rw [show i + (n + 1) = i + 1 + n by omega]; exact hit₂) (hs₁.trans hs₂)
    rw [hd, List.take_succ_cons] at this
    exact this
theorem unpackItems_list {prog : Program} {w : World} {A : Around} {E : Value → Shared → Prop} {s : Shared} {t : Addr} {items : Array Value} {Q : List Value → Shared → Prop} (hh : A.handled = none) (ht : s.heap.IsList t items)
    (hQ : ∀ h', Heap.ExtBut s.heap.objs.size s.heap h' → Q items.toList { s with heap := h' }) : wpAny (model prog w) A (unpackItems (.ref t) items.size none) Q E s := by
  have hlt : t ≠ s.heap.objs.size := by obtain ⟨o, ho, _⟩ := ht; exact Nat.ne_of_lt (Heap.lt_size ho)
  unfold unpackItems
  refine wpAny_bind ?_
  · unfold notIterableAtAll
    refine wpAny_bind (wpAny_specialOf ht.typeIs slot_list_iter.lookup ?_)
    refine wpAny_pure ?_
    simp only [Bool.false_eq_true, if_false]
    refine wpAny_bind (wpAny_holding (wpAny_pyIter_list ht ?_))
    have htp : (s.heap.push { cls := .type "list_iterator", data := .fields #[.ref t, .int 0 0] }).IsList t items := by
      obtain ⟨o, ho, r⟩ := ht
      exact ⟨o, Heap.get?_push_of_some _ ho, r⟩
    refine wpAny_bind (wpAny_holding (draw_list hlt items.size 0 _ _ ⟨_, Heap.get?_push_size _ rfl, rfl, rfl⟩ htp (by omega) fun h₁ hit₁ hs₁ => ?_))
    have hall : List.take items.size (List.drop 0 items.toList) = items.toList := by
      rw [List.drop_zero]; exact List.take_of_length_le (by simp)
    rw [hall]
    rw [if_neg (by simp)]
    have ht₁ : h₁.IsList t items := htp.extBut hs₁.extBut hlt
    refine wpAny_bind (wpAny_holding (wpAny_pyNext_list_end hh hit₁ ht₁ (by simp) fun h₂ he₂ => ?_))
    simp only [Option.isSome_none, Bool.false_eq_true, if_false]
    refine wpAny_pure (hQ h₂ fun b o hb e => he₂ b o hb (hs₁.extBut b o hb (Heap.get?_push_of_some _ e)))
theorem assign_Tuple_list {prog : Program} {w : World} {A : Around} {E : Value → Shared → Prop} {s : Shared} {env : Env} {elts : List Expr} {x1} {pos : Pos} {t : Addr} {items : Array Value} {Q : Unit → Shared → Prop} (hh : A.handled = none) (ht : s.heap.IsList t items)
    (hn : (assignEach elts env).length = items.size) (hstar : (assignEach elts env).findIdx? (·.1) = none)
    (h : ∀ h', Heap.ExtBut s.heap.objs.size s.heap h' → wpAny (model prog w) A (assignInOrder ((assignEach elts env).map (·.2)) items.toList) Q E { s with heap := h' }) :
    wpAny (model prog w) A (assign (.Tuple elts x1 pos) env (.ref t)) Q E s := by
  rw [assign_Tuple]
  refine wpAny_bind (wpAny_standAt ?_)
  unfold unpack
  rw [hn, hstar]
  exact wpAny_bind (wpAny_holding (unpackItems_list hh ht h))
def gT (n : Nat) (gs : TGts) : TGt := fun t τ Q => match t with
  | .tup ts => ts.length = n ∧ gs ts τ Q
  | .lst ts => ts.length = n ∧ gs ts τ Q
  | _ => False
theorem jgt {es : List Expr} {k : Nat} {gs : TGts} {n : Nat} (hc : X.calm = true) (h : JGs X es gs) (hn : (assignEach es X.env).length = n := by rfl) (hst : (assignEach es X.env).findIdx? (·.1) = none := by rfl) : JG X (.Tuple es k pos) (gT n gs) := by
  intro pins s σ H v u Q I r hw
  obtain ⟨t, τ, Q0, R, rt, hw, kk⟩ := hw
  cases t <;> first | exact hw.elim | skip
  · rename_i ts
    rw [rep_tup] at rt
    obtain ⟨p, vs, rfl, sq, rr⟩ := rt
    cases r
    obtain ⟨its, rv, ht, hz⟩ := I.tuple sq
    refine assign_Tuple_tuple (I.ok.hd hc) ht (by simp [hn, ← hw.1, ← rr.length, rv.length]) hst fun h' hx => ?_
    have I1 : Inv X pins σ H { s with heap := h' } := I.kept (t' := s.toks) fun b o e => hx b o (Nat.ne_of_lt (Heap.lt_size e)) e
    exact h pins _ σ H vs _ Q I1 (by simpa using rv) ⟨ts, τ, Q0, R, rr, hw.2, kk⟩
  · rename_i ts
    rw [rep_lst] at rt
    obtain ⟨p, vs, rfl, sq, rr⟩ := rt
    cases r
    obtain ⟨its, rv, ht, hz⟩ := I.list sq.sq
    refine assign_Tuple_list (I.ok.hd hc) ht.isList (by simp [hn, ← hw.1, ← rr.length, rv.length]) hst fun h' hx => ?_
    have I1 : Inv X pins σ H { s with heap := h' } := I.kept (t' := s.toks) fun b o e => hx b o (Nat.ne_of_lt (Heap.lt_size e)) e
    exact h pins _ σ H vs _ Q I1 (by simpa using rv) ⟨ts, τ, Q0, R, rr, hw.2, kk⟩
def sAsg (g : TGt) (w : WE) : WS := fun D τ => w τ fun t => g t τ D.nx
theorem jasg {tg : Expr} {g : TGt} (hg : JG X tg g) (he : JE X e w) (hs : swapsWithSole [tg] e pos.line X.env = pure false := by rfl) (hw : swappedStores [tg] e X.env = pure none := by rfl)
    (h1 : (assignEach [tg] X.env).map (·.2) = [assign tg X.env] := by rfl) : JS X (.Assign [tg] e pos) (sAsg g w) :=
  ps_of (ps_asg he hg hs hw h1) fun D σ H ⟨τ, D0, R, hw, k, _⟩ => ⟨τ, _, R, hw, fun t v H' S r q => ⟨t, τ, _, R.mono S, r, q, fun τ' σ' H2 S2 R2 q2 => k τ' σ' H2 (.of (S.trans S2)) R2 q2⟩⟩
def sPar (i j : Nat) (ws : WA) : WS := fun D τ => ws τ fun ts => match ts with | [x, y] => D.nx (sput (sput τ i (.val x)) j (.val y)) | _ => False
def sWhile (ua : WT) (t : WS) : WS := fun D τ => ∃ I : Nat → List Slot → Prop, (∃ m, I m τ) ∧ ∀ m τ, I m τ → ua τ fun k =>
  (k = true → t { D with nx := fun τ' => ∃ m', m' < m ∧ I m' τ', ct := fun τ' => ∃ m', m' < m ∧ I m' τ', bk := D.nx } τ) ∧ (k = false → D.nx τ)
theorem jwhile {c : Expr} {body : List Stmt} (hp : PassesOwn (model X.prog X.w) X.A X.env X.xe) (hc : JT X c ua) (hb : JSs X body t) : JS X (.While c body [] pos) (sWhile ua t) :=
  ps_of (ps_while hp hc hb) fun D σ H ⟨τ, D0, R, ⟨I, ⟨m0, h0⟩, turn⟩, kn, kr, kb, kc⟩ => by
    refine ⟨fun m σ' H' => ∃ τ', RepSt X.K X.H₀ H' σ' τ' ∧ Kp H H' ∧ I m τ', ⟨m0, τ, R, .refl H, h0⟩, fun m σ1 H1 ⟨τ1, R1, K1, i1⟩ => ?_⟩
    refine ⟨τ1, _, R1, turn m τ1 i1, fun k H2 S2 q => ?_⟩
    cases k with
    | true =>
      rw [if_pos rfl]
      have K2 := K1.trans (.of S2)
      have nx : ∀ τ' σ' H', Kp H2 H' → RepSt X.K X.H₀ H' σ' τ' → (∃ m', m' < m ∧ I m' τ') → ∃ m', m' < m ∧ ∃ τ', RepSt X.K X.H₀ H' σ' τ' ∧ Kp H H' ∧ I m' τ' := fun τ' σ' H' K3 R3 ⟨m', lt, i3⟩ => ⟨m', lt, τ', R3, K2.trans K3, i3⟩
      exact ⟨fun σ' H' => ∃ m', m' < m ∧ ∃ τ', RepSt X.K X.H₀ H' σ' τ' ∧ Kp H H' ∧ I m' τ', fun σ' H' z => z, τ1, _, R1.mono S2, q.1 rfl, nx, kr, fun τ' σ' H' K3 R3 q3 => kn τ' σ' H' (K2.trans K3) R3 q3, nx⟩
    | false =>
      rw [if_neg Bool.false_ne_true]
      exact kn τ1 σ1 H2 (K1.trans (.of S2)) (R1.mono S2) (q.2 rfl)
abbrev WI := List Slot → (List T → Prop) → Prop
def Wk (K : PySem.W.Frag) (J : It) (ts : List T) (H1 : Hp) : Prop := ∀ H2, Kp H1 H2 → (∀ i t, ts[i]? = some t → J.go i H2 ∧ ∀ x H3, J.yld i H2 x H3 → Same H2 H3 ∧ Rep K H3 t x) ∧ J.stop ts.length H2
def upI (K : PySem.W.Frag) (H0 : Hp) (w : WI) : TI := fun σ H R => ∃ (τ : List Slot) (Q0 : List T → Prop), RepSt K H0 H σ τ ∧ w τ Q0 ∧ ∀ ts J H', Same H H' → Wk K J ts H' → Q0 ts → R J H'
def JI (X : Cx) (tg iter : Expr) (w : WI) : Prop := PI X tg iter (upI X.K X.H₀ w)
theorem pi_of {tg iter : Expr} {t t' : TI} (h : PI X tg iter t) (f : ∀ σ H R, t' σ H R → t σ H R) : PI X tg iter t' := fun pins s σ H R I hw => h pins s σ H R I (f σ H R hw)
def forT (g : TGt) (t : WS) : List T → WS
  | [], D, τ => D.nx τ
  | x :: xs, D, τ => g x τ fun τ1 => t { D with nx := forT g t xs D, ct := forT g t xs D, bk := D.nx } τ1
def sFor (wi : WI) (g : TGt) (t : WS) : WS := fun D τ => wi τ fun ts => forT g t ts D τ
theorem jfor {tg iter : Expr} {body : List Stmt} {wi : WI} {g : TGt} (hp : PassesOwn (model X.prog X.w) X.A X.env X.xe) (hc : X.calm = true) (hi : JI X tg iter wi) (hg : JG X tg g) (hb : JSs X body t)
    (hs : ∀ x, foldedSetIterable iter X.env x = pure x := by intro _; rfl) : JS X (.For tg iter body [] pos) (sFor wi g t) :=
  ps_of (ps_for hp hc hi hg hb hs) fun D σ H ⟨τ, D0, R, hw, kn, kr, kb, kc⟩ => by
    refine ⟨τ, _, R, hw, fun ts J H1 S1 wk q => ?_⟩
    have K0 := Kp.of S1
    refine ⟨fun i m σ' H' => m = ts.length - i ∧ i ≤ ts.length ∧ ∃ τ', RepSt X.K X.H₀ H' σ' τ' ∧ Kp H1 H' ∧ forT g t (ts.drop i) D0 τ', ⟨ts.length, by simp, Nat.zero_le _, τ, R.mono S1, .refl H1, by simpa using q⟩, ?_⟩
    rintro i m σ2 H2 ⟨rfl, hi, τ2, R2, K2, q2⟩
    obtain ⟨wi, ws⟩ := wk H2 K2
    by_cases hlt : i < ts.length
    · refine .inr ?_
      have ei : ts[i]? = some ts[i] := List.getElem?_eq_getElem hlt
      obtain ⟨go, yl⟩ := wi i _ ei
      rw [List.drop_eq_getElem_cons hlt] at q2
      refine ⟨go, fun σ' H' => ∃ τ', RepSt X.K X.H₀ H' σ' τ' ∧ Kp H1 H' ∧ forT g t (ts.drop (i + 1)) D0 τ', fun σ' H' ⟨τ', R', K', q'⟩ => ⟨ts.length - (i + 1), by omega, rfl, hlt, τ', R', K', q'⟩, fun x H3 y => ?_⟩
      obtain ⟨S3, r3⟩ := yl x H3 y
      refine ⟨ts[i], τ2, _, R2.mono S3, r3, q2, fun τ4 σ4 H4 S4 R4 q4 => ?_⟩
      have K4 := K2.trans (.of (S3.trans S4))
      have nx : ∀ τ' σ' H', Kp H4 H' → RepSt X.K X.H₀ H' σ' τ' → forT g t (ts.drop (i + 1)) D0 τ' → ∃ τ', RepSt X.K X.H₀ H' σ' τ' ∧ Kp H1 H' ∧ forT g t (ts.drop (i + 1)) D0 τ' := fun τ' σ' H' K5 R5 q5 => ⟨τ', R5, K4.trans K5, q5⟩
      exact ⟨τ4, _, R4, q4, nx, kr, fun τ' σ' H' K5 R5 q5 => kn τ' σ' H' (K0.trans (K4.trans K5)) R5 q5, nx⟩
    · have e : i = ts.length := by omega
      subst e
      rw [List.drop_length] at q2
      exact .inl ⟨ws, kn τ2 σ2 H2 (K0.trans K2) R2 q2⟩
def iSeq (w : WE) : WI := fun τ Q => w τ fun t => match t with
  | .tup ts => Q ts
  | .lst ts => Q ts
  | _ => False
theorem jiSeq {tg l : Expr} (h : JE X l w) : JI X tg l (iSeq w) := by
  intro pins s σ H R I hw
  obtain ⟨τ, Q0, Rs, hw, k⟩ := hw
  refine thn (h pins s σ H (fun v H1 => ∃ t, Same H H1 ∧ Rep X.K H1 t v ∧ (match t with | .tup ts => Q0 ts | .lst ts => Q0 ts | _ => False)) I ⟨τ, _, Rs, hw, fun t v H1 S r q => ⟨t, S, r, q⟩⟩) fun v s1 ⟨x, H1, I1, r1, t, S1, rt, q1⟩ => ?_
  cases t <;> first | exact q1.elim | skip
  · rename_i ts
    rw [rep_tup] at rt
    obtain ⟨a, vs, rfl, hq, rr⟩ := rt
    cases r1
    obtain ⟨its, rv, p, hz⟩ := I1.tuple hq
    refine wpAny_pyIter_tuple (show s1.heap.IsTuple a its.toArray from p) ?_
    refine ⟨s1.heap.objs.size, [s1.heap.objs.size], _, _, H1, rfl, I1.kept (t' := s1.toks) fun b o e => Heap.get?_push_of_some _ e, turn_tuple a _, ⟨_, Heap.get?_push_size _ rfl, rfl, rfl⟩, fun b hb => ?_, k ts (Itt X.K a) H1 S1 ?_ q1⟩
    · have e : b = s1.heap.objs.size := by simpa using hb
      subst e
      exact I1.fpOk (Nat.le_refl _) (I1.hok.fresh (Nat.le_refl _))
    · intro H2 K2
      have sq2 := sqT_kp K2 hq
      refine ⟨fun i t ei => ?_, ⟨vs, sq2, by rw [rr.length]; exact Nat.le_refl _⟩⟩
      obtain ⟨v, ev, rv⟩ := rr.get ei
      refine ⟨⟨vs, v, sq2, ev⟩, fun x H3 y => ?_⟩
      obtain ⟨rfl, y⟩ := y
      have z := y vs sq2
      rw [ev] at z
      cases z
      exact ⟨.refl _, rv.kp K2⟩
  · rename_i ts
    rw [rep_lst] at rt
    obtain ⟨a, vs, rfl, hq, rr⟩ := rt
    cases r1
    obtain ⟨its, rv, p, hz⟩ := I1.list hq.sq
    refine wpAny_pyIter_list p.isList ?_
    refine ⟨s1.heap.objs.size, [s1.heap.objs.size], _, _, H1, rfl, I1.kept (t' := s1.toks) fun b o e => Heap.get?_push_of_some _ e, turn_list a _, ⟨_, Heap.get?_push_size _ rfl, rfl, rfl⟩, fun b hb => ?_, k ts (Itl X.K a) H1 S1 ?_ q1⟩
    · have e : b = s1.heap.objs.size := by simpa using hb
      subst e
      exact I1.fpOk (Nat.le_refl _) (I1.hok.fresh (Nat.le_refl _))
    · intro H2 K2
      have sq2 := (sqF_kp K2 hq).sq
      refine ⟨fun i t ei => ?_, ⟨vs, sq2, by rw [rr.length]; exact Nat.le_refl _⟩⟩
      obtain ⟨v, ev, rv⟩ := rr.get ei
      refine ⟨⟨vs, v, sq2, ev⟩, fun x H3 y => ?_⟩
      obtain ⟨rfl, y⟩ := y
      have z := y vs sq2
      rw [ev] at z
      cases z
      exact ⟨.refl _, rv.kp K2⟩
def rangeT : Int → Nat → List T
  | _, 0 => []
  | lo, n + 1 => .int lo :: rangeT (lo + 1) n
theorem rangeT_length : ∀ (lo : Int) (n : Nat), (rangeT lo n).length = n
  | _, 0 => rfl
  | lo, n + 1 => by simp [rangeT, rangeT_length (lo + 1) n]
theorem rangeT_get : ∀ (lo : Int) (n i : Nat), i < n → (rangeT lo n)[i]? = some (.int (lo + i))
  | _, 0, _, h => by omega
  | lo, n + 1, 0, _ => by simp [rangeT]
  | lo, n + 1, i + 1, h => by
    simp only [rangeT, List.getElem?_cons_succ]
    rw [rangeT_get (lo + 1) n i (by omega)]
    congr 2
    push_cast
    omega
theorem wk_range {K : PySem.W.Frag} {H : Hp} (lo : Int) (n : Nat) : Wk K (Itr lo n) (rangeT lo n) H := by
  intro H2 _
  refine ⟨fun i t ei => ?_, by show n ≤ _; rw [rangeT_length]; exact Nat.le_refl _⟩
  have hi : i < n := by
    have := (List.getElem?_eq_some_iff.mp ei).1
    rwa [rangeT_length] at this
  rw [rangeT_get lo n i hi] at ei
  cases ei
  refine ⟨hi, fun x H3 y => ?_⟩
  obtain ⟨rfl, rfl⟩ := y
  exact ⟨.refl _, rep_int.mpr rfl⟩
def iRange1 (ws : WA) : WI := fun τ Q => ws τ fun ts => match ts with
  | [.int j] => (-(2 ^ 62) ≤ j ∧ j < 2 ^ 62) ∧ Q (rangeT 0 j.toNat)
  | _ => False
theorem one_int {P : Int → Prop} {ts : List T} (h : match ts with | [.int j] => P j | _ => False) : ∃ j, ts = [.int j] ∧ P j := by
  split at h
  · exact ⟨_, rfl, h⟩
  · exact h.elim
theorem jiRange1 {tg : Expr} {p : Pos} (hg : Gl X "range") (hm : X.mg "range" = none) (ha : JA X [a] ws) (hs : starEach [a] X.env = [(false, eval a X.env)] := by rfl) : JI X tg (.Call (.Name "range" p) [a] [] pos) (iRange1 ws) :=
  pi_of (pi_range1 hg hm ha hs) fun σ H R ⟨τ, Q0, Rs, hw, k⟩ => ⟨τ, _, Rs, hw, fun ts vs H1 S1 r q => by
      obtain ⟨j, e0, q⟩ := one_int (P := fun j => (-(2 ^ 62) ≤ j ∧ j < 2 ^ 62) ∧ Q0 (rangeT 0 j.toNat)) q
      subst e0
      obtain ⟨v, rfl, r1⟩ := reps1 r
      exact ⟨j, by rw [rep_int.mp r1], q.1.1, q.1.2, k _ _ H1 S1 (wk_range 0 j.toNat) q.2⟩⟩
def iRange2 (ws : WA) : WI := fun τ Q => ws τ fun ts => match ts with
  | [.int i, .int j] => (-(2 ^ 62) ≤ i ∧ i < 2 ^ 62 ∧ -(2 ^ 62) ≤ j ∧ j < 2 ^ 62) ∧ Q (rangeT i (j - i).toNat)
  | _ => False
end
end TL
end
section
set_option Elab.async false
set_option linter.all false
set_option maxRecDepth 100000
set_option maxHeartbeats 4000000
namespace TL
open PySem PySem.Spec PyProof.Rows L2
section
variable {X : Cx} {pins : List (Addr × Obj)} {σ : St} {H : Hp} {s : Shared} {h' : Heap}
theorem Inv.turnedT {t' : Nat} {ch : List Addr} {p : Addr} {xs : List V} {us : List Value} (I : Inv X pins σ H s) (k : ∀ b o, b ∉ ch → s.heap.get? b = some o → h'.get? b = some o) (kt : ∀ b ∈ ch, ∃ o, h'.get? b = some o)
    (hch : ∀ b ∈ ch, FpOk X pins H b) (hp : s.heap.objs.size ≤ p) (hz : xs.length ≤ sizeLine) (r : Vals xs us) (ht : IsTup h' p us.toArray) : Inv X pins σ (upd H p (.tup xs)) { s with heap := h', toks := t' } := by
  have hpn : H p = none := I.hok.fresh hp
  have nch : ∀ b u, H b = some u → b ∉ ch := fun b u e z => by rw [(hch b z).1] at e; cases e
  have nep : ∀ b u, H b = some u → b ≠ p := fun b u e z => by subst z; rw [hpn] at e; cases e
  have nlt : ∀ b o, s.heap.get? b = some o → b ≠ p := fun b o e => Nat.ne_of_lt (Nat.lt_of_lt_of_le (Heap.lt_size e) hp)
  refine I.step (g' := s.gens) (d' := s.drawn) (ch := ch) (fun b hb => ?_) (fun b o _ _ hc e _ => k b o hc e) (fun b o _ _ hc e _ => ⟨o.slots, k b o hc e⟩) (fun b o _ e n => by rw [upd_ne (nlt b o e)]; exact n)
    (fun b o hc e => ⟨o, k b o hc e⟩) (fun b ys e => by rw [upd_ne (nep b _ e)]; exact e) (fun b o u e => by rw [upd_ne (nep b _ e)]; exact e) (fun b ps e => ⟨#[], by rw [upd_ne (nep b _ e), e]; simp⟩) (fun m hm => ?_) (fun b u e => ?_) I.bare
  · obtain ⟨f0, f1, f2, f3, f4, f5⟩ := hch b hb
    exact ⟨f3, f1, f4, f5⟩
  · obtain ⟨o, es, ep, ho, r⟩ := hm
    exact ⟨o, es, ep, k _ o (fun z => (hch _ z).2.1 rfl) ho, r⟩
  · by_cases hb : b = p
    · subst hb
      rw [upd_same] at e
      cases e
      exact ⟨hz, us, r, ht⟩
    · rw [upd_ne hb] at e
      refine (I.hok b u e).stay (fun c v hc q => k c v ?_ q) (fun c q => by rw [upd_ne (nep c _ q)]; exact q) fun c ys q => by rw [upd_ne (nep c _ q)]; exact q
      rcases hc with z | z
      · rw [z]; exact nch b u e
      · exact nch c _ z
theorem Inv.turnedL {t' : Nat} {ch : List Addr} (I : Inv X pins σ H s) (k : ∀ b o, b ∉ ch → s.heap.get? b = some o → h'.get? b = some o)
    (hch : ∀ b ∈ ch, FpOk X pins H b) : Inv X pins σ H { s with heap := h', toks := t' } := by
  have nch : ∀ b u, H b = some u → b ∉ ch := fun b u e z => by rw [(hch b z).1] at e; cases e
  refine I.step (g' := s.gens) (d' := s.drawn) (ch := ch) (fun b hb => ?_) (fun b o _ _ hc e _ => k b o hc e) (fun b o _ _ hc e _ => ⟨o.slots, k b o hc e⟩) (fun b o _ e n => n)
    (fun b o hc e => ⟨o, k b o hc e⟩) (fun b ys e => e) (fun b o u e => e) (fun b ps e => ⟨#[], by rw [e]; simp⟩) (fun m hm => ?_) (fun b u e => ?_) I.bare
  · obtain ⟨f0, f1, f2, f3, f4, f5⟩ := hch b hb
    exact ⟨f3, f1, f4, f5⟩
  · obtain ⟨o, es, ep, ho, r⟩ := hm
    exact ⟨o, es, ep, k _ o (fun z => (hch _ z).2.1 rfl) ho, r⟩
  · refine (I.hok b u e).stay (fun c v hc q => k c v ?_ q) (fun _ q => q) fun _ _ q => q
    rcases hc with z | z
    · rw [z]; exact nch b u e
    · exact nch c _ z
end
def Ite (K : PySem.W.Frag) (a : Addr) : It :=
  ⟨fun i H => ∃ xs x, SqL K H a xs ∧ xs[i]? = some x, fun i H x H' => ∃ p y, H p = none ∧ x = .ref p ∧ H' = upd H p (.tup [.int i, y]) ∧ ∀ xs, SqL K H a xs → xs[i]? = some y, fun i H => ∃ xs, SqL K H a xs ∧ xs.length ≤ i⟩
theorem turn_enum {P : Program} {w : World} {K : PySem.W.Frag} {elts : List Expr} {x1} {tp : Pos} (a it en : Addr) (hne : en ≠ it) :
    Turn P w K (.Tuple elts x1 tp) (Ite K a) [en, it] en (fun i h => (∃ old, IsEnum h en it i old) ∧ h.IsListIter it a i) where
  mem := by simp
  obj := fun i h st b hb => by
    obtain ⟨⟨old, he⟩, o, e, c, d⟩ := st
    rcases List.mem_cons.mp hb with rfl | hb
    · exact ⟨_, he, fun v z => by cases z⟩
    · have e' : b = it := by simpa using hb
      subst e'
      exact ⟨o, e, fun v z => by rw [d] at z; cases z⟩
  keep := fun i h h' st k => ⟨let ⟨old, he⟩ := st.1; ⟨old, k en (by simp) _ he⟩, st.2.at fun o e => k it (by simp) o e⟩
  item := by
    intro X hP hw hK hc i pins s σ H E I hf st hg
    subst hP hw hK
    obtain ⟨⟨old, he⟩, hit⟩ := st
    obtain ⟨xs, x, hq, hx⟩ := hg
    obtain ⟨its, rv, p, hz⟩ := I.list hq
    obtain ⟨u, hu, ru⟩ := rv.get hx
    refine wpAny_pyNext_enum_item he hit p.isList (x := u) (by simpa using hu) hne fun h1 heo hit1 ht1 hz1 hk1 => ⟨_, rfl, ?_⟩
    refine wpAny_letOwnedTupleGo_enum heo fun h2 he2 hs2 => ?_
    have hpn : H s.heap.objs.size = none := I.hok.fresh (Nat.le_refl _)
    have lt : ∀ b ∈ [en, it], b < s.heap.objs.size := fun b hb => by
      rcases List.mem_cons.mp hb with rfl | hb
      · exact Heap.lt_size he
      · have e' : b = it := by simpa using hb
        subst e'
        obtain ⟨o, e, _⟩ := hit
        exact Heap.lt_size e
    have ht2 : IsTup h2 s.heap.objs.size [Value.int i s.toks, u].toArray := ⟨_, (hs2.2 _ (Nat.ne_of_gt (lt en (by simp)))).trans ht1, rfl, _, rfl⟩
    have I2 : Inv X pins σ (upd H s.heap.objs.size (.tup [.int i, x])) { s with heap := h2, toks := s.toks + 1 } := by
      refine Inv.turnedT (ch := [en, it]) I (fun b o hb e => ?_) (fun b hb => ?_) hf (Nat.le_refl _) (by show 2 ≤ sizeLine; decide) (.cons ⟨_, rfl⟩ (.cons ru .nil)) ht2
      · have n1 : b ≠ en := fun z => hb (by simp [z])
        have n2 : b ≠ it := fun z => hb (by simp [z])
        exact (hs2.2 b n1).trans (hk1 b o n1 n2 e)
      · rcases List.mem_cons.mp hb with rfl | hb
        · exact ⟨_, he2⟩
        · have e' : b = it := by simpa using hb
          subst e'
          obtain ⟨o, e, _⟩ := hit1
          exact ⟨o, (hs2.2 b (Ne.symm hne)).trans e⟩
    refine ⟨.ref s.heap.objs.size, _, I2, rfl, ⟨_, x, hpn, rfl, rfl, fun ys hy => by rw [I.list_inj hy hq]; exact hx⟩, ⟨⟨u, ?_⟩, ?_⟩, fun b hb => ?_⟩
    · exact he2
    · obtain ⟨o, e, r⟩ := hit1
      exact ⟨o, (hs2.2 it (Ne.symm hne)).trans e, r⟩
    · rw [upd_ne (Nat.ne_of_lt (lt b hb))]
      exact (hf b hb).1
  done := by
    intro X hP hw hK hc i pins s σ H E I hf st hg
    subst hP hw hK
    obtain ⟨⟨old, he⟩, hit⟩ := st
    obtain ⟨xs, hq, hx⟩ := hg
    obtain ⟨its, rv, p, hz⟩ := I.list hq
    have hl := rv.length
    refine wpAny_pyNext_enum_end (I.ok.hd hc) he hit p.isList (by simp; omega) fun h1 eb => ⟨rfl, ?_⟩
    refine Inv.turnedL (ch := [en, it]) I (t' := s.toks) (fun b o hb e => eb b o (fun z => hb (by simp [z])) e) hf
  self := fun _ _ _ _ _ st h => let ⟨old, he⟩ := st.1; wpAny_pyIter_enum he h
def enumT : Nat → List T → List T
  | _, [] => []
  | i, x :: xs => .tup [.int i, x] :: enumT (i + 1) xs
theorem enumT_length : ∀ (i : Nat) (ts : List T), (enumT i ts).length = ts.length
  | _, [] => rfl
  | i, _ :: r => by simp [enumT, enumT_length (i + 1) r]
theorem enumT_get : ∀ (ts : List T) (j i : Nat) (t : T), ts[i]? = some t → (enumT j ts)[i]? = some (.tup [.int ((j + i : Nat) : Int), t])
  | [], _, _, _, h => by simp at h
  | x :: r, j, 0, t, h => by simp at h; subst h; simp [enumT]
  | x :: r, j, i + 1, t, h => by
    simp only [enumT, List.getElem?_cons_succ]
    rw [enumT_get r (j + 1) i t (by simpa using h)]
    congr 5
    omega
section
variable {X : Cx} {a : Expr} {wa w : WE} {ws : WA} {pos : Pos}
def iEnum (ws : WA) : WI := fun τ Q => ws τ fun ts => match ts with
  | [.lst xs] => Q (enumT 0 xs)
  | _ => False
theorem one_lst {P : List T → Prop} {ts : List T} (h : match ts with | [.lst xs] => P xs | _ => False) : ∃ xs, ts = [.lst xs] ∧ P xs := by
  split at h
  · exact ⟨_, rfl, h⟩
  · exact h.elim
theorem jiEnum {elts : List Expr} {x1} {tp p : Pos} (hg : Gl X "enumerate") (hm : X.mg "enumerate" = none) (ha : JA X [a] ws) (hs : starEach [a] X.env = [(false, eval a X.env)] := by rfl) :
    JI X (.Tuple elts x1 tp) (.Call (.Name "enumerate" p) [a] [] pos) (iEnum ws) := by
  intro pins s σ H R I hw
  obtain ⟨τ, Q0, Rs, hw, k⟩ := hw
  refine Call_ (ld_blt I hg hm boot_enumerate (PyProof.Rows.callWith_type1 (thn (ha pos pins s σ H (fun vs H1 => ∃ ts, Same H H1 ∧ Reps X.K H1 ts vs ∧ (match ts with | [.lst xs] => Q0 (enumT 0 xs) | _ => False)) I ⟨τ, _, Rs, hw, fun ts vs H1 S r q => ⟨ts, S, r, q⟩⟩) fun us s1 ⟨vs, H1, I1, r1, ts, S1, rt, q1⟩ => ?_) hs rfl))
  · obtain ⟨xs, e0, q1⟩ := one_lst (P := fun xs => Q0 (enumT 0 xs)) q1
    subst e0
    obtain ⟨v, rfl, rt1⟩ := reps1 rt
    rw [rep_lst] at rt1
    obtain ⟨l, vs, rfl, hq, rr⟩ := rt1
    obtain ⟨u, rfl, ru⟩ := vals1 r1
    cases ru
    obtain ⟨its, rv, pl, hz⟩ := I1.list hq.sq
    refine call_enumerate_list pl.isList fun h2 he hit hsz hk => ?_
    refine wpAny_pyIter_enum he ?_
    have I2 : Inv X pins σ H1 { s1 with heap := h2 } := I1.kept (t' := s1.toks) hk
    refine ⟨s1.heap.objs.size + 1, [s1.heap.objs.size + 1, s1.heap.objs.size], _, Ite X.K l, H1, rfl, I2, turn_enum l s1.heap.objs.size (s1.heap.objs.size + 1) (Nat.succ_ne_self _), ⟨⟨_, he⟩, hit⟩, fun b hb => ?_, k _ _ H1 S1 ?_ q1⟩
    · have hb' : s1.heap.objs.size ≤ b := by
        rcases List.mem_cons.mp hb with rfl | hb
        · exact Nat.le_succ _
        · have e : b = s1.heap.objs.size := by simpa using hb
          rw [e]
          exact Nat.le_refl _
      exact I1.fpOk hb' (I1.hok.fresh hb')
    · intro H2 K2
      have sq2 := (sqF_kp K2 hq).sq
      refine ⟨fun i t ei => ?_, ⟨vs, sq2, by rw [rr.length, enumT_length]; exact Nat.le_refl _⟩⟩
      have hi : i < xs.length := by
        have := (List.getElem?_eq_some_iff.mp ei).1
        rwa [enumT_length] at this
      have ex : xs[i]? = some xs[i] := List.getElem?_eq_getElem hi
      rw [enumT_get xs 0 i _ ex] at ei
      cases ei
      obtain ⟨v, ev, rv⟩ := rr.get ex
      refine ⟨⟨vs, v, sq2, ev⟩, fun x H3 y => ?_⟩
      obtain ⟨p, y, hp, rfl, rfl, hy⟩ := y
      have z := hy vs sq2
      rw [ev] at z
      cases z
      refine ⟨same_new hp _, rep_tup.mpr ⟨p, _, rfl, SqT.of upd_same, .cons (rep_int.mpr ?_) (.one ((rv.kp K2).kp (.of (same_new hp _))))⟩⟩
      simp
end
end TL
end
section
set_option Elab.async false
set_option linter.all false
set_option maxRecDepth 100000
set_option maxHeartbeats 4000000
namespace TL
open PySem PySem.Spec PyProof.Rows L2
def Cal (P : Program) (w : World) (K : PySem.W.Frag) (mg : Str → Option Value) (base : Heap) (k : Nat) (x : Str) (ps : List Str) (S : SpT) : Prop :=
  ∃ f fd, FnT P w K mg base k f fd ps S ∧ Binds K fd ps [] ∧ PySem.W.keepIn K (.ref f) = true ∧ mg x = some (.ref f)
theorem Cal.mk {P : Program} {w : World} {K : PySem.W.Frag} {mg : Str → Option Value} {base : Heap} {k : Nat} {x qual : Str} {ps : List Str} {S : SpT} {st : Stmt} {f : Addr} {fd : FuncData} (F : Fun K x qual st f fd) (m : mg x = some (.ref f))
    (b : Binds K fd ps []) (h : FnT P w K mg base k f fd ps S) : Cal P w K mg base k x ps S := ⟨f, fd, h, b, F.kp, m⟩
section
variable {X : Cx} {a b c e : Expr} {es : List Expr} {wa wb wc w : WE} {ws : WA} {pos : Pos} {st : Stmt}
theorem jcallC {k : Nat} {ps : List Str} {S : SpT} {x : Str} {p : Pos} (C : Cal X.prog X.w X.K X.mg X.base k x ps S) (hr : Room k X.A) (hg : Gl X x)
    (ha : JA X (e :: es) ws) (hdb : (x == ("__debug__" : Str)) = false := by decide) (he : starEach (e :: es) X.env = (false, eval e X.env) :: starEach es X.env := by exact star1 rfl)
    (hpl : (backTo pos (starEach es X.env)).any (·.1) = false := by exact stars rfl) : JE X (.Call (.Name x p) (e :: es) [] pos) (wCall S ws) := by
  obtain ⟨f, fd, F, hb, hk, hm⟩ := C
  exact jcall F hr hg hm hk hb ha hdb he hpl
def sNever : WS := fun _ _ => False
theorem jnever : JS X st sNever := ps_of ps_never fun D σ H ⟨τ, D0, R, hw, _⟩ => hw.elim
end
def lawSp : SpT := fun ts Q => ∃ ns : List Int, ts = [.lst (ns.map T.int)] ∧ ns.length ≤ 63 ∧ Q (.bl true)
theorem len_law : ∀ ts Q, lawSp ts Q → ts.length = 1 := fun ts Q ⟨ns, e, _⟩ => by subst e; rfl
theorem law_start {K : PySem.W.Frag} {H : Hp} {a : Addr} {ns : List Int} (hl : ns.length ≤ 63) (hO : Only H) (hS : SqL K H a (ns.map V.int)) : spT K 1 lawSp [.ref a] H (fun v _ => v = .bl true) fun _ _ _ => False := by
  have sq : SqF K H a (ns.map V.int) := by
    rcases hS with (h | ⟨o, h⟩) | h
    · rcases hO a with z | ⟨o, xs, z⟩
      · rw [z] at h; cases h
      · rw [z] at h; cases h
    · exact .inl ⟨o, h⟩
    · exact .inr h
  exact ⟨_, fun t => t = .bl true, rfl, .one (rep_lst.mpr ⟨a, _, rfl, sq, reps_ints ns⟩), ⟨ns, rfl, hl, rfl⟩, fun t v H' S r q => by subst q; exact rep_bl.mp r⟩
theorem walk {l : PySem.W.OpenLaw} {k : Nat} {x : Str} {q : Program} {loose : List Str} {XP : (Str → Option Value) → Heap → Prop} {YP : World → Heap → Prop} {d : DefRec} {K : Params → PySem.W.Frag} (hn : l.most = some 63) (hdf : d.params.defaults = []) (hr : Room k callerA)
    (hY : ∀ (w : World) (h : Heap), YP w h → (K w.params).In h)
    (F : ∀ (w : World) (mg : Str → Option Value) (fa : Addr) (h : Heap), (K w.params).In h → h.Ns mainGlobals mg → mg d.name = some (.ref fa) →
      ∃ fd : FuncData, (∀ (s : Shared) (u : Value), BindsTo s fd ⟨[u], []⟩ [(x, u)]) ∧ ∀ base : Heap, (K w.params).In base → base.Ns mainGlobals mg → FnOk l.prog w (K w.params) mg base CX0 k fa fd [x] (spT (K w.params) 1 lawSp)) :
    PySem.W.WalkO q loose XP YP l.row.toRowW d [] (fun f vs => PySem.call f vs) :=
  L2.walk_of (n := 63) (k := k) (x := x) (CX := fun _ => CX0) (sp := fun w => spT (K w.params) 1 lawSp) hn (by decide) hdf hr hY F (fun _ _ _ _ hl hO hS => law_start hl hO hS) fun _ _ _ _ _ z => z
end TL
end
section
set_option Elab.async false
set_option linter.all false
set_option maxRecDepth 100000
set_option maxHeartbeats 4000000
namespace TL
open PySem PySem.Spec PyProof.Rows L2
theorem closLoop {env : Env} : ∀ (names : List (Str × NameKind)) (cs : List (Str × Addr)), (∀ x ∈ names, x.2 = .free → ∃ c, env.cells.lookup x.1 = some c) → (∀ x c, cs.lookup x = some c → env.cells.lookup x = some c) →
    ∃ cl, (forIn names cs fun x cs => (if (x.2 == NameKind.free) = true then do let a ← cellOf env x.1; pure (ForInStep.yield ((x.1, a) :: cs)) else pure (ForInStep.yield cs) : Sem (ForInStep (List (Str × Addr))))) = (pure cl : Sem (List (Str × Addr))) ∧
      (∀ x c, cl.lookup x = some c → env.cells.lookup x = some c) ∧ (∀ x c, cs.lookup x = some c → ∃ c, cl.lookup x = some c) ∧ ∀ x ∈ names, x.2 = .free → ∃ c, cl.lookup x.1 = some c
  | [], cs, _, hc => ⟨cs, rfl, hc, fun x c e => ⟨c, e⟩, fun _ h => nomatch h⟩
  | (n, k) :: r, cs, h, hc => by
    by_cases hk : k = .free
    · subst hk
      obtain ⟨c, ec⟩ := h (n, .free) List.mem_cons_self rfl
      have e0 : cellOf env n = pure c := by unfold cellOf; rw [ec]
      obtain ⟨cl, e, p1, p2, p3⟩ := closLoop (env := env) r ((n, c) :: cs) (fun x hx => h x (List.mem_cons_of_mem _ hx)) (fun x d e => by
        by_cases hx : x = n
        · subst hx
          simp at e
          subst e
          exact ec
        · have hb : (x == n) = false := by simpa using hx
          rw [List.lookup_cons, hb] at e
          exact hc x d e)
      refine ⟨cl, ?_, p1, fun x d e => ?_, fun x hx hf => ?_⟩
      · rw [List.forIn_cons]
        show ((if (NameKind.free == NameKind.free) = true then _ else _) >>= _) = _
        rw [if_pos (show (NameKind.free == NameKind.free) = true from rfl)]
        show ((cellOf env n >>= fun a => pure (ForInStep.yield ((n, a) :: cs))) >>= _) = _
        rw [e0]
        exact e
      · by_cases hx : x = n
        · subst hx
          exact p2 x c (by simp)
        · have hb : (x == n) = false := by simpa using hx
          exact p2 x d (by rw [List.lookup_cons, hb]; exact e)
      · rcases List.mem_cons.mp hx with rfl | hx
        · exact p2 n c (by simp)
        · exact p3 x hx hf
    · have hb : (k == NameKind.free) = false := by simpa using hk
      obtain ⟨cl, e, p1, p2, p3⟩ := closLoop (env := env) r cs (fun x hx => h x (List.mem_cons_of_mem _ hx)) hc
      refine ⟨cl, ?_, p1, p2, fun x hx hf => ?_⟩
      · rw [List.forIn_cons]
        show ((if (k == NameKind.free) = true then _ else _) >>= _) = _
        rw [if_neg (by rw [hb]; exact Bool.false_ne_true)]
        exact e
      · rcases List.mem_cons.mp hx with rfl | hx
        · exact absurd hf hk
        · exact p3 x hx hf
theorem closureFor_of {scope : Scope} {env : Env} (h : ∀ x ∈ scope.names, x.2 = .free → ∃ c, env.cells.lookup x.1 = some c) :
    ∃ cl, closureFor scope env = pure cl ∧ (∀ x c, cl.lookup x = some c → env.cells.lookup x = some c) ∧ ∀ x ∈ scope.names, x.2 = .free → ∃ c, cl.lookup x.1 = some c := by
  obtain ⟨cl, e, p1, _, p3⟩ := closLoop (env := env) scope.names [] h (fun x c e => by simp at e)
  refine ⟨cl, ?_, p1, p3⟩
  unfold closureFor
  have : (forIn scope.names ([] : List (Str × Addr)) fun x cs => (match x with | (name, kind) => (if (kind == NameKind.free) = true then do let a ← cellOf env name; pure (ForInStep.yield ((name, a) :: cs)) else pure (ForInStep.yield cs) : Sem (ForInStep (List (Str × Addr)))))) = (pure cl : Sem (List (Str × Addr))) := e
  first
    | (rw [this]; rfl)
    | (show (forIn scope.names ([] : List (Str × Addr)) _ >>= fun cs => pure cs) = _; rw [this]; rfl)
def compCx (X : Cx) (N : List Str) (scope : Scope) (cl : List (Str × Addr)) (C : Addr) (s3 : Shared) (H2 : Hp) (ex : List Addr) : Cx where
  prog := X.prog
  w := X.w
  K := X.K
  mg := X.mg
  base := X.base
  A := X.A
  N := N
  s₀ := s3
  H₀ := H2
  env := compEnvC scope cl C X.env
  outer := X.stack
  stack := X.stack
  ex := ex
  fn := fun _ => false
  calm := true
  pn := []
  xe := fun _ _ => False
section
variable {prog : Program} {w : World} {A : Around} {E : Value → Shared → Prop} {R : Result → Shared → Prop} {s : Shared}
theorem codeAny_compLoop_any {elt target iter : Expr} {ifs : List Expr} {scope : Scope} {pos : Pos} {it acc : Value} {env : Env} (I : Nat → Shared → Prop)
    (turn : ∀ n s, I n s → wpAny (model prog w) A (pyNext it) (fun r s₁ => match r with
      | none => R (.ok .next) s₁
      | some v => wpAny (model prog w) A (letOwnedTupleGo target it v) (fun _ s₁' => wpAny (model prog w) A (assign target env v) (fun _ s₂ =>
          wpAny (model prog w) A (forIn ifs true fun c r => if r = true then do let ok ← isTrue c env (eval c env); pure (ForInStep.yield ok) else pure (ForInStep.yield r)) (fun ok s₃ =>
            if ok = true then wpAny (model prog w) A (eval elt env) (fun x s₄ =>
              wpAny (model prog w) A (call (.builtin "list.append") [acc, x]) (fun _ s₅ => ∃ m, m < n ∧ I m s₅) (fun _ _ => False) s₄) (fun _ _ => False) s₃
            else ∃ m, m < n ∧ I m s₃) (fun _ _ => False) s₂) (fun _ _ => False) s₁') (fun _ _ => False) s₁) (fun _ _ => False) s)
    (n : Nat) (h : I n s) :
    codeAny (model prog w) A (.compLoop (.ListComp elt [⟨target, iter, ifs, 0⟩] scope pos) 0 it acc env) R s := by
  refine codeAny_loop rfl I (fun n s hI => ?_) n h
  show wpAny _ A ((compTurn (.ListComp elt [⟨target, iter, ifs, 0⟩] scope pos) 0 it acc env).onRaise (fun x => do noteFrame x env; theTreesLotGoes x)) _ _ s
  refine wpAny_noted ?_
  rw [compTurn_list]
  refine wpAny_bind (wpAny_standAt (wpAny_bind (wpAny_mono (turn n s hI) (fun r s₁ h₁ => ?_) fun _ _ h' => h'.elim)))
  cases r with
  | none => exact wpAny_pure h₁
  | some v =>
    refine wpAny_bind (wpAny_mono h₁ (fun _ s₁' h₁' => ?_) fun _ _ h' => h'.elim)
    refine wpAny_bind (wpAny_mono h₁' (fun _ s₂ h₂ => wpAny_bind (wpAny_mono h₂ (fun ok s₃ h₃ => ?_) fun _ _ h' => h'.elim)) fun _ _ h' => h'.elim)
    cases ok with
    | false => exact wpAny_pure ⟨rfl, h₃⟩
    | true =>
      exact wpAny_bind (wpAny_bind (wpAny_mono h₃ (fun x s₄ h₄ => wpAny_bind (wpAny_mono h₄ (fun _ s₅ h₅ => wpAny_pure (wpAny_pure ⟨rfl, h₅⟩)) fun _ _ h' => h'.elim)) fun _ _ h' => h'.elim))
end
def hide : Slot → Slot
  | .own ts => .see ts
  | .see _ => .no
  | .vat t _ => .val t
  | s => s
def compT (g : TGt) (ut : WT) (we : WE) : List T → List T → List Slot → (List T → Prop) → Prop
  | [], acc, _, Q => Q acc
  | x :: xs, acc, τ, Q => g x τ fun τ1 => ut τ1 fun k => (k = true → we τ1 fun t => compT g ut we xs (acc ++ [t]) τ1 Q) ∧ (k = false → compT g ut we xs acc τ1 Q)
def wComp (wi : WI) (g : TGt) (ut : WT) (we : WE) (n : Nat) (fr : List Nat) : WE := fun τ Q => wi τ fun ts => ts.length ≤ 1000 ∧ compT g ut we ts [] (List.replicate n Slot.no ++ fr.map fun i => hide (sget τ i)) fun rs => Q (.lst rs)
def JTs (X : Cx) (ifs : List Expr) (u : WT) : Prop :=
  ∀ (pins : List (Addr × Obj)) (s : Shared) (σ : St) (H : Hp) (Q : Bool → Hp → Prop), Inv X pins σ H s → upT X.K X.H₀ u σ H Q →
    wpAny (model X.prog X.w) X.A (forIn ifs true fun c r => if r = true then do let ok ← isTrue c X.env (eval c X.env); pure (ForInStep.yield ok) else pure (ForInStep.yield r)) (TP X pins σ Q) X.xe s
def tTrue : WT := fun _ Q => Q true
theorem jts0 {X : Cx} : JTs X [] tTrue := fun pins s σ H Q I ⟨τ, Q0, R, hw, k⟩ => wpAny_tests_nil ⟨H, I, k _ H (.refl H) hw⟩
theorem relabel_mem {scope : Scope} {env : Env} {x : Str} {k' : NameKind} (h : (relabel scope env).names.lookup x = some k') : ∃ k, (x, k) ∈ scope.names ∧ (k' = k ∨ (k = .free ∧ k' = .cell)) := by
  have hm := PySem.mem_of_lookup h
  obtain ⟨⟨n, k⟩, hn, e⟩ := List.mem_map.mp hm
  by_cases hc : (k == NameKind.free && env.scope.kind == .function && env.kindOf n == some .cell) = true
  · have e' : (n, NameKind.cell) = (x, k') := by simpa [hc] using e
    cases e'
    have hfree := (Bool.and_eq_true_iff.mp (Bool.and_eq_true_iff.mp hc).1).1
    exact ⟨_, hn, .inr ⟨by simpa using hfree, rfl⟩⟩
  · have e' : (n, k) = (x, k') := by simpa [hc] using e
    cases e'
    exact ⟨_, hn, .inl rfl⟩
theorem relabel_free {env : Env} (hk : env.scope.kind = .function) : ∀ {names : List (Str × NameKind)} {x : Str}, names.lookup x = some .free → env.kindOf x = some .cell →
    (names.map fun (n, k) => if (k == NameKind.free && env.scope.kind == .function && env.kindOf n == some .cell) then (n, NameKind.cell) else (n, k)).lookup x = some .cell
  | [], _, h, _ => by simp at h
  | (n, k) :: r, x, h, hx => by
    have ih := @relabel_free env hk r x
    show List.lookup x ((if (k == NameKind.free && env.scope.kind == .function && env.kindOf n == some .cell) = true then (n, NameKind.cell) else (n, k)) :: _) = _
    cases hb : x == n with
    | true =>
      have e : x = n := by simpa using hb
      subst e
      simp only [List.lookup_cons, hb] at h
      cases h
      rw [if_pos (by rw [hk, hx]; rfl)]
      simp [List.lookup_cons]
    | false =>
      simp only [List.lookup_cons, hb] at h
      by_cases hc : (k == NameKind.free && env.scope.kind == .function && env.kindOf n == some .cell) = true
      · rw [if_pos hc]; simp only [List.lookup_cons, hb]; exact ih h hx
      · rw [if_neg hc]; simp only [List.lookup_cons, hb]; exact ih h hx
section
variable {X : Cx} {pos : Pos}
theorem comp_start {pins : List (Addr × Obj)} {σ : St} {H : Hp} {s : Shared} {scope : Scope} {cl : List (Str × Addr)} {C : Addr} {N : List Str} {σ' : St} {s4 : Shared} {ex : List Addr}
    (I : Inv X pins σ H s) (hc : X.calm = true) (hk : scope.kind = .function) (hC : s.heap.objs.size ≤ C)
    (hcl : ∀ x c, cl.lookup x = some c → X.env.cells.lookup x = some c)
    (hhas : ∀ x, ((relabel scope X.env).names.lookup x = some .cell ∨ (relabel scope X.env).names.lookup x = some .free) → ∃ c, cl.lookup x = some c)
    (hex : ∀ b ∈ ex, FpOk X pins H b) (hlt : ∀ b ∈ ex, b < s.heap.objs.size)
    (hos : s4.os = s.os) (hbare : AllBare s4.gens) (hkeep : ∀ b o, s.heap.get? b = some o → s4.heap.get? b = some o) {m : Str → Option Value} (hns : s4.heap.Ns C m)
    (hloc : ∀ (i : Nat) (x : Str) (v : V), N[i]? = some x → σ'[i]? = some (some v) → ∃ u, RelV v u ∧ Look (compEnvC scope cl C X.env) s4.heap m x u) (hlen : σ'.length = N.length) :
    Inv (compCx X N scope cl C s H ex) [] σ' H s4 := by
  have bs := I.bs
  refine ⟨⟨I.ok.mod, hk, I.ok.glob, I.ok.blt, hC, fun x y c h1 h2 => I.ok.inj x y c (hcl _ _ h1) (hcl _ _ h2), hhas, fun _ _ z => (by cases z), fun _ => I.ok.hd hc, I.ok.frames, .inl rfl,
      fun b hb => ⟨Nat.ne_of_lt (Nat.lt_of_lt_of_le (hlt b hb) hC), fun x c e => (hex b hb).2.2.2.2.1 x c (hcl _ _ e)⟩, bs, Nat.le_trans I.ok.bsz I.sz, fun b o e hb => ?_, fun b hb => ?_, I.stack, I.stkFree⟩,
    hos, hbare, Un.kept hkeep, ⟨m, hns, fun i x v h1 h2 _ => hloc i x v h1 h2⟩, fun x c e => ?_, I.hok.fresh hC, fun x c e => I.freeC x c (hcl _ _ e), fun p hp => absurd (show p ∈ ([] : List (Addr × Obj)) from hp) (by simp), I.hok.kept hkeep, hlen⟩
  · rcases (hex b hb).2.2.2.1 with z | z
    · exact I.ok.noex b o e z
    · exact absurd (Nat.lt_of_lt_of_le (Heap.lt_size e) (Nat.le_trans I.ok.bsz z)) (Nat.lt_irrefl _)
  · intro z
    obtain ⟨_, f1, f2, _⟩ := hex b hb
    rcases List.mem_cons.mp (I.stkSub b z) with e | e
    · exact f1 e
    · exact f2 e
  · obtain ⟨v, o, ho, hd⟩ := I.cell x c (hcl _ _ e)
    exact ⟨v, o, hkeep c o ho, hd⟩
def slotsOf (σ : St) (n : Nat) (fr : List (Str × Nat)) : St := List.replicate n none ++ fr.map fun p => (σ[p.2]?).getD none
theorem repSt_comp {K : PySem.W.Frag} {H0 H H2 : Hp} {σ : St} {τ : List Slot} (n : Nat) (fr : List (Str × Nat)) (R : RepSt K H0 H σ τ) (S : Same H H2) :
    RepSt K H2 H2 (slotsOf σ n fr) (List.replicate n Slot.no ++ (fr.map (·.2)).map fun i => hide (sget τ i)) := by
  have key : ∀ i, sget (List.replicate n Slot.no ++ (fr.map (·.2)).map fun i => hide (sget τ i)) i = .no ∨ ∃ p, fr[i - n]? = some p ∧ n ≤ i ∧ sget (List.replicate n Slot.no ++ (fr.map (·.2)).map fun i => hide (sget τ i)) i = hide (sget τ p.2) := fun i => by
    by_cases hi : i < n
    · left
      rw [sget_append_left (by simpa using hi), sget_no]
    · rw [sget_append_right (by simpa using hi), List.length_replicate]
      have gen : ∀ (l : List (Str × Nat)) (j : Nat), sget ((l.map (·.2)).map fun i => hide (sget τ i)) j = .no ∨ ∃ p, l[j]? = some p ∧ sget ((l.map (·.2)).map fun i => hide (sget τ i)) j = hide (sget τ p.2) := by
        intro l
        induction l with
        | nil => intro j; left; rfl
        | cons p r ih =>
          intro j
          cases j with
          | zero => exact .inr ⟨p, rfl, rfl⟩
          | succ j => exact ih j
      rcases gen fr (i - n) with z | ⟨p, e1, e2⟩
      · exact .inl z
      · exact .inr ⟨p, e1, by omega, e2⟩
  have noOwn : ∀ s ts, hide s ≠ .own ts := fun s ts => by cases s <;> simp [hide]
  refine ⟨.refl H2, by simp [slotsOf], fun i => ?_, fun i j ts us p _ h1 _ _ _ => ?_⟩
  · rcases key i with z | ⟨p, e1, hi, e2⟩
    · rw [z]; trivial
    · rw [e2]
      have ge : (slotsOf σ n fr)[i]? = some ((σ[p.2]?).getD none) := by
        unfold slotsOf
        rw [List.getElem?_append_right (by simpa using hi), List.length_replicate, List.getElem?_map, e1]
        rfl
      have sl := R.slot p.2
      cases e : sget τ p.2 with
      | no => trivial
      | see ts => trivial
      | vat t v =>
        rw [e] at sl
        exact ⟨v, by rw [ge, sl.1]; rfl, sl.2.kp (.of S)⟩
      | dic ps =>
        rw [e] at sl
        obtain ⟨q, o, kvs, ev, h1, ek, r⟩ := sl
        exact ⟨q, o, kvs, by rw [ge, ev]; rfl, S _ _ h1, ek, r.kp (.of S)⟩
      | own ts =>
        rw [e] at sl
        obtain ⟨q, vs, ev, h1, r, _⟩ := sl
        exact ⟨q, vs, by rw [ge, ev]; rfl, S _ _ h1, r.kp (.of S), by rw [S _ _ h1]; exact fun z => by cases z⟩
      | val t =>
        rw [e] at sl
        obtain ⟨v, ev, r⟩ := sl
        exact ⟨v, by rw [ge, ev]; rfl, r.kp (.of S)⟩
  · rcases key i with z | ⟨p, _, _, e2⟩
    · rw [z] at h1; cases h1
    · rw [e2] at h1; exact noOwn _ _ h1
theorem comp_end {X X' : Cx} {pins pins' : List (Addr × Obj)} {σ σ5 : St} {H2 H5 : Hp} {s2 s6 : Shared} {fp : List Addr} {Da : Addr} {h3 : Heap} {vs : List V} {its : List Value} {k5 : Nat} (eP : X'.prog = X.prog) (eW : X'.w = X.w) (eFs : X'.fs = frs X.stack) (eEx : X'.ex = Da :: fp) (eH : X'.H₀ = H2)
    (eS : X'.s₀.heap = h3) (eOs : X'.s₀.os = s2.os) (hCn : X'.env.locals = Da + 1) (pushK : ∀ b o, s2.heap.get? b = some o → h3.get? b = some o) (hDa : s2.heap.objs.size = Da) (I2 : Inv X pins σ H2 s2) (f2 : ∀ b ∈ fp, FpOk X pins H2 b) (I6 : Inv X' pins' σ5 H5 s6)
    (frD : H5 Da = none) (hD : s6.heap.get? Da = some { cls := .type "list", dict := none, data := .seq its.toArray k5 }) (rv : Vals vs its) (hz : vs.length ≤ sizeLine) :
    Inv X pins σ (upd H5 Da (.frz { cls := .type "list", dict := none, data := .seq its.toArray k5 } (.lst vs))) s6 := by
  have un := I6.base
  rw [eFs, eEx, eH, eS] at un
  have old : ∀ b o, s2.heap.get? b = some o → b ≠ Da := fun b o e => by
    have lt := Heap.lt_size e
    rw [hDa] at lt
    exact Nat.ne_of_lt lt
  have hnD : ∀ b, H5 b ≠ none → b ≠ Da := fun b h z => h (by rw [z]; exact frD)
  have ex : ∀ b o, s2.heap.get? b = some o → b ∉ fp → b ∉ Da :: fp := fun b o e hb z => by
    rcases List.mem_cons.mp z with z | z
    · exact old b o e z
    · exact hb z
  refine I2.call' (s' := s6) (ch := fp) (by rw [I6.os, eOs]) ⟨fun b o e n hf hx => ?_, fun b o e n hf hx => ?_, fun b o e n hx => ?_, fun b o e hx => ?_, fun b xs e => ?_, fun b o u e => ?_, fun b ps e => ?_⟩ (fun b ob eb => ?_) I6.bare fun b hb => ?_
  · exact un.keep b o (pushK b o e) n hf (ex b o e hx)
  · exact un.slot b o (pushK b o e) n hf (ex b o e hx)
  · rw [upd_ne (old b o e)]
    exact un.free b o (pushK b o e) n (ex b o e hx)
  · exact un.there b o (pushK b o e) (ex b o e hx)
  · have e1 := un.tups b xs e
    rw [upd_ne (hnD b (by rw [e1]; simp))]
    exact e1
  · have e1 := un.frzs b o u e
    rw [upd_ne (hnD b (by rw [e1]; simp))]
    exact e1
  · obtain ⟨more, e1⟩ := un.tbls b ps e
    exact ⟨more, by rw [upd_ne (hnD b (by rw [e1]; simp))]; exact e1⟩
  · by_cases hb : b = Da
    · subst hb
      rw [upd_same] at eb
      cases eb
      exact ⟨hD, hz, its, k5, rv, hD⟩
    · rw [upd_ne hb] at eb
      have o5 := I6.hok b ob eb
      rw [eP, eW] at o5
      exact o5.stay (fun c v hc q => q) (fun c q => by rw [upd_ne (hnD c (by rw [q]; simp))]; exact q) fun c ys q => by rw [upd_ne (hnD c (by rw [q]; simp))]; exact q
  · obtain ⟨g1, g2, g3, g4, g5, g6⟩ := f2 b hb
    exact ⟨g4, g2, g5, g6⟩
def WkS (K : PySem.W.Frag) (J : It) (ts : List T) (H1 : Hp) : Prop := ∀ H2, Same H1 H2 → (∀ i t, ts[i]? = some t → J.go i H2 ∧ ∀ x H3, J.yld i H2 x H3 → Same H2 H3 ∧ Rep K H3 t x) ∧ J.stop ts.length H2
theorem Wk.s {K : PySem.W.Frag} {J : It} {ts : List T} {H : Hp} (h : Wk K J ts H) : WkS K J ts H := fun H2 S => h H2 (.of S)
def upIc (K : PySem.W.Frag) (H0 : Hp) (w : WI) : TI := fun σ H R => ∃ (τ : List Slot) (Q0 : List T → Prop), RepSt K H0 H σ τ ∧ w τ Q0 ∧ ∀ ts J H', Same H H' → WkS K J ts H' → Q0 ts → R J H'
def JIc (X : Cx) (tg iter : Expr) (w : WI) : Prop := PI X tg iter (upIc X.K X.H₀ w)
theorem JI.c {X : Cx} {tg iter : Expr} {w : WI} (h : JI X tg iter w) : JIc X tg iter w := pi_of h fun σ H R ⟨τ, Q0, R0, hw, k⟩ => ⟨τ, Q0, R0, hw, fun ts J H' S wk q => k ts J H' S wk.s q⟩
inductive CompInv (K : PySem.W.Frag) (X' : Cx) (ts : List T) (g : TGt) (ut : WT) (we : WE) (Q0 : T → Prop) (tn' : Nat → Heap → Prop) (Da : Addr) (fp : List Addr) (n : Nat) (s' : Shared) : Prop
  | mk (i : Nat) (σ' : St) (H' : Hp) (τ' : List Slot) (acc : List T) (vs : List V) (its : List Value) (k : Nat) (e : n = ts.length - i) (hi : i ≤ ts.length) (I : Inv X' [] σ' H' s') (st : tn' i s'.heap) (fr : ∀ b ∈ Da :: fp, H' b = none)
    (R : RepSt X'.K X'.H₀ H' σ' τ') (hD : s'.heap.get? Da = some { cls := .type "list", dict := none, data := .seq (List.toArray its) k }) (rv : Vals vs its) (ra : Reps K H' acc vs) (hl : acc.length ≤ i) (q : compT g ut we (ts.drop i) acc τ' fun rs => Q0 (.lst rs)) :
    CompInv K X' ts g ut we Q0 tn' Da fp n s'
theorem comp_loop {X X' : Cx} {elt target iter : Expr} {ifs : List Expr} {scope : Scope} {pos : Pos} {g : TGt} {ut : WT} {we : WE} {use : Option (Value → Sem Unit)} {QQ : Value → Shared → Prop} {pins : List (Addr × Obj)} {σ σ4 : St} {H H2 : Hp} {s2 s4 : Shared} {h3 : Heap} {it Da : Addr} {fp : List Addr} {tn' : Nat → Heap → Prop} {J : It} {ts : List T} {Q0 : T → Prop} {τ4 : List Slot}
    (hg' : JG X' target g) (hu' : JTs X' ifs ut) (he' : JE X' elt we) (eP : X'.prog = X.prog) (eW : X'.w = X.w) (eK : X'.K = X.K) (eA : X'.A = X.A) (eH : X'.H₀ = H2) (eE : X'.xe = fun _ _ => False) (eC : X'.calm = true) (eFs : X'.fs = frs X.stack) (eEx : X'.ex = Da :: fp) (eS : X'.s₀.heap = h3) (eOs : X'.s₀.os = s2.os) (ePn : X'.pn = [])
    (hCn : X'.env.locals = Da + 1) (pushK : ∀ b o, s2.heap.get? b = some o → h3.get? b = some o) (hDa : s2.heap.objs.size = Da) (I2 : Inv X pins σ H2 s2) (f2 : ∀ b ∈ fp, FpOk X pins H2 b) (Tn : Turn X.prog X.w X.K target J fp it tn') (ne : Da ∉ fp) (S2 : Same H H2) (wk : WkS X.K J ts H2) (hlen : ts.length ≤ 1000)
    (J4 : Inv X' [] σ4 H2 s4) (R4 : RepSt X'.K X'.H₀ H2 σ4 τ4) (st4 : tn' 0 s4.heap) (fr4 : ∀ b ∈ Da :: fp, H2 b = none) (hDat : s4.heap.get? Da = some { cls := .type "list", dict := none, data := .seq ([] : List Value).toArray }) (q : compT g ut we ts [] τ4 fun rs => Q0 (.lst rs))
    (hfp : ∀ H6 : Hp, H6 X'.env.locals = none → FpOk X pins H6 X'.env.locals)
    (hend : ∀ (s6 : Shared) (H6 : Hp) (D C : Addr) (m6 : Str → Option Value) (t : T) (f : Flow), Inv X pins σ H6 s6 → FpOk X pins H6 C → s6.heap.Ns C m6 → Same H H6 → Rep X.K H6 t (.ref D) → Q0 t → (∃ (H5 : Hp) (o : Obj) (vs : List V) (ts : List T), H6 = upd H5 D (.frz o (.lst vs)) ∧ H5 D = none ∧ Same H H5 ∧ t = .lst ts ∧ Reps X.K H5 ts vs) → compPost (model X.prog X.w) X.A X.xe use QQ (.ref D) C (.ok f) s6) :
    codeAny (model X.prog X.w) X.A (.compLoop (.ListComp elt [⟨target, iter, ifs, 0⟩] scope pos) 0 (.ref it) (.ref Da) X'.env) (compPost (model X.prog X.w) X.A X.xe use QQ (.ref Da) X'.env.locals) s4 := by
  have stat : ∀ {H' : Hp} {b : Addr}, b ∈ Da :: fp → H' b = none → FpOk X' [] H' b := fun {H' b} hb hn => by
    have o := (J4.ok.exf b (by rw [eEx]; exact hb))
    refine ⟨hn, o.1, J4.ok.exfs b (by rw [eEx]; exact hb), .inl (by rw [eEx]; exact hb), o.2, fun p hp => ?_⟩
    rw [ePn] at hp
    exact absurd (show p ∈ ([] : List (Addr × Obj)) from hp) (by simp)
  refine codeAny_compLoop_any (CompInv X.K X' ts g ut we Q0 tn' Da fp) ?_ ts.length
    ⟨0, _, H2, _, [], [], [], 0, by simp, Nat.zero_le _, J4, st4, fr4, R4, hDat, .nil, reps_nil.mpr rfl, Nat.le_refl _, by simpa using q⟩
  rintro n s5 ⟨i, σ5, H5, τ5, acc, vs, its, k5, rfl, hi5, I5, st5, fr5, R5, hD5, rv5, ra5, hl5, q5⟩
  have K5 : Same H2 H5 := by
    have := R5.same
    rwa [eH] at this
  obtain ⟨wi5, ws5⟩ := wk H5 K5
  have fp5 : ∀ b ∈ fp, FpOk X' [] H5 b := fun b hb => stat (List.mem_cons_of_mem _ hb) (fr5 b (List.mem_cons_of_mem _ hb))
  rw [← eA]
  by_cases hlt : i < ts.length
  · have ei : ts[i]? = some ts[i] := List.getElem?_eq_getElem hlt
    obtain ⟨go, yl⟩ := wi5 i _ ei
    rw [List.drop_eq_getElem_cons hlt] at q5
    have ID : Inv X' ([] ++ pinsAt [Da] s5.heap) σ5 H5 s5 := I5.pinned (fp := [Da]) (fun b hb => stat (by rw [List.mem_singleton.mp hb]; exact List.mem_cons_self) (fr5 b (by rw [List.mem_singleton.mp hb]; exact List.mem_cons_self))) fun b hb => by
      rw [List.mem_singleton.mp hb]
      exact ⟨_, hD5, fun v z => (by cases z)⟩
    have fpp : ∀ {H' : Hp}, (∀ b ∈ fp, H' b = none) → ∀ b ∈ fp, FpOk X' ([] ++ pinsAt [Da] s5.heap) H' b := fun hn b hb => by
      obtain ⟨g1, g2, g3, g4, g5, g6⟩ := stat (H' := _) (List.mem_cons_of_mem _ hb) (hn b hb)
      refine ⟨g1, g2, g3, g4, g5, fun p hp => ?_⟩
      rcases List.mem_append.mp hp with z | z
      · rw [ePn] at z; exact absurd (show p ∈ ([] : List (Addr × Obj)) from z) (by simp)
      · rw [List.nil_append] at z
        obtain ⟨z1, _⟩ := of_pinsAt z
        rw [List.mem_singleton.mp z1]
        intro e
        exact ne (by rw [e]; exact hb)
    have frf : ∀ b ∈ fp, H5 b = none := fun b hb => fr5 b (List.mem_cons_of_mem _ hb)
    refine wpAny_mono (Tn.item X' eP eW eK eC i _ s5 σ5 H5 (fun _ _ => False) ID (fpp frf) st5 go) (fun r s6 h6 => ?_) fun _ _ z => z
    obtain ⟨u, rfl, h6⟩ := h6
    refine wpAny_mono h6 (fun _ s7 h7 => ?_) fun _ _ z => z
    obtain ⟨x, H7, I7, rx, y7, st7, fr7⟩ := h7
    obtain ⟨S7, r7⟩ := yl x H7 y7
    have I7p := I7.pinned (fpp fr7) (Tn.obj _ _ st7)
    have R7 := R5.mono S7
    have g7 := hg' _ s7 σ5 H7 x u (fun σ8 H8 => ∃ τ8, Same H7 H8 ∧ RepSt X'.K X'.H₀ H8 σ8 τ8 ∧ ut τ8 fun k => (k = true → we τ8 fun t => compT g ut we (ts.drop (i + 1)) (acc ++ [t]) τ8 fun rs => Q0 (.lst rs)) ∧ (k = false → compT g ut we (ts.drop (i + 1)) acc τ8 fun rs => Q0 (.lst rs))) I7p rx
      ⟨ts[i], τ5, _, R7, (by rw [eK]; exact r7), q5, fun τ8 σ8 H8 S8 R8 q8 => ⟨τ8, S8, R8, q8⟩⟩
    rw [eE, eP, eW] at g7
    refine wpAny_mono g7 (fun _ s8 h8 => ?_) fun _ _ z => z
    obtain ⟨σ8, H8, I8, τ8, S8, R8, q8⟩ := h8
    have u8 := hu' _ s8 σ8 H8 (fun k H9 => Same H8 H9 ∧ ((k = true → we τ8 fun t => compT g ut we (ts.drop (i + 1)) (acc ++ [t]) τ8 fun rs => Q0 (.lst rs)) ∧ (k = false → compT g ut we (ts.drop (i + 1)) acc τ8 fun rs => Q0 (.lst rs)))) I8 ⟨τ8, _, R8, q8, fun k H9 S9 q9 => ⟨S9, q9⟩⟩
    rw [eE, eP, eW] at u8
    refine wpAny_mono u8 (fun k s9 h9 => ?_) fun _ _ z => z
    obtain ⟨H9, I9, S9, q9⟩ := h9
    have R9 := R8.mono S9
    have pinD : ∀ {s' : Shared} {σ' : St} {H' : Hp}, Inv X' (([] ++ pinsAt [Da] s5.heap) ++ pinsAt fp s7.heap) σ' H' s' → s'.heap.get? Da = some { cls := .type "list", dict := none, data := .seq its.toArray k5 } ∧ H' Da = none := fun I' => by
      have z := I'.pin (Da, _) (List.mem_append_right _ (List.mem_append_left _ (by rw [List.nil_append]; exact mem_pinsAt (List.mem_singleton.mpr rfl) hD5)))
      exact ⟨z.1, z.2.1⟩
    have pinF : ∀ {s' : Shared} {σ' : St} {H' : Hp}, Inv X' (([] ++ pinsAt [Da] s5.heap) ++ pinsAt fp s7.heap) σ' H' s' → tn' (i + 1) s'.heap ∧ ∀ b ∈ fp, H' b = none := fun {s' σ' H'} I' => by
      refine ⟨Tn.keep _ _ _ st7 fun b hb o e => (I'.pin (b, o) (List.mem_append_right _ (List.mem_append_right _ (mem_pinsAt hb e)))).1, fun b hb => ?_⟩
      obtain ⟨o, e, d⟩ := Tn.obj _ _ st7 b hb
      exact (I'.pin (b, o) (List.mem_append_right _ (List.mem_append_right _ (mem_pinsAt hb e)))).2.1
    have frD : ∀ {H' : Hp}, H' Da = none → (∀ b ∈ fp, H' b = none) → ∀ b ∈ Da :: fp, H' b = none := fun h1 h2 b hb => by
      rcases List.mem_cons.mp hb with rfl | hb
      · exact h1
      · exact h2 b hb
    have unp : ∀ {s' : Shared} {σ' : St} {H' : Hp}, Inv X' (([] ++ pinsAt [Da] s5.heap) ++ pinsAt fp s7.heap) σ' H' s' → Inv X' [] σ' H' s' := fun I' => I'.pins_of fun p hp => absurd hp (by simp)
    cases k with
    | false =>
      rw [if_neg Bool.false_ne_true]
      refine ⟨ts.length - (i + 1), by omega, i + 1, σ8, H9, τ8, acc, vs, its, k5, rfl, hlt, unp I9, (pinF I9).1, frD (pinD I9).2 (pinF I9).2, R9, (pinD I9).1, rv5, ra5.kp (.of (S7.trans (S8.trans S9))), by omega, q9.2 rfl⟩
    | true =>
      rw [if_pos rfl]
      have e9 := he' _ s9 σ8 H9 (fun v H10 => ∃ t, Same H9 H10 ∧ Rep X'.K H10 t v ∧ compT g ut we (ts.drop (i + 1)) (acc ++ [t]) τ8 fun rs => Q0 (.lst rs)) I9 ⟨τ8, _, R9, q9.1 rfl, fun t v H10 S10 r10 q10 => ⟨t, S10, r10, q10⟩⟩
      rw [eE, eP, eW] at e9
      refine wpAny_mono e9 (fun y s10 h10 => ?_) fun _ _ z => z
      obtain ⟨v, H10, I10, rv, t, S10, r10, q10⟩ := h10
      have hlen5 : its.length ≤ 1000 := by
        have e1 := rv5.length
        have e2 := ra5.length
        omega
      refine wpAny_list_append_plain (hsz := by rw [List.size_toArray]; exact few hlen5) ⟨k5, (pinD I10).1⟩ fun h11 hl11 hs11 => ?_
      obtain ⟨k11, hl11⟩ := hl11
      have I11 : Inv X' [] σ8 H10 { s10 with heap := h11 } := by
        obtain ⟨g1, g2, g3, g4, g5, g6⟩ := stat (H' := H10) List.mem_cons_self (pinD I10).2
        exact (unp I10).turned (t' := s10.toks) (it := Da) (fun b o hb e => (hs11.2 b hb).trans e) g1 g2 g4 g5 g6
      have st11 : tn' (i + 1) h11 := Tn.keep _ _ _ (pinF I10).1 fun b hb o e => (hs11.2 b (fun z => ne (by rw [← z]; exact hb))).trans e
      refine ⟨ts.length - (i + 1), by omega, i + 1, σ8, H10, τ8, acc ++ [t], vs ++ [v], its ++ [y], k11, rfl, hlt, I11, st11, frD (pinD I10).2 (pinF I10).2, R9.mono S10, ?_, rv5.append (.cons rv .nil), (ra5.kp (.of (S7.trans (S8.trans (S9.trans S10))))).append (.one (by rw [← eK]; exact r10)), by simp; omega, q10⟩
      have ea : (its ++ [y]).toArray = its.toArray.push y := by simp
      rw [ea]
      exact hl11
  · have e : i = ts.length := by omega
    subst e
    rw [List.drop_length] at q5
    have q5' : Q0 (.lst acc) := q5
    refine wpAny_mono (Tn.done X' eP eW eK eC ts.length ([] ++ pinsAt [Da] s5.heap) s5 σ5 H5 (fun _ _ => False) ?_ ?_ st5 ws5) (fun r s6 h6 => ?_) fun _ _ z => z
    · exact I5.pinned (fp := [Da]) (fun b hb => stat (by rw [List.mem_singleton.mp hb]; exact List.mem_cons_self) (fr5 b (by rw [List.mem_singleton.mp hb]; exact List.mem_cons_self))) fun b hb => by
        rw [List.mem_singleton.mp hb]
        exact ⟨_, hD5, fun v z => (by cases z)⟩
    · intro b hb
      obtain ⟨g1, g2, g3, g4, g5, g6⟩ := stat (H' := H5) (List.mem_cons_of_mem _ hb) (fr5 b (List.mem_cons_of_mem _ hb))
      refine ⟨g1, g2, g3, g4, g5, fun p hp => ?_⟩
      rcases List.mem_append.mp hp with z | z
      · rw [ePn] at z; exact absurd (show p ∈ ([] : List (Addr × Obj)) from z) (by simp)
      · rw [List.nil_append] at z
        obtain ⟨z1, _⟩ := of_pinsAt z
        rw [List.mem_singleton.mp z1]
        intro e
        exact ne (by rw [e]; exact hb)
    obtain ⟨rfl, I6⟩ := h6
    have z6 := I6.pin (Da, _) (List.mem_append_right _ (by rw [List.nil_append]; exact mem_pinsAt (List.mem_singleton.mpr rfl) hD5))
    obtain ⟨m6, hn6, _⟩ := I6.loc
    have hz : vs.length ≤ sizeLine := by rw [ra5.length]; exact few (by omega)
    have fin := comp_end eP eW eFs eEx eH eS eOs hCn pushK hDa I2 f2 I6 (fr5 _ List.mem_cons_self) z6.1 rv5 hz
    have S5 : Same H2 H5 := by have := R5.same; rwa [eH] at this
    have S6 : Same H2 (upd H5 Da (.frz { cls := .type "list", dict := none, data := .seq its.toArray k5 } (.lst vs))) := S5.trans (same_new (fr5 _ List.mem_cons_self) _)
    have hfpC := hfp _ (show (upd H5 Da (.frz { cls := .type "list", dict := none, data := .seq its.toArray k5 } (.lst vs))) X'.env.locals = none by rw [upd_ne (by rw [hCn]; exact Nat.succ_ne_self _)]; exact I6.free)
    show compPost (model X.prog X.w) X'.A X.xe use QQ (.ref Da) X'.env.locals (.ok .next) s6
    rw [eA]
    exact hend s6 _ _ _ m6 (.lst acc) _ fin hfpC hn6 (S2.trans S6) (rep_lst.mpr ⟨_, vs, rfl, .inl ⟨_, upd_same⟩, ra5.kp (.of (same_new (fr5 _ List.mem_cons_self) _))⟩) q5' ⟨H5, _, vs, acc, rfl, fr5 _ List.mem_cons_self, S2.trans S5, rfl, ra5⟩
theorem comp_core {elt target iter : Expr} {ifs : List Expr} {scope sc0 : Scope} {tn N0 : List Str} {fr : List (Str × Nat)} {wi : WI} {g : TGt} {ut : WT} {we : WE} (hsc : X.env.scope = sc0) (hN0 : X.N = N0) (hc : X.calm = true)
    (hi : JIc X target iter wi) (hk : scope.kind = .function) (hk0 : sc0.kind = .function)
    (hnames : (scope.names.all fun x => x.2 != .local || scope.names.lookup x.1 == some .local) = true) (hcell : (scope.names.all fun x => x.2 != .cell) = true)
    (hfree : (scope.names.all fun x => x.2 != .free || sc0.names.lookup x.1 == some .cell) = true)
    (hfr : (fr.all fun p => (sc0.names.lookup p.1 == some .cell && scope.names.lookup p.1 == some .free) && N0[p.2]? == some p.1) = true)
    (hg : ∀ cl C s3 H2 ex, JG (compCx X (tn ++ fr.map (·.1)) scope cl C s3 H2 ex) target g) (hu : ∀ cl C s3 H2 ex, JTs (compCx X (tn ++ fr.map (·.1)) scope cl C s3 H2 ex) ifs ut)
    (he : ∀ cl C s3 H2 ex, JE (compCx X (tn ++ fr.map (·.1)) scope cl C s3 H2 ex) elt we)
    (hs : ∀ x, foldedSetIterable iter X.env x = pure x) {pos' : Pos} {pins : List (Addr × Obj)} {s : Shared} {σ : St} {H : Hp} {QQ : Value → Shared → Prop} {use : Option (Value → Sem Unit)} (I : Inv X pins σ H s)
    {τ : List Slot} {Q0 : T → Prop} (R0 : RepSt X.K X.H₀ H σ τ) (hw : wComp wi g ut we tn.length (fr.map (·.2)) τ Q0)
    (hend : ∀ (s6 : Shared) (H6 : Hp) (D C : Addr) (m6 : Str → Option Value) (t : T) (f : Flow), Inv X pins σ H6 s6 → FpOk X pins H6 C → s6.heap.Ns C m6 → Same H H6 → Rep X.K H6 t (.ref D) → Q0 t → (∃ (H5 : Hp) (o : Obj) (vs : List V) (ts : List T), H6 = upd H5 D (.frz o (.lst vs)) ∧ H5 D = none ∧ Same H H5 ∧ t = .lst ts ∧ Reps X.K H5 ts vs) → compPost (model X.prog X.w) X.A X.xe use QQ (.ref D) C (.ok f) s6) :
    wpAny (model X.prog X.w) X.A (comprehension (.ListComp elt [⟨target, iter, ifs, 0⟩] scope pos) scope X.env pos' (newList []) false (eval iter X.env) use) QQ X.xe s := by
  have hkindOf : ∀ x, X.env.kindOf x = sc0.names.lookup x := fun x => by show X.env.scope.names.lookup x = _; rw [hsc]
  have hfree' : ∀ x ∈ scope.names, x.2 = .free → X.env.kindOf x.1 = some .cell := fun x hx hf => by
    have := List.all_eq_true.mp hfree x hx
    rw [hkindOf]
    simpa [hf] using this
  have hcell' : ∀ x ∈ scope.names, x.2 ≠ .cell := fun x hx => by
    have := List.all_eq_true.mp hcell x hx
    simpa using this
  have hfN : ∀ p ∈ fr, X.N[p.2]? = some p.1 := fun p hp => by
    have := List.all_eq_true.mp hfr p hp
    rw [hN0]
    simp only [Bool.and_eq_true, beq_iff_eq] at this
    exact this.2
  have hfr' : ∀ p ∈ fr, X.env.kindOf p.1 = some .cell ∧ scope.names.lookup p.1 = some .free := fun p hp => by
    have := List.all_eq_true.mp hfr p hp
    rw [hkindOf]
    simp only [Bool.and_eq_true, beq_iff_eq] at this
    exact this.1
  obtain ⟨cl, hclos, p1, p3⟩ := closureFor_of (scope := scope) (env := X.env) fun x hx hf => I.ok.has x.1 (.inl (hfree' x hx hf))
  refine wpAny_comprehension_free (use := use) rfl hs hclos hk (fun x hx hl => ?_) ?_
  · have := List.all_eq_true.mp hnames x hx
    simpa [hl] using this
  refine thn (hi pins s σ H (fun J H1 => ∃ ts, Same H H1 ∧ WkS X.K J ts H1 ∧ ts.length ≤ 1000 ∧ compT g ut we ts [] (List.replicate tn.length Slot.no ++ (fr.map (·.2)).map fun i => hide (sget τ i)) fun rs => Q0 (.lst rs)) I
    ⟨τ, _, R0, hw, fun ts J H' S wk q => ⟨ts, S, wk, q.1, q.2⟩⟩) fun v s1 h1 => thn h1 fun itv s2 h2 => ?_
  obtain ⟨it, fp, tn', J, H2, rfl, I2, Tn, st2, f2, ts, S2, wk, hlen, q⟩ := h2
  refine wpAny_newObj_type (wpAny_newFunctionEnv hcell' (by intro y hy; simp at hy) (fun h4 hns hsb => ?_) hk)
  dsimp only at hns hsb ⊢
  have hDn : H2 s2.heap.objs.size = none := I2.hok.fresh (Nat.le_refl _)
  have I3 : Inv X pins σ H2 { s2 with heap := s2.heap.push { cls := .type "list", dict := none, data := .seq ([] : List Value).toArray } } := I2.kept (t' := s2.toks) fun b u e => Heap.get?_push_of_some _ e
  have hsz : (s2.heap.push { cls := .type "list", dict := none, data := .seq ([] : List Value).toArray }).objs.size = s2.heap.objs.size + 1 := Heap.size_push ..
  have hkeep : ∀ b o, (s2.heap.push { cls := .type "list", dict := none, data := .seq ([] : List Value).toArray }).get? b = some o → h4.get? b = some o := fun b o e => hsb.extBut b o (Nat.ne_of_lt (Heap.lt_size e)) (Heap.get?_push_of_some _ e)
  have hDat : h4.get? s2.heap.objs.size = some { cls := .type "list", dict := none, data := .seq ([] : List Value).toArray } := hkeep _ _ (Heap.get?_push_size _ rfl)
  have fpD : ∀ b ∈ s2.heap.objs.size :: fp, FpOk X pins H2 b := fun b hb => by
    rcases List.mem_cons.mp hb with rfl | hb
    · exact I2.fpOk (Nat.le_refl _) hDn
    · exact f2 b hb
  have ltD : ∀ b ∈ fp, b < s2.heap.objs.size := fun b hb => by
    obtain ⟨o, e, _⟩ := Tn.obj _ _ st2 b hb
    exact Heap.lt_size e
  have ltD' : ∀ b ∈ s2.heap.objs.size :: fp, b < (s2.heap.push { cls := .type "list", dict := none, data := .seq ([] : List Value).toArray }).objs.size := fun b hb => by
    rw [hsz]
    rcases List.mem_cons.mp hb with rfl | hb
    · exact Nat.lt_succ_self _
    · exact Nat.lt_succ_of_lt (ltD b hb)
  have hhas : ∀ x, ((relabel scope X.env).names.lookup x = some .cell ∨ (relabel scope X.env).names.lookup x = some .free) → ∃ c, cl.lookup x = some c := fun x hx => by
    have z : ∃ k', (relabel scope X.env).names.lookup x = some k' ∧ (k' = .cell ∨ k' = .free) := by
      rcases hx with hx | hx
      · exact ⟨_, hx, .inl rfl⟩
      · exact ⟨_, hx, .inr rfl⟩
    obtain ⟨k', e, hk'⟩ := z
    obtain ⟨k, hm, hkk⟩ := relabel_mem e
    have hf : k = .free := by
      rcases hkk with rfl | ⟨h, _⟩
      · rcases hk' with rfl | rfl
        · exact absurd rfl (hcell' _ hm)
        · rfl
      · exact h
    subst hf
    exact p3 (x, .free) hm rfl
  obtain ⟨m3, hn3, hl3⟩ := I3.loc
  have J4 : Inv (compCx X (tn ++ fr.map (·.1)) scope cl (s2.heap.push { cls := .type "list", dict := none, data := .seq ([] : List Value).toArray }).objs.size { s2 with heap := s2.heap.push { cls := .type "list", dict := none, data := .seq ([] : List Value).toArray } } H2 (s2.heap.objs.size :: fp)) []
      (slotsOf σ tn.length fr) H2 { s2 with heap := h4, toks := s2.toks + ([] : List (Str × Value)).length } := by
    refine comp_start I3 hc hk (Nat.le_refl _) p1 hhas fpD ltD' rfl I2.bare hkeep hns (fun i x v h1 h2 => ?_) (by simp [slotsOf])
    unfold slotsOf at h2
    by_cases hi : i < tn.length
    · rw [List.getElem?_append_left (by simpa using hi), List.getElem?_replicate] at h2
      split at h2 <;> cases h2
    · rw [List.getElem?_append_right (by simpa using hi), List.length_replicate, List.getElem?_map] at h2
      rw [List.getElem?_append_right (by omega), List.getElem?_map] at h1
      cases ep : fr[i - tn.length]? with
      | none => rw [ep] at h1; cases h1
      | some p =>
        rw [ep] at h1 h2
        have h1' : p.1 = x := by simpa using h1
        have h2' : (σ[p.2]?).getD none = some v := by simpa using h2
        have h2'' : σ[p.2]? = some (some v) := by
          cases e : σ[p.2]? with
          | none => rw [e] at h2'; cases h2'
          | some z => rw [e] at h2'; exact congrArg some h2'
        have hp : p ∈ fr := List.mem_of_getElem? ep
        obtain ⟨k1, k2⟩ := hfr' p hp
        subst h1'
        obtain ⟨u, ru, lk⟩ := hl3 p.2 p.1 v (hfN p hp) h2'' (.inr (.inl k1))
        refine ⟨u, ru, .inr ⟨.inl ?_, ?_⟩⟩
        · exact relabel_free (by rw [hsc]; exact hk0) k2 k1
        · rcases lk with ⟨z, _⟩ | ⟨_, c, e, o, ho, hd⟩
          · rw [k1] at z; cases z
          · obtain ⟨c', e'⟩ := p3 (p.1, .free) (PySem.mem_of_lookup k2) rfl
            have := p1 _ _ e'
            rw [e] at this
            cases this
            exact ⟨c, e', o, hkeep c o ho, hd⟩
  have R4 : RepSt X.K H2 H2 (slotsOf σ tn.length fr) (List.replicate tn.length Slot.no ++ (fr.map (·.2)).map fun i => hide (sget τ i)) := repSt_comp tn.length fr R0 S2
  have ne : (s2.heap.objs.size : Addr) ∉ fp := fun z => absurd (ltD _ z) (Nat.lt_irrefl _)
  have st4 : tn' 0 h4 := Tn.keep _ _ _ st2 fun b hb o e => hkeep b o (Heap.get?_push_of_some _ e)
  have lp := comp_loop (scope := scope) (H2 := H2) (s2 := s2) (X := X) (X' := compCx X (tn ++ fr.map (·.1)) scope cl (s2.heap.push { cls := .type "list", dict := none, data := .seq ([] : List Value).toArray }).objs.size { s2 with heap := s2.heap.push { cls := .type "list", dict := none, data := .seq ([] : List Value).toArray } } H2 (s2.heap.objs.size :: fp)) (h3 := s2.heap.push { cls := .type "list", dict := none, data := .seq ([] : List Value).toArray }) (pins := pins) (s4 := { s2 with heap := h4, toks := s2.toks + ([] : List (Str × Value)).length }) (use := use) (QQ := QQ) (iter := iter) (pos := pos) (hg _ _ _ _ _) (hu _ _ _ _ _) (he _ _ _ _ _) rfl rfl rfl rfl rfl rfl rfl rfl rfl rfl rfl rfl hsz (fun b o e => Heap.get?_push_of_some _ e) rfl I2 f2 Tn ne S2 wk hlen J4 R4 st4 (fun b hb => (fpD b hb).1) hDat q (fun H6 h => I3.fpOk (Nat.le_refl _) h) hend
  exact codeAny_compStart_list lp (Tn.self _ 0 _ _ _ st4 lp)
theorem jcomp {elt target iter : Expr} {ifs : List Expr} {scope sc0 : Scope} {tn N0 : List Str} {fr : List (Str × Nat)} {wi : WI} {g : TGt} {ut : WT} {we : WE} (hsc : X.env.scope = sc0) (hN0 : X.N = N0) (hc : X.calm = true)
    (hi : JI X target iter wi) (hk : scope.kind = .function) (hk0 : sc0.kind = .function)
    (hnames : (scope.names.all fun x => x.2 != .local || scope.names.lookup x.1 == some .local) = true) (hcell : (scope.names.all fun x => x.2 != .cell) = true)
    (hfree : (scope.names.all fun x => x.2 != .free || sc0.names.lookup x.1 == some .cell) = true)
    (hfr : (fr.all fun p => (sc0.names.lookup p.1 == some .cell && scope.names.lookup p.1 == some .free) && N0[p.2]? == some p.1) = true)
    (hg : ∀ cl C s3 H2 ex, JG (compCx X (tn ++ fr.map (·.1)) scope cl C s3 H2 ex) target g) (hu : ∀ cl C s3 H2 ex, JTs (compCx X (tn ++ fr.map (·.1)) scope cl C s3 H2 ex) ifs ut)
    (he : ∀ cl C s3 H2 ex, JE (compCx X (tn ++ fr.map (·.1)) scope cl C s3 H2 ex) elt we)
    (hs : ∀ x, foldedSetIterable iter X.env x = pure x := by intro _; rfl) : JE X (.ListComp elt [⟨target, iter, ifs, 0⟩] scope pos) (wComp wi g ut we tn.length (fr.map (·.2))) := by
  intro pins s σ H Q I hw
  obtain ⟨τ, Q0, R0, hw, kk⟩ := hw
  rw [eval_ListComp]
  refine comp_core hsc hN0 hc hi.c hk hk0 hnames hcell hfree hfr hg hu he hs (pos' := _) (use := none) I R0 hw fun s6 H6 D C m6 t f I6 fp hn S r q _ => ?_
  refine ⟨m6, hn, fun h7 hs7 => ?_⟩
  obtain ⟨g1, g2, g3, g4, g5, g6⟩ := fp
  exact ⟨.ref D, H6, I6.turned (t' := s6.toks) (it := C) (fun b o hb e => (hs7.2 b hb).trans e) g1 g2 g4 g5 g6, rfl, kk _ _ _ S r q⟩
theorem jsetc {elt target iter : Expr} {ifs : List Expr} {scope sc0 : Scope} {tn N0 : List Str} {fr : List (Str × Nat)} {wi : WI} {g : TGt} {ut : WT} {we : WE} {i : Nat} {x : Str} {pos' spos : Pos} (hN : X.N.Nodup) (hiN : X.N[i]? = some x) (hx : Loc X.env.scope x)
    (hsc : X.env.scope = sc0) (hN0 : X.N = N0) (hc : X.calm = true)
    (hi : JI X target iter wi) (hk : scope.kind = .function) (hk0 : sc0.kind = .function)
    (hnames : (scope.names.all fun x => x.2 != .local || scope.names.lookup x.1 == some .local) = true) (hcell : (scope.names.all fun x => x.2 != .cell) = true)
    (hfree : (scope.names.all fun x => x.2 != .free || sc0.names.lookup x.1 == some .cell) = true)
    (hfr : (fr.all fun p => (sc0.names.lookup p.1 == some .cell && scope.names.lookup p.1 == some .free) && N0[p.2]? == some p.1) = true)
    (hg : ∀ cl C s3 H2 ex, JG (compCx X (tn ++ fr.map (·.1)) scope cl C s3 H2 ex) target g) (hu : ∀ cl C s3 H2 ex, JTs (compCx X (tn ++ fr.map (·.1)) scope cl C s3 H2 ex) ifs ut)
    (he : ∀ cl C s3 H2 ex, JE (compCx X (tn ++ fr.map (·.1)) scope cl C s3 H2 ex) elt we)
    (hs : ∀ x, foldedSetIterable iter X.env x = pure x := by intro _; rfl)
    (hsw : swapsWith (.ListComp elt [⟨target, iter, ifs, 0⟩] scope pos) (some (.Name x pos')) spos.line X.env = pure true := by rfl)
    (hf : X.fn x = true ∨ X.env.scope.names.lookup x = some .local := by first | exact .inl rfl | exact .inr rfl | assumption) :
    JS X (.Assign [.Name x pos'] (.ListComp elt [⟨target, iter, ifs, 0⟩] scope pos) spos) (sSet i (wComp wi g ut we tn.length (fr.map (·.2)))) := by
  intro pins s σ H D I ⟨τ, D0, R0, hw, k, _⟩
  rw [exec_Assign_Name_used _ _ _ _ hsw]
  refine wpAny_bind (wpAny_standAt (wpAny_bind ?_))
  rw [arm_evalThenUse_ListComp]
  dsimp only
  refine wpAny_bind (wpAny_mono (comp_core (QQ := fun _ s' => SP X pins D .next s') hsc hN0 hc hi.c hk hk0 hnames hcell hfree hfr hg hu he hs (use := some (assign (.Name x pos') X.env)) I R0 hw fun s6 H6 Da C m6 t f I6 fp hn S r q _ => ?_) (fun _ s' h => wpAny_pure (wpAny_pure h)) fun _ _ z => z)
  obtain ⟨oC, es, ep, hoC, hdC, hrC⟩ := id hn
  have Ip := I6.pinned (fp := [C]) (fun b hb => by rw [List.mem_singleton.mp hb]; exact fp) fun b hb => by
    rw [List.mem_singleton.mp hb]
    exact ⟨oC, hoC, fun v z => by rw [hdC] at z; cases z⟩
  have gn := pg_name (pos := pos') hN hiN hx hf _ s6 σ H6 (.ref Da) (.ref Da) (fun σ' H' => σ' = σ.set i (some (.ref Da)) ∧ H' = H6) Ip rfl ⟨rfl, rfl⟩
  refine wpAny_mono gn (fun _ s7 h7 => ?_) fun _ _ z => z
  obtain ⟨σ7, H7, I7, rfl, rfl⟩ := h7
  have pC := (I7.pin (C, oC) (List.mem_append_right _ (List.mem_append_right _ (mem_pinsAt (List.mem_singleton.mpr rfl) hoC)))).1
  refine ⟨m6, ⟨oC, es, ep, pC, hdC, hrC⟩, fun h8 hs8 => ?_⟩
  obtain ⟨g1, g2, g3, g4, g5, g6⟩ := fp
  have I8 : Inv X pins (σ.set i (some (.ref Da))) H7 s7 := I7.pins_of fun p hp => I7.pin p (List.mem_append_right _ (List.mem_append_left _ hp))
  exact ⟨_, H7, I8.turned (t' := s7.toks) (it := C) (fun b o hb e => (hs8.2 b hb).trans e) g1 g2 g4 g5 g6, k _ _ H7 (.of S) ((R0.mono S).put r) q⟩
end
end TL
end
section
set_option Elab.async false
set_option linter.all false
set_option maxRecDepth 100000
set_option maxHeartbeats 4000000
namespace TL
open PySem PySem.Spec PyProof.Rows L2
def SeqIt (h : Heap) (it l : Addr) (k : Nat) (xs : Array Value) : Prop := (h.IsListIter it l k ∧ h.IsList l xs) ∨ (h.IsTupleIter it l k ∧ h.IsTuple l xs)
theorem SeqIt.keep {h h' : Heap} {it l : Addr} {k : Nat} {xs : Array Value} (x : SeqIt h it l k xs) (q : ∀ b o, b = it ∨ b = l → h.get? b = some o → h'.get? b = some o) : SeqIt h' it l k xs := by
  rcases x with ⟨⟨o, e, r⟩, p, e2, r2⟩ | ⟨⟨o, e, r⟩, p, e2, r2⟩
  · exact .inl ⟨⟨o, q _ _ (.inl rfl) e, r⟩, p, q _ _ (.inr rfl) e2, r2⟩
  · exact .inr ⟨⟨o, q _ _ (.inl rfl) e, r⟩, p, q _ _ (.inr rfl) e2, r2⟩
theorem SeqIt.lt {h : Heap} {it l : Addr} {k : Nat} {xs : Array Value} (x : SeqIt h it l k xs) : it < h.objs.size ∧ l < h.objs.size := by
  rcases x with ⟨⟨o, e, _⟩, p, e2, _⟩ | ⟨⟨o, e, _⟩, p, e2, _⟩
  · exact ⟨Heap.lt_size e, Heap.lt_size e2⟩
  · exact ⟨Heap.lt_size e, Heap.lt_size e2⟩
theorem SeqIt.obj {h : Heap} {it l : Addr} {k : Nat} {xs : Array Value} (x : SeqIt h it l k xs) : ∃ o, h.get? it = some o ∧ ∀ v, o.data ≠ .cell v := by
  rcases x with ⟨⟨o, e, c, d⟩, _⟩ | ⟨⟨o, e, c, d⟩, _⟩
  · exact ⟨o, e, fun v z => by rw [d] at z; cases z⟩
  · exact ⟨o, e, fun v z => by rw [d] at z; cases z⟩
section
variable {prog : Program} {w : World} {A : Around} {E : Value → Shared → Prop} {s : Shared}
structure Zp (h : Heap) (z TI TO i j l m : Addr) (f : Value) (k : Nat) (xs ys : Array Value) : Prop where
  z : IsZip h z TI TO f
  ti : IsPair h TI (.ref i) (.ref j)
  to : ∃ a b, IsPair h TO a b
  one : SeqIt h i l k xs
  two : SeqIt h j m k ys
structure Zd (z TI TO i j l m : Addr) : Prop where
  nd : [z, TI, TO, i, j].Nodup
  l : l ∉ [z, TI, TO, i, j]
  m : m ∉ [z, TI, TO, i, j]
theorem Zd.all {z TI TO i j l m : Addr} (d : Zd z TI TO i j l m) : (z ≠ TI ∧ z ≠ TO ∧ z ≠ i ∧ z ≠ j) ∧ (TI ≠ TO ∧ TI ≠ i ∧ TI ≠ j) ∧ (TO ≠ i ∧ TO ≠ j) ∧ i ≠ j ∧ (l ≠ z ∧ l ≠ TI ∧ l ≠ TO ∧ l ≠ i ∧ l ≠ j) ∧ (m ≠ z ∧ m ≠ TI ∧ m ≠ TO ∧ m ≠ i ∧ m ≠ j) := by
  obtain ⟨a, b, c⟩ := d
  simp only [List.nodup_cons, List.mem_cons, List.not_mem_nil, or_false, not_or, List.nodup_nil, not_false_eq_true, and_true] at a b c
  exact ⟨⟨a.1.1, a.1.2.1, a.1.2.2.1, a.1.2.2.2⟩, ⟨a.2.1.1, a.2.1.2.1, a.2.1.2.2⟩, ⟨a.2.2.1.1, a.2.2.1.2⟩, a.2.2.2, ⟨b.1, b.2.1, b.2.2.1, b.2.2.2.1, b.2.2.2.2⟩, c.1, c.2.1, c.2.2.1, c.2.2.2.1, c.2.2.2.2⟩
end
end TL
end
section
set_option Elab.async false
set_option linter.all false
set_option maxRecDepth 100000
set_option maxHeartbeats 4000000
namespace TL
open PySem PySem.Spec PyProof.Rows L2
def SeqK (h : Heap) (c : Bool) (l : Addr) (xs : Array Value) : Prop := match c with | true => h.IsList l xs | false => h.IsTuple l xs
def ItK (h : Heap) (c : Bool) (it l : Addr) (k : Nat) : Prop := match c with | true => h.IsListIter it l k | false => h.IsTupleIter it l k
theorem SeqK.lt {h : Heap} {c : Bool} {l : Addr} {xs : Array Value} (x : SeqK h c l xs) : l < h.objs.size := by
  cases c
  · obtain ⟨o, e, _⟩ := x; exact Heap.lt_size e
  · obtain ⟨o, e, _⟩ := x; exact Heap.lt_size e
theorem SeqK.push {h : Heap} {c : Bool} {l : Addr} {xs : Array Value} (x : SeqK h c l xs) (o : Obj) : SeqK (h.push o) c l xs := by
  cases c
  · exact Heap.IsTuple.push x o
  · exact Heap.IsList.push x o
theorem ItK.get {h : Heap} {c : Bool} {it l : Addr} {k : Nat} (x : ItK h c it l k) : ∃ o, h.get? it = some o ∧ ∀ v, o.data ≠ .cell v := by
  cases c
  · obtain ⟨o, e, c, d⟩ := x; exact ⟨o, e, fun v z => by rw [d] at z; cases z⟩
  · obtain ⟨o, e, c, d⟩ := x; exact ⟨o, e, fun v z => by rw [d] at z; cases z⟩
theorem ItK.keep {h h' : Heap} {c : Bool} {it l : Addr} {k : Nat} (x : ItK h c it l k) (q : ∀ o, h.get? it = some o → h'.get? it = some o) : ItK h' c it l k := by
  cases c
  · obtain ⟨o, e, r⟩ := x; exact ⟨o, q o e, r⟩
  · obtain ⟨o, e, r⟩ := x; exact ⟨o, q o e, r⟩
theorem ItK.seq {h : Heap} {c : Bool} {it l : Addr} {k : Nat} {xs : Array Value} (x : ItK h c it l k) (y : SeqK h c l xs) : SeqIt h it l k xs := by
  cases c
  · exact .inr ⟨x, y⟩
  · exact .inl ⟨x, y⟩
theorem SeqIt.kind {h : Heap} {c : Bool} {it l : Addr} {k : Nat} {xs ys : Array Value} (x : SeqIt h it l k xs) (y : SeqK h c l ys) : ItK h c it l k := by
  rcases x with ⟨a, o, e, c1, _⟩ | ⟨a, o, e, c1, _⟩
  · cases c
    · obtain ⟨o', e', c2, _⟩ := y
      rw [e] at e'; cases e'; rw [c1] at c2; simp at c2
    · exact a
  · cases c
    · exact a
    · obtain ⟨o', e', c2, _⟩ := y
      rw [e] at e'; cases e'; rw [c1] at c2; simp at c2
section
variable {prog : Program} {w : World} {A : Around} {E : Value → Shared → Prop} {s : Shared}
end
section
variable {prog : Program} {w : World} {A : Around} {E : Value → Shared → Prop} {s : Shared}
end
def SqK (K : PySem.W.Frag) (H : Hp) (c : Bool) (a : Addr) (xs : List V) : Prop := match c with | true => SqF K H a xs | false => SqT K H a xs
theorem SqK.kp {K : PySem.W.Frag} {H H' : Hp} {c : Bool} {a : Addr} {xs : List V} (h : SqK K H c a xs) (k : Kp H H') : SqK K H' c a xs := by
  cases c
  · exact sqT_kp k h
  · exact sqF_kp k h
structure Zt (h : Heap) (z TI TO i j l m : Addr) (c d : Bool) (k : Nat) : Prop where
  z : IsZip h z TI TO .none
  ti : IsPair h TI (.ref i) (.ref j)
  to : ∃ a b, IsPair h TO a b
  one : ItK h c i l k
  two : ItK h d j m k
def seqOf : T → Option (List T)
  | .tup ts => some ts
  | .lst ts => some ts
  | _ => none
def zipT : List T → List T → List T
  | x :: xs, y :: ys => .tup [x, y] :: zipT xs ys
  | _, _ => []
def iZip (ws : WA) : WI := fun τ Q => ws τ fun ts => match ts with
  | [a, b] => (match seqOf a, seqOf b with | some xs, some ys => Q (zipT xs ys) | _, _ => False)
  | _ => False
section
variable {X : Cx} {a b : Expr} {ws : WA} {pos : Pos}
end
end TL
end
section
set_option Elab.async false
set_option linter.all false
set_option maxRecDepth 100000
set_option maxHeartbeats 4000000
namespace TL
open PySem PySem.Spec PyProof.Rows L2
section
variable {X : Cx}
def intsOf : List T → Option (List Int)
  | [] => some []
  | .int i :: r => (intsOf r).map (i :: ·)
  | _ => none
def rSumT (ts : List T) (Q : T → Prop) : Prop := match ts with
  | [.lst xs] => (match intsOf xs with | some ns => Q (.int ns.sum) | none => False)
  | _ => False
def boolsOf : List T → Option (List Bool)
  | [] => some []
  | .bl i :: r => (boolsOf r).map (i :: ·)
  | _ => none
def rAllT (ts : List T) (Q : T → Prop) : Prop := match ts with
  | [.lst xs] => (match boolsOf xs with | some bs => Q (.bl (bs.all id)) | none => False)
  | _ => False
def rListT (ts : List T) (Q : T → Prop) : Prop := match ts with
  | [.tup xs] => Q (.lst xs)
  | [.lst xs] => Q (.lst xs)
  | _ => False
end
end TL
end
section
set_option Elab.async false
set_option linter.all false
set_option maxRecDepth 100000
set_option maxHeartbeats 4000000
namespace TL
open PySem PySem.Spec PyProof.Rows L2
section
variable {X : Cx} {a b c e : Expr} {es : List Expr} {wa wb wc w : WE} {ws : WA} {pos : Pos}
def rSeqCat (K : PySem.W.Frag) : R2 := fun x y H Q => ∃ a b xs ys, x = .ref a ∧ y = .ref b ∧ xs.length + ys.length ≤ sizeLine ∧
  ((SqL K H a xs ∧ SqL K H b ys ∧ ∀ p o, H p = none → Q (.ref p) (upd H p (.frz o (.lst (xs ++ ys))))) ∨
   (SqT K H a xs ∧ SqT K H b ys ∧ (xs = [] → Q (.ref b) H) ∧ (xs ≠ [] → ys = [] → Q (.ref a) H) ∧ (xs ≠ [] → ys ≠ [] → ∀ p, H p = none → Q (.ref p) (upd H p (.tup (xs ++ ys))))))
theorem op_seqCat : OpR X (binaryOp .Add) (rSeqCat X.K) := by
  intro pins s σ H x y v u Q I rx ry h
  obtain ⟨a, b, xs, ys, rfl, rfl, hz, h⟩ := h
  cases rx
  cases ry
  rcases h with ⟨ha, hb, q⟩ | ⟨ha, hb, q0, q1, q2⟩
  · obtain ⟨its, r1, p1, _⟩ := I.list ha
    obtain ⟨its2, r2, p2, _⟩ := I.list hb
    have hl1 := r1.length
    have hl2 := r2.length
    obtain ⟨⟨cls, dd, data, sl⟩, ho, hc, n, hd⟩ := p1.isList
    obtain ⟨⟨cls2, dd2, data2, sl2⟩, ho2, hc2, n2, hd2⟩ := p2.isList
    simp only at hc hd hc2 hd2
    subst hc hd hc2 hd2
    refine concat_meets ⟨_, ho, rfl⟩ ⟨_, ho2, rfl⟩ noFill_list_add seq_list_add PySem.F.slot_list_add PySem.F.entry_list_add (PySem.F.args_list_add_2 _ _) (list_addW a b its.toArray its2.toArray n n2 dd dd2 sl sl2 (by simp only [List.size_toArray]; omega)) ⟨ho, ho2, ?_⟩
    have e : its.toArray ++ its2.toArray = (its ++ its2).toArray := by simp
    rw [e]
    have hf : H s.heap.objs.size = none := I.hok.fresh (Nat.le_refl _)
    refine ⟨.ref s.heap.objs.size, upd H s.heap.objs.size (.frz { cls := .type "list", data := .seq (its ++ its2).toArray } (.lst (xs ++ ys))), I.laid (t' := s.toks) (fun b u e => Heap.get?_push_of_some _ e) (Nat.le_refl _) ?_, rfl, q _ _ hf⟩
    exact ⟨Heap.get?_push_size _ rfl, by rw [List.length_append]; exact hz, its ++ its2, 0, r1.append r2, Heap.get?_push_size _ rfl⟩
  · obtain ⟨its, r1, p1, _⟩ := I.tuple ha
    obtain ⟨its2, r2, p2, _⟩ := I.tuple hb
    by_cases hx : xs = []
    · subst hx
      have hi : its = [] := r1.nil_iff.mpr rfl
      subst hi
      obtain ⟨⟨cls, dd, data, sl⟩, ho, hc, n, hd⟩ := p1
      obtain ⟨⟨cls2, dd2, data2, sl2⟩, ho2, hc2, n2, hd2⟩ := p2
      simp only at hc hd hc2 hd2
      subst hc hd hc2 hd2
      refine concat_meets ⟨_, ho, rfl⟩ ⟨_, ho2, rfl⟩ noFill_tuple_add seq_tuple_add PySem.F.slot_tuple_add PySem.F.entry_tuple_add (PySem.F.args_tuple_add_2 _ _) (tuple_addW0 a b _ _ n n2 dd dd2 sl sl2 rfl) ⟨ho, ho2, ?_⟩
      exact ⟨.ref b, H, I, rfl, q0 rfl⟩
    · refine HT.cat_tup p1 p2 (fun z => hx (r1.nil_iff.mp z)) (fun z => ⟨.ref a, H, I, rfl, q1 hx (r2.nil_iff.mp z)⟩) (fun z => ?_) (by rw [← r1.length, ← r2.length]; exact hz)
      refine ⟨.ref s.heap.objs.size, _, I.laid (t' := s.toks) (o := .tup (xs ++ ys)) (fun b ob q => Heap.get?_push_of_some _ q) (Nat.le_refl _) ?_, rfl, q2 hx (fun w => z (r2.nil_iff.mpr w)) _ (I.hok.fresh (Nat.le_refl _))⟩
      exact ⟨by rw [List.length_append]; exact hz, _, r1.append r2, IsTup.new _ _⟩
def rCatLT (x y : T) (Q : T → Prop) : Prop := match x, y with
  | .lst xs, .lst ys => xs.length + ys.length ≤ 1000 ∧ Q (.lst (xs ++ ys))
  | .tup xs, .tup ys => xs.length + ys.length ≤ 1000 ∧ Q (.tup (xs ++ ys))
  | _, _ => False
theorem b_cat : BR X .Add rCatLT := by
  refine ⟨_, op_seqCat, fun t1 t2 v1 v2 H Q0 Q r1 r2 q k => ?_⟩
  unfold rCatLT at q
  split at q
  · rw [rep_lst] at r1 r2
    obtain ⟨p, vs, rfl, sq, rr⟩ := r1
    obtain ⟨p', vs', rfl, sq', rr'⟩ := r2
    exact ⟨p, p', vs, vs', rfl, rfl, by rw [rr.length, rr'.length]; exact few q.1, .inl ⟨sq.sq, sq'.sq, fun l o hl =>
      k _ _ _ (same_new hl _) (rep_lst.mpr ⟨l, _, rfl, .inl ⟨o, upd_same⟩, (rr.append rr').kp (.of (same_new hl _))⟩) q.2⟩⟩
  · have e1 := r1
    have e2 := r2
    rw [rep_tup] at r1 r2
    obtain ⟨p, vs, rfl, sq, rr⟩ := r1
    obtain ⟨p', vs', rfl, sq', rr'⟩ := r2
    have z1 := rr.length
    have z2 := rr'.length
    refine ⟨p, p', vs, vs', rfl, rfl, by rw [rr.length, rr'.length]; exact few q.1, .inr ⟨sq, sq', fun hx => ?_, fun _ hy => ?_, fun _ _ l hl =>
      k _ _ _ (same_new hl _) (rep_tup.mpr ⟨l, _, rfl, SqT.of upd_same, (rr.append rr').kp (.of (same_new hl _))⟩) q.2⟩⟩
    · subst hx
      rename_i xs ys
      have : xs = [] := List.length_eq_zero_iff.mp (by simpa using z1.symm)
      subst this
      exact k _ _ H (.refl H) e2 q.2
    · rename_i xs ys _
      subst hy
      have : ys = [] := List.length_eq_zero_iff.mp (by simpa using z2.symm)
      subst this
      have q' := q.2
      rw [List.append_nil] at q'
      exact k _ _ H (.refl H) e1 q'
  · exact q.elim
def rMin3T (ts : List T) (Q : T → Prop) : Prop := match ts with
  | [.int i, .int j, .int k] => Q (.int (if j < i then (if k < j then k else j) else (if k < i then k else i)))
  | _ => False
end
end TL
end
section
set_option Elab.async false
set_option linter.all false
set_option maxRecDepth 100000
set_option maxHeartbeats 4000000
namespace TL
open PySem PySem.Spec PyProof.Rows L2
section
variable {X : Cx} {a b c e : Expr} {es : List Expr} {wa wb wc w : WE} {ws : WA} {pos : Pos}
def cnt3 (lo hi c : Int) : Nat := (Builtin.Range.rangeSize lo hi c).toNat
def range3T : Int → Int → Nat → List T
  | _, _, 0 => []
  | lo, c, n + 1 => .int lo :: range3T (lo + c) c n
def iRange3 (ws : WA) : WI := fun τ Q => ws τ fun ts => match ts with
  | [.int i, .int j, .int k] => (-(2 ^ 30) ≤ i ∧ i < 2 ^ 30 ∧ -(2 ^ 30) ≤ j ∧ j < 2 ^ 30 ∧ 0 < k ∧ k < 2 ^ 30) ∧ Q (range3T i k (cnt3 i j k))
  | _ => False
theorem Vals.reverse : ∀ {vs : List V} {us : List Value}, Vals vs us → Vals vs.reverse us.reverse
  | _, _, .nil => .nil
  | _, _, .cons r rr => by
    rw [List.reverse_cons, List.reverse_cons]
    exact (Vals.reverse rr).append (.cons r .nil)
theorem Reps.reverse {K : PySem.W.Frag} {H : Hp} : ∀ {ts : List T} {vs : List V}, Reps K H ts vs → Reps K H ts.reverse vs.reverse
  | [], vs, h => by rw [reps_nil] at h; subst h; simp [reps_nil]
  | t :: ts, vs, h => by
    rw [reps_cons] at h
    obtain ⟨v, r, rfl, a, b⟩ := h
    rw [List.reverse_cons, List.reverse_cons]
    exact (Reps.reverse b).append (.one a)
def wRev (wa ws : WE) : WE := fun τ Q => wa τ fun x => ws τ fun y => match x, y with | .lst ts, .int i => i = -1 ∧ Q (.lst ts.reverse) | _, _ => False
end
end TL
end
section
set_option Elab.async false
set_option linter.all false
set_option maxRecDepth 100000
set_option maxHeartbeats 4000000
namespace TL
open PySem PySem.Spec PyProof.Rows L2
section
variable {prog : Program} {w : World} {A : Around} {E : Value → Shared → Prop} {s : Shared}
end
section
variable {X : Cx} {a b c e : Expr} {es : List Expr} {wa wb wc w : WE} {ws : WA} {pos : Pos}
def wRevA (wa ws : WE) : WE := fun τ Q => wa τ fun x => ws τ fun y => match x, y with | .tup ts, .int i => i = -1 ∧ Q (.tup ts.reverse) | .lst ts, .int i => i = -1 ∧ Q (.lst ts.reverse) | _, _ => False
abbrev WO := List Slot → (Option Int → Prop) → Prop
def upO (K : PySem.W.Frag) (H0 : Hp) (w : WO) : TO := fun σ H Q => ∃ (τ : List Slot) (Q0 : Option Int → Prop), RepSt K H0 H σ τ ∧ w τ Q0 ∧ ∀ o H', Same H H' → Q0 o → Q o H'
def JO (X : Cx) (e : Option Expr) (w : WO) : Prop := PO X e (upO X.K X.H₀ w)
def wo0 : WO := fun _ Q => Q none
def wo (wa : WE) : WO := fun τ Q => wa τ fun x => match x with | .int i => Q (some i) | _ => False
theorem po_of {e : Option Expr} {t t' : TO} (h : PO X e t) (f : ∀ σ H Q, t' σ H Q → t σ H Q) : PO X e t' := fun pins s σ H Q I hw => h pins s σ H Q I (f σ H Q hw)
theorem jo0 : JO X none wo0 := po_of po_none fun σ H Q ⟨τ, Q0, R, hw, k⟩ => k _ H (.refl H) hw
theorem jo (h : JE X e wa) : JO X (some e) (wo wa) := po_of (po_some h) fun σ H Q ⟨τ, Q0, R, hw, k⟩ => ⟨τ, _, R, hw, fun t v H1 S1 r q => by
  cases t <;> first | exact q.elim | skip
  exact ⟨_, rep_int.mp r, k _ H1 S1 q⟩⟩
def cutT (ts : List T) (lo hi : Option Int) : List T := (ts.drop (HT.sIx ts.length 0 lo)).take (HT.sIx ts.length ts.length hi - HT.sIx ts.length 0 lo)
theorem cut_reps {K : PySem.W.Frag} {H : Hp} {ts : List T} {vs : List V} {lo hi : Option Int} (r : Reps K H ts vs) : Reps K H (cutT ts lo hi) (cutV vs lo hi) := by
  unfold cutT cutV
  rw [r.length]
  exact (r.drop _).take _
def rSlTT (x : T) (lo hi : Option Int) (Q : T → Prop) : Prop := match x with
  | .tup ts => ¬ (HT.sIx ts.length 0 lo = 0 ∧ HT.sIx ts.length ts.length hi = ts.length) ∧ Q (.tup (cutT ts lo hi))
  | .lst ts => Q (.lst (cutT ts lo hi))
  | _ => False
def wSl (wa : WE) (wl wh : WO) : WE := fun τ Q => wa τ fun x => wl τ fun lo => wh τ fun hi => rSlTT x lo hi Q
def rSlF (K : PySem.W.Frag) : V → Option Int → Option Int → Hp → VK → Prop := fun x lo hi H Q => ∃ a xs, x = .ref a ∧ SqL K H a xs ∧ ∀ p o, H p = none → Q (.ref p) (upd H p (.frz o (.lst (cutV xs lo hi))))
theorem sl_listF : SlR X (rSlF X.K) := by
  intro pins s σ H x v vl vu lo hi sl Q I rx hs pl pu h
  obtain ⟨a, xs, rfl, hx, q⟩ := h
  cases rx
  obtain ⟨its, r, ht, hz⟩ := I.list hx
  have hlen := r.length
  refine ⟨"list", _, slot_list_getitem.lookup, ht.isList.typeIs, ?_⟩
  refine wpAny_getItem_list_slice ht.isList hs pl pu .none (by simp) ?_ (by rw [List.size_toArray] <;> omega)
  rw [slicePick_cut, ← hlen]
  refine ⟨.ref s.heap.objs.size, _, I.laid (t' := s.toks) (o := .frz { cls := .type "list", data := .seq ((its.drop (HT.sIx xs.length 0 lo)).take (HT.sIx xs.length xs.length hi - HT.sIx xs.length 0 lo)).toArray } (.lst (cutV xs lo hi))) (fun b ob q => Heap.get?_push_of_some _ q) (Nat.le_refl _) ?_, rfl, q _ _ (I.hok.fresh (Nat.le_refl _))⟩
  exact ⟨Heap.get?_push_size _ rfl, Nat.le_trans (cutV_length xs lo hi) hz, _, 0, (r.drop (HT.sIx xs.length 0 lo)).take (HT.sIx xs.length xs.length hi - HT.sIx xs.length 0 lo), Heap.get?_push_size _ rfl⟩
theorem jsl {lo hi : Option Expr} {wl wh : WO} {p2 : Pos} (ha : JE X e wa) (hl : JO X lo wl) (hh : JO X hi wh) : JE X (.Subscript e (.Slice lo hi none p2) pos) (wSl wa wl wh) := pe_of (pe_slice (sl_listF.or sl_tup) ha hl hh) fun σ H Q ⟨τ, Q0, R, hw, k⟩ =>
  ⟨τ, _, R, hw, fun t v H1 S1 r1 q1 => ⟨τ, _, R.mono S1, q1, fun l H2 S2 q2 => ⟨τ, _, R.mono (S1.trans S2), q2, fun h H3 S3 q3 => by
    have r1' := r1.kp (.of (S2.trans S3))
    cases t <;> first | exact q3.elim | skip
    · rename_i ts
      rw [rep_tup] at r1'
      obtain ⟨p, vs, rfl, sq, rr⟩ := r1'
      refine .inr ⟨p, vs, rfl, sq, by rw [rr.length]; exact q3.1, fun pp hp => k _ _ _ (S1.trans (S2.trans (S3.trans (same_new hp _)))) (rep_tup.mpr ⟨pp, _, rfl, SqT.of upd_same, (cut_reps rr).kp (.of (same_new hp _))⟩) q3.2⟩
    · rename_i ts
      rw [rep_lst] at r1'
      obtain ⟨p, vs, rfl, sq, rr⟩ := r1'
      exact .inl ⟨p, vs, rfl, sq.sq, fun pp o hp => k _ _ _ (S1.trans (S2.trans (S3.trans (same_new hp _)))) (rep_lst.mpr ⟨pp, _, rfl, .inl ⟨o, upd_same⟩, (cut_reps rr).kp (.of (same_new hp _))⟩) q3⟩⟩⟩⟩
end
end TL
end
section
set_option Elab.async false
set_option linter.all false
set_option maxRecDepth 100000
set_option maxHeartbeats 4000000
namespace TL
open PySem PySem.Spec PyProof.Rows L2
structure Fly (P : Program) (w : World) (outer : List Env) (H : Hp) (s : Shared) (H' : Hp) (e : Addr) (cls : Value) (s' : Shared) : Prop where
  os : s'.os = s.os
  bare : AllBare s'.gens
  un : Un (frs outer) [] H H' s.heap s'.heap
  hok : HOk P w H' s'.heap
  new : s.heap.get? e = none
  non : H' e = none
  fly : ∃ B a0, Heap.FlyingW B outer e cls a0 s'.heap ∧ (∀ b o, H' b = some o → ∃ u, B.get? b = some u) ∧ ∀ b u o, s.heap.get? b = some u → s'.heap.get? b = some o → b ∉ frs outer → B.get? b = some o
theorem objOk_some {P : Program} {w : World} {H : Hp} {h : Heap} {a : Addr} {o : HO} (x : ObjOk P w H h a o) : ∃ u, h.get? a = some u := by
  induction o with
  | lst xs => obtain ⟨_, _, _, _, e⟩ := x; exact ⟨_, e⟩
  | tup xs => obtain ⟨_, _, _, ob, e, _⟩ := x; exact ⟨_, e⟩
  | dK kvs => obtain ⟨_, _, _, _, o, _, _, e, _⟩ := x; exact ⟨_, e⟩
  | dT kvs => obtain ⟨_, _, _, _, o, _, _, e, _⟩ := x; exact ⟨_, e⟩
  | set S n => obtain ⟨o, _, _, _, e, _⟩ := x; exact ⟨_, e⟩
  | ins C dx fs => obtain ⟨_, _, _, e, _⟩ := x; exact ⟨_, e⟩
  | own y => obtain ⟨_, e⟩ := x; exact ⟨_, e⟩
  | xd fs => obtain ⟨_, ⟨_, _, _, e, _⟩, _⟩ := x; exact ⟨_, e⟩
  | rng lo hi => obtain ⟨_, _, _, e⟩ := x; exact ⟨_, e⟩
  | frz ob u => obtain ⟨e, _⟩ := x; exact ⟨_, e⟩
  | tbl ps => exact ⟨_, (show h.get? a = some _ from x)⟩
  | met f y => exact ⟨_, (show h.get? a = some _ from x)⟩
  | ext φ => obtain ⟨_, ⟨_, e⟩, _⟩ := x; exact ⟨_, e⟩
theorem hok_objs {P : Program} {w : World} {H : Hp} {h h' : Heap} (ok : HOk P w H h) (k : ∀ b o u, H b = some o → h.get? b = some u → h'.get? b = some u) : HOk P w H h' := fun b o e =>
  (ok b o e).stay (fun c v hc q => by
    rcases hc with rfl | hc
    · exact k _ _ v e q
    · exact k _ _ v hc q) (fun _ q => q) fun _ _ q => q
section
variable {X : Cx} {pins : List (Addr × Obj)} {σ : St} {H H' : Hp} {s s' : Shared} {e : Addr}
structure DefCx (X : Cx) : Prop where
  stk : X.stack = X.env :: X.outer
  frame : X.env.frame = some X.env.locals
  ex : X.ex = []
theorem frs_cons (D : DefCx X) : frs X.stack = X.env.locals :: frs X.outer := by
  rw [D.stk]
  unfold frs
  rw [List.filterMap_cons, D.frame]
end
section
variable {M : Model} {A : Around} {E : Value → Shared → Prop} {s : Shared}
theorem dict_fields (o : Obj) (f : Array Value → Array Value) : (o.mapFields f).dict = o.dict := by
  obtain ⟨c, d, dt, sl⟩ := o
  cases dt <;> rfl
def DAt (h : Heap) (e : Addr) (d : Option Addr) : Prop := ∃ o, h.get? e = some o ∧ o.dict = d
theorem two_writes {base h0 h1 : Heap} {l : List Env} {e : Addr} {oe tb : Obj} {vs ts : Array Value} {a0 : Value}
    (hl : h0.FunFrames base l) (he : h0.get? e = some oe) (hkb : base.StaysIn h0) (hen : base.get? e = none) (hd : oe.data = .fields vs) (hsz : 1 < vs.size) (hv : vs[0]? = some a0)
    (S1 : Heap.SlotsOnly (l.filterMap (·.frame)) h0 h1) (htb : tb.data = .fields ts) (h3 : 3 < ts.size) :
    Heap.LeftW base l e oe.cls a0 h0 (((h1.push tb).update e (Obj.mapFields (·.setIfInBounds 1 (.ref h1.objs.size)))).update h1.objs.size (Obj.mapFields (·.setIfInBounds 3 .none))) ∧
      DAt (((h1.push tb).update e (Obj.mapFields (·.setIfInBounds 1 (.ref h1.objs.size)))).update h1.objs.size (Obj.mapFields (·.setIfInBounds 3 .none))) e oe.dict := by
  have eN : e ∉ l.filterMap (·.frame) := by
    intro m
    obtain ⟨_, o, q, n⟩ := hl.mem m
    rw [he] at q
    cases q
    exact n vs hd
  have e1 : h1.get? e = some oe := by rw [S1.2.1 e eN]; exact he
  have ne : h1.objs.size ≠ e := Nat.ne_of_gt (Heap.lt_size e1)
  have d3 := Obj.data_mapFields hd (·.setIfInBounds 1 (Value.ref h1.objs.size))
  have e2 := Heap.get?_update_self (Obj.mapFields (·.setIfInBounds 1 (Value.ref h1.objs.size))) (Heap.get?_push_of_some tb e1) (Obj.isFreed_of_fields d3)
  have t1 : ((h1.push tb).update e (Obj.mapFields (·.setIfInBounds 1 (Value.ref h1.objs.size)))).get? h1.objs.size = some tb := by
    rw [Heap.get?_update_other _ _ (Ne.symm ne)]
    exact Heap.get?_push_size h1 (Obj.isFreed_of_fields htb)
  have d4 := Obj.data_mapFields htb (·.setIfInBounds 3 Value.none)
  have t2 := Heap.get?_update_self (Obj.mapFields (·.setIfInBounds 3 Value.none)) t1 (Obj.isFreed_of_fields d4)
  have e3 := (Heap.get?_update_other ((h1.push tb).update e (Obj.mapFields (·.setIfInBounds 1 (Value.ref h1.objs.size)))) (Obj.mapFields (·.setIfInBounds 3 Value.none)) ne).trans e2
  have rest : ∀ b o, b ≠ e → h1.get? b = some o → (((h1.push tb).update e (Obj.mapFields (·.setIfInBounds 1 (Value.ref h1.objs.size)))).update h1.objs.size (Obj.mapFields (·.setIfInBounds 3 Value.none))).get? b = some o := by
    intro b o n q
    rw [Heap.get?_update_other _ _ (Nat.ne_of_gt (Heap.lt_size q)), Heap.get?_update_other _ _ (Ne.symm n)]
    exact Heap.get?_push_of_some _ q
  have inb : ∀ b o, base.get? b = some o → h1.get? b = some o := by
    intro b o q
    rw [S1.2.1 b (by intro m; rw [(hl.mem m).1] at q; cases q)]
    exact hkb b o q
  have nr : ∀ b o, h0.get? b = some o → (∀ us, o.data ≠ .fields us) → b ≠ e := by
    rintro b o q n rfl
    rw [he] at q
    cases q
    exact n vs hd
  refine ⟨⟨fun b o q => rest b o (by rintro rfl; rw [hen] at q; cases q) (inb b o q), hl.of_keeps fun b o q n => ?_, ?_, fun b o q n => ?_⟩, _, e3, dict_fields _ _⟩
  · obtain ⟨sl, z⟩ := S1.2.2 b o q
    exact ⟨_, rest b _ (nr b o q n) z, rfl⟩
  · refine ⟨_, _, h1.objs.size, _, _, e3, ⟨Obj.cls_mapFields _ _, ?_⟩, d3, ?_, ?_, ne, t2, d4, ?_⟩
    · rw [Array.getElem?_setIfInBounds_ne (by decide)]
      exact hv
    · simp [hsz]
    · exact Heap.StaysIn.fresh inb
    · simp [h3]
  · obtain ⟨sl, z⟩ := S1.2.2 b o q
    exact ⟨sl, rest b _ (nr b o q n) z⟩
theorem entryD {base : Heap} {env : Env} {outer : List Env} {L e : Addr} {oe : Obj} {vs : Array Value} {head a0 : Value} {hn : Bool} {Q : Unit → Shared → Prop}
    (hfr : A.frames = some (env :: outer)) (hl : s.heap.FunFrames base (env :: outer)) (hf : env.frame = some L) (he : s.heap.get? e = some oe)
    (hkb : base.StaysIn s.heap) (hen : base.get? e = none) (hd : oe.data = .fields vs) (hsz : 1 < vs.size) (hv : vs[0]? = some a0)
    (h : ∀ h', Heap.LeftW base (env :: outer) e oe.cls a0 s.heap h' → DAt h' e oe.dict → Q () { s with heap := h' }) :
    wpAny M A (do
      let a ← frameOf env
      let pl ← entryPlaceOf L hn
      let b ← EntryCells.newEntry head a .none (rawInt L) .none pl
      setField (.ref e) 1 b) (fun _ s' => wpAny M A (setFlight (.ref e) none) Q E s') E s := by
  refine wpAny_bind (wpAny_frameOf_fun hfr hl hf fun h1 S1 => wpAny_bind (wpAny_entryPlaceOf fun pl hp => ?_))
  unfold EntryCells.newEntry newFields
  refine wpAny_bind (wpAny_newObj_type ?_ (hp.sizeOk5 _ _ _ _ _))
  have eN : e ∉ (env :: outer).filterMap (·.frame) := by
    intro m
    obtain ⟨_, o, q, n⟩ := hl.mem m
    rw [he] at q
    cases q
    exact n vs hd
  have e1 : h1.get? e = some oe := by rw [S1.2.1 e eN]; exact he
  have ne : h1.objs.size ≠ e := Nat.ne_of_gt (Heap.lt_size e1)
  have d3 := Obj.data_mapFields hd (·.setIfInBounds 1 (Value.ref h1.objs.size))
  refine wpAny_setField (Heap.get?_push_of_some _ e1) hd hsz ?_
  unfold setFlight
  refine wpAny_bind (wpAny_field (Heap.get?_update_self _ (Heap.get?_push_of_some _ e1) (Obj.isFreed_of_fields d3)) d3 (x := .ref h1.objs.size) (by simp [hsz]) ?_)
  rw [if_pos (by simp)]
  have W := fun z => two_writes (tb := { cls := .type "traceback", dict := none, data := .fields ([head, .ref L, .none, rawInt L, .none] ++ (if pl.isEmpty then List.replicate 6 Value.none else pl)).toArray }) hl he hkb hen hd hsz hv S1 rfl z
  have z : 3 < ([head, .ref L, .none, rawInt L, .none] ++ (if pl.isEmpty then List.replicate 6 Value.none else pl)).toArray.size := by
    simp only [List.size_toArray, List.length_append, List.length_cons, List.length_nil]
    omega
  refine wpAny_setField ((Heap.get?_update_other _ _ (Ne.symm ne)).trans (Heap.get?_push_size h1 rfl)) rfl z ?_
  exact h _ (W z).1 (W z).2
theorem firstD {base : Heap} {env : Env} {outer : List Env} {L e : Addr} {oe : Obj} {vs : Array Value} {a0 : Value} {Q : Unit → Shared → Prop}
    (hfr : A.frames = some (env :: outer)) (hl : s.heap.FunFrames base (env :: outer)) (hf : env.frame = some L) (he : s.heap.get? e = some oe)
    (hkb : base.StaysIn s.heap) (hen : base.get? e = none) (hd : oe.data = .fields vs) (hn : vs[1]? = some .none) (hv : vs[0]? = some a0)
    (h : ∀ h', Heap.LeftW base (env :: outer) e oe.cls a0 s.heap h' → DAt h' e oe.dict → Q () { s with heap := h' }) : wpAny M A (leaving env (.ref e)) Q E s := by
  unfold leaving noteFrame
  rw [hf]
  refine wpAny_bind (wpAny_bind (wpAny_field he hd hn ?_))
  rw [if_neg (by decide)]
  exact entryD hfr hl hf he hkb hen hd (Array.getElem?_eq_some_iff.mp hn).1 hv h
theorem nextD {base : Heap} {env : Env} {outer : List Env} {L e : Addr} {cls a0 : Value} {d : Option Addr} {Q : Unit → Shared → Prop}
    (hfr : A.frames = some (env :: outer)) (hf : env.frame = some L) (fl : Heap.FlyingW base (env :: outer) e cls a0 s.heap) (da : DAt s.heap e d)
    (hQ : ∀ h', Heap.FlyingW base outer e cls a0 h' → s.heap.UpToSlots h' → DAt h' e d → Q () { s with heap := h' }) : wpAny M A (leaving env (.ref e)) Q E s := by
  obtain ⟨hkb, hen, hl, oe, vs, tr, ot, ts, he, ⟨rfl, hv⟩, hd, hn, hnt, hte, ht, hdt, h3⟩ := fl
  obtain ⟨o, q, rfl⟩ := da
  rw [he] at q
  cases q
  unfold leaving noteFrame
  rw [hf]
  refine wpAny_bind (wpAny_bind (wpAny_field he hd hn ?_))
  rw [if_pos (by simp)]
  refine wpAny_bind (wpAny_field ht hdt h3 ?_)
  rw [if_neg (by simp [rawInt])]
  refine wpAny_bind (wpAny_setField ht hdt (Array.getElem?_eq_some_iff.mp h3).1 ?_)
  have oth : ∀ b, b ≠ tr → (s.heap.update tr (Obj.mapFields (·.setIfInBounds 3 .none))).get? b = s.heap.get? b := fun b n => Heap.get?_update_other _ _ (Ne.symm n)
  have nr : ∀ b o, s.heap.get? b = some o → (∀ us, o.data ≠ .fields us) → b ≠ tr := by
    rintro b o q n rfl
    rw [ht] at q
    cases q
    exact n ts hdt
  refine entryD hfr (hl.of_keeps fun b o q n => ⟨o, (oth b (nr b o q n)).trans q, rfl⟩) hf ((oth e (Ne.symm hte)).trans he) (fun b o q => (oth b (by rintro rfl; rw [hnt] at q; cases q)).trans (hkb b o q)) hen hd (Array.getElem?_eq_some_iff.mp hn).1 hv fun h' x y => ?_
  obtain ⟨k1, ⟨_, _, k2⟩, k3, k4⟩ := x
  exact hQ h' ⟨k1, hen, k2, k3⟩ (fun b o q n => k4 b o ((oth b (nr b o q n)).trans q) n) y
theorem one_write {base h0 h1 : Heap} {l : List Env} {e : Addr} {oe tb : Obj} {vs ts : Array Value} {a0 fl : Value}
    (hl : h0.FunFrames base l) (he : h0.get? e = some oe) (hkb : base.StaysIn h0) (hen : base.get? e = none) (hd : oe.data = .fields vs) (hsz : 1 < vs.size) (hv : vs[0]? = some a0)
    (S1 : Heap.SlotsOnly (l.filterMap (·.frame)) h0 h1) (htb : tb.data = .fields ts) (h3 : ts[3]? = some fl) :
    Heap.NotedW base l e oe.cls a0 fl h0 ((h1.push tb).update e (Obj.mapFields (·.setIfInBounds 1 (.ref h1.objs.size)))) ∧
      DAt ((h1.push tb).update e (Obj.mapFields (·.setIfInBounds 1 (.ref h1.objs.size)))) e oe.dict := by
  have eN : e ∉ l.filterMap (·.frame) := by
    intro m
    obtain ⟨_, o, q, n⟩ := hl.mem m
    rw [he] at q
    cases q
    exact n vs hd
  have e1 : h1.get? e = some oe := by rw [S1.2.1 e eN]; exact he
  have ne : h1.objs.size ≠ e := Nat.ne_of_gt (Heap.lt_size e1)
  have d3 := Obj.data_mapFields hd (·.setIfInBounds 1 (Value.ref h1.objs.size))
  have e2 := Heap.get?_update_self (Obj.mapFields (·.setIfInBounds 1 (Value.ref h1.objs.size))) (Heap.get?_push_of_some tb e1) (Obj.isFreed_of_fields d3)
  have t1 : ((h1.push tb).update e (Obj.mapFields (·.setIfInBounds 1 (Value.ref h1.objs.size)))).get? h1.objs.size = some tb := by
    rw [Heap.get?_update_other _ _ (Ne.symm ne)]
    exact Heap.get?_push_size h1 (Obj.isFreed_of_fields htb)
  have rest : ∀ b o, b ≠ e → h1.get? b = some o → ((h1.push tb).update e (Obj.mapFields (·.setIfInBounds 1 (Value.ref h1.objs.size)))).get? b = some o := by
    intro b o n q
    rw [Heap.get?_update_other _ _ (Ne.symm n)]
    exact Heap.get?_push_of_some _ q
  have inb : ∀ b o, base.get? b = some o → h1.get? b = some o := by
    intro b o q
    rw [S1.2.1 b (by intro m; rw [(hl.mem m).1] at q; cases q)]
    exact hkb b o q
  have nr : ∀ b o, h0.get? b = some o → (∀ us, o.data ≠ .fields us) → b ≠ e := by
    rintro b o q n rfl
    rw [he] at q
    cases q
    exact n vs hd
  refine ⟨⟨fun b o q => rest b o (by rintro rfl; rw [hen] at q; cases q) (inb b o q), hl.of_keeps fun b o q n => ?_, ?_, fun b o q n => ?_⟩, _, e2, dict_fields _ _⟩
  · obtain ⟨sl, z⟩ := S1.2.2 b o q
    exact ⟨_, rest b _ (nr b o q n) z, rfl⟩
  · refine ⟨_, _, h1.objs.size, _, _, e2, ⟨Obj.cls_mapFields _ _, ?_⟩, d3, ?_, ?_, ne, t1, htb, h3⟩
    · rw [Array.getElem?_setIfInBounds_ne (by decide)]
      exact hv
    · simp [hsz]
    · exact Heap.StaysIn.fresh inb
  · obtain ⟨sl, z⟩ := S1.2.2 b o q
    exact ⟨sl, rest b _ (nr b o q n) z⟩
theorem noteD {base : Heap} {env : Env} {outer : List Env} {L e : Addr} {cls a0 : Value} {d : Option Addr} {Q : Unit → Shared → Prop}
    (hfr : A.frames = some (env :: outer)) (hf : env.frame = some L) (fl : Heap.FlyingW base (env :: outer) e cls a0 s.heap) (da : DAt s.heap e d)
    (hQ : ∀ h', Heap.HeldW base (env :: outer) e cls a0 L h' → s.heap.UpToSlots h' → DAt h' e d → Q () { s with heap := h' }) : wpAny M A (noteFrame (.ref e) env) Q E s := by
  obtain ⟨hkb, hen, hl, oe, vs, tr, ot, ts, he, ⟨rfl, hv⟩, hd, hn, hnt, hte, ht, hdt, h3⟩ := fl
  obtain ⟨o, q, rfl⟩ := da
  rw [he] at q
  cases q
  unfold noteFrame
  rw [hf]
  refine wpAny_bind (wpAny_field he hd hn ?_)
  rw [if_pos (by simp)]
  refine wpAny_bind (wpAny_field ht hdt h3 ?_)
  rw [if_neg (by simp [rawInt])]
  refine wpAny_bind (wpAny_setField ht hdt (Array.getElem?_eq_some_iff.mp h3).1 ?_)
  obtain ⟨h0, hh0⟩ : ∃ h0, h0 = s.heap.update tr (Obj.mapFields (·.setIfInBounds 3 .none)) := ⟨_, rfl⟩
  have oth : ∀ b, b ≠ tr → h0.get? b = s.heap.get? b := fun b n => by rw [hh0]; exact Heap.get?_update_other _ _ (Ne.symm n)
  have nr : ∀ b o, s.heap.get? b = some o → (∀ us, o.data ≠ .fields us) → b ≠ tr := by
    rintro b o q n rfl
    rw [ht] at q
    cases q
    exact n ts hdt
  rw [← hh0]
  have hl0 : h0.FunFrames base (env :: outer) := hl.of_keeps fun b o q n => ⟨o, (oth b (nr b o q n)).trans q, rfl⟩
  have he0 : h0.get? e = some oe := (oth e (Ne.symm hte)).trans he
  refine wpAny_bind (wpAny_frameOf_fun (s := { s with heap := h0 }) hfr hl0 hf fun h1 S1 => wpAny_bind (wpAny_entryPlaceOf fun pl hp => ?_))
  unfold EntryCells.newEntry newFields
  refine wpAny_bind (wpAny_newObj_type ?_ (hp.sizeOk5 _ _ _ _ _))
  have eN : e ∉ (env :: outer).filterMap (·.frame) := by
    intro m
    obtain ⟨_, o, q, n⟩ := hl0.mem m
    rw [he0] at q
    cases q
    exact n vs hd
  have e1 : h1.get? e = some oe := by rw [S1.2.1 e eN]; exact he0
  refine wpAny_setField (Heap.get?_push_of_some _ e1) hd (Array.getElem?_eq_some_iff.mp hn).1 ?_
  have W := one_write (tb := { cls := .type "traceback", dict := none, data := .fields ([.ref tr, .ref L, .none, rawInt L, .none] ++ (if pl.isEmpty then List.replicate 6 Value.none else pl)).toArray }) hl0 he0 (fun b o q => (oth b (by rintro rfl; rw [hnt] at q; cases q)).trans (hkb b o q)) hen hd (Array.getElem?_eq_some_iff.mp hn).1 hv S1 rfl (fl := rawInt L) (by rfl)
  obtain ⟨⟨k1, k2, k3, k4⟩, k5⟩ := W
  exact hQ _ ⟨k1, hen, k2, k3⟩ (fun b o q n => k4 b o ((oth b (nr b o q n)).trans q) n) k5
theorem landD {base : Heap} {l : List Env} {e : Addr} {cls a0 fl : Value} {d : Option Addr} {Q : Unit → Shared → Prop} (hkb : base.StaysIn s.heap) (hen : base.get? e = none) (hl : s.heap.FunFrames base l) (tr : s.heap.TracedAtW base e cls a0 fl) (da : DAt s.heap e d)
    (hQ : ∀ h', Heap.FlyingW base l e cls a0 h' → s.heap.UpToSlots h' → DAt h' e d → Q () { s with heap := h' }) : wpAny M A (setFlight (.ref e) none) Q E s := by
  obtain ⟨oe, vs, t, oT, ts, he, hcls, hd, h1, hnT, hTe, hT, hdT, h3⟩ := tr
  obtain ⟨o, q, rfl⟩ := da
  rw [he] at q
  cases q
  have hsz3 : 3 < ts.size := (Array.getElem?_eq_some_iff.mp h3).1
  have oth : ∀ b, b ≠ t → (s.heap.update t (Obj.mapFields (·.setIfInBounds 3 ((none : Option Addr).elim Value.none fun f => rawInt f)))).get? b = s.heap.get? b := fun b n => Heap.get?_update_other _ _ (Ne.symm n)
  have nr : ∀ b o, s.heap.get? b = some o → (∀ us, o.data ≠ .fields us) → b ≠ t := by
    rintro b o q n rfl
    rw [hT] at q
    cases q
    exact n ts hdT
  unfold setFlight
  refine wpAny_bind (wpAny_field he hd h1 ?_)
  rw [if_pos (by simp)]
  have e2 := (oth e (Ne.symm hTe)).trans he
  refine wpAny_setField hT hdT hsz3 (hQ _ ⟨fun b o q => (oth b (by rintro rfl; rw [hnT] at q; cases q)).trans (hkb b o q), hen, hl.of_keeps fun b o q n => ⟨o, (oth b (nr b o q n)).trans q, rfl⟩, ?_⟩ (fun b o q n => ⟨o.slots, (oth b (nr b o q n)).trans q⟩) ⟨oe, e2, rfl⟩)
  exact ⟨oe, vs, t, _, _, e2, hcls, hd, h1, hnT, hTe, Heap.get?_update_self _ hT (Obj.isFreed_of_fields (Obj.data_mapFields hdT _)), Obj.data_mapFields hdT _, by simp [hsz3]⟩
end
section
variable {P : Program} {w : World} {A : Around} {E : Value → Shared → Prop} {h : Heap} {g : Array GenState} {d : Drawn} {t : Nat} {os : OsState}
variable {nm q : Str} {C N fI : Addr} {bs bm bB : List Value} {hd ab : Bool} {sn : List Str} {sub : List Value} {col : Option Bool} {dd : Option Addr} {k0 k1 k2 k3 k5 : Option Value} {B nid iid : String} {mN : Str → Option Value} {oI : Obj} {rest : List Value}
theorem tcall_own (F : ExcBaseFacts B nid iid bB) (hB : bB.contains (.type B) = true) (TT : OwnTail h bB bm) {Q : Fin → Shared → Prop}
    (hC : h.get? C = some (excClassObj nm q C N bs bm hd sn sub ab col dd k0 k1 k2 k3 k5 nid)) (hN : h.Ns N mN) (hi : mN "__init__" = some (.ref fI)) (hf : h.get? fI = some oI) (hc : oI.cls = .type "function")
    (hq : ∀ h' e, Heap.MadeExcOf h h' e (.ref C) rest → h.objs.size ≤ e → wpAny (model P w) A (call (.ref fI) (.ref e :: rest)) (fun r s' => r = .none ∧ Q (.done (.ret (.ref e))) s') E ⟨h', g, d, t, os⟩)
    (hr : rest.length ≤ sizeLine) : wpAny (model P w) A (Builtin.«type.__call__» ⟨.ref C :: rest, []⟩) Q E ⟨h, g, d, t, os⟩ := by
  repeat (first | with_reducible refine wpAny_loadPart_at hC ?_ | with_reducible refine wpAny_madeBy_exc hC ?_ | wp_step)
  refine codeAny_call_builtin_code (Code.quiet_builtin _ F.quiet) (wpAny_check_new_subU F hB TT hC (codeAny_exc_new_subU F hB F TT hC ?_ hr))
  show wpAny _ _ _ _ _ _
  have up : ∀ b o, h.get? b = some o → ((h.push { cls := .type "tuple", data := .seq rest.toArray }).push { cls := .ref C, data := .fields #[.ref h.objs.size, .none, .none, .none, .bool false, .none] }).get? b = some o := fun b o z => Heap.get?_push_of_some _ (Heap.get?_push_of_some _ z)
  have at1 : ((h.push { cls := .type "tuple", data := .seq rest.toArray }).push { cls := .ref C, data := .fields #[.ref h.objs.size, .none, .none, .none, .bool false, .none] }).get? (h.objs.size + 1) = some { cls := .ref C, data := .fields #[.ref h.objs.size, .none, .none, .none, .bool false, .none] } := by heap_get
  have self : (Value.ref C :: bm).contains (.ref C) = true := by simp
  have hC1 := up _ _ hC
  unfold isInstance
  repeat (first | with_reducible refine wpAny_loadPart_at at1 ?_ | (with_reducible refine wpAny_isSubtype_exc hC1 ?_; rw [self]) | wp_step)
  show wpAny _ _ (typeLookup (.ref C) _) _ _ _
  refine wpAny_typeLookup_tail hC1 (hN.keeps up) (TT.keeps up) F.mroIs F.init.lookup ?_
  rw [hi]
  refine wpAny_holding (wpAny_bind ?_)
  unfold bindSpecial
  refine wpAny_bind (wpAny_typeOf (T := "function") ⟨_, up _ _ hf, hc⟩ ?_)
  rw [if_pos (by decide)]
  have mk : Heap.MadeExcOf h ((h.push { cls := .type "tuple", data := .seq rest.toArray }).push { cls := .ref C, data := .fields #[.ref h.objs.size, .none, .none, .none, .bool false, .none] }) (h.objs.size + 1) (.ref C) rest :=
    ⟨up, Heap.get?_none_of_le (Nat.le_succ _), h.objs.size, at1, Heap.get?_none_of_le (Nat.le_refl _), Heap.get?_push_of_some _ (Heap.get?_push_at rfl rfl)⟩
  refine wpAny_pure (wpAny_bind (wpAny_mono (hq _ _ mk (Nat.le_succ _)) (fun r s' z => ?_) fun _ _ z => z))
  obtain ⟨rfl, z⟩ := z
  wp_walk
  exact z
theorem call_own (F : ExcBaseFacts B nid iid bB) (hB : bB.contains (.type B) = true) (TT : OwnTail h bB bm) {Q : Value → Shared → Prop}
    (hC : h.get? C = some (excClassObj nm q C N bs bm hd sn sub ab col dd k0 k1 k2 k3 k5 nid)) (hN : h.Ns N mN) (hi : mN "__init__" = some (.ref fI)) (hf : h.get? fI = some oI) (hc : oI.cls = .type "function")
    (hq : ∀ h' e, Heap.MadeExcOf h h' e (.ref C) rest → h.objs.size ≤ e → wpAny (model P w) (A.under (.builtin "type.__call__" ⟨.ref C :: rest, []⟩)) (call (.ref fI) (.ref e :: rest)) (fun r s' => r = .none ∧ Q (.ref e) s') E ⟨h', g, d, t, os⟩)
    (hr : rest.length ≤ sizeLine) : wpAny (model P w) A (call (.ref C) rest) Q E ⟨h, g, d, t, os⟩ := by
  have z1 := tc_lookup
  have z2 := tc_bind (.ref C)
  have z3 : (⟨h, g, d, t, os⟩ : Shared).TypeIs (.ref C) "type" := ⟨_, hC, rfl⟩
  refine wpAny_call (codeAny_of_tree ?_)
  show wpAny _ _ (callAny (.ref C) _) _ _ _
  repeat (any_goals (first | assumption | with_reducible refine wpAny_loadPart_at hC ?_ | wp_step))
  exact ⟨rfl, codeAny_call_builtin_at (Code.quiet_builtin _ (by decide +kernel)) entry_typeCall (wpAny_check_type_call_sub hC (tcall_own F hB TT hC hN hi hf hc (fun h' e m l => hq h' e m l) hr))⟩
end
section
variable {P : Program} {w : World} {A : Around} {E : Value → Shared → Prop} {s : Shared} {env : Env} {M : Model}
variable {nm q : Str} {C N fI : Addr} {bs bm bB : List Value} {hd ab : Bool} {sn : List Str} {sub : List Value} {col : Option Bool} {dd : Option Addr} {k0 k1 k2 k3 k5 : Option Value} {B nid iid : String} {mN : Str → Option Value} {oI : Obj}
abbrev excObj (C : Addr) (a0 : Value) (dx : Option Addr) : Obj := { cls := .ref C, dict := dx, data := .fields #[a0, .none, .none, .none, .bool false, .none] }
theorem raise_made {x : Sem Value} {Q : Flow → Shared → Prop} (hb : bm.contains (.type "BaseException") = true) (hh : A.handled = none)
    (h : wpAny M A x (fun v s1 => ∃ e a0 dx, v = .ref e ∧ s1.heap.get? C = some (excClassObj nm q C N bs bm hd sn sub ab col dd k0 k1 k2 k3 k5 nid) ∧ s1.heap.get? e = some (excObj C a0 dx) ∧ E (.ref e) s1) E s) :
    wpAny M A (raiseStmt env (some x) none) Q E s := by
  have hcB : (Value.ref C :: bm).contains (.type "BaseException") = true := by rw [List.contains_cons, hb, Bool.or_true]
  unfold raiseStmt
  refine wpAny_bind (wpAny_mono h (fun v s1 z => ?_) fun _ _ z => z)
  obtain ⟨e, a0, dx, rfl, hC, he, hE⟩ := z
  obtain ⟨hp, g, d, tk, os⟩ := s1
  repeat (first | with_reducible refine wpAny_loadPart_at he ?_ | with_reducible refine wpAny_loadPart_at hC ?_ | (with_reducible refine wpAny_isSubtype_exc hC ?_; rw [hcB]) | wp_step)
  exact wpAny_raiseNew_none hh hE
theorem raise_own (F : ExcBaseFacts B nid iid bB) (hB : bB.contains (.type B) = true) {x : Str} {np cpos pos : Pos} {args : List Expr} {Q : Flow → Shared → Prop}
    (hb : bm.contains (.type "BaseException") = true) (hh : A.handled = none) (hpl : (backTo cpos (starEach args env)).any (·.1) = false) (hi : mN "__init__" = some (.ref fI)) (hc : oI.cls = .type "function")
    (h : wpAny (model P w) A (eval (.Name x np) env) (fun f s1 => f = .ref C ∧ wpAny (model P w) A (evalArgs (.ref C) true (backTo cpos (starEach args env)) [])
      (fun a s2 => a.kw = [] ∧ a.pos.length ≤ sizeLine ∧ s2.heap.get? C = some (excClassObj nm q C N bs bm hd sn sub ab col dd k0 k1 k2 k3 k5 nid) ∧ s2.heap.Ns N mN ∧ s2.heap.get? fI = some oI ∧ OwnTail s2.heap bB bm ∧
        ∀ h' e, Heap.MadeExcOf s2.heap h' e (.ref C) a.pos → s2.heap.objs.size ≤ e → wpAny (model P w) (A.under (.builtin "type.__call__" ⟨.ref C :: a.pos, []⟩)) (call (.ref fI) (.ref e :: a.pos))
          (fun r s' => r = .none ∧ s'.heap.get? C = some (excClassObj nm q C N bs bm hd sn sub ab col dd k0 k1 k2 k3 k5 nid) ∧ (∃ a0 dx, s'.heap.get? e = some (excObj C a0 dx)) ∧ E (.ref e) s') E { s2 with heap := h' }) E s1) E s) :
    wpAny (model P w) A (exec (.Raise (some (.Call (.Name x np) args [] cpos)) none pos) env) Q E s := by
  rw [arm_exec_Raise]
  have z : wpAny (model P w) A (eval (.Call (.Name x np) args [] cpos) env) (fun v s1 => ∃ e a0 dx, v = .ref e ∧ s1.heap.get? C = some (excClassObj nm q C N bs bm hd sn sub ab col dd k0 k1 k2 k3 k5 nid) ∧ s1.heap.get? e = some (excObj C a0 dx) ∧ E (.ref e) s1) E s := by
    refine wpAny_Call_ofName (wpAny_mono h (fun f s1 y => ?_) fun _ _ y => y)
    obtain ⟨rfl, y⟩ := y
    unfold callWith
    refine wpAny_bind (wpAny_holding (wpAny_mono y (fun a s2 y => wpAny_bind (wpAny_standAt ?_)) fun _ _ y => y))
    obtain ⟨apos, akw⟩ := a
    obtain ⟨hkw, hlen, hC, hN, hf, TT, y⟩ := y
    obtain rfl : akw = [] := hkw
    obtain ⟨hp, g, d, tk, os⟩ := s2
    simp only [hpl]
    refine wpAny_bind (wpAny_keeperOf_exc hC (wpAny_bind (call_own F hB TT hC hN hi hf hc (fun h' e m l => wpAny_mono (y h' e m l) (fun r s' y => ⟨y.1, wpAny_bind (wpAny_holding (wpAny_point (wpAny_pure ?_)))⟩) fun _ _ y => y) hlen)))
    obtain ⟨_, hC', ⟨a0, dx, he⟩, hE⟩ := y
    exact ⟨e, a0, dx, rfl, hC', he, hE⟩
  first
    | exact wpAny_bind (wpAny_standAt (raise_made hb hh (wpAny_bind (wpAny_mono z (fun v s3 y => wpAny_bind (wpAny_standAt (wpAny_pure y))) fun _ _ y => y))))
    | (simp only [evalOpt, Option.map]; exact wpAny_bind (wpAny_standAt (raise_made hb hh (wpAny_bind (wpAny_mono z (fun v s3 y => wpAny_bind (wpAny_standAt (wpAny_pure y))) fun _ _ y => y)))))
end
open Builtin Builtin.ObjectAttr
section
variable {P : Program} {w : World} {A : Around} {E : Value → Shared → Prop} {s : Shared} {K : PySem.W.Frag} {x C : Addr} {ox : Obj} {name : Str} {v : Value} {cd : ClassData} {rs : List Addr}
abbrev mroVE : List Value := [.type "ValueError", .type "Exception", .type "BaseException", .type "object"]
theorem refuse_refs (self : Value) : ∀ rs : List Addr, refuseLoop self "__setattr__" (rs.map Value.ref ++ mroVE) = pure ()
  | [] => PySem.F.store_ValueError.passes self
  | c :: r => by rw [List.map_cons, List.cons_append, refuseLoop_ref]; exact refuse_refs self r
theorem inst_new {a0 : Value} (hx : s.heap.get? x = some (excObj C a0 none)) : PySem.W.InstAt s.heap x (excObj C a0 none) C none := ⟨hx, rfl, rfl, trivial⟩
theorem osa_exc {R : Result → Shared → Prop} {tk : Tok} {a0 : Value} (X : K.In s.heap) (hx : s.heap.get? x = some (excObj C a0 none))
    (hna : PySem.W.findIn K (.ref C) name = some none) (hc : PySem.W.clsIn K C = some cd) (hm : cd.mro = rs.map Value.ref ++ mroVE) (hh : cd.hasDict = true)
    (h : ∀ h' t', h'.get? x = some (excObj C a0 (some s.heap.objs.size)) → h'.Ns1 s.heap.objs.size (fun y => if y = name then some v else none) → (∀ b o, b ≠ x → s.heap.get? b = some o → h'.get? b = some o) → R (.ok (.ret .none)) { s with heap := h', toks := t' }) :
    codeAny (model P w) A (.call (.builtin "object.__setattr__") ⟨[.ref x, .str name tk, v], []⟩) R s := by
  have SF := PySem.F.store_object
  have I := inst_new hx
  have ne : cd.mro.isEmpty = false := by rw [hm]; cases rs <;> rfl
  have has : cd.mro.contains (.type "object") = true := by rw [hm]; simp
  have sub : PySem.W.Looks (model P w) s.heap (isInstance (.ref x) (.type "object")) true := I.type.andThen (PySem.W.looks_mroIn X (by unfold PySem.W.mroIn; rw [hc, Option.bind_some, if_neg (by rw [ne]; decide), has]))
  refine codeAny_call_builtin SF.slot.plain SF.entry (@PySem.W.check_slot (model P w) _ _ s "object.__setattr__" "object" "__setattr__" (.ref x) [.str name tk, v] [] _ SF.kind SF.split sub (SF.args (.ref x) (.str name tk) v) ?_)
  have hmr : PySem.W.Looks (model P w) s.heap (mroOf (.ref C)) cd.mro := (PySem.W.looks_clsIn X hc).andThen .now
  rw [PySem.W.osa_eq, refuse_eq]
  refine wpAny_bind (wpAny_bind (I.type.here (wpAny_bind (hmr.here ?_))))
  rw [hm, refuse_refs]
  refine wpAny_pure (wpAny_bind (I.type.here (wpAny_bind ((PySem.W.looks_findIn X hna).here (wpAny_bind (wpAny_pure ?_))))))
  dsimp only
  unfold storeInOwnDict
  refine wpAny_bind (wpAny_pure ?_)
  show wpAny _ _ (if (Value.ref C == Value.type "module") = true then _ else _) _ _ _
  rw [if_neg (by simp)]
  refine wpAny_bind ?_
  show wpAny _ _ (instanceDict x true) _ _ _
  unfold instanceDict
  refine wpAny_bind (wpAny_loadPart hx ?_)
  dsimp only
  refine wpAny_bind ((PySem.W.looks_clsIn X hc).here ?_)
  rw [hh, if_neg (by decide), if_neg (by simp [typeHasDict])]
  have ns : x ≠ s.heap.objs.size := Nat.ne_of_lt (Heap.lt_size hx)
  have hx1 : (s.heap.push { cls := .type "dict", data := .dict #[] }).get? x = some (excObj C a0 none) := Heap.get?_push_of_some _ hx
  have at1 := Heap.get?_update_self (fun o : Obj => { cls := o.cls, dict := some s.heap.objs.size, data := o.data, slots := o.slots }) hx1 rfl
  have dat : ((s.heap.push { cls := .type "dict", data := .dict #[] }).update x fun o => { cls := o.cls, dict := some s.heap.objs.size, data := o.data, slots := o.slots }).get? s.heap.objs.size = some { cls := .type "dict", data := .dict #[] } :=
    (Heap.get?_update_other _ _ ns).trans (Heap.get?_push_size _ rfl)
  refine wpAny_bind (wpAny_alloc (wpAny_bind (wpAny_update hx1 ?_)))
  refine wpAny_pure ?_
  show wpAny _ _ (storeInDict s.heap.objs.size (.str name tk) name v) _ _ _
  unfold storeInDict newKeyGuard
  refine wpAny_bind (wpAny_pure (wpAny_bind (wpAny_nsSet1 (m := fun _ => none) (Heap.Ns1.of_empty ⟨_, #[], _, dat, rfl, fun _ z => absurd z (by simp), fun _ => rfl⟩) fun h' n1 sb => ?_)))
  obtain ⟨oD, es, ep, e1, e2, e3⟩ := n1.count (Within.cons name v Within.nil)
  refine wpAny_bind (wpAny_lookBehind e1 (by rw [e2]; exact pastItsLine_dict (Nat.le_trans e3 (by rw [List.length_cons, List.length_nil, sizeLine_eq]; omega))) ?_)
  refine wpAny_pure ?_
  refine h h' _ ?_ n1 fun b o nb q => ?_
  · exact (sb.2 x ns).trans at1
  · exact (sb.2 b (Nat.ne_of_lt (Heap.lt_size q))).trans ((Heap.get?_update_other _ _ (Ne.symm nb)).trans (Heap.get?_push_of_some _ q))
theorem set_exc {Q : Unit → Shared → Prop} {a0 : Value} (X : K.In s.heap) (hx : s.heap.get? x = some (excObj C a0 none)) (hs : PySem.W.findIn K (.ref C) "__setattr__" = some (some (.builtin "object.__setattr__")))
    (hna : PySem.W.findIn K (.ref C) name = some none) (hc : PySem.W.clsIn K C = some cd) (hm : cd.mro = rs.map Value.ref ++ mroVE) (hh : cd.hasDict = true)
    (h : ∀ h' t', h'.get? x = some (excObj C a0 (some s.heap.objs.size)) → h'.Ns1 s.heap.objs.size (fun y => if y = name then some v else none) → (∀ b o, b ≠ x → s.heap.get? b = some o → h'.get? b = some o) → Q () { s with heap := h', toks := t' }) :
    wpAny (model P w) A (setAttr (.ref x) name v) Q E s :=
  PySem.W.set_plain X (inst_new hx) hs (osa_exc (s := { s with toks := s.toks + 1 }) X hx hna hc hm hh h)
end
section
variable {P : Program} {w : World} {A : Around} {E : Value → Shared → Prop} {s : Shared} {K : PySem.W.Frag} {x C : Addr} {ox : Obj} {od : Option Obj} {name : Str} {v : Value} {cd : ClassData} {rs : List Addr}
theorem slot_ga : PySem.Slot "ValueError" "__getattribute__" "BaseException.__getattribute__" := PySem.F.excAttr_ValueError.ga
theorem get_exc {Q : Value → Shared → Prop} {expr : Bool} (X : K.In s.heap) (I : PySem.W.InstAt s.heap x ox C od) (hga : PySem.W.findIn K (.ref C) "__getattribute__" = some (some (.builtin "BaseException.__getattribute__")))
    (hk : PySem.W.findIn K (.ref C) "__getattr__" = some none) (hc : PySem.W.clsIn K C = some cd) (hm : cd.mro = rs.map Value.ref ++ mroVE) (hf : PySem.W.findObj K C od name = some (.value v)) (hh : PySem.W.handedIn v = true)
    (h : Q v { s with toks := s.toks + 1 }) : wpAny (model P w) A (getAttr (.ref x) name expr) Q E s := by
  have ht : PySem.W.Looks (model P w) s.heap (typeOf (.ref x)) (.ref C) := I.type
  have ne : cd.mro.isEmpty = false := by rw [hm]; cases rs <;> rfl
  have has : cd.mro.contains (.type "BaseException") = true := by rw [hm]; simp
  have sub : PySem.W.Looks (model P w) s.heap (isInstance (.ref x) (.type "BaseException")) true := I.type.andThen (PySem.W.looks_mroIn X (by unfold PySem.W.mroIn; rw [hc, Option.bind_some, if_neg (by rw [ne]; decide), has]))
  have hb : PySem.W.Looks (model P w) s.heap (hookBefore (.ref C)) none := PySem.W.looks_hook X (by rw [show onTheHeap (Value.ref C) = true from rfl, if_pos rfl]; exact hk)
  have lf := PySem.W.looks_find (M := model P w) X I hf
  refine wpAny_bind (wpAny_mkText (wpAny_holding (wpAny_bind (ht _ _ _ _ (fun _ _ e => e) (wpAny_bind (PySem.W.looks_findIn X hga _ _ _ _ (fun _ _ e => e) ?_))))))
  dsimp only
  rw [show (onTheHeap (.ref C) && Value.builtin "BaseException.__getattribute__" == Value.builtin "object.__getattribute__") = false from by rw [show (Value.builtin "BaseException.__getattribute__" == Value.builtin "object.__getattribute__") = false from by decide +kernel, Bool.and_false], if_neg (by decide)]
  refine wpAny_bind (hb _ _ _ _ (fun _ _ e => e) (wpAny_bind (wpAny_attempt (wpAny_holding ?_))))
  unfold callGetattribute
  rw [show (expr && onTheHeap (Value.builtin "BaseException.__getattribute__")) = false from Bool.and_false _, if_neg (by decide)]
  unfold boundAndCalled
  rw [slot_ga.bind]
  refine wpAny_bind (wpAny_pure ?_)
  show wpAny _ _ (call (.builtin "BaseException.__getattribute__") [.ref x, .str name s.toks]) _ _ _
  refine wpAny_call (codeAny_call_builtin slot_ga.plain PySem.F.entry_bexc_ga ?_)
  refine @PySem.W.check_slot (model P w) _ _ { s with toks := s.toks + 1 } "BaseException.__getattribute__" "BaseException" "__getattribute__" (.ref x) [.str name s.toks] [] _ (by decide +kernel) (by decide +kernel) sub (PySem.F.args_bexc_ga (.ref x) (.str name s.toks)) ?_
  refine wpAny_bind (wpAny_pure (wpAny_bind (wpAny_pure (wpAny_bind (ht _ _ _ _ (fun _ _ e => e) (wpAny_bind (lf _ _ _ _ (fun _ _ e => e) (wpAny_pure ?_))))))))
  show wpAny _ _ (handedOut v) _ _ _
  rw [PySem.W.handedOut_of hh]
  exact wpAny_pure h
end
section
variable {P : Program} {w : World} {A : Around} {E : Value → Shared → Prop} {h : Heap} {g : Array GenState} {d : Drawn} {t : Nat} {os : OsState}
variable {nm q : Str} {C N e t0 : Addr} {bs bm bB : List Value} {hd ab : Bool} {sn : List Str} {sub : List Value} {col : Option Bool} {dd : Option Addr} {k0 k1 k2 k3 k5 : Option Value} {B nid iid : String} {u : Value}
theorem init_call (F : ExcBaseFacts B nid iid bB) (TT : OwnTail h bB bm) {Q : Value → Shared → Prop} (hC : h.get? C = some (excClassObj nm q C N bs bm hd sn sub ab col dd k0 k1 k2 k3 k5 nid)) (he : h.get? e = some (excObj C (.ref t0) none))
    (hq : ∀ h', h'.get? e = some (excObj C (.ref h.objs.size) none) → (∀ b o, b ≠ e → h.get? b = some o → h'.get? b = some o) → Q .none ⟨h', g, d, t, os⟩) :
    wpAny (model P w) A (call (.builtin iid) [.ref e, u]) Q E ⟨h, g, d, t, os⟩ := by
  refine wpAny_call (codeAny_call_builtin F.init.plain F.initEntry (wpAny_check_init_subU F TT hC he rfl ?_))
  wp_walk
  have e1 : (h.push { cls := .type "tuple", data := .seq #[u] }).get? e = some (excObj C (.ref t0) none) := Heap.get?_push_of_some _ he
  refine hq _ (Heap.get?_update_self _ e1 rfl) fun b o n z => ?_
  exact (Heap.get?_update_other _ _ (Ne.symm n)).trans (Heap.get?_push_of_some _ z)
end
section
variable {X : Cx} {pins : List (Addr × Obj)} {σ : St} {H H' : Hp} {s s' : Shared} {e : Addr} {oe : Obj}
abbrev opCx (X : Cx) (e : Addr) : Cx := { X with ex := [e], xe := fun _ _ => False }
theorem Inv.openE (I : Inv X [] σ H s) (hex : X.ex = []) (hpn : X.pn = []) (hfn : ∀ x, X.fn x = true) (h0 : X.s₀.heap.get? e = some oe) (hs : s.heap.get? e = some oe) (hb : X.base.get? e = none) (hH : H e = none) (hfs : e ∉ X.fs)
    (hdc : ∀ v, oe.data ≠ .cell v) : Inv (opCx X e) [(e, oe)] σ H s := by
  have lt := Heap.lt_size h0
  have nl : e ≠ X.env.locals := Nat.ne_of_lt (Nat.lt_of_lt_of_le lt I.ok.above)
  have nx : ∀ b : Addr, b ∉ X.ex := fun b => by rw [hex]; simp
  have ok := I.ok
  refine ⟨⟨ok.mod, ok.kind, ok.glob, ok.blt, ok.above, ok.inj, ok.has, ok.cab, ok.hd, ok.frames, ok.stk, fun b z => ?_, ok.bs, ok.bsz, fun b o q z => ?_, fun b z => ?_, ok.funs, ok.frf⟩, I.os, I.bare,
    ⟨fun b o q n hf _ => I.base.keep b o q n hf (nx b), fun b o q n hf _ => I.base.slot b o q n hf (nx b), fun b o q n _ => I.base.free b o q n (nx b), fun b o q _ => I.base.there b o q (nx b), I.base.tups, I.base.frzs, I.base.tbls⟩,
    I.loc, I.cell, I.free, I.freeC, fun p z => ?_, I.hok, I.len⟩
  · obtain rfl : b = e := List.mem_singleton.mp z
    exact ⟨nl, fun x c q z => by subst z; exact absurd (Nat.lt_of_lt_of_le lt (ok.cab x c (hfn x) q)) (Nat.lt_irrefl _)⟩
  · obtain rfl : b = e := List.mem_singleton.mp z
    rw [hb] at q
    cases q
  · obtain rfl : b = e := List.mem_singleton.mp z
    exact hfs
  · have z : p ∈ X.pn ++ [(e, oe)] := z
    rw [hpn, List.nil_append, List.mem_singleton] at z
    subst z
    exact ⟨hs, hH, nl, hfs, hdc⟩
theorem Inv.made {C : Value} {us : List Value} {h1 : Heap} (I : Inv X pins σ H s) (mk : Heap.MadeExcOf s.heap h1 e C us) (hl : s.heap.objs.size ≤ e) (ho : s'.os = s.os) (u : Un (frs X.stack) [e] H H' h1 s'.heap) (hok : HOk X.prog X.w H' s'.heap) (hg : AllBare s'.gens) : Inv X pins σ H' s' := by
  have I1 : Inv X pins σ H { s with heap := h1, toks := s.toks } := I.kept mk.keeps
  refine I1.call' (ch := [e]) ho u hok hg fun b z => ?_
  obtain rfl : b = e := List.mem_singleton.mp z
  refine ⟨.inr (Nat.le_trans I.sz hl), fun q => ?_, fun x c q z => ?_, fun p hp z => ?_⟩
  · have := I.lt
    rw [← q] at this
    exact absurd (Nat.lt_of_lt_of_le this hl) (Nat.lt_irrefl _)
  · obtain ⟨v, o, e1, _⟩ := I.cell x c q
    subst z
    exact absurd (Nat.lt_of_lt_of_le (Heap.lt_size e1) hl) (Nat.lt_irrefl _)
  · have := (I.pin p hp).1
    rw [z] at this
    exact absurd (Nat.lt_of_lt_of_le (Heap.lt_size this) hl) (Nat.lt_irrefl _)
end
section
theorem run_open {CX : CXT} {P : Program} {w : World} {K : PySem.W.Frag} {mg : Str → Option Value} {base : Heap} {k : Nat} {f e : Addr} {name qual : Str} {params : Arguments} {body : List Stmt} {scope : Scope} {dV kV doc pm cdv ct oc : Value} {an od : Option Addr}
    {osl : Array (Option Value)} {N ps : List Str} {A : Around} {outer : List Env} {s : Shared} {H : Hp} {args : Args} {us : List Value} {vs : List V} {E : XK} {oe : Obj} {R : Result → Shared → Prop}
    (lk : K.lookup f = some ⟨oc, od, .func (PySem.W.fnOf name qual params body scope dV kV doc pm an cdv ct), osl⟩) (hcd : PySem.W.codeIn K cdv qual = true) (S : FnScope N ps scope) (hr : Room (k + 1) A) (e0 : Env0 P w K mg base A outer s H)
    (hb : BindsTo s (PySem.W.fnOf name qual params body scope dV kV doc pm an cdv ct) args (ps.zip us)) (r : Vals vs us) (hl : vs.length = ps.length) (he : s.heap.get? e = some oe) (hbe : base.get? e = none) (hHe : H e = none) (hfe : e ∉ frs outer) (hdc : ∀ v, oe.data ≠ .cell v)
    (hbody : ∀ s1, Inv (opCx (cxOf CX P w K mg base N qual scope f cdv A outer s H E) e) [(e, oe)] (start N vs) H s1 →
      wpAny (model P w) (A.deeper (envOfC qual scope s.heap.objs.size f cdv)) (execs body (envOfC qual scope s.heap.objs.size f cdv)) (fun fl s' => fl = .next ∧ R (.ok (.ret .none)) s') (fun _ _ => False) s1) :
    codeAny (model P w) A (.call (.ref f) args) R s := by
  have KX : K.In s.heap := e0.mod.kin.keeps fun b o z => (e0.bs b o z).1
  have lim : s.heap.NoLimit := e0.mod.nolimit.keeps fun b o z => (e0.bs b o z).1
  refine codeAny_call_function hr.depth (KX _ _ lk) rfl S.co S.gen rfl (PySem.W.codeRec_of KX hcd) (hb _ _ _ _ ?_)
  refine wpAny_newFunctionEnv_cells S.kind ?_ fun env hE s1 x => ?_
  · rintro ⟨n, v⟩ hy
    rcases S.par n (List.of_mem_zip hy).1 with q | q
    · exact .inl q
    · exact .inr ⟨q, PySem.W.cellsFrom_some _ _ _ (.inl q)⟩
  subst hE
  refine ⟨lim.keeps x.toInCall.keep, codeAny_func ?_⟩
  have I : Inv (cxOf CX P w K mg base N qual scope f cdv A outer s H E) [] (start N vs) H s1 := inv_start S hr.hd e0 hl r x
  have J := Inv.openE (e := e) I rfl rfl (fun _ => rfl) he (x.toInCall.keep _ _ he) hbe hHe hfe hdc
  refine wpAny_mono (hbody s1 J) (fun fl s' z => ?_) fun _ _ z => z.elim
  obtain ⟨rfl, z⟩ := z
  exact z
end
def txtV : V → Str
  | .int i => Str.ofString (toString i)
  | .non => "None"
  | .str x => reprText x
  | _ => Str.empty
def Says : V → Prop
  | .int i => i.natAbs.log2 < 1920
  | .non => True
  | .str x => (reprText x).length ≤ sizeLine
  | _ => False
section
variable {P : Program} {w : World} {A : Around} {E : Value → Shared → Prop} {s : Shared} {env : Env} {value : Expr} {m : Str} {i : Int} {v : V} {j : Nat} {p1 p3 pos : Pos} {Q : Value → Shared → Prop}
theorem repr_any {u : Value} (sv : Says v) (r : RelV v u) (h : ∀ t tk, Q (.str (txtV v) t) { s with toks := tk }) : wpAny (model P w) A (pyReprObj u) Q E s := by
  cases v with
  | int i =>
    obtain ⟨t, rfl⟩ := r
    exact wpAny_pyReprObj_gives (hx := int_text_fits sv) (typeIs_int _ i t) PySem.F.slot_int_repr PySem.F.entry_int_repr (PySem.F.args_int_repr_1 _) (gives_int_repr i t sv) (h _ _)
  | non =>
    obtain rfl : u = .none := r
    exact wpAny_pyReprObj_gives (typeIs_none s) PySem.F.slot_NoneType_repr PySem.F.entry_NoneType_repr (PySem.F.args_NoneType_repr_1 _) gives_none_repr (h _ _) (hx := by decide)
  | str x =>
    obtain ⟨t, rfl⟩ := r
    exact wpAny_pyReprObj_gives (typeIs_str s x t) PySem.F.slot_str_repr PySem.F.entry_str_repr (PySem.F.args_str_repr_1 _) (gives_str_repr x t) (h _ _) (hx := sv)
  | _ => exact sv.elim
theorem txt_fits (sv : Says v) : (txtV v).length ≤ sizeLine := by
  cases v with
  | int i => exact int_text_fits sv
  | non => exact by decide
  | str x => exact sv
  | _ => exact sv.elim
theorem fstr_any (sv : Says v) (h1 : (Str.empty ++ m).length ≤ sizeLine) (h2 : (Str.empty ++ m ++ txtV v).length ≤ sizeLine)
    (hv : ∀ tk, wpAny (model P w) A (eval value env) (fun u s1 => RelV v u ∧ ∀ y t' tk, Q (.str y t') { s1 with toks := tk }) E { s with toks := tk }) :
    wpAny (model P w) A (eval (.JoinedStr [.Constant (.str m) j p1, .FormattedValue value 114 none p3] pos) env) Q E s := by
  refine wpAny_JoinedStr ?_
  show wpAny _ _ (eval (.Constant (.str m) j p1) env) _ E s
  refine wpAny_Constant_str ⟨m, _, rfl, h1, ?_⟩
  show wpAny _ _ (eval (.FormattedValue value 114 none p3) env) _ E _
  refine wpAny_FormattedValue_repr (wpAny_mono (hv _) (fun u s1 z => ?_) fun _ _ z => z)
  obtain ⟨r, z⟩ := z
  refine repr_any sv r fun t tk => ?_
  refine wpAny_formatField_str (hx := txt_fits sv) ⟨_, _, rfl, h2, ?_⟩ ⟨_, _, rfl, h2, ?_⟩
  · exact ⟨h2, z _ _ _⟩
  · exact ⟨h2, z _ _ _⟩
end
section
variable {X : Cx} {σ : St} {H : Hp} {s : Shared} {e C : Addr} {a0 : Value} {cd : ClassData} {rs : List Addr}
theorem Inv.wrote {oe : Obj} {h' : Heap} {t' : Nat} (I : Inv X [(e, oe)] σ H s) (hX : e ∈ X.ex) (hpn : X.pn = []) (k : ∀ b o, b ≠ e → s.heap.get? b = some o → h'.get? b = some o) (ke : ∃ o, h'.get? e = some o) : Inv X [] σ H { s with heap := h', toks := t' } := by
  have I0 : Inv X [] σ H s := ⟨I.ok, I.os, I.bare, I.base, I.loc, I.cell, I.free, I.freeC, fun p z => I.pin p (by rw [List.append_nil] at z; exact List.mem_append_left _ z), I.hok, I.len⟩
  have P := I.pin (e, oe) (List.mem_append_right _ (List.mem_singleton.mpr rfl))
  have ne : ∀ b o, H b = some o → b ≠ e := by
    rintro b o q rfl
    have := P.2.1
    rw [q] at this
    cases this
  refine I0.call' (s' := { s with heap := h', toks := t' }) (ch := [e]) rfl ⟨fun b o q n hf hx => k b o (by simpa using hx) q, fun b o q n hf hx => ⟨o.slots, k b o (by simpa using hx) q⟩, fun b o q n hx => n, fun b o q hx => ⟨o, k b o (by simpa using hx) q⟩, fun _ _ q => q, fun _ _ _ q => q, fun b ps q => ⟨#[], by simpa using q⟩⟩
    (hok_objs I.hok fun b o u hb q => k b u (ne b o hb) q) I.bare fun b z => ?_
  obtain rfl : b = e := List.mem_singleton.mp z
  refine ⟨.inl hX, P.2.2.1, fun x c q => (I.ok.exf b hX).2 x c q, fun p hp z => ?_⟩
  rw [hpn] at hp
  cases hp
theorem init_set {f x self : Str} {v : V} {p1 p2 p3 pos : Pos} {Q : Flow → Shared → Prop} (hX : e ∈ X.ex) (hpn : X.pn = []) (I : Inv X [(e, excObj C a0 none)] σ H s) {i j : Nat} (n0 : X.N[i]? = some self) (v0 : Vis X.env.scope self) (s0 : σ[i]? = some (some (.ref e)))
    (n1 : X.N[j]? = some x) (v1 : Vis X.env.scope x) (s1 : σ[j]? = some (some v)) (hs : PySem.W.findIn X.K (.ref C) "__setattr__" = some (some (.builtin "object.__setattr__")))
    (hna : PySem.W.findIn X.K (.ref C) f = some none) (hc : PySem.W.clsIn X.K C = some cd) (hm : cd.mro = rs.map Value.ref ++ mroVE) (hh : cd.hasDict = true)
    (h : ∀ u s' d, RelV v u → X.s₀.heap.objs.size ≤ d → s'.heap.get? e = some (excObj C a0 (some d)) → s'.heap.Ns1 d (fun y => if y = f then some u else none) → Inv X [] σ H s' → Q .next s')
    (d0 : (self == ("__debug__" : Str)) = false := by decide) (c0 : (self == ("__classdict__" : Str)) = false := by decide) (d1 : (x == ("__debug__" : Str)) = false := by decide) (c1 : (x == ("__classdict__" : Str)) = false := by decide)
    (sw : swapsWith (.Name x p3) (some (.Attribute (.Name self p1) f p2)) pos.line X.env = pure false := by rfl) :
    wpAny (model X.prog X.w) X.A (exec (.Assign [.Attribute (.Name self p1) f p2] (.Name x p3) pos) X.env) Q X.xe s := by
  refine plainObj_wpAny_Assign_Attribute (thn (pe_var n1 v1 d1 c1 _ s σ H (fun y H1 => y = v ∧ H1 = H) I ⟨v, s1, rfl, rfl⟩) fun u t1 ⟨_, _, I1, r1, e1, e2⟩ => ?_) sw
  subst e1 e2
  refine thn (pe_var n0 v0 d0 c0 _ t1 σ _ (fun y H1 => y = .ref e ∧ H1 = _) I1 ⟨_, s0, rfl, rfl⟩) fun ov t2 ⟨_, _, I2, r2, e1, e2⟩ => ?_
  subst e1 e2
  obtain rfl : ov = .ref e := r2
  have he := (I2.pin (e, _) (List.mem_append_right _ (List.mem_singleton.mpr rfl))).1
  refine set_exc I2.kIn he hs hna hc hm hh fun h' t' q1 q2 q3 => h u _ _ r1 ?_ q1 q2 (TL.Inv.wrote I2 hX hpn q3 ⟨_, q1⟩)
  exact I2.sz
end
section
variable {X : Cx} {σ : St} {H : Hp} {s : Shared} {e C CY : Addr} {mc : Value} {t0 : Addr}
def tFs (m : Str) (j : Nat) : TE := fun σ H Q => ∃ v : V, σ[j]? = some (some v) ∧ Says v ∧ (Str.empty ++ m).length ≤ sizeLine ∧ (Str.empty ++ m ++ txtV v).length ≤ sizeLine ∧ ∀ y, Q (.str y) H
theorem pe_fstr {x m : Str} {j k : Nat} {p1 p2 p3 pos : Pos} (n1 : X.N[j]? = some x) (v1 : Vis X.env.scope x) (d1 : (x == ("__debug__" : Str)) = false := by decide) (c1 : (x == ("__classdict__" : Str)) = false := by decide) :
    PE X (.JoinedStr [.Constant (.str m) k p1, .FormattedValue (.Name x p2) 114 none p3] pos) (tFs m j) := by
  intro pins s σ H Q I ⟨v, hs, hi, h1, h2, q⟩
  refine fstr_any hi h1 h2 fun tk => thn (pe_var n1 v1 d1 c1 pins _ σ H (fun y H1 => y = v ∧ H1 = H) (I.tok tk) ⟨_, hs, rfl, rfl⟩) fun u s1 ⟨_, _, I1, r1, e1, e2⟩ => ?_
  subst e1 e2
  exact ⟨r1, fun y t' tk => ⟨.str y, _, I1.tok tk, ⟨_, rfl⟩, q y⟩⟩
variable {nm q : Str} {N : Addr} {bs bm bB : List Value} {hd ab : Bool} {sn : List Str} {sub : List Value} {col : Option Bool} {dd : Option Addr} {k0 k1 k2 k3 k5 : Option Value} {B nid iid : String}
theorem init_up {y x m self : Str} {i j k : Nat} {v : V} {pl : Sem Bool} {p1 p2 p3 p4 p5 p6 p7 p8 p9 : Pos} {Q : Flow → Shared → Prop} (F : ExcBaseFacts B nid iid bB) (hC : X.base.get? C = some (excClassObj nm q C N bs bm hd sn sub ab col dd k0 k1 k2 k3 k5 nid)) (TT : OwnTail X.base bB bm)
    (hX : e ∈ X.ex) (hpn : X.pn = []) (I : Inv X [(e, excObj C (.ref t0) none)] σ H s) (hg : Gl X y) (hmg : X.mg y = some (.ref CY)) (n0 : X.N[i]? = some self) (v0 : Vis X.env.scope self) (s0 : σ[i]? = some (some (.ref e)))
    (n1 : X.N[j]? = some x) (v1 : Vis X.env.scope x) (s1 : σ[j]? = some (some v)) (hz : Says v) (l1 : (Str.empty ++ m).length ≤ sizeLine) (l2 : (Str.empty ++ m ++ txtV v).length ≤ sizeLine)
    (hsp : PySem.W.specialIn X.K (.ref CY) "__getattribute__" = some (some (.builtin "type.__getattribute__"))) (hrd : PySem.W.readsIn X.K CY mc = true) (hfc : PySem.W.findCls X.K (.ref CY) mc "__init__" = some (.val (.builtin iid))) (hhi : PySem.W.handedIn (.builtin iid) = true)
    (h : ∀ s' t1, Inv X [(e, excObj C (.ref t1) none)] σ H s' → Q .next s')
    (dy : (y == ("__debug__" : Str)) = false := by decide) (d0 : (self == ("__debug__" : Str)) = false := by decide) (c0 : (self == ("__classdict__" : Str)) = false := by decide) (d1 : (x == ("__debug__" : Str)) = false := by decide) (c1 : (x == ("__classdict__" : Str)) = false := by decide)
    (ht : eval (.Call (.Attribute (.Name y p1) "__init__" p2) [.Name self p3, .JoinedStr [.Constant (.str m) k p4, .FormattedValue (.Name x p5) 114 none p6] p7] [] p8) X.env = (do
      let ov ← eval (.Name y p1) X.env
      standAt p2.atName
      let (f, first) ← holding [ov] (getMethod ov "__init__" pl)
      callWith p8 f first (backTo p8 (starEach [.Name self p3, .JoinedStr [.Constant (.str m) k p4, .FormattedValue (.Name x p5) 114 none p6] p7] X.env)) (backToKw p8 (keywordEach [] X.env))) := by rfl) :
    wpAny (model X.prog X.w) X.A (exec (.Expr (.Call (.Attribute (.Name y p1) "__init__" p2) [.Name self p3, .JoinedStr [.Constant (.str m) k p4, .FormattedValue (.Name x p5) 114 none p6] p7] [] p8) p9) X.env) Q X.xe s := by
  have pa : PA X [.Name self p3, .JoinedStr [.Constant (.str m) k p4, .FormattedValue (.Name x p5) 114 none p6] p7] (tCons (tVar i) (tCons (tFs m j) tNil)) := pa_cons (pe_var n0 v0 d0 c0) (pa_cons (pe_fstr n1 v1 d1 c1) pa_nil (star1 rfl)) (star1 rfl)
  refine wpAny_Expr_any ?_ I.quiet (by rfl)
  refine PySem.W.methodCall_KW (pl := pl) (ld_glob I hg hmg ?_ dy) ht
  refine PySem.W.method_cls I.kIn hsp (PySem.W.cls_value I.kIn hrd hfc hhi ?_)
  refine PyProof.Rows.callWith_builtin1 (thn (pa p8 _ _ σ H (fun vs H1 => ∃ w, vs = [.ref e, .str w] ∧ H1 = H) (I.tok _) ⟨_, s0, v, s1, hz, l1, l2, fun w => ⟨w, rfl, rfl⟩⟩) fun us s2 ⟨vs, H1, I2, r, w, e1, e2⟩ => ?_) (star1 rfl) (stars rfl)
  subst e1 e2
  obtain ⟨u, u', rfl, r1, r2⟩ := vals2 r
  obtain rfl : u = .ref e := r1
  have he := (I2.pin (e, _) (List.mem_append_right _ (List.mem_singleton.mpr rfl))).1
  obtain ⟨hp, g, d, tk, os⟩ := s2
  refine init_call F (TT.keeps I2.bk) (I2.bk _ _ hC) he fun h' q1 q2 => h _ hp.objs.size ?_
  have J := TL.Inv.wrote (t' := tk) I2 hX hpn q2 ⟨_, q1⟩
  have P := I2.pin (e, _) (List.mem_append_right _ (List.mem_singleton.mpr rfl))
  refine ⟨J.ok, J.os, J.bare, J.base, J.loc, J.cell, J.free, J.freeC, fun p z => ?_, J.hok, J.len⟩
  rw [hpn, List.nil_append, List.mem_singleton] at z
  subst z
  exact ⟨q1, P.2.1, P.2.2.1, P.2.2.2.1, fun v z => by cases z⟩
end
section
variable {Y : Cx} {pins : List (Addr × Obj)} {σ : St} {H : Hp} {s : Shared} {e C CY fI : Addr} {mc : Value} {cd : ClassData} {rs : List Addr}
variable {nm q : Str} {N : Addr} {bs bm bB : List Value} {hd ab : Bool} {sn : List Str} {sub : List Value} {col : Option Bool} {dd : Option Addr} {k0 k1 k2 k3 k5 : Option Value} {B nid iid : String}
theorem init_run {name qual : Str} {params : Arguments} {scope : Scope} {dV kV doc pm cdv ct oc : Value} {an od : Option Addr} {osl : Array (Option Value)} {y f m self x : Str} {pl : Env → Sem Bool} {p1 p2 p3 p4 p5 p6 p7 p8 p9 r1 r2 r3 r4 : Pos} {k j : Nat} {v : V} {u : Value} {h1 : Heap} {A : Around} {E : Value → Shared → Prop} {Q : Value → Shared → Prop}
    (I : Inv Y pins σ H s) (mk : Heap.MadeExcOf s.heap h1 e (.ref C) [u]) (hle : s.heap.objs.size ≤ e) (hz : RelV v u) (zz : Says v)
    (lk : Y.K.lookup fI = some ⟨oc, od, .func (PySem.W.fnOf name qual params
      [.Expr (.Call (.Attribute (.Name y p1) "__init__" p2) [.Name self p3, .JoinedStr [.Constant (.str m) k p4, .FormattedValue (.Name x p5) 114 none p6] p7] [] p8) p9, .Assign [.Attribute (.Name self r1) f r2] (.Name x r3) r4] scope dV kV doc pm an cdv ct), osl⟩)
    (hcd : PySem.W.codeIn Y.K cdv qual = true) (S : FnScope [self, x] [self, x] scope) (v0 : Vis scope self) (v1 : Vis scope x) (hg : scope.names.lookup y = some .globalImplicit) (hr : Room (j + 1) A) (hA : Env0 Y.prog Y.w Y.K Y.mg Y.base A Y.stack { s with heap := h1 } H)
    (F : ExcBaseFacts B nid iid bB) (hC : Y.base.get? C = some (excClassObj nm q C N bs bm hd sn sub ab col dd k0 k1 k2 k3 k5 nid)) (TT : OwnTail Y.base bB bm) (hmg : Y.mg y = some (.ref CY))
    (l1 : (Str.empty ++ m).length ≤ sizeLine) (l2 : (Str.empty ++ m ++ txtV v).length ≤ sizeLine)
    (hsp : PySem.W.specialIn Y.K (.ref CY) "__getattribute__" = some (some (.builtin "type.__getattribute__"))) (hrd : PySem.W.readsIn Y.K CY mc = true) (hfc : PySem.W.findCls Y.K (.ref CY) mc "__init__" = some (.val (.builtin iid))) (hhi : PySem.W.handedIn (.builtin iid) = true)
    (hs : PySem.W.findIn Y.K (.ref C) "__setattr__" = some (some (.builtin "object.__setattr__"))) (hna : PySem.W.findIn Y.K (.ref C) f = some none) (hc : PySem.W.clsIn Y.K C = some cd) (hm : cd.mro = rs.map Value.ref ++ mroVE) (hh : cd.hasDict = true)
    (hb : BindsTo { s with heap := h1 } (PySem.W.fnOf name qual params
      [.Expr (.Call (.Attribute (.Name y p1) "__init__" p2) [.Name self p3, .JoinedStr [.Constant (.str m) k p4, .FormattedValue (.Name x p5) 114 none p6] p7] [] p8) p9, .Assign [.Attribute (.Name self r1) f r2] (.Name x r3) r4] scope dV kV doc pm an cdv ct) ⟨[.ref e, u], []⟩ ([self, x].zip [.ref e, u]))
    (h : ∀ s' t1 d u', RelV v u' → s.heap.objs.size ≤ d → s'.heap.get? e = some (excObj C (.ref t1) (some d)) → s'.heap.Ns1 d (fun a => if a = f then some u' else none) → Inv Y pins σ H s' → Q .none s')
    (dy : (y == ("__debug__" : Str)) = false := by decide) (d0 : (self == ("__debug__" : Str)) = false := by decide) (c0 : (self == ("__classdict__" : Str)) = false := by decide) (d1 : (x == ("__debug__" : Str)) = false := by decide) (c1 : (x == ("__classdict__" : Str)) = false := by decide)
    (ht : ∀ env : Env, eval (.Call (.Attribute (.Name y p1) "__init__" p2) [.Name self p3, .JoinedStr [.Constant (.str m) k p4, .FormattedValue (.Name x p5) 114 none p6] p7] [] p8) env = (do
      let ov ← eval (.Name y p1) env
      standAt p2.atName
      let (f, first) ← holding [ov] (getMethod ov "__init__" (pl env))
      callWith p8 f first (backTo p8 (starEach [.Name self p3, .JoinedStr [.Constant (.str m) k p4, .FormattedValue (.Name x p5) 114 none p6] p7] env)) (backToKw p8 (keywordEach [] env))) := by intro _; rfl)
    (sw : ∀ env : Env, swapsWith (.Name x r3) (some (.Attribute (.Name self r1) f r2)) r4.line env = pure false := by intro _; rfl) :
    wpAny (model Y.prog Y.w) A (call (.ref fI) [.ref e, u]) Q E { s with heap := h1 } := by
  obtain ⟨t0, he, _, _⟩ := mk.there
  have nb : Y.base.get? e = none := by
    cases w : Y.base.get? e with
    | none => rfl
    | some o =>
      have := I.bk e o w
      rw [mk.new] at this
      cases this
  have nH : H e = none := by
    cases w : H e with
    | none => rfl
    | some o =>
      obtain ⟨b, hb⟩ := objOk_some (I.hok e o w)
      rw [mk.new] at hb
      cases hb
  have nf : e ∉ frs Y.stack := fun w => by
    obtain ⟨_, o, q, _⟩ := I.stack.mem w
    rw [mk.new] at q
    cases q
  refine wpAny_call (run_open (CX := fun _ _ _ _ _ _ => False) (E := fun _ _ _ => False) lk hcd S hr hA hb (vs := [.ref e, v]) (.cons rfl (.cons hz .nil)) rfl he nb nH nf (fun v w => by cases w) fun s1 J => ?_)
  refine wpAny_execs_cons (init_up (X := opCx (cxOf (fun _ _ _ _ _ _ => False) Y.prog Y.w Y.K Y.mg Y.base [self, x] qual scope fI cdv A Y.stack { s with heap := h1 } H fun _ _ _ => False) e) (t0 := t0) (pl := pl _) F hC TT (List.mem_singleton.mpr rfl) rfl J (i := 0) (j := 1) hg hmg rfl v0 rfl rfl v1 rfl zz l1 l2 hsp hrd hfc hhi (fun s2 t1 J2 => ?_) dy d0 c0 d1 c1 (ht _))
  refine wpAny_execs_cons (init_set (X := opCx (cxOf (fun _ _ _ _ _ _ => False) Y.prog Y.w Y.K Y.mg Y.base [self, x] qual scope fI cdv A Y.stack { s with heap := h1 } H fun _ _ _ => False) e) (List.mem_singleton.mpr rfl) rfl J2 (i := 0) (j := 1) rfl v0 rfl rfl v1 rfl hs hna hc hm hh (fun u' s3 d ru ld q1 q2 J3 => ?_) d0 c0 d1 c1 (sw _))
  refine wpAny_execs_nil ⟨rfl, ?_⟩
  refine h s3 t1 d u' ru ?_ q1 q2 (TL.Inv.made I mk hle J3.os J3.base J3.hok J3.bare)
  exact Nat.le_trans hle (Nat.le_trans (Nat.le_of_lt (Heap.lt_size he)) ld)
end
section
variable {X : Cx} {pins : List (Addr × Obj)} {σ : St} {H : Hp} {s : Shared} {C fI N : Addr}
variable {nm q : Str} {bs bm bB : List Value} {hd ab : Bool} {sn : List Str} {sub : List Value} {col : Option Bool} {dd : Option Addr} {k0 k1 k2 k3 k5 : Option Value} {B nid iid : String} {mN : Str → Option Value} {oI : Obj}
theorem raise_at {c : Str} {ea : Expr} {ta : TE} {np cpos pos : Pos} {Q : Flow → Shared → Prop} {P : V → Hp → Prop} (F : ExcBaseFacts B nid iid bB) (hB : bB.contains (.type B) = true) (hbE : bm.contains (.type "BaseException") = true)
    (hC : X.base.get? C = some (excClassObj nm q C N bs bm hd sn sub ab col dd k0 k1 k2 k3 k5 nid)) (hN : X.base.Ns N mN) (hi : mN "__init__" = some (.ref fI)) (hf : X.base.get? fI = some oI) (hcl : oI.cls = .type "function") (TT : OwnTail X.base bB bm)
    (I : Inv X pins σ H s) (hca : X.calm = true) (hg : Gl X c) (hmg : X.mg c = some (.ref C)) (pa1 : PE X ea ta) (hs1 : starEach [ea] X.env = (false, eval ea X.env) :: starEach [] X.env) (hsp : (backTo cpos (starEach [ea] X.env)).any (·.1) = false) (ht : ta σ H P)
    (h : ∀ s2 v u h' e H2, Inv X pins σ H2 s2 → P v H2 → RelV v u → Heap.MadeExcOf s2.heap h' e (.ref C) [u] → s2.heap.objs.size ≤ e → wpAny (model X.prog X.w) (X.A.under (.builtin "type.__call__" ⟨[.ref C, u], []⟩)) (call (.ref fI) [.ref e, u])
      (fun r s' => r = .none ∧ (∃ t1 d, s'.heap.get? e = some (excObj C (.ref t1) (some d))) ∧ Inv X pins σ H2 s' ∧ X.xe (.ref e) s') X.xe { s2 with heap := h' })
    (dc : (c == ("__debug__" : Str)) = false := by decide) :
    wpAny (model X.prog X.w) X.A (exec (.Raise (some (.Call (.Name c np) [ea] [] cpos)) none pos) X.env) Q X.xe s := by
  refine raise_own (C := C) (nm := nm) (q := q) (N := N) (bs := bs) (bm := bm) (hd := hd) (sn := sn) (sub := sub) (ab := ab) (col := col) (dd := dd) (k0 := k0) (k1 := k1) (k2 := k2) (k3 := k3) (k5 := k5) F hB hbE (I.ok.hd hca) hsp hi hcl (ld_glob I hg hmg ⟨rfl, ?_⟩ dc)
  have pa : PA X [ea] (tCons ta tNil) := pa_cons pa1 pa_nil hs1
  have y := pa cpos pins s σ H (fun vs H1 => match vs with | [v] => P v H1 | _ => False) I ht
  rw [hs1] at y ⊢
  refine Calls.evalArgs_plain (wpAny_mono y (fun us s2 w => ?_) fun _ _ w => w)
  obtain ⟨vs, H1, I1, r, hP⟩ := w
  obtain ⟨v, rfl⟩ : ∃ v, vs = [v] := by
    cases vs with
    | nil => exact hP.elim
    | cons v l =>
      cases l with
      | nil => exact ⟨v, rfl⟩
      | cons _ _ => exact hP.elim
  obtain ⟨u, rfl, r1⟩ := vals1 r
  refine ⟨rfl, few (by simp), I1.bk _ _ hC, hN.keeps I1.bk, I1.bk _ _ hf, TT.keeps I1.bk, fun h' e mk le => wpAny_mono (h s2 v u h' e H1 I1 hP r1 mk le) (fun a s' w => ?_) fun _ _ w => w⟩
  obtain ⟨rfl, ⟨t1, d, w1⟩, J, w2⟩ := w
  exact ⟨rfl, J.bk _ _ hC, ⟨_, _, w1⟩, w2⟩
end
section
variable {X : Cx} {pins : List (Addr × Obj)} {σ : St} {H H' : Hp} {s s' : Shared} {e C t1 : Addr} {dx : Option Addr}
theorem leave_firstD {M : Model} {Q : Unit → Shared → Prop} {E : Value → Shared → Prop} (D : DefCx X) (I : Inv X pins σ H s) (he : s.heap.get? e = some (excObj C (.ref t1) dx)) (nH : H e = none) (n0 : X.s₀.heap.get? e = none)
    (hQ : ∀ h2, Fly X.prog X.w X.outer X.H₀ X.s₀ H e (.ref C) { s with heap := h2 } → DAt h2 e dx → Q () { s with heap := h2 }) : wpAny M X.A (leaving X.env (.ref e)) Q E s := by
  have FF : s.heap.FunFrames X.base X.stack := I.stack
  have fs := frs_cons D
  have eN : e ∉ frs X.stack := fun z => by
    obtain ⟨_, o, q, n⟩ := FF.mem z
    rw [he] at q
    cases q
    exact n _ rfl
  have hin : ∀ env ∈ X.stack, ∀ b, env.frame = some b → b ∈ e :: frs X.stack := fun env h b hb => List.mem_cons_of_mem _ (List.mem_filterMap.mpr ⟨env, h, hb⟩)
  obtain ⟨B, hB⟩ : ∃ B, B = PySem.W.hideAll s.heap (e :: frs X.stack) := ⟨_, rfl⟩
  have FH : s.heap.FunFrames B X.stack := by rw [hB]; exact PySem.W.funFrames_hide FF hin
  have hen : B.get? e = none := by rw [hB]; exact PySem.W.hideAll_none _ (List.mem_cons_self ..)
  have sub : ∀ b o, B.get? b = some o → s.heap.get? b = some o := fun b o hb => by rw [hB] at hb; exact PySem.W.of_hideAll _ hb
  have inB : ∀ b o, s.heap.get? b = some o → b ≠ e → b ≠ X.env.locals → b ∉ frs X.outer → B.get? b = some o := fun b o q n1 n2 n3 => by
    rw [hB]
    exact PySem.W.hideAll_get _ q (by rw [fs]; intro z; rcases List.mem_cons.mp z with z | z; exact n1 z; rcases List.mem_cons.mp z with z | z; exact n2 z; exact n3 z)
  have hfr : X.A.frames = some (X.env :: X.outer) := by rw [I.ok.frames, D.stk]
  rw [D.stk] at FH
  refine firstD (a0 := .ref t1) hfr FH D.frame he sub hen rfl rfl rfl fun h2 hL hD => hQ h2 ?_ hD
  obtain ⟨k1, ⟨_, _, k2⟩, k3, k4⟩ := hL
  have trk : ∀ b o u, H b = some o → s.heap.get? b = some u → B.get? b = some u := fun b o u hb q => inB b u q (by rintro rfl; rw [nH] at hb; cases hb) (by rintro rfl; rw [I.free] at hb; cases hb) (fun z => by
    have := I.stkFree b (by rw [fs]; exact List.mem_cons_of_mem _ z)
    rw [hb] at this
    cases this)
  have oldL : ∀ b o, X.s₀.heap.get? b = some o → b ≠ X.env.locals := fun b o q z => by
    have l1 := Heap.lt_size q
    rw [z] at l1
    exact absurd (Nat.lt_of_lt_of_le l1 I.ok.above) (Nat.lt_irrefl _)
  have oldE : ∀ b o, X.s₀.heap.get? b = some o → b ≠ e := by
    rintro b o q rfl
    rw [n0] at q
    cases q
  have nox : ∀ b : Addr, b ∉ X.ex := fun b => by rw [D.ex]; simp
  have frm : ∀ b, b ∈ frs X.outer → ∀ o, s.heap.get? b = some o → ∃ sl, h2.get? b = some { o with slots := sl } := fun b hf o q => by
    have hb : b ∈ frs X.stack := by rw [fs]; exact List.mem_cons_of_mem _ hf
    obtain ⟨_, ob, eb, nf⟩ := FF.mem hb
    rw [q] at eb
    cases eb
    exact k4 b _ q nf
  refine ⟨I.os, I.bare, ⟨fun b o q n hf _ => ?_, fun b o q n hf _ => ?_, fun b o q n _ => I.base.free b o q n (nox b), fun b o q _ => ?_, I.base.tups, I.base.frzs, I.base.tbls⟩, hok_objs I.hok fun b o u hb q => k1 b u (trk b o u hb q), n0, nH, B, _, ⟨k1, hen, k2, k3⟩, fun b o hb => ?_, fun b u o q q2 hf => ?_⟩
  · exact k1 b o (inB b o (I.base.keep b o q n hf (nox b)) (oldE b o q) (oldL b o q) hf)
  · obtain ⟨sl, e1⟩ := I.base.slot b o q n hf (nox b)
    obtain ⟨sl2, e2⟩ := frm b hf _ e1
    exact ⟨sl2, e2⟩
  · obtain ⟨o1, e1⟩ := I.base.there b o q (nox b)
    by_cases hf : b ∈ frs X.outer
    · obtain ⟨sl2, e2⟩ := frm b hf _ e1
      exact ⟨_, e2⟩
    · exact ⟨_, k1 b o1 (inB b o1 e1 (oldE b o q) (oldL b o q) hf)⟩
  · obtain ⟨u, hu⟩ := objOk_some (I.hok b o hb)
    exact ⟨u, trk b o u hb hu⟩
  · obtain ⟨o1, e1⟩ := I.base.there b u q (nox b)
    have w := inB b o1 e1 (oldE b u q) (oldL b u q) hf
    have w2 := k1 b o1 w
    have q2' : h2.get? b = some o := q2
    rw [w2] at q2'
    cases q2'
    exact w
theorem leave_onD {M : Model} {C : Value} {Q : Unit → Shared → Prop} {E : Value → Shared → Prop} (D : DefCx X) (I : Inv X pins σ H s) (F : Fly X.prog X.w X.stack H s H' e C s') (da : DAt s'.heap e dx)
    (hQ : ∀ h2, Fly X.prog X.w X.outer X.H₀ X.s₀ H' e C { s' with heap := h2 } → DAt h2 e dx → Q () { s' with heap := h2 }) : wpAny M X.A (leaving X.env (.ref e)) Q E s' := by
  obtain ⟨B, a0, fl, tB, oB⟩ := F.fly
  have hfr : X.A.frames = some (X.env :: X.outer) := by rw [I.ok.frames, D.stk]
  have fl' : Heap.FlyingW B (X.env :: X.outer) e C a0 s'.heap := by rw [← D.stk]; exact fl
  refine nextD hfr D.frame fl' da fun h2 fl2 up hD => hQ h2 ?_ hD
  have fs := frs_cons D
  have I' : Inv X pins σ H' s' := I.call' (ch := []) F.os F.un F.hok F.bare fun b z => absurd z (by simp)
  have nox : ∀ b : Addr, b ∉ X.ex := fun b => by rw [D.ex]; simp
  have oldL : ∀ b o, X.s₀.heap.get? b = some o → b ≠ X.env.locals := fun b o q z => by
    have l1 := Heap.lt_size q
    have l2 := I.ok.above
    rw [z] at l1
    exact absurd (Nat.lt_of_lt_of_le l1 l2) (Nat.lt_irrefl _)
  have same : ∀ b u v, B.get? b = some u → s'.heap.get? b = some v → u = v := fun b u v h1 h2 => by
    have := fl.1 b u h1
    rw [h2] at this
    exact (Option.some.inj this).symm
  have inB : ∀ b u, X.s₀.heap.get? b = some u → b ∉ frs X.outer → ∃ o2, s'.heap.get? b = some o2 ∧ B.get? b = some o2 := fun b u q hf => by
    obtain ⟨o1, e1⟩ := I.base.there b u q (nox b)
    obtain ⟨o2, e2⟩ := F.un.there b o1 e1 (by simp)
    exact ⟨o2, e2, oB b o1 o2 e1 e2 (by rw [fs]; intro z; rcases List.mem_cons.mp z with z | z; exact oldL b u q z; exact hf z)⟩
  have nofld : ∀ b ∈ frs X.outer, ∃ ob, s'.heap.get? b = some ob ∧ ∀ vs, ob.data ≠ .fields vs := fun b hb => by
    have hb' : b ∈ X.stack.filterMap (·.frame) := by
      have := fs
      unfold frs at this
      rw [this]
      exact List.mem_cons_of_mem _ hb
    obtain ⟨_, ob, eb, nf⟩ := (I'.stack).mem hb'
    exact ⟨ob, eb, nf⟩
  refine ⟨I'.os, I'.bare, ⟨fun b o q n hf _ => ?_, fun b o q n hf _ => ?_, fun b o q n _ => I'.base.free b o q n (nox b), fun b o q _ => ?_, I'.base.tups, I'.base.frzs, I'.base.tbls⟩, hok_objs F.hok fun b o u hb q => ?_, ?_, F.non, B, a0, fl2, tB, fun b u o q q2 hf => ?_⟩
  · obtain ⟨o2, e2, eB⟩ := inB b o q hf
    have := I'.base.keep b o q n hf (nox b)
    rw [e2] at this
    cases this
    exact fl2.1 b _ eB
  · obtain ⟨sl, e1⟩ := I'.base.slot b o q n hf (nox b)
    obtain ⟨ob, eb, nf⟩ := nofld b hf
    rw [e1] at eb
    cases eb
    obtain ⟨sl2, e2⟩ := up b _ e1 nf
    exact ⟨sl2, e2⟩
  · obtain ⟨o1, e1⟩ := I'.base.there b o q (nox b)
    by_cases hf : b ∈ frs X.outer
    · obtain ⟨ob, eb, nf⟩ := nofld b hf
      rw [e1] at eb
      cases eb
      obtain ⟨sl2, e2⟩ := up b _ e1 nf
      exact ⟨_, e2⟩
    · obtain ⟨o2, _, eB⟩ := inB b o q hf
      exact ⟨o2, fl2.1 b o2 eB⟩
  · obtain ⟨v, hv⟩ := tB b o hb
    have := same b v u hv q
    subst this
    exact fl2.1 b v hv
  · cases q : X.s₀.heap.get? e with
    | none => rfl
    | some o =>
      obtain ⟨o1, e1⟩ := I.base.there e o q (nox e)
      rw [F.new] at e1
      cases e1
  · obtain ⟨o2, e2, eB⟩ := inB b u q hf
    have z2 := fl2.1 b o2 eB
    have q2' : h2.get? b = some o := q2
    rw [z2] at q2'
    cases q2'
    exact eB
end
end TL
end
section
set_option Elab.async false
set_option linter.all false
set_option maxRecDepth 100000
set_option maxHeartbeats 4000000
namespace TL
open PySem PySem.Spec PyProof.Rows L2
abbrev SpX := (T → Prop) → SpT
abbrev RF : T → Prop := fun _ => False
abbrev clsAt (K : PySem.W.Frag) (c : Str) (C : Addr) : Prop := PySem.W.nsIn K mainGlobals c = some (some (.ref C))
def wishF (K : PySem.W.Frag) (R : T → Prop) (C : Addr) (dx : Option Addr) (H : Hp) : Prop := ∃ c, clsAt K c C ∧
  match dx with
  | none => R (.exc c)
  | some d => ∃ f t od u y, H d = some (kn od) ∧ PySem.W.lookIn f od = some (some u) ∧ RelV y u ∧ Rep K H t y ∧ R (.exf c f t)
def wishOf (K : PySem.W.Frag) (R : T → Prop) : XK := fun v dx H => ∃ C, v = .ref C ∧ wishF K R C dx H
def CXE (P : Program) (w : World) : CXT := fun outer H s E e s' => ∃ a C dx H', e = .ref a ∧ Fly P w outer H s H' a (.ref C) s' ∧ DAt s'.heap a dx ∧ Same H H' ∧ E (.ref C) dx H'
def spX (K : PySem.W.Frag) (n : Nat) (S : SpX) : Sp := fun vs H Q E => ∃ (ts : List T) (Q0 R0 : T → Prop), vs.length = n ∧ Reps K H ts vs ∧ S R0 ts Q0 ∧ (∀ t v H', Same H H' → Rep K H' t v → Q0 t → Q v H') ∧ ∀ v dx H', Same H H' → wishOf K R0 v dx H' → E v dx H'
structure FnX (P : Program) (w : World) (K : PySem.W.Frag) (mg : Str → Option Value) (base : Heap) (k : Nat) (f : Addr) (fd : FuncData) (ps : List Str) (S : SpX) : Prop where
  ok : FnOk P w K mg base (CXE P w) k f fd ps (spX K ps.length S)
  len : ∀ R ts Q, S R ts Q → ts.length = ps.length
theorem FnX.calm {P : Program} {w : World} {K : PySem.W.Frag} {mg : Str → Option Value} {base : Heap} {k : Nat} {f : Addr} {fd : FuncData} {ps : List Str} {S : SpX} (F : FnX P w K mg base k f fd ps S) : FnT P w K mg base k f fd ps (S RF) := by
  refine ⟨⟨fun vs H Q E ⟨ts, Q0, e, _⟩ => e, fun A outer s H args us vs Q E hr e0 hb hv ⟨ts, Q0, e, r, hS, q⟩ => ?_⟩, F.len RF⟩
  refine codeAny_mono (F.ok.run A outer s H args us vs Q (fun _ _ _ => False) hr e0 hb hv ⟨ts, Q0, RF, e, r, hS, q, fun v dx H' _ z => ?_⟩) fun res s' h => ?_
  · obtain ⟨_, _, _, _, z⟩ := z
    cases dx with
    | none => exact z
    | some d =>
      obtain ⟨_, _, _, _, _, _, _, _, _, z⟩ := z
      exact z
  · cases res with
    | ok fl => cases fl <;> exact h
    | error e =>
      obtain ⟨_, _, _, _, _, _, _, _, z⟩ := h
      exact z.elim
def CalX (P : Program) (w : World) (K : PySem.W.Frag) (mg : Str → Option Value) (base : Heap) (k : Nat) (x : Str) (ps : List Str) (S : SpX) : Prop :=
  ∃ f fd, FnX P w K mg base k f fd ps S ∧ Binds K fd ps [] ∧ PySem.W.keepIn K (.ref f) = true ∧ mg x = some (.ref f)
theorem CalX.mk {P : Program} {w : World} {K : PySem.W.Frag} {mg : Str → Option Value} {base : Heap} {k : Nat} {x qual : Str} {ps : List Str} {S : SpX} {st : Stmt} {f : Addr} {fd : FuncData} (F : Fun K x qual st f fd) (m : mg x = some (.ref f))
    (b : Binds K fd ps []) (h : FnX P w K mg base k f fd ps S) : CalX P w K mg base k x ps S := ⟨f, fd, h, b, F.kp, m⟩
theorem CalX.calm {P : Program} {w : World} {K : PySem.W.Frag} {mg : Str → Option Value} {base : Heap} {k : Nat} {x : Str} {ps : List Str} {S : SpX} (C : CalX P w K mg base k x ps S) : Cal P w K mg base k x ps (S RF) :=
  let ⟨f, fd, F, b, kp, m⟩ := C; ⟨f, fd, F.calm, b, kp, m⟩
section
variable {X : Cx} {a b c e : Expr} {es : List Expr} {wa wb wc w : WE} {ws : WA} {pos : Pos} {st : Stmt}
theorem fresh_H {pins : List (Addr × Obj)} {σ : St} {H : Hp} {s : Shared} {a : Addr} (I : Inv X pins σ H s) (n : s.heap.get? a = none) : H a = none := by
  cases w : H a with
  | none => rfl
  | some o =>
    obtain ⟨b, hb⟩ := objOk_some (I.hok a o w)
    rw [n] at hb
    cases hb
theorem fresh_0 {pins : List (Addr × Obj)} {σ : St} {H : Hp} {s : Shared} {a : Addr} (I : Inv X pins σ H s) (ex : X.ex = []) (n : s.heap.get? a = none) : X.s₀.heap.get? a = none := by
  cases w : X.s₀.heap.get? a with
  | none => rfl
  | some o =>
    obtain ⟨b, hb⟩ := I.base.there a o w (by rw [ex]; simp)
    rw [n] at hb
    cases hb
structure Takes (X : Cx) (R : T → Prop) : Prop where
  ex : X.ex = []
  on : ∀ (pins : List (Addr × Obj)) (σ : St) (H H' : Hp) (s s' : Shared) (a C : Addr) (dx : Option Addr), Inv X pins σ H s → Same X.H₀ H → Fly X.prog X.w X.stack H s H' a (.ref C) s' → DAt s'.heap a dx → Same H H' → wishF X.K R C dx H' → X.xe (.ref a) s'
  new : ∀ (pins : List (Addr × Obj)) (σ : St) (H : Hp) (s : Shared) (a C t1 : Addr) (dx : Option Addr), Inv X pins σ H s → Same X.H₀ H → s.heap.get? a = some (excObj C (.ref t1) dx) → H a = none → X.s₀.heap.get? a = none → wishF X.K R C dx H → X.xe (.ref a) s
theorem run_at {k : Nat} {f : Addr} {fd : FuncData} {ps : List Str} {S : SpX} {pins : List (Addr × Obj)} {σ : St} {H : Hp} {s : Shared} {Q : VK} {us : List Value} {vs : List V} {ts : List T} {Q0 R0 : T → Prop} {E : Value → Shared → Prop} (F : FnX X.prog X.w X.K X.mg X.base k f fd ps S) (hr : Room k X.A) (hb : Binds X.K fd ps [])
    (hx : ∀ a C dx H' s', Fly X.prog X.w X.stack H s H' a (.ref C) s' → DAt s'.heap a dx → Same H H' → wishF X.K R0 C dx H' → E (.ref a) s')
    (I : Inv X pins σ H s) (r : Vals vs us) (rr : Reps X.K H ts vs) (hS : S R0 ts Q0) (q : ∀ t v H', Same H H' → Rep X.K H' t v → Q0 t → Q v H') : wpAny (model X.prog X.w) X.A (call (.ref f) us) (EP X pins σ Q) E s := by
  have hl : us.length = ps.length := by rw [← r.length, rr.length]; exact F.len _ _ _ hS
  have hbb := hb s us I.kIn (by simpa using hl)
  rw [List.append_nil] at hbb
  refine wpAny_call (codeAny_mono (F.ok.run X.A X.stack s H ⟨us, []⟩ us vs Q (wishOf X.K R0) hr I.env0 hbb r ⟨ts, Q0, R0, by rw [r.length]; exact hl, rr, hS, q, fun v dx H' _ z => z⟩) fun res s' h => ?_)
  cases res with
  | error e =>
    obtain ⟨a, C, dx, H', rfl, fl, da, S1, C', e1, h1⟩ := h
    cases e1
    exact hx a C dx H' s' fl da S1 h1
  | ok fl =>
    cases fl with
    | ret u => exact I.after h
    | next => exact False.elim h
    | brk => exact False.elim h
    | cont => exact False.elim h
theorem jcallX {k : Nat} {ps : List Str} {S : SpX} {R : T → Prop} {x : Str} {p : Pos} (C : CalX X.prog X.w X.K X.mg X.base k x ps S) (tk : Takes X R) (hr : Room k X.A) (hg : Gl X x)
    (ha : JA X (e :: es) ws) (hdb : (x == ("__debug__" : Str)) = false := by decide) (he : starEach (e :: es) X.env = (false, eval e X.env) :: starEach es X.env := by exact star1 rfl)
    (hpl : (backTo pos (starEach es X.env)).any (·.1) = false := by exact stars rfl) : JE X (.Call (.Name x p) (e :: es) [] pos) (wCall (S R) ws) := by
  obtain ⟨f, fd, F, hb, hk, hm⟩ := C
  intro pins s σ H Q I ⟨τ, Q0, R0, hw, k⟩
  refine wpAny_Call_Name_kw (ld_glob I hg hm ?_ hdb)
  refine PySem.W.callWith_K (h₀ := X.base) I.ok.mod.kin hk (thn (ha pos pins s σ H (fun vs H1 => ∃ ts, Same H H1 ∧ Reps X.K H1 ts vs ∧ S R ts Q0) I ⟨τ, _, R0, hw, fun ts vs H1 S1 r q => ⟨ts, S1, r, q⟩⟩) fun us s1 ⟨vs, H1, I1, r, ts, S1, rr, q⟩ => ⟨I1.kIn, ?_⟩) he hpl
  exact run_at F hr hb (fun a C dx H' s' fl da S2 h1 => tk.on pins σ H1 H' s1 s' a C dx I1 (R0.same.trans S1) fl da S2 h1) I1 r rr q fun t v H' S2 r2 q2 => k t v H' (S1.trans S2) r2 q2
def sRaise (R : T → Prop) (c : Str) : WS := fun _ _ => R (.exc c)
theorem takes_def {P : Program} {w : World} {K : PySem.W.Frag} {mg : Str → Option Value} {base : Heap} {N : List Str} {qual : Str} {scope : Scope} {f : Addr} {cdv : Value} {A : Around} {outer : List Env} {s : Shared} {H : Hp} {E : XK} {R : T → Prop}
    (hE : ∀ v dx H', Same H H' → wishOf K R v dx H' → E v dx H') : Takes (cxOf (CXE P w) P w K mg base N qual scope f cdv A outer s H E) R := by
  have D : DefCx (cxOf (CXE P w) P w K mg base N qual scope f cdv A outer s H E) := ⟨rfl, rfl, rfl⟩
  refine ⟨rfl, fun pins σ H1 H' s1 s' a C dx I S0 fl da S1 h1 => ?_, fun pins σ H1 s1 a C t1 dx I S0 he nH n0 h1 => ?_⟩
  · exact leave_onD D I fl da fun h2' F2 d2 => ⟨a, C, dx, H', rfl, F2, d2, S0.trans S1, hE _ _ _ (S0.trans S1) ⟨C, rfl, h1⟩⟩
  · exact leave_firstD D I he nH n0 fun h2' F2 d2 => ⟨a, C, dx, H1, rfl, F2, d2, S0, hE _ _ _ S0 ⟨C, rfl, h1⟩⟩
theorem fnX {P : Program} {w : World} {K : PySem.W.Frag} {mg : Str → Option Value} {base : Heap} {x qual : Str} {st : Stmt} {f : Addr} {fd : FuncData} {N ps : List Str} {k : Nat} {S : SpX} {W : (T → Prop) → WS} (F : Fun K x qual st f fd) (SC : FnScope N ps (defScope st))
    (hlen : ∀ R ts Q, S R ts Q → ts.length = ps.length)
    (hbody : ∀ (R : T → Prop) (cdv : Value) (A : Around) (outer : List Env) (s : Shared) (H : Hp) (E : XK), Room k (A.deeper (envOfC qual (defScope st) s.heap.objs.size f cdv)) → Takes (cxOf (CXE P w) P w K mg base N qual (defScope st) f cdv A outer s H E) R →
      JSs (cxOf (CXE P w) P w K mg base N qual (defScope st) f cdv A outer s H E) (defBody st) (W R))
    (hw : ∀ R ts Q, S R ts Q → W R { nx := fun _ => Q .non, rt := Q } (startT N.length ts)) : FnX P w K mg base (k + 1) f fd ps S := by
  refine ⟨?_, hlen⟩
  obtain ⟨oc, od, kV, doc, pm, an, cdv, ct, osl, rfl, lk, hcd⟩ := F.ex
  refine fn_of lk hcd SC (fun vs H Q E ⟨_, _, _, e, _⟩ => e) fun A outer s H vs Q E hr h => ?_
  obtain ⟨ts, Q0, R0, e, r, hS, q, hE⟩ := h
  refine ⟨_, hbody R0 cdv A outer s H E hr (takes_def hE), startT N.length ts, { nx := fun _ => Q0 .non, rt := Q0 }, repSt_start r, hw R0 ts Q0 hS, fun τ' σ' H' _ R n => ?_, fun t v H' S r' n => q t v H' S r' n, fun τ' σ' H' _ R n => n.elim, fun τ' σ' H' _ R n => n.elim⟩
  exact q .non .non H' R.same (rep_non.mpr rfl) n
end
end TL
end
section
set_option Elab.async false
set_option linter.all false
set_option maxRecDepth 100000
set_option maxHeartbeats 4000000
namespace TL
open PySem PySem.Spec PyProof.Rows L2
section
variable {X : Cx} {pins : List (Addr × Obj)} {σ : St} {H H' : Hp} {s s' : Shared} {a : Addr}
theorem land_inv {C a0 : Value} {B h6 : Heap} (I : Inv X pins σ H s) (F : Fly X.prog X.w X.stack H s H' a C s') (fl : Heap.FlyingW B X.stack a C a0 s'.heap) (tB : ∀ b o, H' b = some o → ∃ u, B.get? b = some u)
    (oB : ∀ b u o, s.heap.get? b = some u → s'.heap.get? b = some o → b ∉ frs X.stack → B.get? b = some o) (st : B.StaysIn h6) (up : s'.heap.UpToSlots h6) : Inv X pins σ H' { s' with heap := h6 } := by
  have I' : Inv X pins σ H' s' := I.call' (ch := []) F.os F.un F.hok F.bare fun b z => absurd z (by simp)
  have nofld : ∀ b ∈ frs X.stack, ∃ ob, s'.heap.get? b = some ob ∧ ∀ vs, ob.data ≠ .fields vs := fun b hb => by
    obtain ⟨_, ob, eb, nf⟩ := (I'.stack).mem hb
    exact ⟨ob, eb, nf⟩
  refine I.call' (s' := { s' with heap := h6 }) (ch := []) F.os ⟨fun b o q n hf _ => ?_, fun b o q n hf _ => ?_, F.un.free, fun b o q _ => ?_, F.un.tups, F.un.frzs, F.un.tbls⟩ (hok_objs F.hok fun b o u hb q => ?_) F.bare fun b z => absurd z (by simp)
  · have e2 := F.un.keep b o q n hf (by simp)
    exact st b o (oB b o o q e2 hf)
  · obtain ⟨sl, e1⟩ := F.un.slot b o q n hf (by simp)
    obtain ⟨ob, eb, nf⟩ := nofld b hf
    rw [e1] at eb
    cases eb
    obtain ⟨sl2, e2⟩ := up b _ e1 nf
    exact ⟨sl2, e2⟩
  · obtain ⟨o1, e1⟩ := F.un.there b o q (by simp)
    by_cases hf : b ∈ frs X.stack
    · obtain ⟨ob, eb, nf⟩ := nofld b hf
      rw [e1] at eb
      cases eb
      obtain ⟨sl2, e2⟩ := up b _ e1 nf
      exact ⟨_, e2⟩
    · exact ⟨o1, st b o1 (oB b o o1 q e1 hf)⟩
  · obtain ⟨v, hv⟩ := tB b o hb
    have := fl.1 b v hv
    rw [q] at this
    cases this
    exact st b _ hv
theorem Inv.track {o : Obj} (I : Inv X pins σ H s) (hn : H a = none) (ho : s.heap.get? a = some o) (h0 : X.s₀.heap.get? a = none) (hL : a ≠ X.env.locals) (hc : ∀ x c, X.env.cells.lookup x = some c → c ≠ a) (hp : ∀ p ∈ X.pn ++ pins, p.1 ≠ a) : Inv X pins σ (upd H a (kn o)) s := by
  have ne : ∀ {b : Addr} {u : HO}, H b = some u → b ≠ a := fun q z => by rw [z, hn] at q; cases q
  refine ⟨I.ok, I.os, I.bare, ⟨I.base.keep, I.base.slot, fun b ob q n hx => ?_, I.base.there, fun b xs q => ?_, fun b ob u q => ?_, fun b ps q => ?_⟩, I.loc, I.cell, ?_, fun x c q => ?_, fun p q => ?_, fun b u q => ?_, I.len⟩
  · have nb : b ≠ a := fun z => by rw [z, h0] at q; cases q
    rw [upd_ne nb]
    exact I.base.free b ob q n hx
  · have e := I.base.tups b xs q
    rw [upd_ne (ne e)]
    exact e
  · have e := I.base.frzs b ob u q
    rw [upd_ne (ne e)]
    exact e
  · obtain ⟨more, e⟩ := I.base.tbls b ps q
    exact ⟨more, by rw [upd_ne (ne e)]; exact e⟩
  · rw [upd_ne (Ne.symm hL)]
    exact I.free
  · rw [upd_ne (hc x c q)]
    exact I.freeC x c q
  · obtain ⟨e1, e2, e3⟩ := I.pin p q
    exact ⟨e1, by rw [upd_ne (hp p q)]; exact e2, e3⟩
  · by_cases hb : b = a
    · subst hb
      rw [upd_same] at q
      cases q
      exact ⟨ho, trivial, ⟨_, ho⟩, fun _ _ _ _ => trivial⟩
    · rw [upd_ne hb] at q
      exact (I.hok b u q).stay (fun _ _ _ z => z) (fun c z => by rw [upd_ne (ne z)]; exact z) fun c ys z => by rw [upd_ne (ne z)]; exact z
theorem track_same {o : Obj} (hn : H a = none) : Same H (upd H a (kn o)) := fun b u q => by
  rw [upd_ne (fun z => by rw [z, hn] at q; cases q)]
  exact q
theorem Inv.goes {i : Nat} {n : Str} {m : Str → Option Value} {v : Option Value} {h' : Heap} {t' : Nat} (I : Inv X pins σ H s) (hN : X.N.Nodup) (hi : X.N[i]? = some n) (hm : s.heap.Ns X.env.locals m ∧ ∀ (j : Nat) (x : Str) (w : V), X.N[j]? = some x → σ[j]? = some (some w) → Vis X.env.scope x → ∃ u, RelV w u ∧ Look X.env s.heap m x u)
    (hn : h'.Ns X.env.locals fun x => if x = n then v else m x) (hs : Heap.SameBut X.env.locals s.heap h') : Inv X pins (σ.set i none) H { s with heap := h', toks := t' } := by
  have nL : ∀ b o, X.s₀.heap.get? b = some o → b ≠ X.env.locals := fun b o q => Nat.ne_of_lt (Nat.lt_of_lt_of_le (Heap.lt_size q) I.ok.above)
  have cne := I.cne
  refine ⟨I.ok, I.os, I.bare, ⟨fun b o q z hb hx => (hs.2 b (nL b o q)).trans (I.base.keep b o q z hb hx), fun b o q z hb hx => ?_, I.base.free, fun b o q hx => ?_, I.base.tups, I.base.frzs, I.base.tbls⟩, ⟨_, hn, fun j y w e1 e2 e3 => ?_⟩, fun y c q => ?_, I.free, I.freeC, fun p hp => ?_, fun b u q => ?_, by simpa using I.len⟩
  · obtain ⟨sl, e1⟩ := I.base.slot b o q z hb hx
    exact ⟨sl, (hs.2 b (nL b o q)).trans e1⟩
  · obtain ⟨o', e1⟩ := I.base.there b o q hx
    exact ⟨o', (hs.2 b (nL b o q)).trans e1⟩
  · by_cases hj : j = i
    · subst hj
      have : (σ.set j none)[j]? = some (some w) := e2
      rw [List.getElem?_set] at this
      split at this
      · split at this <;> cases this
      · rename_i hh; exact absurd rfl hh
    · rw [List.getElem?_set_ne (Ne.symm hj)] at e2
      obtain ⟨u', r', q⟩ := hm.2 j y w e1 e2 e3
      refine ⟨u', r', ?_⟩
      rcases q with ⟨k, e⟩ | ⟨k, c, e, z⟩
      · refine .inl ⟨k, ?_⟩
        have : y ≠ n := fun e => hj (nodup_ix hN e1 (e ▸ hi))
        simp [this, e]
      · exact .inr ⟨k, c, e, z.sameBut hs (cne y c e)⟩
  · obtain ⟨w', z⟩ := I.cell y c q
    exact ⟨w', z.sameBut hs (cne y c q)⟩
  · obtain ⟨e, n', ne, nf, d⟩ := I.pin p hp
    exact ⟨(hs.2 p.1 ne).trans e, n', ne, nf, d⟩
  · refine (I.hok b u q).stay (fun c w' hc z => (hs.2 c ?_).trans z) (fun _ z => z) fun _ _ z => z
    rintro rfl
    rcases hc with hc | hc
    · rw [← hc] at q; rw [I.free] at q; cases q
    · rw [I.free] at hc; cases hc
abbrev Cx.caught (X : Cx) (a : Addr) (E : Value → Shared → Prop) : Cx := { X with A := X.A.mark (some (.ref a)), calm := false, xe := E }
theorem Inv.caught {E : Value → Shared → Prop} (I : Inv X pins σ H s) (a : Addr) : Inv (Cx.caught X a E) pins σ H s :=
  ⟨⟨I.ok.mod, I.ok.kind, I.ok.glob, I.ok.blt, I.ok.above, I.ok.inj, I.ok.has, I.ok.cab, fun z => (by cases z), I.ok.frames, I.ok.stk, I.ok.exf, I.ok.bs, I.ok.bsz, I.ok.noex, I.ok.exfs, I.ok.funs, I.ok.frf⟩, I.os, I.bare, I.base, I.loc, I.cell, I.free, I.freeC, I.pin, I.hok, I.len⟩
theorem Inv.uncaught {E : Value → Shared → Prop} (ok : X.Ok) (I : Inv (Cx.caught X a E) pins σ H s) : Inv X pins σ H s :=
  ⟨ok, I.os, I.bare, I.base, I.loc, I.cell, I.free, I.freeC, I.pin, I.hok, I.len⟩
theorem catch_at {C CY : Addr} {dx : Option Addr} {y n kept : Str} {i j : Nat} {np p1 p2 p3 hpos : Pos} {Q : Flow → Shared → Prop} {E : Value → Shared → Prop} (D : DefCx X) (I : Inv X pins σ H s) (F : Fly X.prog X.w X.stack H s H' a (.ref C) s') (da : DAt s'.heap a dx)
    (hN : X.N.Nodup) (hi : X.N[i]? = some n) (hj : X.N[j]? = some kept) (hij : j ≠ i) (hln : X.env.scope.names.lookup n = some .local) (hlk : X.env.scope.names.lookup kept = some .local) (hg : Gl X y) (hm : X.mg y = some (.ref CY))
    (ex : PySem.W.exmOne X.K (.ref C) (.ref CY) = some true) (hdy : (y == ("__debug__" : Str)) = false) (hdn : (n == ("__debug__" : Str)) = false) (hcn : (n == ("__classdict__" : Str)) = false)
    (hQ : ∀ s7 H7 o, Inv X pins ((σ.set j (some (.ref a))).set i none) H7 s7 → Same H' H7 → H7 a = some (kn o) → o.cls = .ref C → (∃ ws, o.data = .fields ws) → o.dict = dx → Q .next s7) :
    wpAny (model X.prog X.w) X.A (noteFrame (.ref a) X.env) (fun _ s2 => wpAny (model X.prog X.w) X.A (setFlight (.ref a) none) (fun _ s3 =>
      wpAny (model X.prog X.w) X.A (handleBy (.ref a) X.env [.ExceptHandler (some (.Name y np)) (some n) [.Assign [.Name kept p1] (.Name n p2) p3] hpos]) Q E s3) E s2) E s' := by
  obtain ⟨B, a0, fl, tB, oB⟩ := F.fly
  have hfr : X.A.frames = some (X.env :: X.outer) := by rw [I.ok.frames, D.stk]
  have fl0 : Heap.FlyingW B (X.env :: X.outer) a (.ref C) a0 s'.heap := by rw [← D.stk]; exact fl
  refine noteD hfr D.frame fl0 da fun h4 held sm4 da4 => ?_
  refine landD (s := { s' with heap := h4 }) held.1 held.2.1 held.2.2.1 held.2.2.2 da4 fun h5 fl5 sm5 da5 => ?_
  have I5 : Inv X pins σ H' { s' with heap := h5 } := land_inv I F fl tB oB fl5.1 (sm4.trans sm5)
  obtain ⟨ob, hob, hobc⟩ := fl5.there
  refine wpAny_handleBy_cons (codeAny_handlers_test (ld_glob (Inv.caught (E := E) I5 a) hg hm ?_ hdy)) (by intro q; cases q)
  have LT : PySem.W.Looks (model X.prog X.w) h5 (typeOf (.ref a)) (.ref C) := hobc ▸ (PySem.W.Looks.ld hob).andThen .now
  refine (PySem.W.exm_one (M := model X.prog X.w) I5.kIn LT ex).here ?_
  refine codeAny_handlers_suite_as ?_
  refine landD (s := { s' with heap := h5 }) fl5.1 fl5.2.1 fl5.2.2.1 fl5.2.2.2.at da5 fun h6 fl6 sm6 da6 => ?_
  have I6 : Inv X pins σ H' { s' with heap := h6 } := land_inv I F fl tB oB fl6.1 ((sm4.trans sm5).trans sm6)
  obtain ⟨oe, ws, Tb, oT, tsT, hoe, hoc, hod, _⟩ := fl6.2.2.2
  have hdx : oe.dict = dx := by
    obtain ⟨o9, q9, r9⟩ := da6
    rw [hoe] at q9
    cases q9
    exact r9
  have new0 : X.s₀.heap.get? a = none := by
    cases q : X.s₀.heap.get? a with
    | none => rfl
    | some o =>
      obtain ⟨o1, e1⟩ := I.base.there a o q (by rw [D.ex]; simp)
      rw [F.new] at e1
      cases e1
  have lt0 : ∀ {b : Addr} {o : Obj}, s.heap.get? b = some o → b ≠ a := fun q z => by rw [z, F.new] at q; cases q
  obtain ⟨mL, hnL, _⟩ := I.loc
  obtain ⟨oL, esL, epL, hoL, _⟩ := id hnL
  have It : Inv X pins σ (upd H' a (kn oe)) { s' with heap := h6 } := Inv.track I6 F.non hoe new0 (Ne.symm (lt0 hoL)) (fun x c q => by obtain ⟨v, o, e, _⟩ := I.cell x c q; exact lt0 e) fun p hp => lt0 (I.pin p hp).1
  have Ic := Inv.caught (E := fun _ _ => False) It a
  refine store_ok (X := Cx.caught X a fun _ _ => False) Ic hN hi (.inl hln) (v := .ref a) rfl (fun s8 I8 => ?_) (.inr hln)
  have hn8 : ((σ.set i (some (V.ref a)))[i]?) = some (some (.ref a)) := List.getElem?_set_self (by rw [I.len]; exact (List.getElem?_eq_some_iff.mp hi).1)
  have ps : PSs (Cx.caught X a fun _ _ => False) [.Assign [.Name kept p1] (.Name n p2) p3] (tAsg (tVar i) (gName j)) := pss_one (ps_set (X := Cx.caught X a fun _ _ => False) hN hj (.inl hlk) (pe_var hi (.inl hln) hdn hcn) rfl (.inr hlk))
  have z := ps pins s8 _ _ { nx := fun σ' H9 => σ' = (σ.set i (some (V.ref a))).set j (some (.ref a)) ∧ H9 = upd H' a (kn oe), rt := fun _ _ => False } I8 ⟨.ref a, hn8, rfl, rfl⟩
  refine wpAny_mono z (fun f s9 h9 => ?_) fun x s9 h9 => ?_
  · cases f with
    | next =>
      obtain ⟨σ9, H9, I9, rfl, rfl⟩ := h9
      have I9' : Inv X pins ((σ.set i (some (V.ref a))).set j (some (.ref a))) (upd H' a (kn oe)) s9 := Inv.uncaught I.ok I9
      obtain ⟨m9, hn9, hl9⟩ := I9'.loc
      have hcls : (X.env.scope.kind == .class || (X.env.scope.kind == .module && X.env.locals != X.env.globals)) = false := by rw [I.ok.kind]; rfl
      refine wpAny_nameGoes_keeps hln hn9 hcls fun h10 v hns hsb => ?_
      have I10 := Inv.goes (t' := s9.toks + 1) I9' hN hi ⟨hn9, hl9⟩ hns hsb
      have es : (((σ.set i (some (V.ref a))).set j (some (.ref a))).set i none) = (σ.set j (some (.ref a))).set i none := by
        rw [List.set_comm _ _ (Ne.symm hij), List.set_set]
      rw [es] at I10
      exact hQ _ _ oe I10 (track_same F.non) upd_same hoc.1 ⟨ws, hod⟩ hdx
    | brk => obtain ⟨_, _, _, z⟩ := h9; exact z.elim
    | cont => obtain ⟨_, _, _, z⟩ := h9; exact z.elim
    | ret u => obtain ⟨_, _, _, _, _, z⟩ := h9; exact z.elim
  · exact False.elim h9
end
section
variable {X : Cx} {e : Expr} {es : List Expr} {ws : WA} {pos : Pos}
theorem RepSt.gone {K : PySem.W.Frag} {H0 H : Hp} {σ : St} {τ : List Slot} {i : Nat} (R : RepSt K H0 H σ τ) : RepSt K H0 H (σ.set i none) (sput τ i .no) := by
  have nown : ∀ c ts, sget (sput τ i .no) c = .own ts → i ≠ c ∧ sget τ c = .own ts := fun c ts h => by
    by_cases hc : i = c
    · subst hc
      by_cases hi : i < τ.length
      · rw [sget_same hi] at h; cases h
      · rw [sget_big (by rw [length_sput]; omega)] at h; cases h
    · rw [sget_ne hc] at h
      exact ⟨hc, h⟩
  refine ⟨R.same, by rw [length_sput, List.length_set]; exact R.len, fun j => ?_, fun a b ts us p hab ha hb ea eb => ?_⟩
  · by_cases hij : i = j
    · subst hij
      by_cases hi : i < τ.length
      · rw [sget_same hi]; trivial
      · rw [sget_big (by rw [length_sput]; omega)]; trivial
    · rw [sget_ne hij, List.getElem?_set_ne hij]
      exact R.slot j
  · obtain ⟨na, ha⟩ := nown a ts ha
    obtain ⟨nb, hb⟩ := nown b us hb
    rw [List.getElem?_set_ne na] at ea
    rw [List.getElem?_set_ne nb] at eb
    exact R.apart a b ts us p hab ha hb ea eb
theorem call_at {k : Nat} {ps : List Str} {S : SpX} {x : Str} {p : Pos} (C : CalX X.prog X.w X.K X.mg X.base k x ps S) (hx0 : ∀ e s, X.xe e s → False) (hr : Room k X.A) (hg : Gl X x) (ha : JA X (e :: es) ws) (hdb : (x == ("__debug__" : Str)) = false)
    (he : starEach (e :: es) X.env = (false, eval e X.env) :: starEach es X.env) (hpl : (backTo pos (starEach es X.env)).any (·.1) = false)
    {pins : List (Addr × Obj)} {s : Shared} {σ : St} {H : Hp} {Q : VK} {R Q0 : T → Prop} {E : Value → Shared → Prop} {τ : List Slot} (I : Inv X pins σ H s) (R0 : RepSt X.K X.H₀ H σ τ) (hw : wCall (S R) ws τ Q0)
    (kq : ∀ t v H', Same H H' → Rep X.K H' t v → Q0 t → Q v H')
    (hE : ∀ H1 H' s1 s' a C dx, Inv X pins σ H1 s1 → Same H H1 → Fly X.prog X.w X.stack H1 s1 H' a (.ref C) s' → DAt s'.heap a dx → Same H1 H' → wishF X.K R C dx H' → E (.ref a) s') :
    wpAny (model X.prog X.w) X.A (eval (.Call (.Name x p) (e :: es) [] pos) X.env) (EP X pins σ Q) E s := by
  obtain ⟨f, fd, F, hb, hk, hm⟩ := C
  refine wpAny_Call_Name_kw (ld_glob I hg hm ?_ hdb)
  have arg := wpAny_mono (ha pos pins s σ H (fun vs H1 => ∃ ts, Same H H1 ∧ Reps X.K H1 ts vs ∧ S R ts Q0) I ⟨τ, _, R0, hw, fun ts vs H1 S1 r q => ⟨ts, S1, r, q⟩⟩) (fun _ _ z => z) (E' := E) fun e s z => (hx0 e s z).elim
  refine PySem.W.callWith_K (h₀ := X.base) I.ok.mod.kin hk (thn arg fun us s1 ⟨vs, H1, I1, r, ts, S1, rr, q⟩ => ⟨I1.kIn, ?_⟩) he hpl
  exact run_at F hr hb (fun a C dx H' s' fl da S2 h1 => hE H1 H' s1 s' a C dx I1 S1 fl da S2 h1) I1 r rr q fun t v H' S2 r2 q2 => kq t v H' (S1.trans S2) r2 q2
def JB (X : Cx) (st : Stmt) (t : (T → Prop) → WS) : Prop := ∀ (pins : List (Addr × Obj)) (s : Shared) (σ : St) (H : Hp) (D : Ends) (R : T → Prop) (E : Value → Shared → Prop) (τ : List Slot) (D0 : DT), Inv X pins σ H s → RepSt X.K X.H₀ H σ τ → t R D0 τ →
  (∀ τ' σ' H', Kp H H' → RepSt X.K X.H₀ H' σ' τ' → D0.nx τ' → D.nx σ' H') →
  (∀ H1 H' s1 s' a C dx, Inv X pins σ H1 s1 → Same H H1 → Fly X.prog X.w X.stack H1 s1 H' a (.ref C) s' → DAt s'.heap a dx → Same H1 H' → wishF X.K R C dx H' → E (.ref a) s') →
  wpAny (model X.prog X.w) X.A (exec st X.env) (fun f s' => f = .next ∧ SP X pins D .next s') E s
theorem jbExpr {k : Nat} {ps : List Str} {S : SpX} {x : Str} {p spos : Pos} (C : CalX X.prog X.w X.K X.mg X.base k x ps S) (hx0 : ∀ e s, X.xe e s → False) (hr : Room k X.A) (hg : Gl X x) (ha : JA X (e :: es) ws) (hdb : (x == ("__debug__" : Str)) = false := by decide)
    (he : starEach (e :: es) X.env = (false, eval e X.env) :: starEach es X.env := by exact star1 rfl) (hpl : (backTo pos (starEach es X.env)).any (·.1) = false := by exact stars rfl) (hs : swapsWith (.Call (.Name x p) (e :: es) [] pos) none spos.line X.env = pure false := by rfl) :
    JB X (.Expr (.Call (.Name x p) (e :: es) [] pos) spos) (fun R => sExpr (wCall (S R) ws)) := by
  intro pins s σ H D R E τ D0 I R0 hw kn hE
  refine wpAny_Expr_any (thn (call_at C hx0 hr hg ha hdb he hpl I R0 hw (Q := fun _ H' => Same H H' ∧ D0.nx τ) (fun t v H' S1 _ q => ⟨S1, q⟩) hE) fun v s1 ⟨y, H1, I1, r1, S1, q1⟩ => ?_) I.quiet hs
  exact ⟨rfl, σ, H1, I1, kn τ σ H1 (.of S1) (R0.mono S1) q1⟩
def Catches (K : PySem.W.Frag) (mg : Str → Option Value) (y : Str) (cs : List Str) : Prop := ∃ CY, mg y = some (.ref CY) ∧ ∀ c ∈ cs, ∀ C, clsAt K c C → PySem.W.exmOne K (.ref C) (.ref CY) = some true
def sTry (tb : (T → Prop) → WS) (i j : Nat) (cs : List Str) : WS := fun D τ => tb (fun x => match x with | .exc c => c ∈ cs ∧ D.nx (sput (sput τ j (.val (.exc c))) i .no) | .exf c f t => c ∈ cs ∧ D.nx (sput (sput τ j (.val (.exf c f t))) i .no) | _ => False) D τ
theorem jtry {tb : (T → Prop) → WS} {st : Stmt} {y n kept : Str} {i j : Nat} {np p1 p2 p3 hpos : Pos} {cs : List Str} (D : DefCx X) (G : Catches X.K X.mg y cs) (hN : X.N.Nodup) (hi : X.N[i]? = some n) (hj : X.N[j]? = some kept) (hij : j ≠ i) (hln : X.env.scope.names.lookup n = some .local) (hlk : X.env.scope.names.lookup kept = some .local)
    (hg : Gl X y) (hb : JB X st tb) (hdy : (y == ("__debug__" : Str)) = false := by decide) (hdn : (n == ("__debug__" : Str)) = false := by decide) (hcn : (n == ("__classdict__" : Str)) = false := by decide) :
    JS X (.Try [st] [.ExceptHandler (some (.Name y np)) (some n) [.Assign [.Name kept p1] (.Name n p2) p3] hpos] [] [] pos) (sTry tb i j cs) := by
  obtain ⟨CY, hm, hcs⟩ := G
  intro pins s σ H Dn I ⟨τ, D0, R0, hw, kn, kr, kb, kc⟩
  refine wpAny_Try_except ?_
  have body := hb pins s σ H Dn _ (fun e s1 => wpAny (model X.prog X.w) X.A (noteFrame e X.env) (fun _ s2 => wpAny (model X.prog X.w) X.A (setFlight e none) (fun _ s3 => wpAny (model X.prog X.w) X.A (handleBy e X.env [.ExceptHandler (some (.Name y np)) (some n) [.Assign [.Name kept p1] (.Name n p2) p3] hpos]) (SP X pins Dn) X.xe s3) X.xe s2) X.xe s1) τ D0 I R0 hw kn ?_
  · refine wpAny_execs_cons (thn body fun f s1 h1 => ?_)
    obtain ⟨rfl, h1⟩ := h1
    exact wpAny_execs_nil (wpAny_execs_nil h1)
  · intro H1 H' s1 s' a C dx I1 S1 fl da S2 ⟨c, h1, hw1⟩
    cases dx with
    | none =>
      obtain ⟨hc, hq⟩ := hw1
      refine catch_at D I1 fl da hN hi hj hij hln hlk hg hm (hcs c hc C h1) hdy hdn hcn fun s7 H7 o I7 S7 e7 oc ⟨ws', od⟩ _ => ?_
      have SS := S1.trans (S2.trans S7)
      exact ⟨_, H7, I7, kn _ _ H7 (.of SS) (((R0.mono SS).put (rep_exc.mpr ⟨a, rfl, ⟨o, C, ws', e7, oc, od, h1⟩⟩)).gone) hq⟩
    | some d =>
      obtain ⟨f, t, od0, u, v, hd, hl, hu, hr, hc, hq⟩ := hw1
      refine catch_at D I1 fl da hN hi hj hij hln hlk hg hm (hcs c hc C h1) hdy hdn hcn fun s7 H7 o I7 S7 e7 oc ⟨ws', od⟩ ed => ?_
      have SS := S1.trans (S2.trans S7)
      exact ⟨_, H7, I7, kn _ _ H7 (.of SS) (((R0.mono SS).put (rep_exf.mpr ⟨a, rfl, d, od0, u, v, ⟨⟨o, C, ws', e7, oc, od, ed, h1⟩, S7 d _ hd, hl⟩, hu, hr.kp (.of S7)⟩)).gone) hq⟩
end
theorem look_ns1 {h : Heap} {d : Addr} {m : Str → Option Value} {f : Str} {u : Value} (n : h.Ns1 d m) (e : m f = some u) : ∃ od, h.get? d = some od ∧ PySem.W.lookIn f od = some (some u) := by
  obtain ⟨o, es, ep, ho, hd, _, _, hf⟩ := n
  refine ⟨o, ho, ?_⟩
  have z := (hf f).trans e
  unfold nsFind findBy at z
  rw [← Array.find?_toList] at z
  unfold PySem.W.lookIn
  rw [hd]
  dsimp only
  cases q : es.toList.find? (fun e => e.key.isStr f) with
  | none => rw [q] at z; cases z
  | some en => rw [q] at z; exact congrArg some z
theorem ns_of {K : PySem.W.Frag} {h : Heap} {N : Addr} {mg : Str → Option Value} {n : Str} {v : Value} (X : K.In h) (G : h.Ns N mg) (e : PySem.W.nsIn K N n = some (some v)) : mg n = some v := by
  obtain ⟨o, es, ep, ho, hd, _, hf⟩ := G
  unfold PySem.W.nsIn at e
  split at e
  · rename_i c d es' n' sl q
    have z := X _ _ q
    rw [ho] at z
    cases z
    cases hd
    split at e
    · rename_i en he
      cases e
      rw [← hf]
      unfold nsFind findBy
      rw [← Array.find?_toList, he]
      rfl
    · split at e <;> cases e
  · cases e
def ownIn (K : PySem.W.Frag) (C fI : Addr) : Bool := match K.lookup C with
  | some ⟨.type "type", _, .cls cd, sl⟩ => (match cd.mro, sl.toList with
    | .ref C' :: bm, [_, _, _, _, some (.builtin n), _] => C' == C && n == "ValueError.__new__" && !cd.hasDel && PySem.W.tailIn K mroVE bm && PySem.W.nsOkIn K cd.ns && PySem.W.nsIn K cd.ns "__init__" == some (some (.ref fI))
    | _, _ => false)
  | _ => false
theorem own_at {K : PySem.W.Frag} {h : Heap} {C fI : Addr} (kin : K.In h) (q : ownIn K C fI = true) :
    ∃ bm N nm qn bb hd sn sub ab col dd k0 k1 k2 k3 k5 mN, h.get? C = some (excClassObj nm qn C N bb bm hd sn sub ab col dd k0 k1 k2 k3 k5 "ValueError.__new__") ∧ h.Ns N mN ∧ mN "__init__" = some (.ref fI) ∧ OwnTail h mroVE bm := by
  unfold ownIn at q
  split at q
  case h_2 => cases q
  rename_i dd cd sl look
  split at q
  case h_2 => cases q
  rename_i C1 bm k0 k1 k2 k3 n k5 em es
  rw [Bool.and_eq_true, Bool.and_eq_true, Bool.and_eq_true, Bool.and_eq_true, Bool.and_eq_true] at q
  obtain ⟨⟨⟨⟨⟨e1, e2⟩, e3⟩, e4⟩, e5⟩, e6⟩ := q
  have e1 := beq_iff_eq.mp e1
  have e2 := beq_iff_eq.mp e2
  have e6 := beq_iff_eq.mp e6
  have obj := kin _ _ look
  obtain ⟨f1, f2, f3, f4, f5, f6, f7, f8, f9, f10, f11⟩ := cd
  have e3 : f11 = false := by simpa using e3
  have em : f3 = .ref C1 :: bm := em
  have hs : sl = #[k0, k1, k2, k3, some (.builtin n), k5] := by
    cases sl with
    | mk l => exact congrArg Array.mk es
  rw [hs, em, e3, e1, e2] at obj
  have G : h.Ns f4 (h.nsMap f4) := .of_isNs (PySem.W.isNs_of_in kin e5)
  exact ⟨bm, f4, f1, f5, f2, f6, f7, f8, f9, f10, dd, k0, k1, k2, k3, k5, h.nsMap f4, obj, G, ns_of kin G e6, PySem.W.tail_of_in kin e4⟩
structure IniAt (K : PySem.W.Frag) (mg : Str → Option Value) (c f : Str) (st : Stmt) (qual slf x y m : Str) (C CY fI : Addr) (mc : Value) (cd : ClassData) (rs : List Addr) (pl : Env → Sem Bool) (p1 p2 p3 p4 p5 p6 p7 p8 p9 r1 r2 r3 r4 : Pos) (k : Nat) (fd : FuncData) : Prop where
  cl : clsAt K c C
  mcl : mg c = some (.ref C)
  own : ownIn K C fI = true
  fn : Fun K "__init__" qual st fI fd
  fc : ∃ o, K.lookup fI = some o ∧ o.cls = .type "function"
  bd : Binds K fd [slf, x] []
  body : defBody st = [.Expr (.Call (.Attribute (.Name y p1) "__init__" p2) [.Name slf p3, .JoinedStr [.Constant (.str m) k p4, .FormattedValue (.Name x p5) 114 none p6] p7] [] p8) p9, .Assign [.Attribute (.Name slf r1) f r2] (.Name x r3) r4]
  sc : FnScope [slf, x] [slf, x] (defScope st)
  v0 : Vis (defScope st) slf
  v1 : Vis (defScope st) x
  gl : (defScope st).names.lookup y = some .globalImplicit
  my : mg y = some (.ref CY)
  sp : PySem.W.specialIn K (.ref CY) "__getattribute__" = some (some (.builtin "type.__getattribute__"))
  rd : PySem.W.readsIn K CY mc = true
  fk : PySem.W.findCls K (.ref CY) mc "__init__" = some (.val (.builtin "ValueError.__init__"))
  sa : PySem.W.findIn K (.ref C) "__setattr__" = some (some (.builtin "object.__setattr__"))
  na : PySem.W.findIn K (.ref C) f = some none
  ci : PySem.W.clsIn K C = some cd
  mro : cd.mro = rs.map Value.ref ++ mroVE
  hd : cd.hasDict = true
  ml : m.length ≤ 1000
  dy : (y == ("__debug__" : Str)) = false
  d0 : (slf == ("__debug__" : Str)) = false
  c0 : (slf == ("__classdict__" : Str)) = false
  d1 : (x == ("__debug__" : Str)) = false
  c1 : (x == ("__classdict__" : Str)) = false
  ht : ∀ env : Env, eval (.Call (.Attribute (.Name y p1) "__init__" p2) [.Name slf p3, .JoinedStr [.Constant (.str m) k p4, .FormattedValue (.Name x p5) 114 none p6] p7] [] p8) env = (do
      let ov ← eval (.Name y p1) env
      standAt p2.atName
      let (f, first) ← holding [ov] (getMethod ov "__init__" (pl env))
      callWith p8 f first (backTo p8 (starEach [.Name slf p3, .JoinedStr [.Constant (.str m) k p4, .FormattedValue (.Name x p5) 114 none p6] p7] env)) (backToKw p8 (keywordEach [] env)))
  sw : ∀ env : Env, swapsWith (.Name x r3) (some (.Attribute (.Name slf r1) f r2)) r4.line env = pure false
def FldCls (K : PySem.W.Frag) (mg : Str → Option Value) (c f : Str) : Prop := ∃ (st : Stmt) (qual self x y m : Str) (C CY fI : Addr) (mc : Value) (cd : ClassData) (rs : List Addr) (pl : Env → Sem Bool) (p1 p2 p3 p4 p5 p6 p7 p8 p9 r1 r2 r3 r4 : Pos) (k : Nat) (fd : FuncData),
  IniAt K mg c f st qual self x y m C CY fI mc cd rs pl p1 p2 p3 p4 p5 p6 p7 p8 p9 r1 r2 r3 r4 k fd
theorem ini_fld {K : PySem.W.Frag} {mg : Str → Option Value} {c f : Str} {st : Stmt} {qual slf x y m : Str} {C CY fI : Addr} {mc : Value} {cd : ClassData} {rs : List Addr} {pl : Env → Sem Bool} {p1 p2 p3 p4 p5 p6 p7 p8 p9 r1 r2 r3 r4 : Pos} {k : Nat} {fd : FuncData}
    (a1 : clsAt K c C) (a2 : mg c = some (.ref C)) (a3 : ownIn K C fI = true) (a4 : Fun K "__init__" qual st fI fd) (a5 : ∃ o, K.lookup fI = some o ∧ o.cls = .type "function") (a6 : Binds K fd [slf, x] [])
    (a7 : defBody st = [.Expr (.Call (.Attribute (.Name y p1) "__init__" p2) [.Name slf p3, .JoinedStr [.Constant (.str m) k p4, .FormattedValue (.Name x p5) 114 none p6] p7] [] p8) p9, .Assign [.Attribute (.Name slf r1) f r2] (.Name x r3) r4])
    (a8 : FnScope [slf, x] [slf, x] (defScope st)) (a9 : Vis (defScope st) slf) (b1 : Vis (defScope st) x) (b2 : (defScope st).names.lookup y = some .globalImplicit) (b3 : mg y = some (.ref CY))
    (b4 : PySem.W.specialIn K (.ref CY) "__getattribute__" = some (some (.builtin "type.__getattribute__"))) (b5 : PySem.W.readsIn K CY mc = true) (b6 : PySem.W.findCls K (.ref CY) mc "__init__" = some (.val (.builtin "ValueError.__init__")))
    (b7 : PySem.W.findIn K (.ref C) "__setattr__" = some (some (.builtin "object.__setattr__"))) (b8 : PySem.W.findIn K (.ref C) f = some none) (b9 : PySem.W.clsIn K C = some cd) (c1 : cd.mro = rs.map Value.ref ++ mroVE) (c2 : cd.hasDict = true) (c3 : m.length ≤ 1000)
    (c4 : (y == ("__debug__" : Str)) = false) (c5 : (slf == ("__debug__" : Str)) = false) (c6 : (slf == ("__classdict__" : Str)) = false) (c7 : (x == ("__debug__" : Str)) = false) (c8 : (x == ("__classdict__" : Str)) = false)
    (c9 : ∀ env : Env, eval (.Call (.Attribute (.Name y p1) "__init__" p2) [.Name slf p3, .JoinedStr [.Constant (.str m) k p4, .FormattedValue (.Name x p5) 114 none p6] p7] [] p8) env = (do
      let ov ← eval (.Name y p1) env
      standAt p2.atName
      let (f, first) ← holding [ov] (getMethod ov "__init__" (pl env))
      callWith p8 f first (backTo p8 (starEach [.Name slf p3, .JoinedStr [.Constant (.str m) k p4, .FormattedValue (.Name x p5) 114 none p6] p7] env)) (backToKw p8 (keywordEach [] env))))
    (d1 : ∀ env : Env, swapsWith (.Name x r3) (some (.Attribute (.Name slf r1) f r2)) r4.line env = pure false) : FldCls K mg c f :=
  ⟨st, qual, slf, x, y, m, C, CY, fI, mc, cd, rs, pl, p1, p2, p3, p4, p5, p6, p7, p8, p9, r1, r2, r3, r4, k, fd, a1, a2, a3, a4, a5, a6, a7, a8, a9, b1, b2, b3, b4, b5, b6, b7, b8, b9, c1, c2, c3, c4, c5, c6, c7, c8, c9, d1⟩
def inSt : Stmt → Stmt
  | .ClassDef _ _ _ (s :: _) _ _ _ _ _ _ _ => s
  | s => s
def FldT : T → Prop
  | .int i => i.natAbs.log2 < 1920
  | .non => True
  | .str x => (reprText x).length ≤ 100000
  | _ => False
theorem fld_says {K : PySem.W.Frag} {H : Hp} {t : T} {v : V} {m : Str} (h : FldT t) (r : Rep K H t v) (hm : m.length ≤ 1000) : Says v ∧ (Str.empty ++ m).length ≤ sizeLine ∧ (Str.empty ++ m ++ txtV v).length ≤ sizeLine ∧ ∀ H', Rep K H' t v := by
  have em : ∀ a b : Str, (a ++ b).length = a.length + b.length := fun a b => Str.length_append a b
  have e0 : Str.empty.length = 0 := rfl
  have l1 : (Str.empty ++ m).length ≤ sizeLine := by rw [em, e0, sizeLine_eq]; omega
  cases t with
  | int i =>
    obtain rfl := rep_int.mp r
    refine ⟨h, l1, ?_, fun H' => rep_int.mpr rfl⟩
    have e := int_text_length_le (k := 1920) (by decide) h
    rw [em, em, e0, sizeLine_eq]
    show 0 + m.length + (Str.ofString (toString i)).length ≤ _
    rw [PySem.ofString_length]
    omega
  | non =>
    obtain rfl := rep_non.mp r
    refine ⟨trivial, l1, ?_, fun H' => rep_non.mpr rfl⟩
    rw [em, em, e0, sizeLine_eq]
    show 0 + m.length + ("None" : Str).length ≤ _
    have : ("None" : Str).length = 4 := by decide
    omega
  | str x =>
    obtain rfl := rep_str.mp r
    have h : (reprText x).length ≤ 100000 := h
    refine ⟨?_, l1, ?_, fun H' => rep_str.mpr rfl⟩
    · show (reprText x).length ≤ sizeLine
      rw [sizeLine_eq]
      omega
    · rw [em, em, e0, sizeLine_eq]
      show 0 + m.length + (reprText x).length ≤ _
      omega
  | _ => exact h.elim
def sRaiseF (R : T → Prop) (c f : Str) (wa : WE) : WS := fun _ τ => wa τ fun t => FldT t ∧ R (.exf c f t)
section
variable {X : Cx} {e : Expr} {wa : WE} {pos : Pos}
theorem jraiseF {R : T → Prop} {c f : Str} {np cpos : Pos} {k : Nat} (G : FldCls X.K X.mg c f) (tk : Takes X R) (hca : X.calm = true) (hr : Room (k + 2) X.A) (hg : Gl X c) (ha : JE X e wa) (dc : (c == ("__debug__" : Str)) = false := by decide)
    (he : starEach [e] X.env = (false, eval e X.env) :: starEach [] X.env := by exact star1 rfl) (hpl : (backTo cpos (starEach [e] X.env)).any (·.1) = false := by exact stars rfl) :
    JS X (.Raise (some (.Call (.Name c np) [e] [] cpos)) none pos) (sRaiseF R c f wa) := by
  obtain ⟨st, qual, self, x, y, m, C, CY, fI, mc, cd, rs, pl, p1, p2, p3, p4, p5, p6, p7, p8, p9, r1, r2, r3, r4, kk, fd, G⟩ := G
  obtain ⟨oc, od, kV, doc, pm, an, cdv, ct, osl, rfl, lk, hcd⟩ := G.fn.ex
  obtain ⟨oI, lkI, hcl⟩ := G.fc
  intro pins s σ H D I ⟨τ, D0, R0, hw, _⟩
  obtain ⟨bm, N, nm, qn, bb, hd, sn, sub, ab, col, dd, k0, k1, k2, k3, k5, mN, hC, hN, hi, TT⟩ := own_at I.ok.mod.kin G.own
  have bd := G.bd
  have ex0 := tk.ex
  rw [G.body] at lk bd
  refine raise_at (P := fun v H1 => ∃ t, Same H H1 ∧ Rep X.K H1 t v ∧ FldT t ∧ R (.exf c f t)) PySem.F.excBase_ValueError (by decide) (TT.hasType rfl) hC hN hi (I.ok.mod.kin _ _ lkI) hcl TT I hca hg G.mcl ha he hpl ⟨τ, _, R0, hw, fun t v H1 S1 r q => ⟨t, S1, r, q⟩⟩ (fun s2 v u h' a H2 I2 hP ru mk le => ?_) dc
  obtain ⟨t, S2, rt, ft, hR⟩ := hP
  obtain ⟨sv, l1, l2, all⟩ := fld_says ft rt G.ml
  have I2' : Inv X pins σ H2 { s2 with heap := h', toks := s2.toks } := I2.kept mk.keeps
  have A0 := I2'.env0
  have hA : Env0 X.prog X.w X.K X.mg X.base (X.A.under (.builtin "type.__call__" ⟨[.ref C, u], []⟩)) X.stack { s2 with heap := h' } H2 := ⟨A0.frames, A0.mod, A0.bs, A0.bsz, A0.funs, A0.frf, A0.hok, A0.bare⟩
  refine init_run (j := k) (pl := pl) I2 mk le ru sv lk hcd G.sc G.v0 G.v1 G.gl (hr.make C [u] []) hA PySem.F.excBase_ValueError hC TT G.my l1 l2 G.sp G.rd G.fk (by decide) G.sa G.na G.ci G.mro G.hd (bd _ _ I2'.kIn rfl) (fun s' t1 d u' ru' ld q1 q2 J => ?_) G.dy G.d0 G.c0 G.d1 G.c1 G.ht G.sw
  refine ⟨rfl, ⟨t1, d, q1⟩, J, ?_⟩
  obtain ⟨od', hod, hlk⟩ := look_ns1 (f := f) (u := u') q2 (by rw [if_pos rfl])
  have nd : s2.heap.get? d = none := Heap.get?_none_of_le ld
  have ltd : ∀ {b : Addr} {o : Obj}, s2.heap.get? b = some o → b ≠ d := fun q z => by rw [z, nd] at q; cases q
  obtain ⟨mL, hnL, _⟩ := I2.loc
  obtain ⟨oL, esL, epL, hoL, _⟩ := id hnL
  have hdn := fresh_H I2 nd
  have Jt : Inv X pins σ (upd H2 d (kn od')) s' := Inv.track J hdn hod (fresh_0 I2 ex0 nd) (Ne.symm (ltd hoL)) (fun x c q => by obtain ⟨v, o, e, _⟩ := I2.cell x c q; exact ltd e) fun p hp => ltd (I2.pin p hp).1
  have ts : Same H2 (upd H2 d (kn od')) := track_same hdn
  have nda : a ≠ d := fun z => by
    rw [z, hod] at q1
    cases q1
    cases hlk
  refine tk.new pins σ _ s' a C t1 (some d) Jt ((R0.same.trans S2).trans ts) q1 ?_ (fresh_0 I2 ex0 mk.new) ⟨c, G.cl, f, t, od', u', v, upd_same, hlk, ru', all _, hR⟩
  rw [upd_ne nda]
  exact fresh_H I2 mk.new
end
end TL
end
section
set_option Elab.async false
set_option linter.all false
set_option maxRecDepth 100000
set_option maxHeartbeats 4000000
namespace TL
open PySem PySem.Spec PyProof.Rows L2
section
variable {prog : Program} {w : World} {A : Around} {E : Value → Shared → Prop} {h : Heap} {g : Array GenState} {d : Drawn} {t : Nat} {os : OsState} {a C : Addr} {o : Obj} {K : PySem.W.Frag}
structure ClsTold (K : PySem.W.Frag) (C : Addr) : Prop where
  ga : PySem.W.findIn K (.ref C) "__getattribute__" = some (some (.builtin "BaseException.__getattribute__"))
  cl : PySem.W.findIn K (.ref C) "__class__" = some (some (.builtin "object.__class__"))
  no : PySem.W.findIn K (.ref C) "__getattr__" = some none
  sb : PySem.W.subIn K (.ref C) (.type "BaseException") = some true
  so : PySem.W.subIn K (.ref C) (.type "object") = some true
theorem exc_get {R : Result → Shared → Prop} (X : K.In h) (T : ClsTold K C) (hx : h.get? a = some o) (hc : o.cls = .ref C) (hq : R (.ok (.ret (.ref C))) ⟨h, g, d, t, os⟩) :
    codeAny (model prog w) A (.call (.builtin "getset_descriptor.__get__") ⟨[.builtin "object.__class__", .ref a, .ref C], []⟩) R ⟨h, g, d, t, os⟩ := by
  have hT5 : (⟨h, g, d, t, os⟩ : Shared).TypeIs (.builtin "object.__class__") "getset_descriptor" := F.typeOf_object_class
  have S2 : PySem.W.Looks (model prog w) h (isSubtype (.ref C) (.type (".".intercalate ("object.__class__".cutAt '.').dropLast))) true := by
    rw [F.owner_object_class]
    exact PySem.W.looks_subIn X T.so
  refine codeAny_call_builtin F.slot_gs_get.plain F.entry_gs_get (F.slot_gs_get.check _ _ _ _ _ _ _ _ hT5 (F.args_gs_get _ _ _) ?_)
  repeat (any_goals (first | assumption | (with_reducible refine wpAny_loadPart_at hx ?_; rw [hc]) | with_reducible refine S2.at ?_ | wp_step))
  refine ⟨Code.quiet_builtin _ (by decide +kernel), codeAny_builtin F.entry_object_class ?_⟩
  repeat (any_goals (first | assumption | (with_reducible refine wpAny_loadPart_at hx ?_; rw [hc]) | wp_step))
theorem exc_entry {tk : Tok} {Q : Fin → Shared → Prop} (X : K.In h) (T : ClsTold K C) (hx : h.get? a = some o) (hc : o.cls = .ref C) (hq : Q (.done (.ret (.ref C))) ⟨h, g, d, t, os⟩) :
    wpAny (model prog w) A (Builtin.«object.__getattribute__» ⟨[.ref a, .str "__class__" tk], []⟩) Q E ⟨h, g, d, t, os⟩ := by
  have hT5 : (⟨h, g, d, t, os⟩ : Shared).TypeIs (.builtin "object.__class__") "getset_descriptor" := F.typeOf_object_class
  have L1 : PySem.W.Looks (model prog w) h (typeLookup (.ref C) "__class__") _ := PySem.W.looks_findIn X T.cl
  have f5 := F.typeOf_object_class
  have f6 := F.slot_gs_get.lookup
  have f7 := F.slot_gs_set.lookup
  repeat (any_goals (first | assumption | (with_reducible refine wpAny_loadPart_at hx ?_; rw [hc]) | with_reducible refine L1.at ?_ | wp_step))
  refine exc_get X T hx hc ?_
  repeat (any_goals (first | assumption | wp_step))
theorem exc_check {M : Model} {nameV : Value} {Q : Unit → Shared → Prop} (X : K.In h) (T : ClsTold K C) (hx : h.get? a = some o) (hc : o.cls = .ref C) (hq : Q () ⟨h, g, d, t, os⟩) : wpAny M A (checkBuiltinCall "BaseException.__getattribute__" ⟨[.ref a, nameV], []⟩) Q E ⟨h, g, d, t, os⟩ := by
  have k1 : builtinKind "BaseException.__getattribute__" = some .slot := by decide +kernel
  have k2 : splitId "BaseException.__getattribute__" = some ("BaseException", "__getattribute__") := by decide +kernel
  have S1 : PySem.W.Looks M h (isSubtype (.ref C) (.type "BaseException")) true := PySem.W.looks_subIn X T.sb
  have hargs := F.args_bexc_ga (.ref a) nameV
  simp only [checkBuiltinCall, k1, k2]
  refine wpAny_bind ?_
  unfold isInstance
  repeat (first | (with_reducible refine wpAny_loadPart_at hx ?_; rw [hc]) | with_reducible refine S1.at ?_ | wp_step)
  exact hq
theorem exc_by {tk : Tok} {Q : Value → Shared → Prop} (X : K.In h) (T : ClsTold K C) (hx : h.get? a = some o) (hc : o.cls = .ref C) (hq : Q (.ref C) ⟨h, g, d, t, os⟩) : wpAny (model prog w) A (getAttrBy (.ref a) (.str "__class__" tk) false) Q E ⟨h, g, d, t, os⟩ := by
  have L1 : PySem.W.Looks (model prog w) h (typeLookup (.ref C) "__getattribute__") _ := PySem.W.looks_findIn X T.ga
  have L2 : PySem.W.Looks (model prog w) h (typeLookup (.ref C) "__getattr__") _ := PySem.W.looks_findIn X T.no
  have f3 := F.excAttr_ValueError.ga.bind (.ref a)
  have x2 : (Value.builtin "BaseException.__getattribute__" == Value.builtin "object.__getattribute__") = false := by decide +kernel
  have x1 : (onTheHeap (Value.ref C) && Value.builtin "BaseException.__getattribute__" == Value.builtin "object.__getattribute__") = false := by rw [x2]; rfl
  repeat (any_goals (first | assumption | (with_reducible refine wpAny_loadPart_at hx ?_; rw [hc]) | with_reducible refine L1.at ?_ | with_reducible refine L2.at ?_ | wp_step))
  refine codeAny_call_builtin F.excAttr_ValueError.ga.plain F.entry_bexc_ga (exc_check X T hx hc (exc_entry X T hx hc ?_))
  repeat (any_goals (first | assumption | wp_step))
theorem exc_attr {Q : Option Value → Shared → Prop} (X : K.In h) (T : ClsTold K C) (hx : h.get? a = some o) (hc : o.cls = .ref C) (hq : Q (some (.ref C)) ⟨h, g, d, t + 1, os⟩) : wpAny (model prog w) A (getAttr? (.ref a) "__class__") Q E ⟨h, g, d, t, os⟩ := by
  unfold getAttr? getAttrBy?
  repeat (any_goals (first | assumption | with_reducible apply exc_by X T hx hc | wp_step))
end
end TL
end
section
set_option Elab.async false
set_option linter.all false
set_option maxRecDepth 100000
set_option maxHeartbeats 4000000
namespace TL
open PySem PySem.Spec PyProof.Rows L2
def IsCls (K : PySem.W.Frag) (C : Addr) : Prop := ∃ oc od cd sl, K.lookup C = some ⟨oc, od, .cls cd, sl⟩
theorem isCls_own {K : PySem.W.Frag} {C fI : Addr} (q : ownIn K C fI = true) : IsCls K C := by
  unfold ownIn at q
  split at q
  · rename_i ho; exact ⟨_, _, _, _, ho⟩
  · cases q
theorem kitx_exc {K : PySem.W.Frag} {a C : Addr} (T : ClsTold K C) (hC : IsCls K C) : PySem.W.KitX K (.ref a) (.ref C) (fun h => ∃ o, h.get? a = some o ∧ o.cls = .ref C) := by
  obtain ⟨oc, od, cd, sl, hC⟩ := hC
  constructor
  case ty => exact fun M h _ ⟨o, h1, h2⟩ => h2 ▸ (PySem.W.Looks.ld h1).andThen .now
  case it =>
    intro M h X _ A Q E s k q
    unfold isType loadHead
    exact wpAny_bind (wpAny_loadPart (k _ _ (X _ _ hC)) (wpAny_pure q))
  case ne =>
    intro h tp dd its n sl' X htp
    refine Bool.eq_false_iff.mpr fun q => ?_
    have e : C = tp := Value.ref.inj (beq_iff_eq.mp q)
    subst e
    have z := (X _ _ hC).symm.trans htp
    cases z
  case ca =>
    intro prog w A E Q s X ⟨o, h1, h2⟩ k
    obtain ⟨h, g, d, t, os⟩ := s
    exact exc_attr X T h1 h2 k
section
variable {X : Cx} {e : Expr} {es : List Expr} {wa : WE} {pos : Pos}
def Ans1 (K : PySem.W.Frag) (v : Value) (cs : List (Str × Bool)) : Prop := ∀ c b, cs.lookup c = some b → ∀ C, clsAt K c C → ClsTold K C ∧ IsCls K C ∧ PySem.W.kitOne K (.ref C) v = some b
def AnsN (K : PySem.W.Frag) (vs : List Value) (cs : List (Str × Bool)) : Prop := ∀ c b, cs.lookup c = some b → ∀ C, clsAt K c C → ClsTold K C ∧ IsCls K C ∧ PySem.W.kitAny K (.ref C) vs = some b
def wIsE (cs : List (Str × Bool)) (wa : WE) : WE := fun τ Q => wa τ fun t => match t with | .exc c => (match cs.lookup c with | some b => Q (.bl b) | none => False) | .exf c _ _ => (match cs.lookup c with | some b => Q (.bl b) | none => False) | _ => False
theorem exc_now {pins : List (Addr × Obj)} {σ : St} {H : Hp} {s : Shared} {c : Str} {p : Addr} (I : Inv X pins σ H s) (q : ExcAt X.K H c p) : ∃ C, clsAt X.K c C ∧ ∃ o, s.heap.get? p = some o ∧ o.cls = .ref C := by
  obtain ⟨o, C, ws, h1, h2, h3, h4⟩ := q.ex
  exact ⟨C, h4, o, (I.hok p _ h1).1, h2⟩
theorem isE_at {K : PySem.W.Frag} {H : Hp} {t : T} {v : V} {cs : List (Str × Bool)} {Q : T → Prop} (q : match t with | .exc c => (match cs.lookup c with | some b => Q (.bl b) | none => False) | .exf c _ _ => (match cs.lookup c with | some b => Q (.bl b) | none => False) | _ => False) (r : Rep K H t v) :
    ∃ p c b, v = .ref p ∧ ExcAt K H c p ∧ cs.lookup c = some b ∧ Q (.bl b) := by
  have look : ∀ c : Str, (match cs.lookup c with | some b => Q (.bl b) | none => False) → ∃ b, cs.lookup c = some b ∧ Q (.bl b) := fun c q => by
    cases z : cs.lookup c with
    | none => rw [z] at q; exact q.elim
    | some b => rw [z] at q; exact ⟨b, rfl, q⟩
  cases t with
  | exc c =>
    obtain ⟨p, rfl, hp⟩ := rep_exc.mp r
    obtain ⟨b, e, q⟩ := look c q
    exact ⟨p, c, b, rfl, hp, e, q⟩
  | exf c f u =>
    obtain ⟨p, rfl, _, _, _, _, hp, _⟩ := rep_exf.mp r
    obtain ⟨b, e, q⟩ := look c q
    obtain ⟨o, C, ws, h1, h2, h3, _, h4⟩ := hp.ex
    exact ⟨p, c, b, rfl, ⟨o, C, ws, h1, h2, h3, h4⟩, e, q⟩
  | _ => exact q.elim
theorem call_isE1 {v : Value} {v' : V} {cs : List (Str × Bool)} (hv : ∀ u, RelV v' u → u = v) (G : Ans1 X.K v cs) : CallR X (.builtin "isinstance") (fun xs H Q => ∃ p c b, xs = [.ref p, v'] ∧ ExcAt X.K H c p ∧ cs.lookup c = some b ∧ Q (.bl b) H) := by
  intro pins s σ H xs us Q I r h
  obtain ⟨p, c, b, rfl, hp, hl, q⟩ := h
  obtain ⟨u, u', rfl, rx, r2⟩ := vals2 r
  cases rx
  obtain rfl := hv u' r2
  obtain ⟨C, hC, ho⟩ := exc_now I hp
  obtain ⟨g1, g2, g3⟩ := G c b hl C hC
  exact PySem.W.kia_one (kitx_exc g1 g2) I.kIn ho g3 (fun z => nomatch z) fun tk => ⟨.bl b, H, I.tok tk, rfl, q⟩
theorem jisO {p pc : Pos} {y : Str} {D : Addr} {cs : List (Str × Bool)} (G : Ans1 X.K (.ref D) cs) (ha : JE X e wa) (hg : Gl X "isinstance") (hm : X.mg "isinstance" = none) (hgc : Gl X y) (hmc : X.mg y = some (.ref D))
    (hd : (y == ("__debug__" : Str)) = false := by decide) (hs : starEach [e, .Name y pc] X.env = (false, eval e X.env) :: starEach [.Name y pc] X.env := by exact star1 rfl) (hs1 : starEach [.Name y pc] X.env = (false, eval (.Name y pc) X.env) :: starEach [] X.env := by exact star1 rfl)
    (hpl : (backTo pos (starEach [.Name y pc] X.env)).any (·.1) = false := by exact stars rfl) : JE X (.Call (.Name "isinstance" p) [e, .Name y pc] [] pos) (wIsE cs wa) := by
  refine pe_of (pe_callB (call_isE1 (v' := .ref D) (fun u r => r) G) hg hm boot_isinstance (pa_cons ha (pa_cons (pe_glob (v := .ref D) hgc hmc rfl hd) pa_nil hs1) hs) (by decide) (by decide) hs hpl) fun σ H Q ⟨τ, Q0, R, hw, k⟩ => ?_
  refine ⟨τ, _, R, hw, fun t v H1 S1 r1 q1 => ?_⟩
  obtain ⟨p, c, b, rfl, hp, z, q⟩ := isE_at q1 r1
  exact ⟨p, c, b, rfl, hp, z, k _ _ H1 S1 (rep_bl.mpr rfl) q⟩
theorem jisB {p pc : Pos} {y : Str} {T : String} {cs : List (Str × Bool)} (G : Ans1 X.K (.type T) cs) (ha : JE X e wa) (hg : Gl X "isinstance") (hm : X.mg "isinstance" = none) (hgc : Gl X y) (hmc : X.mg y = none) (hvc : bootBuiltins y = some (.type T))
    (hn : y ≠ "__name__" := by decide) (hd : (y == ("__debug__" : Str)) = false := by decide) (hs : starEach [e, .Name y pc] X.env = (false, eval e X.env) :: starEach [.Name y pc] X.env := by exact star1 rfl) (hs1 : starEach [.Name y pc] X.env = (false, eval (.Name y pc) X.env) :: starEach [] X.env := by exact star1 rfl)
    (hpl : (backTo pos (starEach [.Name y pc] X.env)).any (·.1) = false := by exact stars rfl) : JE X (.Call (.Name "isinstance" p) [e, .Name y pc] [] pos) (wIsE cs wa) := by
  refine pe_of (pe_callB (call_isE1 (v' := .ty T) (fun u r => r) G) hg hm boot_isinstance (pa_cons ha (pa_cons (pe_bltn (v := .ty T) hgc hmc hvc rfl hn hd) pa_nil hs1) hs) (by decide) (by decide) hs hpl) fun σ H Q ⟨τ, Q0, R, hw, k⟩ => ?_
  refine ⟨τ, _, R, hw, fun t v H1 S1 r1 q1 => ?_⟩
  obtain ⟨p, c, b, rfl, hp, z, q⟩ := isE_at q1 r1
  exact ⟨p, c, b, rfl, hp, z, k _ _ H1 S1 (rep_bl.mpr rfl) q⟩
def ClsRow (X : Cx) (es : List Expr) (Ds : List Addr) : Prop := PA X es (fun σ H Q => Q (Ds.map V.ref) H)
theorem crow0 : ClsRow X [] [] := pa_nil
theorem crow {y : Str} {D : Addr} {pc : Pos} {Ds : List Addr} (hg : Gl X y) (hm : X.mg y = some (.ref D)) (h : ClsRow X es Ds) (hd : (y == ("__debug__" : Str)) = false := by decide) : ClsRow X (.Name y pc :: es) (D :: Ds) :=
  pa_of (pa_cons (pe_glob (v := .ref D) hg hm rfl hd) h (star1 rfl)) fun σ H Q q => q
theorem vals_refs : ∀ {Ds : List Addr} {us : List Value}, Vals (Ds.map V.ref) us → us = Ds.map Value.ref
  | [], _, .nil => rfl
  | d :: Ds, _, .cons r rr => by rw [vals_refs rr]; cases r; rfl
theorem call_isEN {Ds : List Addr} {cs : List (Str × Bool)} (G : AnsN X.K (Ds.map Value.ref) cs) : CallR X (.builtin "isinstance") (fun xs H Q => ∃ p c b tp, xs = [.ref p, .ref tp] ∧ ExcAt X.K H c p ∧ H tp = some (.tup (Ds.map V.ref)) ∧ cs.lookup c = some b ∧ Q (.bl b) H) := by
  intro pins s σ H xs us Q I r h
  obtain ⟨p, c, b, tp, rfl, hp, htp, hl, q⟩ := h
  obtain ⟨u, u', rfl, rx, r2⟩ := vals2 r
  cases rx
  cases r2
  obtain ⟨C, hC, ho⟩ := exc_now I hp
  obtain ⟨g1, g2, g3⟩ := G c b hl C hC
  obtain ⟨_, its, rv, ob, e1, e2, n, e3⟩ := I.hok tp _ htp
  have := vals_refs rv
  subst this
  obtain ⟨c0, d0, dt, sl⟩ := ob
  dsimp only at e2 e3
  subst e2 e3
  exact PySem.W.kia_tup (kitx_exc g1 g2) I.kIn ho e1 g3 (fun z => nomatch z) fun tk => ⟨.bl b, H, I.tok tk, rfl, q⟩
theorem jisN {p pc : Pos} {k1 : Nat} {ys : List Expr} {Ds : List Addr} {cs : List (Str × Bool)} (G : AnsN X.K (Ds.map Value.ref) cs) (hl : Ds.length ≤ 1000) (ha : JE X e wa) (hg : Gl X "isinstance") (hm : X.mg "isinstance" = none) (hy : ClsRow X ys Ds)
    (hs : starEach [e, .Tuple ys k1 pc] X.env = (false, eval e X.env) :: starEach [.Tuple ys k1 pc] X.env := by exact star1 rfl) (hs1 : starEach [.Tuple ys k1 pc] X.env = (false, eval (.Tuple ys k1 pc) X.env) :: starEach [] X.env := by exact star1 rfl)
    (hpl : (backTo pos (starEach [.Tuple ys k1 pc] X.env)).any (·.1) = false := by exact stars rfl) : JE X (.Call (.Name "isinstance" p) [e, .Tuple ys k1 pc] [] pos) (wIsE cs wa) := by
  refine pe_of (pe_callB (call_isEN G) hg hm boot_isinstance (pa_cons ha (pa_cons (pe_tup hy) pa_nil hs1) hs) (by decide) (by decide) hs hpl) fun σ H Q ⟨τ, Q0, R, hw, k⟩ => ?_
  refine ⟨τ, _, R, hw, fun t v H1 S1 r1 q1 => ⟨by rw [List.length_map]; exact few hl, fun tp htp => ?_⟩⟩
  obtain ⟨p, c, b, rfl, hp, z, q⟩ := isE_at q1 r1
  exact ⟨p, c, b, tp, rfl, hp.kp (.of (same_new htp _)), upd_same, z, k _ _ _ (S1.trans (same_new htp _)) (rep_bl.mpr rfl) q⟩
end
end TL
namespace TL
open PySem PySem.Spec PyProof.Rows L2
section
variable {K : PySem.W.Frag} {mg : Str → Option Value} {c0 y : Str} {D DY : Addr} {b0 : Bool} {v : Value} {vs : List Value}
theorem cls_same {C : Addr} (h : clsAt K c0 C) (d : clsAt K c0 D) : C = D := Value.ref.inj (Option.some.inj (Option.some.inj (h.symm.trans d)))
theorem ans1_nil : Ans1 K v [] := fun c b h => by cases h
theorem ansN_nil : AnsN K vs [] := fun c b h => by cases h
theorem look_cons {c : Str} {b : Bool} {cs : List (Str × Bool)} (h : List.lookup c ((c0, b0) :: cs) = some b) : (c = c0 ∧ b = b0) ∨ cs.lookup c = some b := by
  rw [List.lookup] at h
  split at h
  · rename_i q
    exact .inl ⟨beq_iff_eq.mp q, (Option.some.inj h).symm⟩
  · exact .inr h
theorem ans1_cons {cs : List (Str × Bool)} (d : clsAt K c0 D) (T : ClsTold K D) (I : IsCls K D) (k : PySem.W.kitOne K (.ref D) v = some b0) (r : Ans1 K v cs) : Ans1 K v ((c0, b0) :: cs) := fun c b h C hC => by
  rcases look_cons h with ⟨rfl, rfl⟩ | h
  · obtain rfl := cls_same hC d
    exact ⟨T, I, k⟩
  · exact r c b h C hC
theorem ansN_cons {cs : List (Str × Bool)} (d : clsAt K c0 D) (T : ClsTold K D) (I : IsCls K D) (k : PySem.W.kitAny K (.ref D) vs = some b0) (r : AnsN K vs cs) : AnsN K vs ((c0, b0) :: cs) := fun c b h C hC => by
  rcases look_cons h with ⟨rfl, rfl⟩ | h
  · obtain rfl := cls_same hC d
    exact ⟨T, I, k⟩
  · exact r c b h C hC
theorem catches_nil (m : mg y = some (.ref DY)) : Catches K mg y [] := ⟨DY, m, fun c h => by cases h⟩
theorem catches_cons {cs : List Str} (d : clsAt K c0 D) (m : mg y = some (.ref DY)) (k : PySem.W.exmOne K (.ref D) (.ref DY) = some true) (r : Catches K mg y cs) : Catches K mg y (c0 :: cs) := by
  obtain ⟨E, hE, r⟩ := r
  obtain rfl : DY = E := Value.ref.inj (Option.some.inj (m.symm.trans hE))
  refine ⟨DY, m, fun c h C hC => ?_⟩
  rcases List.mem_cons.mp h with rfl | h
  · obtain rfl := cls_same hC d
    exact k
  · exact r c h C hC
end
structure GetC (K : PySem.W.Frag) (f : Str) (C : Addr) (cd : ClassData) (rs : List Addr) : Prop where
  ga : PySem.W.findIn K (.ref C) "__getattribute__" = some (some (.builtin "BaseException.__getattribute__"))
  no : PySem.W.findIn K (.ref C) "__getattr__" = some none
  ci : PySem.W.clsIn K C = some cd
  mro : cd.mro = rs.map Value.ref ++ mroVE
  hd : cd.hasDict = true
  na : PySem.W.findIn K (.ref C) f = some none
def GetF (K : PySem.W.Frag) (f : Str) (cs : List Str) : Prop := ∀ c ∈ cs, ∀ C, clsAt K c C → ∃ cd rs, GetC K f C cd rs
theorem getF_nil {K : PySem.W.Frag} {f : Str} : GetF K f [] := fun c h => by cases h
theorem getF_cons {K : PySem.W.Frag} {f c0 : Str} {D : Addr} {cs : List Str} {cd : ClassData} {rs : List Addr} (d : clsAt K c0 D) (g : GetC K f D cd rs) (r : GetF K f cs) : GetF K f (c0 :: cs) := fun c h C hC => by
  rcases List.mem_cons.mp h with rfl | h
  · obtain rfl := cls_same hC d
    exact ⟨cd, rs, g⟩
  · exact r c h C hC
theorem handed_rep {K : PySem.W.Frag} {H : Hp} {t : T} {v : V} {u : Value} (r : Rep K H t v) (h : RelV v u) : PySem.W.handedIn u = true := by
  cases t with
  | non => obtain rfl := rep_non.mp r; obtain rfl : u = .none := h; rfl
  | bl b => obtain rfl := rep_bl.mp r; obtain rfl : u = .bool b := h; rfl
  | int i => obtain rfl := rep_int.mp r; obtain ⟨t, rfl⟩ := h; rfl
  | str x => obtain rfl := rep_str.mp r; obtain ⟨t, rfl⟩ := h; rfl
  | tup ts => obtain ⟨p, _, rfl, _⟩ := rep_tup.mp r; obtain rfl : u = .ref p := h; rfl
  | lst ts => obtain ⟨p, _, rfl, _⟩ := rep_lst.mp r; obtain rfl : u = .ref p := h; rfl
  | dct => obtain ⟨p, rfl, _⟩ := rep_dct.mp r; obtain rfl : u = .ref p := h; rfl
  | exc c => obtain ⟨p, rfl, _⟩ := rep_exc.mp r; obtain rfl : u = .ref p := h; rfl
  | exf c f t => obtain ⟨p, rfl, _⟩ := rep_exf.mp r; obtain rfl : u = .ref p := h; rfl
def wFld (f : Str) (cs : List Str) (wa : WE) : WE := fun τ Q => wa τ fun t => match t with | .exf c g u => g = f ∧ c ∈ cs ∧ Q u | _ => False
section
variable {X : Cx} {e : Expr} {wa : WE} {pos : Pos}
theorem jfld {f : Str} {cs : List Str} (G : GetF X.K f cs) (ha : JE X e wa) (hb : attributeBase e f X.env (eval e X.env) = eval e X.env := by rfl) : JE X (.Attribute e f pos) (wFld f cs wa) := by
  intro pins s σ H Q I ⟨τ, Q0, R, hw, k⟩
  refine attr_of hb (thn (ha pins s σ H (fun v H1 => ∃ t, Same H H1 ∧ Rep X.K H1 t v ∧ (match t with | .exf c g u => g = f ∧ c ∈ cs ∧ Q0 u | _ => False)) I ⟨τ, _, R, hw, fun t v H1 S1 r q => ⟨t, S1, r, q⟩⟩) fun u s1 ⟨x, H1, I1, rx, t, S1, rt, q⟩ => ?_)
  cases t with
  | exf c g t =>
    obtain ⟨rfl, hc, q⟩ := q
    obtain ⟨p, rfl, d, od, u', y, E, ry, rt'⟩ := rep_exf.mp rt
    obtain ⟨o, C, ws, h1, h2, h3, h4, h5⟩ := E.ex
    obtain ⟨cd, rs, g⟩ := G _ hc C h5
    have ox := (I1.hok p _ h1).1
    have odx := (I1.hok d _ E.dict).1
    have IA : PySem.W.InstAt s1.heap p o C (some od) := ⟨ox, h2, by unfold PySem.W.notCls; rw [h3], by rw [h4]; exact odx⟩
    obtain rfl : u = .ref p := rx
    have hh : PySem.W.hasDictIn X.K C = true := by unfold PySem.W.hasDictIn; rw [g.ci]; exact g.hd
    exact get_exc I1.kIn IA g.ga g.no g.ci g.mro (PySem.W.findObj_own hh g.na rfl E.look) (handed_rep rt' ry) ⟨y, H1, I1.tok _, ry, k t y H1 S1 rt' q⟩
  | _ => exact q.elim
end
end TL
end
section
set_option Elab.async false
set_option linter.all false
set_option maxRecDepth 100000
set_option maxHeartbeats 4000000
namespace TL
open PySem PySem.Spec PyProof.Rows L2
section
variable {X : Cx} {a b c e : Expr} {es : List Expr} {wa wb wc w : WE} {pos : Pos}
def wOIx (i : Nat) (wb : WE) : WE := fun τ Q => match sget τ i with
  | .own ts => wb τ fun y => (match y with | .int k => (match atI ts k with | some t => Q t | none => False) | _ => False)
  | _ => False
def wOLen (i : Nat) : WE := fun τ Q => match sget τ i with | .own ts => Q (.int ts.length) | _ => False
def tONe (i : Nat) : WT := fun τ Q => match sget τ i with | .own ts => Q (!ts.isEmpty) | _ => False
end
end TL
end
section
set_option Elab.async false
set_option linter.all false
set_option maxRecDepth 100000
set_option maxHeartbeats 4000000
namespace TL
open PySem PySem.Spec PyProof.Rows L2
section
variable {X : Cx} {a b c e : Expr} {es : List Expr} {wa wb wc w : WE} {pos : Pos}
def rIxST (x y : T) (Q : T → Prop) : Prop := match x, y with
  | .str z, .int i => z.length ≤ 1000 ∧ (match atI z.cps.toList i with | some c => Q (.str ⟨#[c]⟩) | none => False)
  | _, _ => False
def rAddST (x y : T) (Q : T → Prop) : Prop := match x, y with
  | .str i, .str j => i.length + j.length ≤ 1000 ∧ Q (.str (i ++ j))
  | _, _ => False
def repS (z : Str) (n : Int) : Str := if n < 1 then Str.empty else if (n == 1 || z.length == 0) = true then z else ⟨(List.replicate n.toNat z.cps).foldl (· ++ ·) #[]⟩
def rMulST (x y : T) (Q : T → Prop) : Prop := match x, y with
  | .str z, .int n => z.length ≤ 1 ∧ 0 ≤ n ∧ n ≤ 1000 ∧ Q (.str (repS z n))
  | _, _ => False
def tTruT (wa : WE) : WT := fun τ Q => wa τ fun x => match x with | .bl k => Q k | .lst ts => Q (!ts.isEmpty) | _ => False
def strsOf : List T → Option (List Str)
  | [] => some []
  | .str z :: r => (strsOf r).map (z :: ·)
  | _ => none
def cInT (x y : T) (Q : Bool → Prop) : Prop := match x, y with
  | .str z, .lst ts => (match strsOf ts with | some zs => Q (zs.contains z) | none => False)
  | .int z, .lst ts => (match intsOf ts with | some zs => Q (zs.contains z) | none => False)
  | _, _ => False
def cNotInT (x y : T) (Q : Bool → Prop) : Prop := match x, y with
  | .str z, .lst ts => (match strsOf ts with | some zs => Q (!zs.contains z) | none => False)
  | .int z, .lst ts => (match intsOf ts with | some zs => Q (!zs.contains z) | none => False)
  | _, _ => False
def rSortT (ts : List T) (Q : T → Prop) : Prop := match ts with
  | [.lst xs] => (match strsOf xs with | some zs => zs.length < 64 ∧ ∀ us : List Str, us.Perm zs → sortedS us = true → Q (.lst (us.map T.str)) | none => False)
  | _ => False
end
end TL
end
section
set_option maxRecDepth 100000
set_option maxHeartbeats 4000000
set_option linter.all false
namespace TL
open PySem PySem.Spec PyProof.Rows L2
section
variable {X : Cx}
end
end TL
namespace TL
open PySem PySem.Spec PyProof.Rows L2
section
end
end TL
namespace TL
open PySem PySem.Spec PyProof.Rows L2
section
variable {X : Cx}
end
end TL
namespace TL
open PySem PySem.Spec PyProof.Rows L2
section
variable {X : Cx}
end
end TL
end
section
set_option Elab.async false
set_option linter.all false
set_option maxRecDepth 100000
set_option maxHeartbeats 4000000
namespace TL
open PySem PySem.Spec PyProof.Rows L2
section
variable {X : Cx} {a b c e : Expr} {es : List Expr} {wa wb wc w : WE} {pos : Pos}
end
end TL
end
section
set_option Elab.async false
set_option linter.all false
set_option maxRecDepth 100000
set_option maxHeartbeats 4000000
namespace TL
open PySem PySem.Spec PyProof.Rows L2
theorem entry_dict_loop : entryFor table "dict.update.loop" = some Builtin.«dict.update.loop» := entryFor_of_tree (by kernel_rfl)
theorem plain_dict_loop : plainId "dict.update.loop" = true := by decide +kernel
theorem list_no_keys : typeLookup (.type "list") "keys" = pure none := by rw [typeLookup_type, builtinLookup_eq_fast]; kernel_rfl
section
variable {prog : Program} {w : World} {A : Around} {E : Value → Shared → Prop} {s : Shared}
def PairsIn (prog : Program) (w : World) (h : Heap) (no : List Addr) (P : Nat → Value → Prop) (ps : List (Key × Value)) : Prop :=
  ∀ i v, P i v → ∃ t o m key kv, v = .ref t ∧ t ∉ no ∧ h.get? t = some o ∧ o.cls = .type "tuple" ∧ o.data = .seq #[key, kv.2] m ∧ ps[i]? = some kv ∧ (mixKind prog w).is kv.1 key = true
theorem dict_loop {R : Result → Shared → Prop} {I S : Addr} {fp wr : List Addr} {G : Array GenState → Array GenState → Prop} {n : Nat} {P : Nat → Value → Prop} {St : Nat → Shared → Prop} {ps : List (Key × Value)}
    (W : WalksS prog w A.in1 I fp wr G n P St) (hSf : S ∉ fp) (hn : ps.length = n) (hb : n ≤ sizeLine) : ∀ (k i : Nat) (s : Shared), n - i = k → i ≤ n → St i s → PairsIn prog w s.heap (S :: wr) P ps →
      s.heap.DictOf (mixKind prog w) S (merged [] (ps.take i)) →
      (∀ s', Moved (S :: wr) G s s' → s'.heap.DictOf (mixKind prog w) S (merged [] ps) → R (.ok (.ret .none)) s') →
      codeAny (model prog w) A (.builtin "dict.update.loop" ⟨[.ref S, .ref I, rawInt i, .none], []⟩) R s := by
  have hSw : S ∉ wr := fun h => hSf (W.sub _ h)
  have hsub : ∀ b ∈ wr, b ∈ S :: wr := fun b hb => List.mem_cons_of_mem _ hb
  intro k
  induction k with
  | zero =>
    intro i s hk hi hst hP hS hR
    have hin : i = n := by omega
    subst hin
    refine codeAny_builtin entry_dict_loop ?_
    rw [Around.under_plainId plain_dict_loop _]
    show wpAny _ A.in1 (pyNext (.ref I) >>= _) _ _ s
    refine wpAny_bind (W.done s _ _ hst fun s' hm => ?_)
    show wpAny _ A.in1 (Builtin.Dict.addKeywords S [] >>= fun _ => ret Value.none) _ _ s'
    refine wpAny_bind (wpAny_pure (wpAny_pure (hR s' (hm.mono hsub) ?_)))
    rw [← hn, List.take_length] at hS
    obtain ⟨o, es, ep, ho, rest⟩ := hS
    exact ⟨o, es, ep, hm.heap S _ hSw ho, rest⟩
  | succ k ih =>
    intro i s hk hi hst hP hS hR
    have hlt : i < n := by omega
    refine codeAny_builtin entry_dict_loop ?_
    rw [Around.under_plainId plain_dict_loop _]
    show wpAny _ A.in1 (pyNext (.ref I) >>= _) _ _ s
    refine wpAny_bind (W.item i s _ _ hlt hst fun v s' hPv hst' hm => ?_)
    obtain ⟨t, o, m, key, kv, rfl, htn, ho, hoc, hod, hps, hkey⟩ := hP i v hPv
    have hS' : s'.heap.DictOf (mixKind prog w) S (merged [] (ps.take i)) := by
      obtain ⟨o, es, ep, ho, rest⟩ := hS
      exact ⟨o, es, ep, hm.heap S _ hSw ho, rest⟩
    have ho' : s'.heap.get? t = some o := hm.heap t _ (fun h => htn (List.mem_cons_of_mem _ h)) ho
    have hT : s'.TypeIs (.ref t) "tuple" := ⟨_, ho', hoc⟩
    have hsz : (merged [] (ps.take i)).length ≤ sizeLine := by
      have e1 := merged_length_le (K := Key) [] (ps.take i)
      have e2 : (ps.take i).length ≤ ps.length := by rw [List.length_take]; omega
      simp only [List.length_nil, Nat.zero_add] at e1
      omega
    refine wpAny_bind (wpAny_holding ?_)
    refine wpAny_bind (wpAny_tryCatch ?_)
    unfold Builtin.Dict.pairItems
    refine wpAny_bind (wpAny_typeOf hT ?_)
    rw [if_pos (by decide)]
    refine wpAny_bind (wpAny_seqItems ho' hod ?_)
    refine wpAny_pure ?_
    show wpAny _ _ (holding [key, kv.2] (dictSet S key kv.2)) _ _ _
    refine wpAny_holding (wpAny_dictSet_pairs (hsz := hsz) hkey hS' fun h' hd' hs => ?_)
    have hd2 : h'.DictOf (mixKind prog w) S (merged [] (ps.take (i + 1))) := by rw [merged_take_succ [] ps i kv hps]; exact hd'
    refine wpAny_pure ⟨plainId_quiet plain_dict_loop _, ?_⟩
    have keep : ∀ b o, b ∉ S :: wr → s.heap.get? b = some o → h'.get? b = some o := fun b o hb e => by
      rw [hs.2 b (fun h : b = S => hb (by rw [h]; exact List.mem_cons_self))]
      exact hm.heap b o (fun h => hb (List.mem_cons_of_mem _ h)) e
    refine ih (i + 1) _ (by omega) hlt (W.frame _ s' _ _ hst' (Nat.le_succ _) fun b hb o e => ?_) (fun j v hj => ?_) hd2 fun s'' hm'' hS'' => ?_
    · rw [hs.2 b (fun h : b = S => hSf (by rw [← h]; exact hb))]; exact e
    · obtain ⟨t, o, m, key, kv, rfl, htn, ho, r⟩ := hP j v hj
      exact ⟨t, o, m, key, kv, rfl, htn, keep t o htn ho, r⟩
    · exact hR s'' (Moved.trans W.gtrans ((hm.mono hsub).then_heap (Nat.le_succ _) fun b o hb e => by
        rw [hs.2 b (fun h : b = S => hb (by rw [h]; exact List.mem_cons_self))]; exact e) hm'') hS''
theorem no_keys {a : Addr} {o : Obj} {xs : Array Value} {k : Nat} {Q : Option Value → Shared → Prop} (hx : s.heap.get? a = some o) (hc : o.cls = .type "list") (hdat : o.data = .seq xs k) (hd : o.dict = none) (hA : A.handled = none)
    (h : ∀ h' tk, (∀ b u, s.heap.get? b = some u → h'.get? b = some u) → Q none { s with heap := h', toks := tk }) : wpAny (model prog w) A (getAttr? (.ref a) "keys") Q E s := by
  obtain ⟨c, dct, dat, sl⟩ := o
  simp only at hc hdat hd
  subst hc hdat hd
  obtain ⟨hp, g, d, tk, os⟩ := s
  have hT : ∀ tk', (⟨hp, g, d, tk', os⟩ : Shared).TypeIs (.ref a) "list" := fun _ => ⟨_, hx, rfl⟩
  have f1 := sub_AttributeError
  have f3 := F.slot_list_getattribute.lookup
  have f4 := F.slot_list_getattribute.bind (.ref a)
  have f5 := am_list_getattr_none
  unfold getAttr? getAttrBy? getAttrBy
  repeat (any_goals (first | assumption | exact hT _ | ((with_reducible show wpAny _ _ (call (Value.builtin "list.__getattribute__") _ _) _ _ _); refine call_meets F.slot_list_getattribute (hT _) am_entry_list_getattribute (F.args_list_getattribute_2 _ _) (meets_getattribute_miss_list a xs k sl "keys" _ list_no_keys (by decide)) ⟨hx, hA, fun h' tk' e hx' => ?_⟩) | wp_step))
  obtain ⟨t', u', he⟩ := hx'.there
  show wpAny _ _ (getattributeRaised _ _ _ _ _ _ _) _ _ _
  have hTe : ∀ tk', (⟨h', g, d, tk', os⟩ : Shared).TypeIs (.ref e) "AttributeError" := fun _ => ⟨_, he, rfl⟩
  unfold getattributeRaised
  repeat (any_goals (first | assumption | exact hTe _ | wp_step))
  exact h _ _ hx'.keeps
theorem call_dict_pairs {l : Addr} {o : Obj} {items : Array Value} {nl : Nat} {ps : List (Key × Value)} {Q : Value → Shared → Prop} (hh : A.handled = none) (hl : s.heap.get? l = some o) (hc : o.cls = .type "list") (hdat : o.data = .seq items nl) (hd : o.dict = none)
    (hP : PairsIn prog w s.heap [] (fun i v => items[i]? = some v) ps) (hn : ps.length = items.size) (hb : items.size ≤ sizeLine)
    (h : ∀ h' tk, h'.DictOf (mixKind prog w) s.heap.objs.size (merged [] ps) → (∀ b o, s.heap.get? b = some o → h'.get? b = some o) → Q (.ref s.heap.objs.size) { s with heap := h', toks := tk }) :
    wpAny (model prog w) A (call (.type "dict") [.ref l]) Q E s := by
  refine callType_codes (Q₁ := fun obj s₁ => obj = .ref s.heap.objs.size ∧ s₁ = { s with heap := s.heap.push { cls := .type "dict", data := .dict #[] } }) F.kt_called_dict (F.kt_typeCall_dict_1 _) F.entry_dict_init (kt_code_dict_new _ ⟨rfl, rfl⟩) ?_
  rintro obj s₁ ⟨rfl, rfl⟩
  have hnew : (s.heap.push { cls := .type "dict", data := .dict #[] }).DictOf (mixKind prog w) s.heap.objs.size [] := Heap.DictOf.new s.heap
  have hl1 : (s.heap.push { cls := .type "dict", data := .dict #[] }).get? l = some o := Heap.get?_push_of_some _ hl
  have hT1 : Shared.TypeIs { s with heap := s.heap.push { cls := .type "dict", data := .dict #[] } } (.ref l) "list" := ⟨_, hl1, hc⟩
  refine ⟨hnew.typeIs, F.args_dict_init_2 _ _, ?_⟩
  unfold Builtin.«dict.__init__»
  refine wpAny_bind ?_
  unfold Builtin.Dict.selfAndRest
  refine wpAny_bind (wpAny_notOrdered_dict hnew.typeIs ?_)
  show wpAny _ _ (pure (s.heap.objs.size, [Value.ref l])) _ _ _
  refine wpAny_pure ?_
  show wpAny _ _ (Builtin.Dict.updateFrom "dict.__init__" s.heap.objs.size (.ref l) [] .none) _ _ _
  unfold Builtin.Dict.updateFrom
  refine wpAny_bind (wpAny_typeOf hT1 ?_)
  rw [if_pos (by decide)]
  refine wpAny_bind (no_keys hl1 hc hdat hd (by simp [hh]) fun h2 tk keep => ?_)
  rw [if_pos (show (none : Option Value).isNone = true from rfl)]
  have hS2 : h2.DictOf (mixKind prog w) s.heap.objs.size [] := by
    obtain ⟨o, es, ep, ho, rest⟩ := hnew
    exact ⟨o, es, ep, keep _ _ ho, rest⟩
  have hl2 : h2.get? l = some o := keep _ _ hl1
  have hls : l < s.heap.objs.size := Heap.lt_size hl
  have hSz : s.heap.objs.size < h2.objs.size := by obtain ⟨o, es, ep, ho, rest⟩ := hS2; exact Heap.lt_size ho
  have hL2 : h2.IsList l items := ⟨_, hl2, hc, nl, hdat⟩
  refine wpAny_bind (wpAny_rule ?_)
  refine wpAny_bind (wpAny_pyIter_list hL2 ?_)
  have hne : l ≠ h2.objs.size := Nat.ne_of_lt (Nat.lt_trans hls hSz)
  have hh3 : A.in1.in1.handled = none := by simp [hh]
  refine wpAny_pure ⟨plainId_quiet plain_dict_loop _, ?_⟩
  refine dict_loop (A := A.in1) (ps := ps) ((Walks.list hh3 h2.objs.size l hne items).toS) (S := s.heap.objs.size) ?_ hn hb (items.size - 0) 0 _ rfl (Nat.zero_le _) ⟨⟨_, Heap.get?_push_size _ rfl, rfl, rfl⟩, hL2.push _⟩ (fun i v hv => ?_) ?_ fun s' hm hS' => ?_
  · simp only [List.mem_cons, List.not_mem_nil, or_false, not_or]
    exact ⟨Nat.ne_of_lt hSz, Nat.ne_of_gt hls⟩
  · obtain ⟨t, o, m, key, kv, rfl, _, ho, r⟩ := hP i v hv
    have lt := Heap.lt_size ho
    refine ⟨t, o, m, key, kv, rfl, ?_, Heap.get?_push_of_some _ (keep _ _ (Heap.get?_push_of_some _ ho)), r⟩
    simp only [List.mem_cons, List.not_mem_nil, or_false, not_or]
    exact ⟨Nat.ne_of_lt lt, Nat.ne_of_lt (Nat.lt_trans lt hSz)⟩
  · exact hS2.push _
  · obtain ⟨h', g', d', tk', os'⟩ := s'
    have eg : g' = s.gens := hm.gens
    have ed : d' = s.drawn := hm.drawn
    have eo : os' = s.os := hm.os
    subst eg; subst ed; subst eo
    refine ⟨rfl, h h' tk' hS' fun b o e => ?_⟩
    have lt := Heap.lt_size e
    exact hm.heap b o (by simp only [List.mem_cons, List.not_mem_nil, or_false, not_or]; exact ⟨Nat.ne_of_lt lt, Nat.ne_of_lt (Nat.lt_trans lt hSz)⟩) (Heap.get?_push_of_some _ (keep _ _ (Heap.get?_push_of_some _ e)))
end
section
variable {X : Cx} {a b e : Expr} {wa wb : WE} {pos : Pos}
def PrV (K : PySem.W.Frag) (H : Hp) (q : IntP) (v : V) : Prop := ∃ p, v = .ref p ∧ SqT K H p [.int q.1, q.2]
theorem call_dictF (hc : X.calm = true) : CallR X (.type "dict") (fun xs H Q => ∃ p ys kvs, xs = [.ref p] ∧ SqL X.K H p ys ∧ Paired (PrV X.K H) kvs ys ∧ (kvs.map (·.1)).Nodup ∧ ∀ l o, H l = none → Q (.ref l) (upd H l (.frz o (.dK (kvs.map toK))))) := by
  intro pins s σ H xs us Q I r h
  obtain ⟨p, ys, kvs, rfl, hq, hp, hn, q⟩ := h
  obtain ⟨u, rfl, rx⟩ := vals1 r
  cases rx
  obtain ⟨its, r', ⟨ob, nl, e1, e2, e3, e4⟩, hz⟩ := I.list hq
  have key : ∀ {kvs : List IntP} {ys : List V} {its : List Value}, Paired (PrV X.K H) kvs ys → Vals ys its → ∃ qs : List (Key × Value), KV (kvs.map toK) qs ∧ ∀ (i : Nat) (v : Value), its[i]? = some v → ∃ (t : Addr) (o : Obj) (m : Nat) (key : Value) (kv : Key × Value), v = .ref t ∧ t ∉ ([] : List Addr) ∧ s.heap.get? t = some o ∧ o.cls = .type "tuple" ∧ o.data = .seq #[key, kv.2] m ∧ qs[i]? = some kv ∧ (mixKind X.prog X.w).is kv.1 key = true := by
    intro kvs ys its h1 h2
    induction h1 generalizing its with
    | nil => cases h2; exact ⟨[], .nil, fun i v h => by simp at h⟩
    | @cons q y qs' ys' hq hr ih =>
      cases h2 with
      | @cons _ u _ us' r1 r2 =>
        obtain ⟨qs, k1, k2⟩ := ih r2
        obtain ⟨t, rfl, st⟩ := hq
        cases r1
        obtain ⟨two, rt, ⟨ot, f1, f2, m, f4⟩, _⟩ := I.tuple st
        obtain ⟨x1, x2, rfl, r3, r4⟩ : ∃ x1 x2, two = [x1, x2] ∧ RelV (.int q.1) x1 ∧ RelV q.2 x2 := by
          cases rt with
          | cons r3 rt =>
            cases rt with
            | cons r4 rt => cases rt; exact ⟨_, _, rfl, r3, r4⟩
        obtain ⟨tk, rfl⟩ := r3
        refine ⟨(.inl q.1, x2) :: qs, .cons ⟨rfl, r4⟩ k1, fun i v hi => ?_⟩
        cases i with
        | zero =>
          simp only [List.getElem?_cons_zero, Option.some.injEq] at hi
          subst hi
          exact ⟨t, ot, m, _, _, rfl, by simp, f1, f2, f4, rfl, mixKind_int _ _ _ _⟩
        | succ i =>
          simp only [List.getElem?_cons_succ] at hi
          obtain ⟨t', o', m', key', kv', z1, z2, z3, z4, z5, z6, z7⟩ := k2 i v hi
          exact ⟨t', o', m', key', kv', z1, z2, z3, z4, z5, by simpa using z6, z7⟩
  obtain ⟨qs, k1, k2⟩ := key hp r'
  have l1 : qs.length = its.length := by rw [← Paired.length k1, List.length_map, Paired.length hp, r'.length]
  have hnq : (qs.map (·.1)).Nodup := by
    have e : qs.map (·.1) = (kvs.map (·.1)).map (Sum.inl : Int → Key) := by
      have : ∀ {a : List (Key × V)} {b : List (Key × Value)}, KV a b → b.map (·.1) = a.map (·.1) := by
        intro a b hh
        induction hh with
        | nil => rfl
        | cons h1 h2 ih => simp only [List.map_cons, ih, h1.1]
      rw [this k1]
      simp [toK, Function.comp_def]
    rw [e]
    exact List.pairwise_map.mpr (hn.imp fun h e => h (Sum.inl.inj e))
  refine call_dict_pairs (I.ok.hd hc) e1 e2 e4 e3 (ps := qs) (fun i v hv => k2 i v (by simpa using hv)) (by simpa using l1) (by simp only [List.size_toArray]; rw [← r'.length]; exact hz) fun h' tk hD keep => ?_
  rw [merged_nil_of_nodup qs hnq] at hD
  have big : (s.heap.objs.size == sysModules) = false := by
    have h : mainGlobals < s.heap.objs.size := (I.mod.glob.keeps I.bk).lt
    have : sysModules < s.heap.objs.size := Nat.lt_trans (by decide) h
    exact beq_false_of_ne (Nat.ne_of_gt this)
  have hf : H s.heap.objs.size = none := I.hok.fresh (Nat.le_refl _)
  obtain ⟨od, hod⟩ : ∃ od, h'.get? s.heap.objs.size = some od := let ⟨o, _, _, ho, _⟩ := hD; ⟨o, ho⟩
  have I1 := I.laid (a := s.heap.objs.size) (o := .frz od (.dK (kvs.map toK))) (h' := h') (t' := tk) keep (Nat.le_refl _) ⟨hod, by rw [List.length_map, Paired.length hp]; exact hz, big, qs, k1, hD⟩
  exact ⟨.ref s.heap.objs.size, _, I1, rfl, q _ od hf⟩
def rIxD : R2 := fun x y H Q => ∃ (p : Addr) (o : Obj) (kvs : List IntP) (i : Int) (v : V), x = .ref p ∧ y = .int i ∧ H p = some (.frz o (.dK (kvs.map toK))) ∧ (kvs.map (·.1)).Nodup ∧ (i, v) ∈ kvs ∧ Q v H
theorem valueAt_mem {K : Type} [DecidableEq K] {vs : List (K × Value)} {k : K} {v : Value} (hn : (vs.map (·.1)).Nodup) (h : (k, v) ∈ vs) : valueAt vs k = some v := by
  induction vs with
  | nil => simp at h
  | cons q r ih =>
    simp only [List.map_cons, List.nodup_cons] at hn
    unfold valueAt
    rw [List.find?_cons]
    rcases List.mem_cons.mp h with e | h
    · subst e; simp
    · have ne : q.1 ≠ k := fun e => hn.1 (by rw [e]; exact List.mem_map.mpr ⟨_, h, rfl⟩)
      rw [decide_eq_false ne]
      exact ih hn.2 h
theorem kv_mem {vs : List (Key × Value)} {kvs : List (Key × V)} {k : Key} {z : V} (rel : KV kvs vs) (h : (k, z) ∈ kvs) : ∃ w, (k, w) ∈ vs ∧ RelV z w := by
  induction rel with
  | nil => simp at h
  | @cons a b as bs h1 h2 ih =>
    rcases List.mem_cons.mp h with e | h
    · subst e
      obtain ⟨b1, b2⟩ := b
      exact ⟨b2, by have := h1.1; simp only at this; subst this; exact List.mem_cons_self, h1.2⟩
    · obtain ⟨w, m, r⟩ := ih h
      exact ⟨w, List.mem_cons_of_mem _ m, r⟩
theorem kv_keys {vs : List (Key × Value)} {kvs : List (Key × V)} (rel : KV kvs vs) : vs.map (·.1) = kvs.map (·.1) := by
  induction rel with
  | nil => rfl
  | cons h1 h2 ih => simp only [List.map_cons, ih, h1.1]
theorem toK_nodup {kvs : List IntP} (hn : (kvs.map (·.1)).Nodup) : ((kvs.map toK).map (·.1)).Nodup := by
  have e : (kvs.map toK).map (·.1) = (kvs.map (·.1)).map (Sum.inl : Int → Key) := by simp [toK, Function.comp_def]
  rw [e]
  exact List.pairwise_map.mpr (hn.imp fun h e => h (Sum.inl.inj e))
theorem ix_dict : IxR X rIxD := by
  intro value slice pins s σ H x y v u Q I rx ry h hs
  obtain ⟨p, o, kvs, i, z, rfl, rfl, hp, hn, hm, q⟩ := h
  cases rx
  obtain ⟨t, rfl⟩ := ry
  obtain ⟨_, hz, big, vs, rel, dd⟩ := I.hok p _ hp
  have hT : s.TypeIs (.ref p) "dict" := dd.typeIs
  obtain ⟨w, hw, rw'⟩ : ∃ w, valueAt vs (.inl i) = some w ∧ RelV z w := by
    obtain ⟨w, m, r⟩ := kv_mem rel (List.mem_map.mpr ⟨(i, z), hm, rfl⟩ : ((Sum.inl i : Key), z) ∈ kvs.map toK)
    exact ⟨w, valueAt_mem (by rw [kv_keys rel]; exact toK_nodup hn) m, r⟩
  exact subscriptTail_builtinR (x := w) hT F.slot_dict_getitem.lookup
    (wpAny_getItem_of (Q := fun r s' => r = w ∧ EP X pins σ Q r s') (mixKind_int _ _ i t) dd.mapOf hw ⟨rfl, z, H, I.tok _, rw', q⟩) hs
def prT (p : Int × T) : T := .tup [.int p.1, p.2]
def wDIx (wa wb : WE) : WE := fun τ Q => wa τ fun x => ∃ ps : List (Int × T), x = .lst (ps.map prT) ∧ (ps.map (·.1)).Nodup ∧ wb τ fun y => ∃ i t, y = .int i ∧ (i, t) ∈ ps ∧ Q t
theorem pairs_rep {K : PySem.W.Frag} {H : Hp} : ∀ {ps : List (Int × T)} {vs : List V}, Reps K H (ps.map prT) vs → ∃ kvs : List IntP, Paired (PrV K H) kvs vs ∧ kvs.map (·.1) = ps.map (·.1) ∧ Reps K H (ps.map (·.2)) (kvs.map (·.2))
  | [], vs, r => by
    rw [List.map_nil, reps_nil] at r
    subst r
    exact ⟨[], .nil, rfl, reps_nil.mpr rfl⟩
  | p :: ps, vs, r => by
    rw [List.map_cons, reps_cons] at r
    obtain ⟨v, vr, rfl, r1, r2⟩ := r
    obtain ⟨kvs, h1, h2, h3⟩ := pairs_rep r2
    rw [prT, rep_tup] at r1
    obtain ⟨q, ys, rfl, sq, rr⟩ := r1
    rw [reps_cons] at rr
    obtain ⟨y1, yr, rfl, z1, rr⟩ := rr
    rw [reps_cons] at rr
    obtain ⟨y2, yr2, rfl, z2, rr⟩ := rr
    rw [reps_nil] at rr
    subst rr
    have e1 := rep_int.mp z1
    subst e1
    exact ⟨(p.1, y2) :: kvs, .cons ⟨q, rfl, sq⟩ h1, by simp only [List.map_cons, h2], reps_cons.mpr ⟨_, _, rfl, z2, h3⟩⟩
theorem pairs_mem {K : PySem.W.Frag} {H : Hp} : ∀ {ps : List (Int × T)} {kvs : List IntP}, kvs.map (·.1) = ps.map (·.1) → Reps K H (ps.map (·.2)) (kvs.map (·.2)) → ∀ i t, (i, t) ∈ ps → ∃ v, (i, v) ∈ kvs ∧ Rep K H t v
  | [], _, _, _, i, t, h => by simp at h
  | p :: ps, [], e, _, i, t, h => by simp at e
  | p :: ps, q :: kvs, e, r, i, t, h => by
    rw [List.map_cons, List.map_cons, List.cons.injEq] at e
    rw [List.map_cons, List.map_cons, reps_cons] at r
    obtain ⟨v, vr, ev, r1, r2⟩ := r
    rw [List.cons.injEq] at ev
    obtain ⟨rfl, rfl⟩ := ev
    rcases List.mem_cons.mp h with rfl | h
    · have e1 : q = (i, q.2) := Prod.ext e.1 rfl
      exact ⟨q.2, by rw [← e1]; exact List.mem_cons_self, r1⟩
    · obtain ⟨v, m, rv⟩ := pairs_mem e.2 r2 i t h
      exact ⟨v, List.mem_cons_of_mem _ m, rv⟩
theorem RepSt.putDic {K : PySem.W.Frag} {H0 H : Hp} {σ : St} {τ : List Slot} {i : Nat} {p : Addr} {o : Obj} {kvs : List IntP} {ps : List (Int × T)} (R : RepSt K H0 H σ τ) (hp : H p = some (.frz o (.dK (kvs.map toK)))) (ek : kvs.map (·.1) = ps.map (·.1)) (r : Reps K H (ps.map (·.2)) (kvs.map (·.2))) :
    RepSt K H0 H (σ.set i (some (.ref p))) (sput τ i (.dic ps)) := by
  refine ⟨R.same, by rw [length_sput, List.length_set]; exact R.len, fun j => ?_, fun a b ts us p hab ha hb ea eb => ?_⟩
  · by_cases hij : i = j
    · subst hij
      by_cases hi : i < τ.length
      · rw [sget_same hi]
        exact ⟨p, o, kvs, List.getElem?_set_self (by rw [← R.len]; exact hi), hp, ek, r⟩
      · rw [sget_big (by rw [length_sput]; omega)]
        trivial
    · rw [sget_ne hij, List.getElem?_set_ne hij]
      exact R.slot j
  · have na : i ≠ a := by
      rintro rfl
      by_cases hi : i < τ.length
      · rw [sget_same hi] at ha; cases ha
      · rw [sget_big (by rw [length_sput]; omega)] at ha; cases ha
    have nb : i ≠ b := by
      rintro rfl
      by_cases hi : i < τ.length
      · rw [sget_same hi] at hb; cases hb
      · rw [sget_big (by rw [length_sput]; omega)] at hb; cases hb
    rw [sget_ne na] at ha
    rw [sget_ne nb] at hb
    rw [List.getElem?_set_ne na] at ea
    rw [List.getElem?_set_ne nb] at eb
    exact R.apart a b ts us p hab ha hb ea eb
def sDic (i : Nat) (wa : WE) : WS := fun D τ => wa τ fun x => ∃ ps : List (Int × T), x = .lst (ps.map prT) ∧ (ps.map (·.1)).Nodup ∧ D.nx (sput τ i (.dic ps))
theorem jdic {i : Nat} {x y : Str} {p p2 pos' : Pos} (hN : X.N.Nodup) (hi : X.N[i]? = some y) (hy : Loc X.env.scope y) (hc : X.calm = true) (hg : Gl X x) (hm : X.mg x = none) (hv : bootBuiltins x = some (.type "dict")) (ha : JE X e wa) (hn : x ≠ "__name__" := by decide)
    (hdb : (x == ("__debug__" : Str)) = false := by decide) (hst : starEach [e] X.env = [(false, eval e X.env)] := by exact star1 rfl) (hs : swapsWith (.Call (.Name x p) [e] [] p2) (some (.Name y pos')) pos.line X.env = pure false := by rfl)
    (hf : X.fn y = true ∨ X.env.scope.names.lookup y = some .local := by first | exact .inl rfl | exact .inr rfl | assumption) :
    JS X (.Assign [.Name y pos'] (.Call (.Name x p) [e] [] p2) pos) (sDic i wa) := by
  refine ps_of (ps_set hN hi hy (pe_callTy (call_dictF hc) hg hm hv (ja ha ja0 hst) hn hdb hst (stars rfl)) hs hf) fun D σ H ⟨τ, D0, R, hw, kn, _⟩ => ?_
  refine ⟨τ, fun ts => match ts with | [x] => (∃ ps : List (Int × T), x = .lst (ps.map prT) ∧ (ps.map (·.1)).Nodup ∧ D0.nx (sput τ i (.dic ps))) | _ => False, R, hw, fun ts vs H1 S1 rr q1 => ?_⟩
  obtain ⟨x, rfl, ps, rfl, nd, q2⟩ : ∃ x, ts = [x] ∧ ∃ ps : List (Int × T), x = .lst (ps.map prT) ∧ (ps.map (·.1)).Nodup ∧ D0.nx (sput τ i (.dic ps)) := by
    cases ts with
    | nil => exact q1.elim
    | cons x r =>
      cases r with
      | nil => exact ⟨x, rfl, q1⟩
      | cons _ _ => exact q1.elim
  obtain ⟨v, rfl, r1⟩ := reps1 rr
  rw [rep_lst] at r1
  obtain ⟨q, ys, rfl, sq, r2⟩ := r1
  obtain ⟨kvs, h1, h2, h3⟩ := pairs_rep r2
  refine ⟨q, ys, kvs, rfl, sq.sq, h1, by rw [h2]; exact nd, fun l o hl => ?_⟩
  have S2 : Same H1 (upd H1 l (.frz o (.dK (kvs.map toK)))) := same_new hl _
  exact kn _ _ _ (.of (S1.trans S2)) ((R.mono (S1.trans S2)).putDic upd_same h2 (h3.kp (.of S2))) q2
def wDis (i : Nat) (wb : WE) : WE := fun τ Q => match sget τ i with
  | .dic ps => (ps.map (·.1)).Nodup ∧ wb τ fun y => ∃ j t, y = .int j ∧ (j, t) ∈ ps ∧ Q t
  | _ => False
theorem jdis {i : Nat} {x : Str} {p : Pos} (hv : PE X (.Name x p) (tVar i)) (hb : JE X b wb) (hs : PlainIx b := by intro _ _; rfl) : JE X (.Subscript (.Name x p) b pos) (wDis i wb) := pe_of (pe_ix ix_dict hv hb hs) fun σ H Q ⟨τ, Q0, R, hw, k⟩ => by
  unfold wDis at hw
  cases own : sget τ i with
  | dic ps =>
    rw [own] at hw
    obtain ⟨nd, hw⟩ := hw
    have sl := R.slot i
    rw [own] at sl
    obtain ⟨q, o, kvs, ev, hp, ek, rr⟩ := sl
    refine ⟨.ref q, ev, τ, _, R, hw, fun t2 v2 H2 S2 r2 q2 => ?_⟩
    obtain ⟨j, t, rfl, mem, q3⟩ := q2
    obtain ⟨v, m, rv⟩ := pairs_mem ek rr j t mem
    exact ⟨q, o, kvs, j, v, rfl, rep_int.mp r2, S2 _ _ hp, by rw [ek]; exact nd, m, k t v H2 S2 (rv.kp (.of S2)) q3⟩
  | _ => rw [own] at hw; exact hw.elim
theorem at_none {kvs : List IntP} {vs : List (Key × Value)} {i : Int} (rel : KV (kvs.map toK) vs) : (valueAt vs (.inl i)).isSome = decide (i ∈ kvs.map (·.1)) := by
  have e := kv_keys rel
  have m : (Sum.inl i : Key) ∈ vs.map (·.1) ↔ i ∈ kvs.map (·.1) := by
    rw [e]
    constructor
    · intro h
      obtain ⟨p, hp, ep⟩ := List.mem_map.mp h
      obtain ⟨q, hq, rfl⟩ := List.mem_map.mp hp
      exact List.mem_map.mpr ⟨q, hq, Sum.inl.inj ep⟩
    · intro h
      obtain ⟨q, hq, rfl⟩ := List.mem_map.mp h
      exact List.mem_map.mpr ⟨toK q, List.mem_map.mpr ⟨q, hq, rfl⟩, rfl⟩
  rw [valueAt_isSome_eq_any, Bool.eq_iff_iff, List.any_eq_true, decide_eq_true_iff, ← m]
  constructor
  · rintro ⟨x, hx, e⟩
    exact List.mem_map.mpr ⟨x, hx, of_decide_eq_true e⟩
  · intro h
    obtain ⟨x, hx, e⟩ := List.mem_map.mp h
    exact ⟨x, hx, decide_eq_true e⟩
theorem op_notinD : OpR X (compareOp .NotIn) (fun x y H Q => ∃ (p : Addr) (o : Obj) (kvs : List IntP) (i : Int), x = .int i ∧ y = .ref p ∧ H p = some (.frz o (.dK (kvs.map toK))) ∧ Q (.bl (!decide (i ∈ kvs.map (·.1)))) H) := by
  intro pins s σ H x y v u Q I rx ry h
  obtain ⟨p, o, kvs, i, rfl, rfl, hp, q⟩ := h
  obtain ⟨t, rfl⟩ := rx
  cases ry
  obtain ⟨_, hz, big, vs, rel, dd⟩ := I.hok p _ hp
  refine wpAny_notIn_of (mixKind_int _ _ i t) big dd.mapOf ⟨.bl _, H, I.tok _, rfl, ?_⟩
  rw [at_none rel]
  exact q
def tNinD (i : Nat) (wa : WE) : WT := fun τ Q => wa τ fun y => match y, sget τ i with | .int j, .dic ps => Q (!decide (j ∈ ps.map (·.1))) | _, _ => False
theorem tninD {i : Nat} {x : Str} {p : Pos} (ha : JE X a wa) (hv : PE X (.Name x p) (tVar i)) (hm : behindInMarks .NotIn (.Name x p) = false) : JT X (.Compare a [.NotIn] [.Name x p] pos) (tNinD i wa) := by
  refine pt_of (pt_cmpR op_notinD ha hv hm) fun σ H Q ⟨τ, Q0, R, hw, k⟩ => ?_
  refine ⟨τ, _, R, hw, fun t v H1 S1 r q => ?_⟩
  cases t with
  | int j =>
    cases own : sget τ i with
    | dic ps =>
      rw [own] at q
      have sl := (R.mono S1).slot i
      rw [own] at sl
      obtain ⟨z, o, kvs, ev, hp, ek, rr⟩ := sl
      refine ⟨.ref z, ev, z, o, kvs, j, rep_int.mp r, rfl, hp, _, rfl, ?_⟩
      rw [ek]
      exact k _ H1 S1 q
    | _ => rw [own] at q; exact q.elim
  | _ => exact q.elim
def wRepL (ws : WA) (wb : WE) : WE := fun τ Q => ws τ fun ts => ts.length ≤ 1000 ∧ wb τ fun y => ∃ k : Nat, y = .int k ∧ k ≤ 1000 ∧ ts.length * k ≤ 1000 ∧ Q (.lst (List.replicate k ts).flatten)
end
end TL
end
section
set_option Elab.async false
set_option linter.all false
set_option maxRecDepth 100000
set_option maxHeartbeats 4000000
namespace TL
open PySem PySem.Spec PyProof.Rows L2
section
variable {X : Cx} {a b e : Expr} {wa wb : WE} {pos : Pos}
def rJoinT (sep : Str) (y : T) (Q : T → Prop) : Prop := match y with
  | .lst ts => (match strsOf ts with | some zs => (zs.map (·.length)).sum + zs.length * sep.length ≤ 16777216 ∧ Q (.str (Txt.join sep zs)) | none => False)
  | _ => False
def wJoin (wa wb : WE) : WE := fun τ Q => wa τ fun x => match x with
  | .str sep => wb τ fun y => rJoinT sep y Q
  | _ => False
def rStrT (ts : List T) (Q : T → Prop) : Prop := match ts with
  | [.str z] => Q (.str z)
  | [.int i] => i.natAbs < 2 ^ 64 ∧ Q (.str (Str.ofString (toString i)))
  | _ => False
def rLenST (ts : List T) (Q : T → Prop) : Prop := match ts with
  | [.str z] => z.length ≤ 1000 ∧ Q (.int z.length)
  | _ => False
def wSlS (wa : WE) (wl wh : WO) : WE := fun τ Q => wa τ fun x => wl τ fun lo => wh τ fun hi => match x with | .str z => z.length ≤ 1000 ∧ Q (.str (Txt.slice z lo hi)) | _ => False
def rAddAT (x y : T) (Q : T → Prop) : Prop := match x, y with
  | .int i, .int j => Q (.int (i + j))
  | .tup xs, .tup ys => xs.length + ys.length ≤ 1000 ∧ Q (.tup (xs ++ ys))
  | .lst xs, .lst ys => xs.length + ys.length ≤ 1000 ∧ Q (.lst (xs ++ ys))
  | .str i, .str j => i.length + j.length ≤ 1000 ∧ Q (.str (i ++ j))
  | _, _ => False
def sOwnC (i : Nat) (w : WE) : WS := fun D τ => w τ fun t => match t with | .lst ts => D.nx (sput τ i (.own ts)) | _ => False
end
end TL
end
section
set_option Elab.async false
set_option linter.all false
set_option maxRecDepth 100000
set_option maxHeartbeats 4000000
namespace TL
open PySem PySem.Spec PyProof.Rows L2
section
variable {X : Cx} {a b : List Stmt} {t u : TS}
end
abbrev SpO := List T → (List T → Prop) → Prop
def spO (K : PySem.W.Frag) (n : Nat) (S : SpO) : Sp := fun vs H Q _ => ∃ (ts : List T) (Q0 : List T → Prop), vs.length = n ∧ Reps K H ts vs ∧ S ts Q0 ∧ ∀ us p ws H', Same H H' → H p = none → H' p = some (.lst ws) → Reps K H' us ws → Q0 us → Q (.ref p) H'
structure FnO (P : Program) (w : World) (K : PySem.W.Frag) (mg : Str → Option Value) (base : Heap) (k : Nat) (f : Addr) (fd : FuncData) (ps : List Str) (S : SpO) : Prop where
  ok : FnOk P w K mg base CX0 k f fd ps (spO K ps.length S)
  len : ∀ ts Q, S ts Q → ts.length = ps.length
def endO (i : Nat) (Q : List T → Prop) : DT := { nx := fun τ => match sget τ i with | .own us => Q us | _ => False, rt := fun _ => False }
def CalO (P : Program) (w : World) (K : PySem.W.Frag) (mg : Str → Option Value) (base : Heap) (k : Nat) (x : Str) (ps : List Str) (S : SpO) : Prop :=
  ∃ f fd, FnO P w K mg base k f fd ps S ∧ Binds K fd ps [] ∧ PySem.W.keepIn K (.ref f) = true ∧ mg x = some (.ref f)
theorem CalO.mk {P : Program} {w : World} {K : PySem.W.Frag} {mg : Str → Option Value} {base : Heap} {k : Nat} {x qual : Str} {ps : List Str} {S : SpO} {st : Stmt} {f : Addr} {fd : FuncData} (F : Fun K x qual st f fd) (m : mg x = some (.ref f))
    (b : Binds K fd ps []) (h : FnO P w K mg base k f fd ps S) : CalO P w K mg base k x ps S := ⟨f, fd, h, b, F.kp, m⟩
abbrev frO (S : SpO) : SpT := fun ts Q => S ts fun us => Q (.lst us)
theorem FnO.frz {P : Program} {w : World} {K : PySem.W.Frag} {mg : Str → Option Value} {base : Heap} {k : Nat} {f : Addr} {fd : FuncData} {ps : List Str} {S : SpO} (F : FnO P w K mg base k f fd ps S) : FnT P w K mg base k f fd ps (frO S) := by
  refine ⟨⟨fun vs H Q E ⟨ts, Q0, e, _⟩ => e, fun A outer s H args us vs Q E hr e0 hb hv ⟨ts, Q0, e, r, hS, q⟩ => ?_⟩, fun ts Q h => F.len _ _ h⟩
  refine codeAny_mono (F.ok.run A outer s H args us vs (fun v H' => ∃ zs p ws, v = .ref p ∧ Same H H' ∧ H p = none ∧ H' p = some (.lst ws) ∧ Reps K H' zs ws ∧ Q0 (.lst zs)) E hr e0 hb hv ⟨ts, _, e, r, hS, fun zs p ws H' S1 h0 hp rr n => ⟨zs, p, ws, rfl, S1, h0, hp, rr, n⟩⟩) fun res s' h => ?_
  cases res with
  | error e => exact h
  | ok fl =>
    cases fl with
    | ret u =>
      obtain ⟨v, H', os, bare, un, hok, rv, zs, p, ws, rfl, S1, h0, hp, rr, n⟩ := h
      obtain ⟨z, its, m, rl, eh⟩ := hok p _ hp
      have K1 := Kp.write hp (.frz { cls := .type "list", data := .seq its.toArray m } (.lst ws))
      have ne : ∀ {b : Addr} {o : HO}, H b = some o → b ≠ p := fun q z => by subst z; rw [h0] at q; cases q
      have S2 : Same H (upd H' p (.frz { cls := .type "list", data := .seq its.toArray m } (.lst ws))) := fun b o q' => by rw [upd_ne (ne q')]; exact S1 b o q'
      refine ⟨.ref p, _, os, bare, ⟨un.keep, un.slot, fun b o q' n' hx => ?_, un.there, fun b ys q' => ?_, fun b o u' q' => ?_, fun b ps' q' => ?_⟩, fun b ob q' => ?_, rv, q (.lst zs) (.ref p) _ S2 (rep_lst.mpr ⟨p, ws, rfl, .inl ⟨_, upd_same⟩, rr.kp K1⟩) n⟩
      · have e1 := un.free b o q' n' hx
        rw [upd_ne (by rintro rfl; rw [hp] at e1; cases e1)]
        exact e1
      · rw [upd_ne (ne q')]; exact un.tups b ys q'
      · rw [upd_ne (ne q')]; exact un.frzs b o u' q'
      · obtain ⟨more, e1⟩ := un.tbls b ps' q'
        exact ⟨more, by rw [upd_ne (ne q')]; exact e1⟩
      · by_cases hb : b = p
        · subst hb
          rw [upd_same] at q'
          cases q'
          exact ⟨eh, z, its, m, rl, eh⟩
        · rw [upd_ne hb] at q'
          refine (hok b ob q').stay (fun c v hc q => q) (fun c q => ?_) fun c ys q => ?_
          · rw [upd_ne (by rintro rfl; rw [hp] at q; cases q)]; exact q
          · rw [upd_ne (by rintro rfl; rw [hp] at q; cases q)]; exact q
    | next => exact False.elim h
    | brk => exact False.elim h
    | cont => exact False.elim h
theorem CalO.frz {P : Program} {w : World} {K : PySem.W.Frag} {mg : Str → Option Value} {base : Heap} {k : Nat} {x : Str} {ps : List Str} {S : SpO} (C : CalO P w K mg base k x ps S) : Cal P w K mg base k x ps (frO S) :=
  let ⟨f, fd, F, b, kp, m⟩ := C; ⟨f, fd, F.frz, b, kp, m⟩
section
variable {X : Cx} {e : Expr} {b : Expr} {es : List Expr} {wa wb w : WE} {ws : WA} {pos : Pos}
def sOwnF (i : Nat) (S : SpO) (ws : WA) : WS := fun D τ => ws τ fun ts => S ts fun us => D.nx (sput τ i (.own us))
def sSetIx (i : Nat) (wb wa : WE) : WS := fun D τ => match sget τ i with
  | .own ts => wa τ fun t => wb τ fun y => (match y with | .int k => (match ixN ts.length k with | some j => D.nx (sput τ i (.own (ts.set j t))) | none => False) | _ => False)
  | _ => False
theorem Reps.set {K : PySem.W.Frag} {H : Hp} {t : T} {v : V} (r : Rep K H t v) : ∀ {ts : List T} {vs : List V} {j : Nat}, Reps K H ts vs → Reps K H (ts.set j t) (vs.set j v)
  | [], vs, j, h => by
    rw [reps_nil] at h
    subst h
    exact reps_nil.mpr rfl
  | x :: ts, vs, j, h => by
    rw [reps_cons] at h
    obtain ⟨u, us, rfl, h1, h2⟩ := h
    cases j with
    | zero => exact reps_cons.mpr ⟨_, _, rfl, r, h2⟩
    | succ j => exact reps_cons.mpr ⟨_, _, rfl, h1, Reps.set r h2⟩
def sCatO (i j : Nat) (ws : WA) : WS := fun D τ => match sget τ j with
  | .own ts => ws τ fun us => us.length ≤ 1000 ∧ ts.length + us.length ≤ 1000 ∧ D.nx (sput τ i (.own (ts ++ us)))
  | _ => False
def iOwn (i : Nat) : WI := fun τ Q => match sget τ i with | .own ts => Q ts | _ => False
end
end TL
namespace TL
open PySem PySem.Spec PyProof.Rows L2
mutual
def noL : T → Bool
  | .non | .bl _ | .int _ | .str _ => true
  | .tup ts => noLs ts
  | _ => false
def noLs : List T → Bool
  | [] => true
  | t :: ts => noL t && noLs ts
end
mutual
theorem Rep.noL {K : PySem.W.Frag} {H H' : Hp} (k : ∀ a xs, SqT K H a xs → SqT K H' a xs) : ∀ {t : T} {v : V}, TL.noL t = true → Rep K H t v → Rep K H' t v
  | .non, v, _, h => by rw [rep_non] at h ⊢; exact h
  | .bl b, v, _, h => by rw [rep_bl] at h ⊢; exact h
  | .int i, v, _, h => by rw [rep_int] at h ⊢; exact h
  | .str x, v, _, h => by rw [rep_str] at h ⊢; exact h
  | .tup ts, v, n, h => by
    rw [rep_tup] at h ⊢
    obtain ⟨p, vs, e, s, r⟩ := h
    exact ⟨p, vs, e, k p vs s, Reps.noL k (by rw [TL.noL] at n; exact n) r⟩
  | .lst ts, v, n, h => by simp [TL.noL] at n
  | .dct, v, n, h => by simp [TL.noL] at n
  | .exc c, v, n, h => by simp [TL.noL] at n
  | .exf c f t, v, n, h => by simp [TL.noL] at n
theorem Reps.noL {K : PySem.W.Frag} {H H' : Hp} (k : ∀ a xs, SqT K H a xs → SqT K H' a xs) : ∀ {ts : List T} {vs : List V}, TL.noLs ts = true → Reps K H ts vs → Reps K H' ts vs
  | [], vs, _, h => by rw [reps_nil] at h ⊢; exact h
  | t :: ts, vs, n, h => by
    rw [reps_cons] at h ⊢
    obtain ⟨v, r, e, h1, h2⟩ := h
    rw [TL.noLs, Bool.and_eq_true] at n
    exact ⟨v, r, e, Rep.noL k n.1 h1, Reps.noL k n.2 h2⟩
end
section
variable {X : Cx}
def wFz (i : Nat) (w : WE) : WE := fun τ Q => match sget τ i with
  | .own ts => w (sput τ i (.val (.lst ts))) fun t => TL.noL t = true ∧ Q t
  | _ => False
def tFz (i : Nat) (w : WT) : WT := fun τ Q => match sget τ i with
  | .own ts => w (sput τ i (.val (.lst ts))) Q
  | _ => False
def vat1 (v : V) : Slot → Slot
  | .val t => .vat t v
  | .vat t u => .vat t u
  | _ => .no
def vatT (i : Nat) (ts : List T) (a : Nat → V) : Nat → List Slot → List Slot
  | _, [] => []
  | n, s :: r => (if n = i then .vat (.lst ts) (a n) else vat1 (a n) s) :: vatT i ts a (n + 1) r
def backT (Z : List Nat) : Nat → List Slot → List Slot
  | _, [] => []
  | n, s :: r => (if n ∈ Z then .no else s) :: backT Z (n + 1) r
def lone1 : Slot → Bool
  | .no => true
  | .val _ => true
  | .vat _ _ => true
  | _ => false
def lone (i : Nat) : Nat → List Slot → Bool
  | _, [] => true
  | n, s :: r => (decide (n = i) || lone1 s) && lone i (n + 1) r
def sFzS (i : Nat) (Z : List Nat) (w : WS) : WS := fun D τ => match sget τ i with
  | .own ts => lone i 0 τ = true ∧ i ∉ Z ∧ ∀ a : Nat → V, w { nx := fun τ' => (τ'.length = τ.length ∧ ∀ j, j < τ.length → j ∉ Z → sget τ' j = sget (vatT i ts a 0 τ) j) ∧ D.nx (backT Z 0 τ), rt := D.rt, bk := fun _ => False, ct := fun _ => False } (vatT i ts a 0 τ)
  | _ => False
end
section
variable {X : Cx} {a b c e : Expr} {es : List Expr} {wa wb wc w : WE} {ws : WA} {pos : Pos}
def rMulLT (x y : T) (Q : T → Prop) : Prop := match x, y with
  | .lst ts, .int n => ∃ k : Nat, n = k ∧ k ≤ 1000 ∧ ts.length * k ≤ 1000 ∧ Q (.lst (List.replicate k ts).flatten)
  | _, _ => False
def lstQ (Q : List T → Prop) : T → Prop := fun t => match t with | .lst us => Q us | _ => False
end
abbrev soX (S : SpX) : SpO := fun ts Q => S RF ts (lstQ Q)
section
variable {X : Cx} {a b c e : Expr} {es : List Expr} {wa wb wc w : WE} {ws : WA} {pos : Pos}
def rCountTs (ts us : List T) (Q : T → Prop) : Prop := match us with
  | [.int k] => (match intsOf ts with | some ns => Q (.int (ns.count k : Nat)) | none => False)
  | _ => False
def wCount (wa : WE) (ws : WA) : WE := fun τ Q => wa τ fun x => match x with
  | .lst ts => ws τ fun us => rCountTs ts us Q
  | _ => False
def cInTT (x y : T) (Q : Bool → Prop) : Prop := match x, y with
  | .str z, .tup ts => (match strsOf ts with | some zs => Q (zs.contains z) | none => False)
  | _, _ => False
end
end TL
end
section
set_option Elab.async false
set_option linter.all false
set_option maxRecDepth 100000
set_option maxHeartbeats 4000000
namespace TL
open PySem PySem.Spec PyProof.Rows L2
section
variable {M : Model} {A : Around} {E : Value → Shared → Prop} {s : Shared}
theorem flagD {base : Heap} {l : List Env} {e : Addr} {cls a0 fl : Value} {d fr : Option Addr} {Q : Unit → Shared → Prop} (hkb : base.StaysIn s.heap) (hen : base.get? e = none) (hl : s.heap.FunFrames base l) (tr : s.heap.TracedAtW base e cls a0 fl) (da : DAt s.heap e d)
    (hQ : ∀ h', base.StaysIn h' → h'.FunFrames base l → h'.TracedAtW base e cls a0 (fr.elim Value.none fun f => rawInt f) → s.heap.UpToSlots h' → DAt h' e d → Q () { s with heap := h' }) : wpAny M A (setFlight (.ref e) fr) Q E s := by
  obtain ⟨oe, vs, t, oT, ts, he, hcls, hd, h1, hnT, hTe, hT, hdT, h3⟩ := tr
  obtain ⟨o, q, rfl⟩ := da
  rw [he] at q
  cases q
  obtain ⟨nf, hnf⟩ : ∃ v : Value, v = fr.elim Value.none fun f => rawInt f := ⟨_, rfl⟩
  rw [← hnf] at hQ
  have big : 3 < ts.size := (Array.getElem?_eq_some_iff.mp h3).1
  have oth : ∀ b, b ≠ t → (s.heap.update t (Obj.mapFields (·.setIfInBounds 3 nf))).get? b = s.heap.get? b := fun b n => Heap.get?_update_other _ _ (Ne.symm n)
  have nr : ∀ b o, s.heap.get? b = some o → (∀ us, o.data ≠ .fields us) → b ≠ t := by
    intro b o q n z
    subst z
    rw [hT] at q
    cases q
    exact n ts hdT
  unfold setFlight
  refine wpAny_bind (wpAny_field he hd h1 ?_)
  rw [if_pos (by simp), ← hnf]
  have e2 := (oth e (Ne.symm hTe)).trans he
  refine wpAny_setField hT hdT big (hQ _ (fun b o q => (oth b (fun z => by rw [z, hnT] at q; cases q)).trans (hkb b o q)) (hl.of_keeps fun b o q n => ⟨o, (oth b (nr b o q n)).trans q, rfl⟩) ?_ (fun b o q n => ⟨o.slots, (oth b (nr b o q n)).trans q⟩) ⟨oe, e2, rfl⟩)
  exact ⟨oe, vs, t, _, _, e2, hcls, hd, h1, hnT, hTe, Heap.get?_update_self _ hT (Obj.isFreed_of_fields (Obj.data_mapFields hdT _)), Obj.data_mapFields hdT _, by simp [big]⟩
theorem passD {what : String} {base : Heap} {l : List Env} {e : Addr} {cls a0 fl : Value} {d : Option Addr} {cenv : Env} {Q : Value → Shared → Prop} (hkb : base.StaysIn s.heap) (hen : base.get? e = none) (hl : s.heap.FunFrames base l) (tr : s.heap.TracedAtW base e cls a0 fl) (da : DAt s.heap e d)
    (hE : ∀ h' fl', base.StaysIn h' → h'.FunFrames base l → h'.TracedAtW base e cls a0 fl' → s.heap.UpToSlots h' → DAt h' e d → E (.ref e) { s with heap := h' }) : wpAny M A (PySem.passOn what (.ref e) cenv : Sem Value) Q E s := by
  obtain ⟨oe, vs, t, oT, ts, he, hcls, hd, h1, hnT, hTe, hT, hdT, h3⟩ := id tr
  unfold PySem.passOn
  refine wpAny_bind (wpAny_field he hd h1 ?_)
  rw [if_neg (by simp)]
  refine wpAny_bind (flagD hkb hen hl tr da fun h' k1 k2 k3 k4 k5 => ?_)
  exact wpAny_throw (hE h' _ k1 k2 k3 k4 k5)
theorem leavesD {base : Heap} {env : Env} {outer : List Env} {L e : Addr} {cls a0 fl : Value} {d : Option Addr} {Q : Unit → Shared → Prop}
    (hfr : A.frames = some (env :: outer)) (hf : env.frame = some L) (hkb : base.StaysIn s.heap) (hen : base.get? e = none) (hl : s.heap.FunFrames base (env :: outer)) (tr : s.heap.TracedAtW base e cls a0 fl) (da : DAt s.heap e d)
    (hQ : ∀ h', Heap.FlyingW base outer e cls a0 h' → s.heap.UpToSlots h' → DAt h' e d → Q () { s with heap := h' }) : wpAny M A (leaving env (.ref e)) Q E s := by
  by_cases z : fl = rawInt L
  · subst z
    unfold leaving
    refine wpAny_bind (wpAny_noteFrame_againW hf tr ?_)
    exact landD hkb hen hl tr da fun h' k1 k2 k3 => hQ h' ⟨k1.1, k1.2.1, k1.2.2.1.2.2, k1.2.2.2⟩ k2 k3
  · obtain ⟨oe, vs, tr, ot, ts, he, ⟨rfl, hv⟩, hd, hn, hnt, hte, ht, hdt, h3⟩ := tr
    obtain ⟨o, q, rfl⟩ := da
    rw [he] at q
    cases q
    unfold leaving noteFrame
    rw [hf]
    refine wpAny_bind (wpAny_bind (wpAny_field he hd hn ?_))
    rw [if_pos (by simp)]
    refine wpAny_bind (wpAny_field ht hdt h3 ?_)
    rw [if_neg (by simpa using z)]
    refine wpAny_bind (wpAny_setField ht hdt (Array.getElem?_eq_some_iff.mp h3).1 ?_)
    have oth : ∀ b, b ≠ tr → (s.heap.update tr (Obj.mapFields (·.setIfInBounds 3 .none))).get? b = s.heap.get? b := fun b n => Heap.get?_update_other _ _ (Ne.symm n)
    have nr : ∀ b o, s.heap.get? b = some o → (∀ us, o.data ≠ .fields us) → b ≠ tr := by
      intro b o q n z
      subst z
      rw [ht] at q
      cases q
      exact n ts hdt
    refine entryD hfr (hl.of_keeps fun b o q n => ⟨o, (oth b (nr b o q n)).trans q, rfl⟩) hf ((oth e (Ne.symm hte)).trans he) (fun b o q => (oth b (fun z => by rw [z, hnt] at q; cases q)).trans (hkb b o q)) hen hd (Array.getElem?_eq_some_iff.mp hn).1 hv fun h' x y => ?_
    obtain ⟨k1, ⟨_, _, k2⟩, k3, k4⟩ := x
    exact hQ h' ⟨k1, hen, k2, k3⟩ (fun b o q n => k4 b o ((oth b (nr b o q n)).trans q) n) y
theorem noteFrame_like {c d : Env} (h : c.frame = d.frame) (e : Value) : noteFrame e c = noteFrame e d := by
  unfold noteFrame PySem.frameOf
  rw [h]
def without (B : Heap) (c : Addr) : Heap := B.update c fun o => { o with data := .freed }
theorem without_ne {B : Heap} {c b : Addr} (h : b ≠ c) : (without B c).get? b = B.get? b := Heap.get?_update_other _ _ (Ne.symm h)
theorem without_eq {B : Heap} {c : Addr} : (without B c).get? c = none := by
  obtain ⟨objs, l⟩ := B
  unfold without Heap.update Heap.get?
  simp only [Array.getElem?_modify]
  cases objs[c]? with
  | none => rfl
  | some o => rfl
theorem without_some {B : Heap} {c b : Addr} {o : Obj} (h : (without B c).get? b = some o) : b ≠ c ∧ B.get? b = some o := by
  by_cases z : b = c
  · rw [z, without_eq] at h; cases h
  · exact ⟨z, by rw [without_ne z] at h; exact h⟩
theorem without_none {B : Heap} {c b : Addr} (h : B.get? b = none) : (without B c).get? b = none := by
  by_cases z : b = c
  · rw [z]; exact without_eq
  · rw [without_ne z]; exact h
theorem frames_but {B h h' : Heap} {c : Addr} (hs : Heap.SameBut c h h') : ∀ {l : List Env}, c ∉ l.filterMap (·.frame) → h.FunFrames B l → h'.FunFrames (without B c) l
  | [], _, _ => trivial
  | env :: rest, hc, ⟨k1, ⟨L, o, k2, k3, k4, k5⟩, k6⟩ => by
    rw [List.filterMap_cons, k2] at hc
    have n1 : L ≠ c := fun z => hc (by rw [z]; exact List.mem_cons_self)
    exact ⟨k1, ⟨L, o, k2, without_none k3, (hs.2 L n1).trans k4, k5⟩, frames_but hs (fun z => hc (List.mem_cons_of_mem _ z)) k6⟩
end
section
variable {X : Cx} {pins : List (Addr × Obj)} {σ : St} {H H' : Hp} {s s' : Shared} {e : Addr} {dx : Option Addr}
theorem leave_comp {M : Model} {C : Value} {Q : Value → Unit → Shared → Prop} {E : Value → Value → Shared → Prop} {Cc : Addr} {mC : Str → Option Value} {cenv : Env} {use : Option (Value → Sem Unit)} {QQ : Value → Shared → Prop} {ac : Value} (D : DefCx X) (I : Inv X pins σ H s) (F : Fly X.prog X.w X.stack H s H' e C s') (da : DAt s'.heap e dx)
    (cn : X.s₀.heap.get? Cc = none) (cH : H' Cc = none) (cF : Cc ∉ frs X.stack) (cNs : s'.heap.Ns Cc mC) (cf : cenv.frame = X.env.frame)
    (hQ : ∀ h2, Fly X.prog X.w X.outer X.H₀ X.s₀ H' e C { s' with heap := h2 } → DAt h2 e dx → Q (.ref e) () { s' with heap := h2 }) :
    notedBy M X.A cenv (fun x s2 => compPost M X.A (fun e' s3 => wpAny M X.A (leaving X.env e') (Q e') (E e') s3) use QQ ac Cc (.error x) s2) (.ref e) s' := by
  obtain ⟨B, a0, fl, tB, oB⟩ := F.fly
  have hfr : X.A.frames = some (X.env :: X.outer) := by rw [I.ok.frames, D.stk]
  have fl' : Heap.FlyingW B (X.env :: X.outer) e C a0 s'.heap := by rw [← D.stk]; exact fl
  have fs := frs_cons D
  unfold notedBy
  rw [noteFrame_like cf]
  refine noteD hfr D.frame fl' da fun h4 held sm4 da4 => ?_
  obtain ⟨oC, es, ep, hoC, hdC, hrC⟩ := id cNs
  have nsC := sm4.ns cNs
  obtain ⟨oC4, es4, ep4, hoC4, hdC4, hrC4⟩ := id nsC
  refine ⟨mC, nsC, fun h5 sb cenv' _ => ?_⟩
  obtain ⟨a1, a2, a3, oe, vs, t, oT, ts, he, hcls, hd, h1, hnT, hTe, hT, hdT, h3⟩ := held
  have neE : e ≠ Cc := fun z => by rw [z] at he; rw [hoC4] at he; cases he; rw [hdC4] at hd; cases hd
  have neT : t ≠ Cc := fun z => by rw [z] at hT; rw [hoC4] at hT; cases hT; rw [hdC4] at hdT; cases hdT
  have cF' : Cc ∉ (X.env :: X.outer).filterMap (·.frame) := by
    have := cF
    unfold frs at this
    rw [D.stk] at this
    exact this
  have b1 : (without B Cc).StaysIn h5 := fun b o q => by
    obtain ⟨n, q'⟩ := without_some q
    exact (sb.2 b n).trans (a1 b o q')
  have b2 : (without B Cc).get? e = none := without_none a2
  have b3 := frames_but sb cF' a3
  have b4 : h5.TracedAtW (without B Cc) e C a0 (rawInt X.env.locals) := ⟨oe, vs, t, oT, ts, (sb.2 e neE).trans he, hcls, hd, h1, without_none hnT, hTe, (sb.2 t neT).trans hT, hdT, h3⟩
  have b5 : DAt h5 e dx := by
    obtain ⟨o, q1, q2⟩ := da4
    exact ⟨o, (sb.2 e neE).trans q1, q2⟩
  refine passD (s := { s' with heap := h5 }) b1 b2 b3 b4 b5 fun h6 fl6 c1 c2 c3 c4 c5 => ?_
  refine leavesD (s := { s' with heap := h6 }) hfr D.frame c1 b2 c2 c3 c5 fun h2 fl2 up2 hD => hQ h2 ?_ hD
  have up : ∀ b o, b ≠ Cc → s'.heap.get? b = some o → (∀ vs, o.data ≠ .fields vs) → ∃ sl, h2.get? b = some { o with slots := sl } := fun b o n q nf => by
    obtain ⟨sl4, q4⟩ := sm4 b o q nf
    obtain ⟨sl6, q6⟩ := c4 b _ ((sb.2 b n).trans q4) nf
    obtain ⟨sl2, q2⟩ := up2 b _ q6 nf
    exact ⟨sl2, q2⟩
  have I' : Inv X pins σ H' s' := I.call' (ch := []) F.os F.un F.hok F.bare fun b z => absurd z (by simp)
  have nox : ∀ b : Addr, b ∉ X.ex := fun b => by rw [D.ex]; simp
  have old : ∀ b o, X.s₀.heap.get? b = some o → b ≠ Cc := fun b o q z => by rw [z, cn] at q; cases q
  have oldL : ∀ b o, X.s₀.heap.get? b = some o → b ≠ X.env.locals := fun b o q z => by
    have l1 := Heap.lt_size q
    have l2 := I.ok.above
    rw [z] at l1
    exact absurd (Nat.lt_of_lt_of_le l1 l2) (Nat.lt_irrefl _)
  have same : ∀ b u v, B.get? b = some u → s'.heap.get? b = some v → u = v := fun b u v h1 h2 => by
    have := fl.1 b u h1
    rw [h2] at this
    exact (Option.some.inj this).symm
  have inB : ∀ b u, X.s₀.heap.get? b = some u → b ∉ frs X.outer → ∃ o2, s'.heap.get? b = some o2 ∧ (without B Cc).get? b = some o2 := fun b u q hf => by
    obtain ⟨o1, e1⟩ := I.base.there b u q (nox b)
    obtain ⟨o2, e2⟩ := F.un.there b o1 e1 (by simp)
    exact ⟨o2, e2, by rw [without_ne (old b u q)]; exact oB b o1 o2 e1 e2 (by rw [fs]; intro z; rcases List.mem_cons.mp z with z | z; exact oldL b u q z; exact hf z)⟩
  have nofld : ∀ b ∈ frs X.outer, b ≠ Cc ∧ ∃ ob, s'.heap.get? b = some ob ∧ ∀ vs, ob.data ≠ .fields vs := fun b hb => by
    have hb' : b ∈ frs X.stack := by rw [fs]; exact List.mem_cons_of_mem _ hb
    refine ⟨fun z => cF (by rw [← z]; exact hb'), ?_⟩
    have hb2 : b ∈ X.stack.filterMap (·.frame) := hb'
    obtain ⟨_, ob, eb, nf⟩ := (I'.stack).mem hb2
    exact ⟨ob, eb, nf⟩
  refine ⟨I'.os, I'.bare, ⟨fun b o q n hf _ => ?_, fun b o q n hf _ => ?_, fun b o q n _ => I'.base.free b o q n (nox b), fun b o q _ => ?_, I'.base.tups, I'.base.frzs, I'.base.tbls⟩, hok_objs F.hok fun b o u hb q => ?_, ?_, F.non, without B Cc, a0, fl2, fun b o hb => ?_, fun b u o q q2 hf => ?_⟩
  · obtain ⟨o2, e2, eB⟩ := inB b o q hf
    have := I'.base.keep b o q n hf (nox b)
    rw [e2] at this
    cases this
    exact fl2.1 b _ eB
  · obtain ⟨sl, e1⟩ := I'.base.slot b o q n hf (nox b)
    obtain ⟨nb, ob, eb, nf⟩ := nofld b hf
    rw [e1] at eb
    cases eb
    obtain ⟨sl2, e2⟩ := up b _ nb e1 nf
    exact ⟨sl2, e2⟩
  · obtain ⟨o1, e1⟩ := I'.base.there b o q (nox b)
    by_cases hf : b ∈ frs X.outer
    · obtain ⟨nb, ob, eb, nf⟩ := nofld b hf
      rw [e1] at eb
      cases eb
      obtain ⟨sl2, e2⟩ := up b _ nb e1 nf
      exact ⟨_, e2⟩
    · obtain ⟨o2, _, eB⟩ := inB b o q hf
      exact ⟨o2, fl2.1 b o2 eB⟩
  · obtain ⟨v, hv⟩ := tB b o hb
    have := same b v u hv q
    subst this
    exact fl2.1 b v (by rw [without_ne (fun z => by rw [z, cH] at hb; cases hb)]; exact hv)
  · cases q : X.s₀.heap.get? e with
    | none => rfl
    | some o =>
      obtain ⟨o1, e1⟩ := I.base.there e o q (nox e)
      rw [F.new] at e1
      cases e1
  · obtain ⟨v, hv⟩ := tB b o hb
    exact ⟨v, by rw [without_ne (fun z => by rw [z, cH] at hb; cases hb)]; exact hv⟩
  · obtain ⟨o2, e2, eB⟩ := inB b u q hf
    have z2 := fl2.1 b o2 eB
    have q2' : h2.get? b = some o := q2
    rw [z2] at q2'
    cases q2'
    exact eB
end
section
variable {prog : Program} {w : World} {A : Around} {E : Value → Shared → Prop} {R : Result → Shared → Prop} {s : Shared}
theorem loopE {elt target iter : Expr} {ifs : List Expr} {scope : Scope} {pos : Pos} {it acc : Value} {env : Env} (I : Nat → Shared → Prop)
    (turn : ∀ n s, I n s → wpAny (model prog w) A (pyNext it) (fun r s₁ => match r with
      | none => R (.ok .next) s₁
      | some v => wpAny (model prog w) A (letOwnedTupleGo target it v) (fun _ s₁' => wpAny (model prog w) A (assign target env v) (fun _ s₂ =>
          wpAny (model prog w) A (forIn ifs true fun c r => if r = true then do let ok ← isTrue c env (eval c env); pure (ForInStep.yield ok) else pure (ForInStep.yield r)) (fun ok s₃ =>
            if ok = true then wpAny (model prog w) A (eval elt env) (fun x s₄ =>
              wpAny (model prog w) A (call (.builtin "list.append") [acc, x]) (fun _ s₅ => ∃ m, m < n ∧ I m s₅) (fun _ _ => False) s₄) (notedBy (model prog w) A env fun x s' => R (.error x) s') s₃
            else ∃ m, m < n ∧ I m s₃) (fun _ _ => False) s₂) (fun _ _ => False) s₁') (fun _ _ => False) s₁) (fun _ _ => False) s)
    (n : Nat) (h : I n s) :
    codeAny (model prog w) A (.compLoop (.ListComp elt [⟨target, iter, ifs, 0⟩] scope pos) 0 it acc env) R s := by
  refine codeAny_loop rfl I (fun n s hI => ?_) n h
  show wpAny _ A ((compTurn (.ListComp elt [⟨target, iter, ifs, 0⟩] scope pos) 0 it acc env).onRaise (fun x => do noteFrame x env; theTreesLotGoes x)) _ _ s
  refine wpAny_noted ?_
  rw [compTurn_list]
  refine wpAny_bind (wpAny_standAt (wpAny_bind (wpAny_mono (turn n s hI) (fun r s₁ h₁ => ?_) fun _ _ h' => h'.elim)))
  cases r with
  | none => exact wpAny_pure h₁
  | some v =>
    refine wpAny_bind (wpAny_mono h₁ (fun _ s₁' h₁' => ?_) fun _ _ h' => h'.elim)
    refine wpAny_bind (wpAny_mono h₁' (fun _ s₂ h₂ => wpAny_bind (wpAny_mono h₂ (fun ok s₃ h₃ => ?_) fun _ _ h' => h'.elim)) fun _ _ h' => h'.elim)
    cases ok with
    | false => exact wpAny_pure ⟨rfl, h₃⟩
    | true =>
      exact wpAny_bind (wpAny_bind (wpAny_mono h₃ (fun x s₄ h₄ => wpAny_bind (wpAny_mono h₄ (fun _ s₅ h₅ => wpAny_pure (wpAny_pure ⟨rfl, h₅⟩)) fun _ _ h' => h'.elim)) fun _ _ h' => h'))
end
structure TakesC (X : Cx) (R : T → Prop) : Prop where
  ex : X.ex = []
  cm : ∀ (pins : List (Addr × Obj)) (σ : St) (H H' : Hp) (s s' : Shared) (a C : Addr) (dx : Option Addr) (Cc : Addr) (mC : Str → Option Value) (cenv : Env) (use : Option (Value → Sem Unit)) (QQ : Value → Shared → Prop) (ac : Value), Inv X pins σ H s → Same X.H₀ H → Fly X.prog X.w X.stack H s H' a (.ref C) s' → DAt s'.heap a dx → Same H H' → wishF X.K R C dx H' →
    X.s₀.heap.get? Cc = none → H' Cc = none → Cc ∉ frs X.stack → s'.heap.Ns Cc mC → cenv.frame = X.env.frame → notedBy (model X.prog X.w) X.A cenv (fun x s2 => compPost (model X.prog X.w) X.A X.xe use QQ ac Cc (.error x) s2) (.ref a) s'
structure TakesOn (X : Cx) (R : T → Prop) : Prop where
  on : ∀ (pins : List (Addr × Obj)) (σ : St) (H H' : Hp) (s s' : Shared) (a C : Addr) (dx : Option Addr), Inv X pins σ H s → Same X.H₀ H → Fly X.prog X.w X.stack H s H' a (.ref C) s' → DAt s'.heap a dx → Same H H' → wishF X.K R C dx H' → X.xe (.ref a) s'
theorem takesC_def {P : Program} {w : World} {K : PySem.W.Frag} {mg : Str → Option Value} {base : Heap} {N : List Str} {qual : Str} {scope : Scope} {f : Addr} {cdv : Value} {A : Around} {outer : List Env} {s : Shared} {H : Hp} {E : XK} {R : T → Prop}
    (hE : ∀ v dx H', Same H H' → wishOf K R v dx H' → E v dx H') : TakesC (cxOf (CXE P w) P w K mg base N qual scope f cdv A outer s H E) R := by
  have D : DefCx (cxOf (CXE P w) P w K mg base N qual scope f cdv A outer s H E) := ⟨rfl, rfl, rfl⟩
  refine ⟨rfl, fun pins σ H1 H' s1 s' a C dx Cc mC cenv use QQ ac I S0 fl da S1 h1 c1 c2 c3 c4 c5 => ?_⟩
  exact leave_comp (Q := fun e' _ s'' => CXE P w outer H s E e' s'') (E := fun e' e'' s'' => CXE P w outer H s E e'' s'') D I fl da c1 c2 c3 c4 c5 fun h2' F2 d2 => ⟨a, C, dx, H', rfl, F2, d2, S0.trans S1, hE _ _ _ (S0.trans S1) ⟨C, rfl, h1⟩⟩
section
variable {X : Cx} {a b c e : Expr} {es : List Expr} {wa wb wc w : WE} {ws : WA} {pos : Pos} {st : Stmt}
theorem jcallY {k : Nat} {ps : List Str} {S : SpX} {R : T → Prop} {x : Str} {p : Pos} (C : CalX X.prog X.w X.K X.mg X.base k x ps S) (tk : TakesOn X R) (hr : Room k X.A) (hg : Gl X x)
    (ha : JA X (e :: es) ws) (hdb : (x == ("__debug__" : Str)) = false := by decide) (he : starEach (e :: es) X.env = (false, eval e X.env) :: starEach es X.env := by exact star1 rfl)
    (hpl : (backTo pos (starEach es X.env)).any (·.1) = false := by exact stars rfl) : JE X (.Call (.Name x p) (e :: es) [] pos) (wCall (S R) ws) := by
  obtain ⟨f, fd, F, hb, hk, hm⟩ := C
  intro pins s σ H Q I ⟨τ, Q0, R0, hw, k⟩
  refine wpAny_Call_Name_kw (ld_glob I hg hm ?_ hdb)
  refine PySem.W.callWith_K (h₀ := X.base) I.ok.mod.kin hk (thn (ha pos pins s σ H (fun vs H1 => ∃ ts, Same H H1 ∧ Reps X.K H1 ts vs ∧ S R ts Q0) I ⟨τ, _, R0, hw, fun ts vs H1 S1 r q => ⟨ts, S1, r, q⟩⟩) fun us s1 ⟨vs, H1, I1, r, ts, S1, rr, q⟩ => ⟨I1.kIn, ?_⟩) he hpl
  exact run_at F hr hb (fun a C dx H' s' fl da S2 h1 => tk.on pins σ H1 H' s1 s' a C dx I1 (R0.same.trans S1) fl da S2 h1) I1 r rr q fun t v H' S2 r2 q2 => k t v H' (S1.trans S2) r2 q2
theorem comp_mid {X X' : Cx} {pins pins' : List (Addr × Obj)} {σ σ5 : St} {H2 H5 : Hp} {s2 s6 : Shared} {fp : List Addr} {Da : Addr} {h3 : Heap} (eP : X'.prog = X.prog) (eW : X'.w = X.w) (eFs : X'.fs = frs X.stack) (eEx : X'.ex = Da :: fp) (eH : X'.H₀ = H2)
    (eS : X'.s₀.heap = h3) (eOs : X'.s₀.os = s2.os) (hCn : X'.env.locals = Da + 1) (pushK : ∀ b o, s2.heap.get? b = some o → h3.get? b = some o) (hDa : s2.heap.objs.size = Da) (I2 : Inv X pins σ H2 s2) (f2 : ∀ b ∈ fp, FpOk X pins H2 b) (I6 : Inv X' pins' σ5 H5 s6) : Inv X pins σ H5 s6 := by
  have un := I6.base
  rw [eFs, eEx, eH, eS] at un
  have old : ∀ b o, s2.heap.get? b = some o → b ≠ Da := fun b o e => by
    have lt := Heap.lt_size e
    rw [hDa] at lt
    exact Nat.ne_of_lt lt
  have ex : ∀ b o, s2.heap.get? b = some o → b ∉ fp → b ∉ Da :: fp := fun b o e hb z => by
    rcases List.mem_cons.mp z with z | z
    · exact old b o e z
    · exact hb z
  refine I2.call' (s' := s6) (ch := fp) (by rw [I6.os, eOs]) ⟨fun b o e n hf hx => ?_, fun b o e n hf hx => ?_, fun b o e n hx => ?_, fun b o e hx => ?_, fun b xs e => ?_, fun b o u e => ?_, fun b ps e => ?_⟩ (fun b ob eb => ?_) I6.bare fun b hb => ?_
  · exact un.keep b o (pushK b o e) n hf (ex b o e hx)
  · exact un.slot b o (pushK b o e) n hf (ex b o e hx)
  · exact un.free b o (pushK b o e) n (ex b o e hx)
  · exact un.there b o (pushK b o e) (ex b o e hx)
  · exact un.tups b xs e
  · exact un.frzs b o u e
  · exact un.tbls b ps e
  · have o5 := I6.hok b ob eb
    rw [eP, eW] at o5
    exact o5
  · obtain ⟨g1, g2, g3, g4, g5, g6⟩ := f2 b hb
    exact ⟨g4, g2, g5, g6⟩
theorem comp_loopX {X X' : Cx} {elt target iter : Expr} {ifs : List Expr} {scope : Scope} {pos : Pos} {g : TGt} {ut : WT} {we : WE} {use : Option (Value → Sem Unit)} {QQ : Value → Shared → Prop} {pins : List (Addr × Obj)} {σ σ4 : St} {H H2 : Hp} {s2 s4 : Shared} {h3 : Heap} {it Da : Addr} {fp : List Addr} {tn' : Nat → Heap → Prop} {J : It} {ts : List T} {Q0 : T → Prop} {τ4 : List Slot}
    (hg' : JG X' target g) (hu' : JTs X' ifs ut) (he' : JE (X'.wish (notedBy (model X.prog X.w) X.A X'.env fun x s2 => compPost (model X.prog X.w) X.A X.xe use QQ (.ref Da) X'.env.locals (.error x) s2)) elt we) (eP : X'.prog = X.prog) (eW : X'.w = X.w) (eK : X'.K = X.K) (eA : X'.A = X.A) (eH : X'.H₀ = H2) (eE : X'.xe = fun _ _ => False) (eC : X'.calm = true) (eFs : X'.fs = frs X.stack) (eEx : X'.ex = Da :: fp) (eS : X'.s₀.heap = h3) (eOs : X'.s₀.os = s2.os) (ePn : X'.pn = [])
    (hCn : X'.env.locals = Da + 1) (pushK : ∀ b o, s2.heap.get? b = some o → h3.get? b = some o) (hDa : s2.heap.objs.size = Da) (I2 : Inv X pins σ H2 s2) (f2 : ∀ b ∈ fp, FpOk X pins H2 b) (Tn : Turn X.prog X.w X.K target J fp it tn') (ne : Da ∉ fp) (S2 : Same H H2) (wk : WkS X.K J ts H2) (hlen : ts.length ≤ 1000)
    (J4 : Inv X' [] σ4 H2 s4) (R4 : RepSt X'.K X'.H₀ H2 σ4 τ4) (st4 : tn' 0 s4.heap) (fr4 : ∀ b ∈ Da :: fp, H2 b = none) (hDat : s4.heap.get? Da = some { cls := .type "list", dict := none, data := .seq ([] : List Value).toArray }) (q : compT g ut we ts [] τ4 fun rs => Q0 (.lst rs))
    (hfp : ∀ H6 : Hp, H6 X'.env.locals = none → FpOk X pins H6 X'.env.locals)
    (hend : ∀ (s6 : Shared) (H6 : Hp) (D C : Addr) (m6 : Str → Option Value) (t : T) (f : Flow), Inv X pins σ H6 s6 → FpOk X pins H6 C → s6.heap.Ns C m6 → Same H H6 → Rep X.K H6 t (.ref D) → Q0 t → (∃ (H5 : Hp) (o : Obj) (vs : List V) (ts : List T), H6 = upd H5 D (.frz o (.lst vs)) ∧ H5 D = none ∧ Same H H5 ∧ t = .lst ts ∧ Reps X.K H5 ts vs) → compPost (model X.prog X.w) X.A X.xe use QQ (.ref D) C (.ok f) s6) :
    codeAny (model X.prog X.w) X.A (.compLoop (.ListComp elt [⟨target, iter, ifs, 0⟩] scope pos) 0 (.ref it) (.ref Da) X'.env) (compPost (model X.prog X.w) X.A X.xe use QQ (.ref Da) X'.env.locals) s4 := by
  have stat : ∀ {H' : Hp} {b : Addr}, b ∈ Da :: fp → H' b = none → FpOk X' [] H' b := fun {H' b} hb hn => by
    have o := (J4.ok.exf b (by rw [eEx]; exact hb))
    refine ⟨hn, o.1, J4.ok.exfs b (by rw [eEx]; exact hb), .inl (by rw [eEx]; exact hb), o.2, fun p hp => ?_⟩
    rw [ePn] at hp
    exact absurd (show p ∈ ([] : List (Addr × Obj)) from hp) (by simp)
  refine loopE (CompInv X.K X' ts g ut we Q0 tn' Da fp) ?_ ts.length
    ⟨0, _, H2, _, [], [], [], 0, by simp, Nat.zero_le _, J4, st4, fr4, R4, hDat, .nil, reps_nil.mpr rfl, Nat.le_refl _, by simpa using q⟩
  rintro n s5 ⟨i, σ5, H5, τ5, acc, vs, its, k5, rfl, hi5, I5, st5, fr5, R5, hD5, rv5, ra5, hl5, q5⟩
  have K5 : Same H2 H5 := by
    have := R5.same
    rwa [eH] at this
  obtain ⟨wi5, ws5⟩ := wk H5 K5
  have fp5 : ∀ b ∈ fp, FpOk X' [] H5 b := fun b hb => stat (List.mem_cons_of_mem _ hb) (fr5 b (List.mem_cons_of_mem _ hb))
  rw [← eA]
  by_cases hlt : i < ts.length
  · have ei : ts[i]? = some ts[i] := List.getElem?_eq_getElem hlt
    obtain ⟨go, yl⟩ := wi5 i _ ei
    rw [List.drop_eq_getElem_cons hlt] at q5
    have ID : Inv X' ([] ++ pinsAt [Da] s5.heap) σ5 H5 s5 := I5.pinned (fp := [Da]) (fun b hb => stat (by rw [List.mem_singleton.mp hb]; exact List.mem_cons_self) (fr5 b (by rw [List.mem_singleton.mp hb]; exact List.mem_cons_self))) fun b hb => by
      rw [List.mem_singleton.mp hb]
      exact ⟨_, hD5, fun v z => (by cases z)⟩
    have fpp : ∀ {H' : Hp}, (∀ b ∈ fp, H' b = none) → ∀ b ∈ fp, FpOk X' ([] ++ pinsAt [Da] s5.heap) H' b := fun hn b hb => by
      obtain ⟨g1, g2, g3, g4, g5, g6⟩ := stat (H' := _) (List.mem_cons_of_mem _ hb) (hn b hb)
      refine ⟨g1, g2, g3, g4, g5, fun p hp => ?_⟩
      rcases List.mem_append.mp hp with z | z
      · rw [ePn] at z; exact absurd (show p ∈ ([] : List (Addr × Obj)) from z) (by simp)
      · rw [List.nil_append] at z
        obtain ⟨z1, _⟩ := of_pinsAt z
        rw [List.mem_singleton.mp z1]
        intro e
        exact ne (by rw [e]; exact hb)
    have frf : ∀ b ∈ fp, H5 b = none := fun b hb => fr5 b (List.mem_cons_of_mem _ hb)
    refine wpAny_mono (Tn.item X' eP eW eK eC i _ s5 σ5 H5 (fun _ _ => False) ID (fpp frf) st5 go) (fun r s6 h6 => ?_) fun _ _ z => z
    obtain ⟨u, rfl, h6⟩ := h6
    refine wpAny_mono h6 (fun _ s7 h7 => ?_) fun _ _ z => z
    obtain ⟨x, H7, I7, rx, y7, st7, fr7⟩ := h7
    obtain ⟨S7, r7⟩ := yl x H7 y7
    have I7p := I7.pinned (fpp fr7) (Tn.obj _ _ st7)
    have R7 := R5.mono S7
    have g7 := hg' _ s7 σ5 H7 x u (fun σ8 H8 => ∃ τ8, Same H7 H8 ∧ RepSt X'.K X'.H₀ H8 σ8 τ8 ∧ ut τ8 fun k => (k = true → we τ8 fun t => compT g ut we (ts.drop (i + 1)) (acc ++ [t]) τ8 fun rs => Q0 (.lst rs)) ∧ (k = false → compT g ut we (ts.drop (i + 1)) acc τ8 fun rs => Q0 (.lst rs))) I7p rx
      ⟨ts[i], τ5, _, R7, (by rw [eK]; exact r7), q5, fun τ8 σ8 H8 S8 R8 q8 => ⟨τ8, S8, R8, q8⟩⟩
    rw [eE, eP, eW] at g7
    refine wpAny_mono g7 (fun _ s8 h8 => ?_) fun _ _ z => z
    obtain ⟨σ8, H8, I8, τ8, S8, R8, q8⟩ := h8
    have u8 := hu' _ s8 σ8 H8 (fun k H9 => Same H8 H9 ∧ ((k = true → we τ8 fun t => compT g ut we (ts.drop (i + 1)) (acc ++ [t]) τ8 fun rs => Q0 (.lst rs)) ∧ (k = false → compT g ut we (ts.drop (i + 1)) acc τ8 fun rs => Q0 (.lst rs)))) I8 ⟨τ8, _, R8, q8, fun k H9 S9 q9 => ⟨S9, q9⟩⟩
    rw [eE, eP, eW] at u8
    refine wpAny_mono u8 (fun k s9 h9 => ?_) fun _ _ z => z
    obtain ⟨H9, I9, S9, q9⟩ := h9
    have R9 := R8.mono S9
    have pinD : ∀ {s' : Shared} {σ' : St} {H' : Hp}, Inv X' (([] ++ pinsAt [Da] s5.heap) ++ pinsAt fp s7.heap) σ' H' s' → s'.heap.get? Da = some { cls := .type "list", dict := none, data := .seq its.toArray k5 } ∧ H' Da = none := fun I' => by
      have z := I'.pin (Da, _) (List.mem_append_right _ (List.mem_append_left _ (by rw [List.nil_append]; exact mem_pinsAt (List.mem_singleton.mpr rfl) hD5)))
      exact ⟨z.1, z.2.1⟩
    have pinF : ∀ {s' : Shared} {σ' : St} {H' : Hp}, Inv X' (([] ++ pinsAt [Da] s5.heap) ++ pinsAt fp s7.heap) σ' H' s' → tn' (i + 1) s'.heap ∧ ∀ b ∈ fp, H' b = none := fun {s' σ' H'} I' => by
      refine ⟨Tn.keep _ _ _ st7 fun b hb o e => (I'.pin (b, o) (List.mem_append_right _ (List.mem_append_right _ (mem_pinsAt hb e)))).1, fun b hb => ?_⟩
      obtain ⟨o, e, d⟩ := Tn.obj _ _ st7 b hb
      exact (I'.pin (b, o) (List.mem_append_right _ (List.mem_append_right _ (mem_pinsAt hb e)))).2.1
    have frD : ∀ {H' : Hp}, H' Da = none → (∀ b ∈ fp, H' b = none) → ∀ b ∈ Da :: fp, H' b = none := fun h1 h2 b hb => by
      rcases List.mem_cons.mp hb with rfl | hb
      · exact h1
      · exact h2 b hb
    have unp : ∀ {s' : Shared} {σ' : St} {H' : Hp}, Inv X' (([] ++ pinsAt [Da] s5.heap) ++ pinsAt fp s7.heap) σ' H' s' → Inv X' [] σ' H' s' := fun I' => I'.pins_of fun p hp => absurd hp (by simp)
    cases k with
    | false =>
      rw [if_neg Bool.false_ne_true]
      refine ⟨ts.length - (i + 1), by omega, i + 1, σ8, H9, τ8, acc, vs, its, k5, rfl, hlt, unp I9, (pinF I9).1, frD (pinD I9).2 (pinF I9).2, R9, (pinD I9).1, rv5, ra5.kp (.of (S7.trans (S8.trans S9))), by omega, q9.2 rfl⟩
    | true =>
      rw [if_pos rfl]
      have e9 := he' _ s9 σ8 H9 (fun v H10 => ∃ t, Same H9 H10 ∧ Rep X'.K H10 t v ∧ compT g ut we (ts.drop (i + 1)) (acc ++ [t]) τ8 fun rs => Q0 (.lst rs)) (I9.wish _) ⟨τ8, _, R9, q9.1 rfl, fun t v H10 S10 r10 q10 => ⟨t, S10, r10, q10⟩⟩
      have e9' : wpAny (model X'.prog X'.w) X'.A (eval elt X'.env) (EP (X'.wish _) _ _ _) (notedBy (model X.prog X.w) X.A X'.env fun x s2 => compPost (model X.prog X.w) X.A X.xe use QQ (.ref Da) X'.env.locals (.error x) s2) s9 := e9
      rw [eP, eW] at e9'
      refine wpAny_mono e9' (fun y s10 h10 => ?_) fun _ _ z => (by rw [eA]; exact z)
      obtain ⟨v, H10, I10, rv, t, S10, r10, q10⟩ := h10
      have I10 := I10.unwish
      have hlen5 : its.length ≤ 1000 := by
        have e1 := rv5.length
        have e2 := ra5.length
        omega
      refine wpAny_list_append_plain (hsz := by rw [List.size_toArray]; exact few hlen5) ⟨k5, (pinD I10).1⟩ fun h11 hl11 hs11 => ?_
      obtain ⟨k11, hl11⟩ := hl11
      have I11 : Inv X' [] σ8 H10 { s10 with heap := h11 } := by
        obtain ⟨g1, g2, g3, g4, g5, g6⟩ := stat (H' := H10) List.mem_cons_self (pinD I10).2
        exact (unp I10).turned (t' := s10.toks) (it := Da) (fun b o hb e => (hs11.2 b hb).trans e) g1 g2 g4 g5 g6
      have st11 : tn' (i + 1) h11 := Tn.keep _ _ _ (pinF I10).1 fun b hb o e => (hs11.2 b (fun z => ne (by rw [← z]; exact hb))).trans e
      refine ⟨ts.length - (i + 1), by omega, i + 1, σ8, H10, τ8, acc ++ [t], vs ++ [v], its ++ [y], k11, rfl, hlt, I11, st11, frD (pinD I10).2 (pinF I10).2, R9.mono S10, ?_, rv5.append (.cons rv .nil), (ra5.kp (.of (S7.trans (S8.trans (S9.trans S10))))).append (.one (by rw [← eK]; exact r10)), by simp; omega, q10⟩
      have ea : (its ++ [y]).toArray = its.toArray.push y := by simp
      rw [ea]
      exact hl11
  · have e : i = ts.length := by omega
    subst e
    rw [List.drop_length] at q5
    have q5' : Q0 (.lst acc) := q5
    refine wpAny_mono (Tn.done X' eP eW eK eC ts.length ([] ++ pinsAt [Da] s5.heap) s5 σ5 H5 (fun _ _ => False) ?_ ?_ st5 ws5) (fun r s6 h6 => ?_) fun _ _ z => z
    · exact I5.pinned (fp := [Da]) (fun b hb => stat (by rw [List.mem_singleton.mp hb]; exact List.mem_cons_self) (fr5 b (by rw [List.mem_singleton.mp hb]; exact List.mem_cons_self))) fun b hb => by
        rw [List.mem_singleton.mp hb]
        exact ⟨_, hD5, fun v z => (by cases z)⟩
    · intro b hb
      obtain ⟨g1, g2, g3, g4, g5, g6⟩ := stat (H' := H5) (List.mem_cons_of_mem _ hb) (fr5 b (List.mem_cons_of_mem _ hb))
      refine ⟨g1, g2, g3, g4, g5, fun p hp => ?_⟩
      rcases List.mem_append.mp hp with z | z
      · rw [ePn] at z; exact absurd (show p ∈ ([] : List (Addr × Obj)) from z) (by simp)
      · rw [List.nil_append] at z
        obtain ⟨z1, _⟩ := of_pinsAt z
        rw [List.mem_singleton.mp z1]
        intro e
        exact ne (by rw [e]; exact hb)
    obtain ⟨rfl, I6⟩ := h6
    have z6 := I6.pin (Da, _) (List.mem_append_right _ (by rw [List.nil_append]; exact mem_pinsAt (List.mem_singleton.mpr rfl) hD5))
    obtain ⟨m6, hn6, _⟩ := I6.loc
    have hz : vs.length ≤ sizeLine := by rw [ra5.length]; exact few (by omega)
    have fin := comp_end eP eW eFs eEx eH eS eOs hCn pushK hDa I2 f2 I6 (fr5 _ List.mem_cons_self) z6.1 rv5 hz
    have S5 : Same H2 H5 := by have := R5.same; rwa [eH] at this
    have S6 : Same H2 (upd H5 Da (.frz { cls := .type "list", dict := none, data := .seq its.toArray k5 } (.lst vs))) := S5.trans (same_new (fr5 _ List.mem_cons_self) _)
    have hfpC := hfp _ (show (upd H5 Da (.frz { cls := .type "list", dict := none, data := .seq its.toArray k5 } (.lst vs))) X'.env.locals = none by rw [upd_ne (by rw [hCn]; exact Nat.succ_ne_self _)]; exact I6.free)
    show compPost (model X.prog X.w) X'.A X.xe use QQ (.ref Da) X'.env.locals (.ok .next) s6
    rw [eA]
    exact hend s6 _ _ _ m6 (.lst acc) _ fin hfpC hn6 (S2.trans S6) (rep_lst.mpr ⟨_, vs, rfl, .inl ⟨_, upd_same⟩, ra5.kp (.of (same_new (fr5 _ List.mem_cons_self) _))⟩) q5' ⟨H5, _, vs, acc, rfl, fr5 _ List.mem_cons_self, S2.trans S5, rfl, ra5⟩
theorem comp_coreX {R : T → Prop} {elt target iter : Expr} {ifs : List Expr} {scope sc0 : Scope} {tn N0 : List Str} {fr : List (Str × Nat)} {wi : WI} {g : TGt} {ut : WT} {we : WE} (hsc : X.env.scope = sc0) (hN0 : X.N = N0) (hc : X.calm = true) (tkc : TakesC X R)
    (hi : JIc X target iter wi) (hk : scope.kind = .function) (hk0 : sc0.kind = .function)
    (hnames : (scope.names.all fun x => x.2 != .local || scope.names.lookup x.1 == some .local) = true) (hcell : (scope.names.all fun x => x.2 != .cell) = true)
    (hfree : (scope.names.all fun x => x.2 != .free || sc0.names.lookup x.1 == some .cell) = true)
    (hfr : (fr.all fun p => (sc0.names.lookup p.1 == some .cell && scope.names.lookup p.1 == some .free) && N0[p.2]? == some p.1) = true)
    (hg : ∀ cl C s3 H2 ex, JG (compCx X (tn ++ fr.map (·.1)) scope cl C s3 H2 ex) target g) (hu : ∀ cl C s3 H2 ex, JTs (compCx X (tn ++ fr.map (·.1)) scope cl C s3 H2 ex) ifs ut)
    (he : ∀ cl C s3 H2 ex E0, TakesOn ((compCx X (tn ++ fr.map (·.1)) scope cl C s3 H2 ex).wish E0) R → JE ((compCx X (tn ++ fr.map (·.1)) scope cl C s3 H2 ex).wish E0) elt we)
    (hs : ∀ x, foldedSetIterable iter X.env x = pure x) {pos' : Pos} {pins : List (Addr × Obj)} {s : Shared} {σ : St} {H : Hp} {QQ : Value → Shared → Prop} {use : Option (Value → Sem Unit)} (I : Inv X pins σ H s)
    {τ : List Slot} {Q0 : T → Prop} (R0 : RepSt X.K X.H₀ H σ τ) (hw : wComp wi g ut we tn.length (fr.map (·.2)) τ Q0)
    (hend : ∀ (s6 : Shared) (H6 : Hp) (D C : Addr) (m6 : Str → Option Value) (t : T) (f : Flow), Inv X pins σ H6 s6 → FpOk X pins H6 C → s6.heap.Ns C m6 → Same H H6 → Rep X.K H6 t (.ref D) → Q0 t → (∃ (H5 : Hp) (o : Obj) (vs : List V) (ts : List T), H6 = upd H5 D (.frz o (.lst vs)) ∧ H5 D = none ∧ Same H H5 ∧ t = .lst ts ∧ Reps X.K H5 ts vs) → compPost (model X.prog X.w) X.A X.xe use QQ (.ref D) C (.ok f) s6) :
    wpAny (model X.prog X.w) X.A (comprehension (.ListComp elt [⟨target, iter, ifs, 0⟩] scope pos) scope X.env pos' (newList []) false (eval iter X.env) use) QQ X.xe s := by
  have hkindOf : ∀ x, X.env.kindOf x = sc0.names.lookup x := fun x => by show X.env.scope.names.lookup x = _; rw [hsc]
  have hfree' : ∀ x ∈ scope.names, x.2 = .free → X.env.kindOf x.1 = some .cell := fun x hx hf => by
    have := List.all_eq_true.mp hfree x hx
    rw [hkindOf]
    simpa [hf] using this
  have hcell' : ∀ x ∈ scope.names, x.2 ≠ .cell := fun x hx => by
    have := List.all_eq_true.mp hcell x hx
    simpa using this
  have hfN : ∀ p ∈ fr, X.N[p.2]? = some p.1 := fun p hp => by
    have := List.all_eq_true.mp hfr p hp
    rw [hN0]
    simp only [Bool.and_eq_true, beq_iff_eq] at this
    exact this.2
  have hfr' : ∀ p ∈ fr, X.env.kindOf p.1 = some .cell ∧ scope.names.lookup p.1 = some .free := fun p hp => by
    have := List.all_eq_true.mp hfr p hp
    rw [hkindOf]
    simp only [Bool.and_eq_true, beq_iff_eq] at this
    exact this.1
  obtain ⟨cl, hclos, p1, p3⟩ := closureFor_of (scope := scope) (env := X.env) fun x hx hf => I.ok.has x.1 (.inl (hfree' x hx hf))
  refine wpAny_comprehension_free (use := use) rfl hs hclos hk (fun x hx hl => ?_) ?_
  · have := List.all_eq_true.mp hnames x hx
    simpa [hl] using this
  refine thn (hi pins s σ H (fun J H1 => ∃ ts, Same H H1 ∧ WkS X.K J ts H1 ∧ ts.length ≤ 1000 ∧ compT g ut we ts [] (List.replicate tn.length Slot.no ++ (fr.map (·.2)).map fun i => hide (sget τ i)) fun rs => Q0 (.lst rs)) I
    ⟨τ, _, R0, hw, fun ts J H' S wk q => ⟨ts, S, wk, q.1, q.2⟩⟩) fun v s1 h1 => thn h1 fun itv s2 h2 => ?_
  obtain ⟨it, fp, tn', J, H2, rfl, I2, Tn, st2, f2, ts, S2, wk, hlen, q⟩ := h2
  refine wpAny_newObj_type (wpAny_newFunctionEnv hcell' (by intro y hy; simp at hy) (fun h4 hns hsb => ?_) hk)
  dsimp only at hns hsb ⊢
  have hDn : H2 s2.heap.objs.size = none := I2.hok.fresh (Nat.le_refl _)
  have I3 : Inv X pins σ H2 { s2 with heap := s2.heap.push { cls := .type "list", dict := none, data := .seq ([] : List Value).toArray } } := I2.kept (t' := s2.toks) fun b u e => Heap.get?_push_of_some _ e
  have hsz : (s2.heap.push { cls := .type "list", dict := none, data := .seq ([] : List Value).toArray }).objs.size = s2.heap.objs.size + 1 := Heap.size_push ..
  have hkeep : ∀ b o, (s2.heap.push { cls := .type "list", dict := none, data := .seq ([] : List Value).toArray }).get? b = some o → h4.get? b = some o := fun b o e => hsb.extBut b o (Nat.ne_of_lt (Heap.lt_size e)) (Heap.get?_push_of_some _ e)
  have hDat : h4.get? s2.heap.objs.size = some { cls := .type "list", dict := none, data := .seq ([] : List Value).toArray } := hkeep _ _ (Heap.get?_push_size _ rfl)
  have fpD : ∀ b ∈ s2.heap.objs.size :: fp, FpOk X pins H2 b := fun b hb => by
    rcases List.mem_cons.mp hb with rfl | hb
    · exact I2.fpOk (Nat.le_refl _) hDn
    · exact f2 b hb
  have ltD : ∀ b ∈ fp, b < s2.heap.objs.size := fun b hb => by
    obtain ⟨o, e, _⟩ := Tn.obj _ _ st2 b hb
    exact Heap.lt_size e
  have ltD' : ∀ b ∈ s2.heap.objs.size :: fp, b < (s2.heap.push { cls := .type "list", dict := none, data := .seq ([] : List Value).toArray }).objs.size := fun b hb => by
    rw [hsz]
    rcases List.mem_cons.mp hb with rfl | hb
    · exact Nat.lt_succ_self _
    · exact Nat.lt_succ_of_lt (ltD b hb)
  have hhas : ∀ x, ((relabel scope X.env).names.lookup x = some .cell ∨ (relabel scope X.env).names.lookup x = some .free) → ∃ c, cl.lookup x = some c := fun x hx => by
    have z : ∃ k', (relabel scope X.env).names.lookup x = some k' ∧ (k' = .cell ∨ k' = .free) := by
      rcases hx with hx | hx
      · exact ⟨_, hx, .inl rfl⟩
      · exact ⟨_, hx, .inr rfl⟩
    obtain ⟨k', e, hk'⟩ := z
    obtain ⟨k, hm, hkk⟩ := relabel_mem e
    have hf : k = .free := by
      rcases hkk with rfl | ⟨h, _⟩
      · rcases hk' with rfl | rfl
        · exact absurd rfl (hcell' _ hm)
        · rfl
      · exact h
    subst hf
    exact p3 (x, .free) hm rfl
  obtain ⟨m3, hn3, hl3⟩ := I3.loc
  have J4 : Inv (compCx X (tn ++ fr.map (·.1)) scope cl (s2.heap.push { cls := .type "list", dict := none, data := .seq ([] : List Value).toArray }).objs.size { s2 with heap := s2.heap.push { cls := .type "list", dict := none, data := .seq ([] : List Value).toArray } } H2 (s2.heap.objs.size :: fp)) []
      (slotsOf σ tn.length fr) H2 { s2 with heap := h4, toks := s2.toks + ([] : List (Str × Value)).length } := by
    refine comp_start I3 hc hk (Nat.le_refl _) p1 hhas fpD ltD' rfl I2.bare hkeep hns (fun i x v h1 h2 => ?_) (by simp [slotsOf])
    unfold slotsOf at h2
    by_cases hi : i < tn.length
    · rw [List.getElem?_append_left (by simpa using hi), List.getElem?_replicate] at h2
      split at h2 <;> cases h2
    · rw [List.getElem?_append_right (by simpa using hi), List.length_replicate, List.getElem?_map] at h2
      rw [List.getElem?_append_right (by omega), List.getElem?_map] at h1
      cases ep : fr[i - tn.length]? with
      | none => rw [ep] at h1; cases h1
      | some p =>
        rw [ep] at h1 h2
        have h1' : p.1 = x := by simpa using h1
        have h2' : (σ[p.2]?).getD none = some v := by simpa using h2
        have h2'' : σ[p.2]? = some (some v) := by
          cases e : σ[p.2]? with
          | none => rw [e] at h2'; cases h2'
          | some z => rw [e] at h2'; exact congrArg some h2'
        have hp : p ∈ fr := List.mem_of_getElem? ep
        obtain ⟨k1, k2⟩ := hfr' p hp
        subst h1'
        obtain ⟨u, ru, lk⟩ := hl3 p.2 p.1 v (hfN p hp) h2'' (.inr (.inl k1))
        refine ⟨u, ru, .inr ⟨.inl ?_, ?_⟩⟩
        · exact relabel_free (by rw [hsc]; exact hk0) k2 k1
        · rcases lk with ⟨z, _⟩ | ⟨_, c, e, o, ho, hd⟩
          · rw [k1] at z; cases z
          · obtain ⟨c', e'⟩ := p3 (p.1, .free) (PySem.mem_of_lookup k2) rfl
            have := p1 _ _ e'
            rw [e] at this
            cases this
            exact ⟨c, e', o, hkeep c o ho, hd⟩
  have R4 : RepSt X.K H2 H2 (slotsOf σ tn.length fr) (List.replicate tn.length Slot.no ++ (fr.map (·.2)).map fun i => hide (sget τ i)) := repSt_comp tn.length fr R0 S2
  have ne : (s2.heap.objs.size : Addr) ∉ fp := fun z => absurd (ltD _ z) (Nat.lt_irrefl _)
  have st4 : tn' 0 h4 := Tn.keep _ _ _ st2 fun b hb o e => hkeep b o (Heap.get?_push_of_some _ e)
  have tko : ∀ E0, E0 = (notedBy (model X.prog X.w) X.A (compEnvC scope cl (s2.heap.push { cls := .type "list", dict := none, data := .seq ([] : List Value).toArray }).objs.size X.env) fun x s6 => compPost (model X.prog X.w) X.A X.xe use QQ (.ref s2.heap.objs.size) (s2.heap.push { cls := .type "list", dict := none, data := .seq ([] : List Value).toArray }).objs.size (.error x) s6) →
      TakesOn ((compCx X (tn ++ fr.map (·.1)) scope cl (s2.heap.push { cls := .type "list", dict := none, data := .seq ([] : List Value).toArray }).objs.size { s2 with heap := s2.heap.push { cls := .type "list", dict := none, data := .seq ([] : List Value).toArray } } H2 (s2.heap.objs.size :: fp)).wish E0) R := by
    intro E0 hE0
    refine ⟨fun pins' σ' Hc H' sc s' a C dx Ic S0 fl da S1 h1 => ?_⟩
    have Ic' := Ic.unwish
    have IX : Inv X pins σ Hc sc := comp_mid (s2 := s2) (X' := compCx X (tn ++ fr.map (·.1)) scope cl (s2.heap.push { cls := .type "list", dict := none, data := .seq ([] : List Value).toArray }).objs.size { s2 with heap := s2.heap.push { cls := .type "list", dict := none, data := .seq ([] : List Value).toArray } } H2 (s2.heap.objs.size :: fp)) (h3 := s2.heap.push { cls := .type "list", dict := none, data := .seq ([] : List Value).toArray }) (Da := s2.heap.objs.size) rfl rfl rfl rfl rfl rfl rfl hsz (fun b o e => Heap.get?_push_of_some _ e) rfl I2 f2 Ic'
    obtain ⟨mC, hnC, _⟩ := Ic'.loc
    obtain ⟨oC, es, ep, hoC, hdC, hrC⟩ := id hnC
    have hoC' : sc.heap.get? (s2.heap.push { cls := .type "list", dict := none, data := .seq ([] : List Value).toArray }).objs.size = some oC := hoC
    have free : Hc (s2.heap.push { cls := .type "list", dict := none, data := .seq ([] : List Value).toArray }).objs.size = none := Ic'.free
    have cF : (s2.heap.push { cls := .type "list", dict := none, data := .seq ([] : List Value).toArray }).objs.size ∉ frs X.stack := fun z => by
      have z' : (s2.heap.push { cls := .type "list", dict := none, data := .seq ([] : List Value).toArray }).objs.size ∈ X.stack.filterMap (·.frame) := z
      obtain ⟨_, ob, eb, _⟩ := (I2.stack).mem z'
      have := Heap.lt_size eb
      rw [hsz] at this
      exact absurd (Nat.lt_of_succ_lt this) (Nat.lt_irrefl _)
    have cN : X.s₀.heap.get? (s2.heap.push { cls := .type "list", dict := none, data := .seq ([] : List Value).toArray }).objs.size = none := by
      cases q : X.s₀.heap.get? (s2.heap.push { cls := .type "list", dict := none, data := .seq ([] : List Value).toArray }).objs.size with
      | none => rfl
      | some o =>
        obtain ⟨o1, e1⟩ := I2.base.there _ o q (by rw [tkc.ex]; simp)
        have := Heap.lt_size e1
        rw [hsz] at this
        exact absurd (Nat.lt_of_succ_lt this) (Nat.lt_irrefl _)
    have hns' : s'.heap.Ns (s2.heap.push { cls := .type "list", dict := none, data := .seq ([] : List Value).toArray }).objs.size mC := ⟨oC, es, ep, fl.un.keep _ oC hoC' free cF (by simp), hdC, hrC⟩
    show E0 (.ref a) s'
    rw [hE0]
    exact tkc.cm pins σ Hc H' sc s' a C dx _ mC (compEnvC scope cl (s2.heap.push { cls := .type "list", dict := none, data := .seq ([] : List Value).toArray }).objs.size X.env) use QQ (.ref s2.heap.objs.size) IX (R0.same.trans (S2.trans S0)) fl da S1 h1 cN (fl.un.free _ oC hoC' free (by simp)) cF hns' rfl
  have lp := comp_loopX (scope := scope) (H2 := H2) (s2 := s2) (X := X) (X' := compCx X (tn ++ fr.map (·.1)) scope cl (s2.heap.push { cls := .type "list", dict := none, data := .seq ([] : List Value).toArray }).objs.size { s2 with heap := s2.heap.push { cls := .type "list", dict := none, data := .seq ([] : List Value).toArray } } H2 (s2.heap.objs.size :: fp)) (h3 := s2.heap.push { cls := .type "list", dict := none, data := .seq ([] : List Value).toArray }) (pins := pins) (s4 := { s2 with heap := h4, toks := s2.toks + ([] : List (Str × Value)).length }) (use := use) (QQ := QQ) (iter := iter) (pos := pos) (hg _ _ _ _ _) (hu _ _ _ _ _) (he _ _ _ _ _ _ (tko _ rfl)) rfl rfl rfl rfl rfl rfl rfl rfl rfl rfl rfl rfl hsz (fun b o e => Heap.get?_push_of_some _ e) rfl I2 f2 Tn ne S2 wk hlen J4 R4 st4 (fun b hb => (fpD b hb).1) hDat q (fun H6 h => I3.fpOk (Nat.le_refl _) h) hend
  exact codeAny_compStart_list lp (Tn.self _ 0 _ _ _ st4 lp)
theorem jsetcX {R : T → Prop} {elt target iter : Expr} {ifs : List Expr} {scope sc0 : Scope} {tn N0 : List Str} {fr : List (Str × Nat)} {wi : WI} {g : TGt} {ut : WT} {we : WE} {i : Nat} {x : Str} {pos' spos : Pos} (hN : X.N.Nodup) (hiN : X.N[i]? = some x) (hx : Loc X.env.scope x)
    (hsc : X.env.scope = sc0) (hN0 : X.N = N0) (hc : X.calm = true) (tkc : TakesC X R)
    (hi : JI X target iter wi) (hk : scope.kind = .function) (hk0 : sc0.kind = .function)
    (hnames : (scope.names.all fun x => x.2 != .local || scope.names.lookup x.1 == some .local) = true) (hcell : (scope.names.all fun x => x.2 != .cell) = true)
    (hfree : (scope.names.all fun x => x.2 != .free || sc0.names.lookup x.1 == some .cell) = true)
    (hfr : (fr.all fun p => (sc0.names.lookup p.1 == some .cell && scope.names.lookup p.1 == some .free) && N0[p.2]? == some p.1) = true)
    (hg : ∀ cl C s3 H2 ex, JG (compCx X (tn ++ fr.map (·.1)) scope cl C s3 H2 ex) target g) (hu : ∀ cl C s3 H2 ex, JTs (compCx X (tn ++ fr.map (·.1)) scope cl C s3 H2 ex) ifs ut)
    (he : ∀ cl C s3 H2 ex E0, TakesOn ((compCx X (tn ++ fr.map (·.1)) scope cl C s3 H2 ex).wish E0) R → JE ((compCx X (tn ++ fr.map (·.1)) scope cl C s3 H2 ex).wish E0) elt we)
    (hs : ∀ x, foldedSetIterable iter X.env x = pure x := by intro _; rfl)
    (hsw : swapsWith (.ListComp elt [⟨target, iter, ifs, 0⟩] scope pos) (some (.Name x pos')) spos.line X.env = pure true := by rfl)
    (hf : X.fn x = true ∨ X.env.scope.names.lookup x = some .local := by first | exact .inl rfl | exact .inr rfl | assumption) :
    JS X (.Assign [.Name x pos'] (.ListComp elt [⟨target, iter, ifs, 0⟩] scope pos) spos) (sSet i (wComp wi g ut we tn.length (fr.map (·.2)))) := by
  intro pins s σ H D I ⟨τ, D0, R0, hw, k, _⟩
  rw [exec_Assign_Name_used _ _ _ _ hsw]
  refine wpAny_bind (wpAny_standAt (wpAny_bind ?_))
  rw [arm_evalThenUse_ListComp]
  dsimp only
  refine wpAny_bind (wpAny_mono (comp_coreX (QQ := fun _ s' => SP X pins D .next s') hsc hN0 hc tkc hi.c hk hk0 hnames hcell hfree hfr hg hu he hs (use := some (assign (.Name x pos') X.env)) I R0 hw fun s6 H6 Da C m6 t f I6 fp hn S r q _ => ?_) (fun _ s' h => wpAny_pure (wpAny_pure h)) fun _ _ z => z)
  obtain ⟨oC, es, ep, hoC, hdC, hrC⟩ := id hn
  have Ip := I6.pinned (fp := [C]) (fun b hb => by rw [List.mem_singleton.mp hb]; exact fp) fun b hb => by
    rw [List.mem_singleton.mp hb]
    exact ⟨oC, hoC, fun v z => by rw [hdC] at z; cases z⟩
  have gn := pg_name (pos := pos') hN hiN hx hf _ s6 σ H6 (.ref Da) (.ref Da) (fun σ' H' => σ' = σ.set i (some (.ref Da)) ∧ H' = H6) Ip rfl ⟨rfl, rfl⟩
  refine wpAny_mono gn (fun _ s7 h7 => ?_) fun _ _ z => z
  obtain ⟨σ7, H7, I7, rfl, rfl⟩ := h7
  have pC := (I7.pin (C, oC) (List.mem_append_right _ (List.mem_append_right _ (mem_pinsAt (List.mem_singleton.mpr rfl) hoC)))).1
  refine ⟨m6, ⟨oC, es, ep, pC, hdC, hrC⟩, fun h8 hs8 => ?_⟩
  obtain ⟨g1, g2, g3, g4, g5, g6⟩ := fp
  have I8 : Inv X pins (σ.set i (some (.ref Da))) H7 s7 := I7.pins_of fun p hp => I7.pin p (List.mem_append_right _ (List.mem_append_left _ hp))
  exact ⟨_, H7, I8.turned (t' := s7.toks) (it := C) (fun b o hb e => (hs8.2 b hb).trans e) g1 g2 g4 g5 g6, k _ _ H7 (.of S) ((R0.mono S).put r) q⟩
end
theorem fnXC {P : Program} {w : World} {K : PySem.W.Frag} {mg : Str → Option Value} {base : Heap} {x qual : Str} {st : Stmt} {f : Addr} {fd : FuncData} {N ps : List Str} {k : Nat} {S : SpX} {W : (T → Prop) → WS} (F : Fun K x qual st f fd) (SC : FnScope N ps (defScope st))
    (hlen : ∀ R ts Q, S R ts Q → ts.length = ps.length)
    (hbody : ∀ (R : T → Prop) (cdv : Value) (A : Around) (outer : List Env) (s : Shared) (H : Hp) (E : XK), Room k (A.deeper (envOfC qual (defScope st) s.heap.objs.size f cdv)) → Takes (cxOf (CXE P w) P w K mg base N qual (defScope st) f cdv A outer s H E) R → TakesC (cxOf (CXE P w) P w K mg base N qual (defScope st) f cdv A outer s H E) R →
      JSs (cxOf (CXE P w) P w K mg base N qual (defScope st) f cdv A outer s H E) (defBody st) (W R))
    (hw : ∀ R ts Q, S R ts Q → W R { nx := fun _ => Q .non, rt := Q } (startT N.length ts)) : FnX P w K mg base (k + 1) f fd ps S := by
  refine ⟨?_, hlen⟩
  obtain ⟨oc, od, kV, doc, pm, an, cdv, ct, osl, rfl, lk, hcd⟩ := F.ex
  refine fn_of lk hcd SC (fun vs H Q E ⟨_, _, _, e, _⟩ => e) fun A outer s H vs Q E hr h => ?_
  obtain ⟨ts, Q0, R0, e, r, hS, q, hE⟩ := h
  refine ⟨_, hbody R0 cdv A outer s H E hr (takes_def hE) (takesC_def hE), startT N.length ts, { nx := fun _ => Q0 .non, rt := Q0 }, repSt_start r, hw R0 ts Q0 hS, fun τ' σ' H' _ R n => ?_, fun t v H' S r' n => q t v H' S r' n, fun τ' σ' H' _ R n => n.elim, fun τ' σ' H' _ R n => n.elim⟩
  exact q .non .non H' R.same (rep_non.mpr rfl) n
end TL
end
set_option Elab.async false
set_option linter.all false
set_option maxRecDepth 100000
set_option maxHeartbeats 4000000
namespace TL
open PySem PySem.Spec PyProof.Rows L2
theorem Lim.of {n : Nat} {i : Int} (h1 : -(10 ^ n) < i) (h2 : i < 10 ^ n) : Lim n i := by
  unfold Lim
  have : ((10 ^ n : Nat) : Int) = 10 ^ n := by simp
  omega
theorem Lim.bd {n : Nat} {i : Int} (h : Lim n i) : -(10 ^ n) < i ∧ i < 10 ^ n := by
  unfold Lim at h
  have : ((10 ^ n : Nat) : Int) = 10 ^ n := by simp
  omega
theorem Lim.mono {m n : Nat} {i : Int} (h : Lim m i) (hn : m ≤ n) : Lim n i := Nat.lt_of_lt_of_le h (Nat.pow_le_pow_right (by decide) hn)
theorem Lim.mul {m n : Nat} {i j : Int} (a : Lim m i) (b : Lim n j) : Lim (m + n) (i * j) := by
  unfold Lim at *
  rw [Int.natAbs_mul, Nat.pow_add]
  exact Nat.mul_lt_mul'' a b
theorem Lim.add {m n : Nat} {i j : Int} (a : Lim m i) (b : Lim n j) : Lim (max m n + 1) (i + j) := by
  have a' := a.mono (Nat.le_max_left m n)
  have b' := b.mono (Nat.le_max_right m n)
  unfold Lim at *
  rw [Nat.pow_succ]
  have := Int.natAbs_add_le i j
  omega
theorem Lim.neg {m : Nat} {i : Int} (a : Lim m i) : Lim m (-i) := by
  unfold Lim at *
  rw [Int.natAbs_neg]
  exact a
theorem Lim.sub {m n : Nat} {i j : Int} (a : Lim m i) (b : Lim n j) : Lim (max m n + 1) (i - j) := by
  rw [Int.sub_eq_add_neg]
  exact a.add b.neg
theorem Lim.le {m : Nat} {i j : Int} (a : Lim m i) (h : j.natAbs ≤ i.natAbs) : Lim m j := Nat.lt_of_le_of_lt h a
theorem mulOk {m n : Nat} {i j : Int} (a : Lim m i) (b : Lim n j) (hm : m ≤ 100000 := by decide) (hn : n ≤ 100000 := by decide) : MulOk i j := .inl ⟨m, n, hm, hn, a, b⟩
theorem mulOkL {i j : Int} (a : Lim 19 i) : MulOk i j := .inr (.inl a)
theorem mulOkR {i j : Int} (b : Lim 19 j) : MulOk i j := .inr (.inr b)
theorem divOk {n : Nat} {j : Int} (h : j ≠ 0) (b : Lim n j) (hn : n ≤ 2200 := by decide) : DivOk j := ⟨h, n, hn, b⟩
theorem fmod_pos {b : Int} (a : Int) (h : 0 < b) : 0 ≤ a.fmod b ∧ a.fmod b < b := ⟨Int.fmod_nonneg_of_pos a h, Int.fmod_lt_of_pos a h⟩
theorem plain_ints : ∀ ns : List Int, PyData.canLayAll0 (pds (ns.map T.int)) = true
  | [] => by simp [pds, PyData.canLayAll0]
  | n :: r => by simp only [List.map, pds, pd, PyData.canLayAll0, PyData.canLay0, plain_ints r, Bool.and_self]
theorem dep_ints : ∀ ns : List Int, PyData.depthAll (pds (ns.map T.int)) = 0
  | [] => by simp [pds, PyData.depthAll]
  | n :: r => by simp only [List.map, pds, pd, PyData.depthAll, PyData.depth, dep_ints r, Nat.max_self]
theorem eqOk_tup (ns ms : List Int) : EqOk (.tup (ns.map T.int)) (.tup (ms.map T.int)) := by
  refine ⟨by simp only [plain, pd, PyData.canLay0, plain_ints], by simp only [plain, pd, PyData.canLay0, plain_ints], by simp only [dep, pd, PyData.depth, dep_ints]; decide⟩
theorem atI_map {ns : List Int} {k : Int} (h0 : 0 ≤ k) (h1 : k < ns.length) : ∃ v, v ∈ ns ∧ atI (ns.map T.int) k = some (.int v) := by
  have hk : k.toNat < ns.length := by omega
  refine ⟨ns[k.toNat], List.getElem_mem hk, ?_⟩
  unfold atI ixN
  rw [List.length_map, if_pos h0, if_pos h1]
  simp only [Option.bind]
  rw [List.getElem?_map, List.getElem?_eq_getElem hk]
  rfl
theorem atI0 {α : Type} (a : α) (r : List α) : atI (a :: r) 0 = some a := by
  unfold atI ixN
  rw [if_pos (by decide), if_pos (by simp)]
  rfl
theorem atI1 {α : Type} (a b : α) (r : List α) : atI (a :: b :: r) 1 = some b := by
  unfold atI ixN
  rw [if_pos (by decide), if_pos (by simp; omega)]
  rfl
theorem atI2 {α : Type} (a b c : α) (r : List α) : atI (a :: b :: c :: r) 2 = some c := by
  unfold atI ixN
  rw [if_pos (by decide), if_pos (by simp; omega)]
  rfl
def Within : List Int → List Int → Prop
  | [], [] => True
  | r :: rs, b :: bs => (0 ≤ r ∧ r < b) ∧ Within rs bs
  | _, _ => False
theorem Within.snoc : ∀ {rs bs : List Int} {r b : Int}, Within rs bs → 0 ≤ r → r < b → Within (rs ++ [r]) (bs ++ [b])
  | [], [], r, b, _, h0, h1 => ⟨⟨h0, h1⟩, trivial⟩
  | _ :: _, _ :: _, r, b, h, h0, h1 => ⟨h.1, h.2.snoc h0 h1⟩
  | [], _ :: _, _, _, h, _, _ => h.elim
  | _ :: _, [], _, _, h, _, _ => h.elim
theorem Within.length : ∀ {rs bs : List Int}, Within rs bs → rs.length = bs.length
  | [], [], _ => rfl
  | _ :: _, _ :: _, h => by simp [h.2.length]
  | [], _ :: _, h => h.elim
  | _ :: _, [], h => h.elim
@[elab_as_elim] theorem args0 {α : Type} {M : List α → Prop} {us : List α} (hl : us.length = 0) (h : M []) : M us := by cases us; exact h; cases hl
@[elab_as_elim] theorem argsS {α : Type} {M : List α → Prop} {us : List α} {n : Nat} (hl : us.length = n + 1) (h : ∀ a r, r.length = n → M (a :: r)) : M us := by cases us; cases hl; exact h _ _ (Nat.succ.inj hl)
@[elab_as_elim] theorem args1 {α : Type} {M : List α → Prop} {us : List α} (hl : us.length = 1) (h : ∀ a, M [a]) : M us := argsS (M := M) hl fun a r hl => args0 (M := fun r => M (a :: r)) hl (h a)
@[elab_as_elim] theorem args2 {α : Type} {M : List α → Prop} {us : List α} (hl : us.length = 2) (h : ∀ a b, M [a, b]) : M us := argsS (M := M) hl fun a r hl => args1 (M := fun r => M (a :: r)) hl (h a)
@[elab_as_elim] theorem args3 {α : Type} {M : List α → Prop} {us : List α} (hl : us.length = 3) (h : ∀ a b c, M [a, b, c]) : M us := argsS (M := M) hl fun a r hl => args2 (M := fun r => M (a :: r)) hl (h a)
@[elab_as_elim] theorem args4 {α : Type} {M : List α → Prop} {us : List α} (hl : us.length = 4) (h : ∀ a b c d, M [a, b, c, d]) : M us := argsS (M := M) hl fun a r hl => args3 (M := fun r => M (a :: r)) hl (h a)
local macro_rules | `(tactic| walk_at "tw") => `(tactic| simp only [sSeq, sNext, sSet, sIf, sRet, sOwn, sApp, sFrz, sAsg, sPar, sFor, sNever, sExpr, sRetN, gT, gsC, gs0, gN, wVar, wC, w2, rAddT, rSubT, rMulT, rDivT, rModT, rPowT, wNeg, wCmp, tCmpT, cLtT, cLeT, cGtT, cGeT, cEqT, cNeT, cIsN, cNotN, wChain, tChainT, tAndT, tOrT, tNotT, tVal, wAndV, wOrV, wNotV, wIfE, aNil, aCons, wTup, wLst, rIxTT, wCB, rLenT, rAbsT, rMaxT, rMinT, rTupleT, isK, noExc, wIsi, wCall, sget, sput, iSeq, iRange1, iRange2, iEnum, iZip, seqOf, zipT, wComp, compT, hide, tTrue, rSumT, intsOf, rAllT, boolsOf, rListT, rCatLT, rMin3T, iRange3, wRev, wRevA, wSl, wo, wo0, rSlTT, sRaise, sRaiseF, sTry, wIsE, wFld, wOIx, wOLen, tONe, rIxST, rAddST, rMulST, tTruT, cInT, cNotInT, rSortT, strsOf, wDIx, wRepL, sDic, wDis, tNinD, sOwnF, sSetIx, sCatO, iOwn, endO, frO, wFz, tFz, sFzS, vatT, vat1, backT, lone, lone1, noL, noLs, rMulLT, lstQ, soX, wCount, rCountTs, cInTT, wJoin, rJoinT, rStrT, wSlS, rAddAT, rLenST, sOwnC, Option.map, List.sum_cons, List.sum_nil, rangeT, startT, atI0, atI1, atI2, List.map, List.length_cons, List.length_nil, List.append_nil, List.cons_append, List.nil_append, List.replicate, Nat.reduceAdd, Nat.reduceSub, Nat.reduceLeDiff, Nat.zero_le, Int.reduceToNat, Int.reducePow, Int.reduceMul, Int.reduceAdd, true_and, and_true])
local macro_rules | `(tactic| walk_at "go") => `(tactic| ((conv => whnf); repeat (first | (refine And.intro (by first | rfl | exact trivial | decide | exact Nat.le_of_ble_eq_true rfl | exact mulOk (by assumption) (by assumption) | assumption) ?_; conv => whnf) | (refine And.intro (fun q => Bool.noConfusion q) (fun _ => ?_); conv => whnf) | (refine And.intro (fun _ => ?_) (fun q => Bool.noConfusion q); conv => whnf))))
local macro_rules | `(tactic| walk_at "nf1") => `(tactic| conv => arg 1; simp only [startT, sput, sget, hide, List.map, List.replicate, List.length_cons, List.length_nil, Nat.reduceAdd, Nat.reduceSub, List.cons_append, List.nil_append, List.append_nil])
local macro_rules | `(tactic| walk_at "nf2") => `(tactic| conv => arg 2; simp only [startT, sput, sget, hide, List.map, List.replicate, List.length_cons, List.length_nil, Nat.reduceAdd, Nat.reduceSub, List.cons_append, List.nil_append, List.append_nil])
theorem gcd_step (a b : Int) : Int.gcd b (a.fmod b) = Int.gcd a b := by
  rw [Int.fmod_def, Int.gcd_sub_mul_left_right, Int.gcd_comm]
theorem fmod_abs_lt (a : Int) {b : Int} (h : b ≠ 0) : (a.fmod b).natAbs < b.natAbs := by
  rw [Int.fmod_eq_emod]
  have h1 := Int.emod_nonneg a h
  have h2 := Int.emod_lt a h
  by_cases hb : 0 ≤ b
  · rw [if_pos (Or.inl hb)]
    omega
  · by_cases hd : b ∣ a
    · rw [if_pos (Or.inr hd), Int.emod_eq_zero_of_dvd hd]
      omega
    · have h3 : a % b ≠ 0 := fun e => hd (Int.dvd_of_emod_eq_zero e)
      rw [if_neg (by omega)]
      omega
structure Frac (p q a b : Int) : Prop where
  pos : 0 < q
  cop : Int.gcd p q = 1
  eq : p * b = a * q
  top : p.natAbs ≤ a.natAbs
  bot : q.natAbs ≤ b.natAbs
theorem frac_mk (a : Int) {b f : Int} (hb : b ≠ 0) (hf : (0 < b ∧ f = (Int.gcd a b : Int)) ∨ (b < 0 ∧ f = -(Int.gcd a b : Int))) : Frac (a.fdiv f) (b.fdiv f) a b := by
  have g0 : 0 < Int.gcd a b := Int.gcd_pos_iff.mpr (Or.inr hb)
  have fa : f.natAbs = Int.gcd a b := by rcases hf with ⟨_, e⟩ | ⟨_, e⟩ <;> rw [e] <;> simp
  have fn : f ≠ 0 := by omega
  have da : f ∣ a := by
    have := Int.gcd_dvd_left a b
    rcases hf with ⟨_, e⟩ | ⟨_, e⟩
    · rw [e]; exact this
    · rw [e]; exact Int.neg_dvd.mpr this
  have db : f ∣ b := by
    have := Int.gcd_dvd_right a b
    rcases hf with ⟨_, e⟩ | ⟨_, e⟩
    · rw [e]; exact this
    · rw [e]; exact Int.neg_dvd.mpr this
  obtain ⟨a', ea⟩ := da
  obtain ⟨b', eb⟩ := db
  have e1 : a.fdiv f = a' := by rw [ea]; exact Int.mul_fdiv_cancel_left a' fn
  have e2 : b.fdiv f = b' := by rw [eb]; exact Int.mul_fdiv_cancel_left b' fn
  rw [e1, e2]
  have bn : b' ≠ 0 := by rintro rfl; rw [Int.mul_zero] at eb; exact hb eb
  have cop : Int.gcd a' b' = 1 := by
    have q : Int.gcd a b = f.natAbs * Int.gcd a' b' := by rw [ea, eb, Int.gcd_mul_left]
    rw [fa] at q
    have q' : Int.gcd a b * 1 = Int.gcd a b * Int.gcd a' b' := by rw [Nat.mul_one]; exact q
    exact (Nat.eq_of_mul_eq_mul_left g0 q').symm
  have na : a.natAbs = f.natAbs * a'.natAbs := by rw [ea, Int.natAbs_mul]
  have nb : b.natAbs = f.natAbs * b'.natAbs := by rw [eb, Int.natAbs_mul]
  have f1 : 1 ≤ f.natAbs := by omega
  refine ⟨?_, cop, ?_, ?_, ?_⟩
  · rcases hf with ⟨hp, e⟩ | ⟨hn, e⟩
    · have fp : 0 < f := by omega
      rw [eb] at hp
      rcases Int.lt_trichotomy b' 0 with z | z | z
      · have := Int.mul_neg_of_pos_of_neg fp z
        omega
      · exact absurd z bn
      · exact z
    · have fp : f < 0 := by omega
      rw [eb] at hn
      rcases Int.lt_trichotomy b' 0 with z | z | z
      · have := Int.mul_pos_of_neg_of_neg fp z
        omega
      · exact absurd z bn
      · exact z
  · rw [ea, eb]
    rw [← Int.mul_assoc, Int.mul_comm a' f]
  · rw [na]; exact Nat.le_mul_of_pos_left _ f1
  · rw [nb]; exact Nat.le_mul_of_pos_left _ f1
theorem low_uniq {p q p' q' : Int} (hq : 0 < q) (hq' : 0 < q') (c : Int.gcd p q = 1) (c' : Int.gcd p' q' = 1) (e : p * q' = p' * q) : p = p' ∧ q = q' := by
  have n : p.natAbs * q'.natAbs = p'.natAbs * q.natAbs := by rw [← Int.natAbs_mul, ← Int.natAbs_mul, e]
  have c1 : Nat.Coprime q.natAbs p.natAbs := by
    have : Nat.gcd p.natAbs q.natAbs = 1 := c
    exact (Nat.gcd_comm _ _).trans this
  have c2 : Nat.Coprime q'.natAbs p'.natAbs := by
    have : Nat.gcd p'.natAbs q'.natAbs = 1 := c'
    exact (Nat.gcd_comm _ _).trans this
  have d1 : q.natAbs ∣ q'.natAbs := c1.dvd_of_dvd_mul_left ⟨p'.natAbs, by rw [n, Nat.mul_comm]⟩
  have d2 : q'.natAbs ∣ q.natAbs := c2.dvd_of_dvd_mul_left ⟨p.natAbs, by rw [← n, Nat.mul_comm]⟩
  have qe : q.natAbs = q'.natAbs := Nat.dvd_antisymm d1 d2
  have qq : q = q' := by omega
  subst qq
  exact ⟨Int.eq_of_mul_eq_mul_right (by omega) e, rfl⟩
mutual
theorem eqT_self : ∀ t : T, plain t = true → eqT t t = true
  | .non, _ => rfl
  | .bl b, _ => by rw [eqTb]; exact beq_self_eq_true b
  | .int i, _ => by rw [eqTe]; exact decide_eq_true rfl
  | .str x, _ => by rw [eqTf]; exact beq_self_eq_true x
  | .tup ts, h => by
    simp only [plain, pd, PyData.canLay0] at h
    exact eqTs_self ts h
  | .lst ts, h => by
    simp only [plain, pd, PyData.canLay0] at h
    exact eqTs_self ts h
  | .dct, h => by simp [plain, pd, PyData.canLay0] at h
  | .exc _, h => by simp [plain, pd, PyData.canLay0] at h
theorem eqTs_self : ∀ ts : List T, PyData.canLayAll0 (pds ts) = true → eqTs ts ts = true
  | [], _ => rfl
  | t :: r, h => by
    simp only [pds, PyData.canLayAll0, Bool.and_eq_true] at h
    rw [eqTj, Bool.and_eq_true]
    exact ⟨eqT_self t h.1, eqTs_self r h.2⟩
end
def Pn (n : Nat) (t : T) : Prop := plain t = true ∧ dep t ≤ n
theorem Pn.all {n : Nat} : ∀ {ts : List T}, (∀ t ∈ ts, Pn n t) → PyData.canLayAll0 (pds ts) = true ∧ PyData.depthAll (pds ts) ≤ n
  | [], _ => by simp [pds, PyData.canLayAll0, PyData.depthAll]
  | t :: r, h => by
    have h1 : (pd t).canLay0 = true ∧ (pd t).depth ≤ n := h t List.mem_cons_self
    have ih := Pn.all fun x hx => h x (List.mem_cons_of_mem _ hx)
    simp only [pds, PyData.canLayAll0, PyData.depthAll, Bool.and_eq_true]
    exact ⟨⟨h1.1, ih.1⟩, by omega⟩
theorem Pn.lst {n : Nat} {ts : List T} (h : ∀ t ∈ ts, Pn n t) : Pn (n + 1) (.lst ts) := by
  have := Pn.all h
  refine ⟨by simp only [plain, pd, PyData.canLay0]; exact this.1, ?_⟩
  simp only [dep, pd, PyData.depth]
  omega
theorem Pn.tup {n : Nat} {ts : List T} (h : ∀ t ∈ ts, Pn n t) : Pn (n + 1) (.tup ts) := by
  have := Pn.all h
  refine ⟨by simp only [plain, pd, PyData.canLay0]; exact this.1, ?_⟩
  simp only [dep, pd, PyData.depth]
  omega
theorem Pn.int (i : Int) : Pn 0 (.int i) := by
  refine ⟨by simp [plain, pd, PyData.canLay0], by simp [dep, pd, PyData.depth]⟩
theorem Pn.non : Pn 0 .non := by
  refine ⟨by simp [plain, pd, PyData.canLay0], by simp [dep, pd, PyData.depth]⟩
theorem Pn.ok {n m : Nat} {x y : T} (h : Pn n x) (h' : Pn m y) (hn : n ≤ 60) : EqOk x y := ⟨h.1, h'.1, by have := h.2; omega⟩
theorem Pn.self {n : Nat} {x : T} (h : Pn n x) : eqT x x = true := eqT_self x h.1
abbrev fra (a b : Int) : T := .tup [.int a, .int b]
structure Rt (p q n m : Int) : Prop where
  pos : 0 < q
  cop : Int.gcd p q = 1
  eq : p * m = n * q
theorem Frac.rt {p q a b : Int} (F : Frac p q a b) : Rt p q a b := ⟨F.pos, F.cop, F.eq⟩
theorem mul_cl {a b c : Int} (h : a ≠ 0) (e : a * b = a * c) : b = c := Int.eq_of_mul_eq_mul_left h e
theorem Rt.uniq {p q p' q' n m : Int} (hm : m ≠ 0) (A : Rt p q n m) (B : Rt p' q' n m) : p = p' ∧ q = q' := by
  refine low_uniq A.pos B.pos A.cop B.cop (mul_cl hm ?_)
  have e1 := A.eq
  have e2 := B.eq
  have h1 : m * (p * q') = (p * m) * q' := by grind
  have h2 : m * (p' * q) = (p' * m) * q := by grind
  rw [h1, h2, e1, e2]
  grind
theorem Rt.same {p q p' q' n m n' m' : Int} (hm : m ≠ 0) (hm' : m' ≠ 0) (e : n * m' = n' * m) (A : Rt p q n m) (B : Rt p' q' n' m') : p = p' ∧ q = q' := by
  refine low_uniq A.pos B.pos A.cop B.cop (mul_cl (Int.mul_ne_zero hm hm') ?_)
  have e1 := A.eq
  have e2 := B.eq
  have h1 : m * m' * (p * q') = (p * m) * (m' * q') := by grind
  have h2 : m * m' * (p' * q) = (p' * m') * (m * q) := by grind
  rw [h1, h2, e1, e2]
  have h3 : n * q * (m' * q') = (n * m') * (q * q') := by grind
  rw [h3, e]
  grind
theorem Rt.le {p q n m : Int} (hm : m ≠ 0) (A : Rt p q n m) : p.natAbs ≤ n.natAbs ∧ q.natAbs ≤ m.natAbs := by
  have e := A.eq
  have hq := A.pos
  have c1 : Nat.Coprime q.natAbs p.natAbs := by
    have : Nat.gcd p.natAbs q.natAbs = 1 := A.cop
    exact (Nat.gcd_comm _ _).trans this
  have en : p.natAbs * m.natAbs = n.natAbs * q.natAbs := by rw [← Int.natAbs_mul, ← Int.natAbs_mul, e]
  have d : q.natAbs ∣ m.natAbs := c1.dvd_of_dvd_mul_left ⟨n.natAbs, by rw [en, Nat.mul_comm]⟩
  obtain ⟨k, hk⟩ := d
  have hm' : 0 < m.natAbs := by omega
  have k0 : 0 < k := by
    rcases Nat.eq_zero_or_pos k with z | z
    · rw [z, Nat.mul_zero] at hk; omega
    · exact z
  have hq' : 0 < q.natAbs := by omega
  have en2 : n.natAbs = p.natAbs * k := by
    rw [hk] at en
    have : q.natAbs * (p.natAbs * k) = q.natAbs * n.natAbs := by rw [Nat.mul_comm q.natAbs n.natAbs, ← en, Nat.mul_left_comm]
    exact (Nat.eq_of_mul_eq_mul_left hq' this).symm
  exact ⟨by rw [en2]; exact Nat.le_mul_of_pos_right _ k0, by rw [hk]; exact Nat.le_mul_of_pos_right _ k0⟩
theorem Rt.lp {p q n m : Int} {k : Nat} (hm : m ≠ 0) (A : Rt p q n m) (h : Lim k n) : Lim k p := h.le (A.le hm).1
theorem Rt.lq {p q n m : Int} {k : Nat} (hm : m ≠ 0) (A : Rt p q n m) (h : Lim k m) : Lim k q := h.le (A.le hm).2
theorem Rt.sum {p q p' q' n n' m P R : Int} (A : Rt p q n m) (B : Rt p' q' n' m) (F : Frac P R (p * q' + p' * q) (q * q')) : Rt P R (n + n') m := by
  refine ⟨F.pos, F.cop, mul_cl (a := q * q') (by have := Int.mul_pos A.pos B.pos; omega) ?_⟩
  have e1 := A.eq
  have e2 := B.eq
  have e3 := F.eq
  clear A B F
  grind
theorem Rt.whole (x : Int) : Rt x 1 x 1 := ⟨by decide, by simp, rfl⟩
theorem Rt.neg {p q n m w : Int} (hm : 0 < m) (A : Rt p q n m) : (p * w < 0) ↔ (n * w < 0) := by
  have hq := A.pos
  have e : (p * w) * m = (n * w) * q := by have := A.eq; grind
  constructor
  · intro h
    have h1 := Int.mul_neg_of_neg_of_pos h hm
    rw [e] at h1
    rcases Int.lt_or_le (n * w) 0 with z | z
    · exact z
    · have := Int.mul_nonneg z (Int.le_of_lt hq); omega
  · intro h
    have h1 := Int.mul_neg_of_neg_of_pos h hq
    rw [← e] at h1
    rcases Int.lt_or_le (p * w) 0 with z | z
    · exact z
    · have := Int.mul_nonneg z (Int.le_of_lt hm); omega
def frG (n m : Int) : Int := if m < 0 then -(Int.gcd n m : Int) else (Int.gcd n m : Int)
def frN (n m : Int) : Int := n.fdiv (frG n m)
def frD (n m : Int) : Int := m.fdiv (frG n m)
def fr (n m : Int) : T := .tup [.int (frN n m), .int (frD n m)]
theorem fr_frac {n m : Int} (hm : m ≠ 0) : Frac (frN n m) (frD n m) n m := by
  unfold frN frD
  refine frac_mk n hm ?_
  unfold frG
  rcases Int.lt_or_lt_of_ne hm with z | z
  · exact .inr ⟨z, if_pos z⟩
  · exact .inl ⟨z, if_neg (by omega)⟩
theorem fr_rt {n m : Int} (hm : m ≠ 0) : Rt (frN n m) (frD n m) n m := (fr_frac hm).rt
theorem fr_of {p q n m : Int} (hm : m ≠ 0) (A : Rt p q n m) : fra p q = fr n m := by
  obtain ⟨e1, e2⟩ := A.uniq hm (fr_rt hm)
  rw [e1, e2, fr]
theorem fr_eq {n m n' m' : Int} (hm : m ≠ 0) (hm' : m' ≠ 0) (e : n * m' = n' * m) : fr n m = fr n' m' := by
  obtain ⟨e1, e2⟩ := (fr_rt hm).same hm hm' e (fr_rt hm')
  rw [fr, fr, e1, e2]
theorem fr_one (x : Int) : fra x 1 = fr x 1 := fr_of (by decide) (Rt.whole x)
theorem frN_lim {k : Nat} {n m : Int} (hm : m ≠ 0) (h : Lim k n) : Lim k (frN n m) := (fr_rt hm).lp hm h
theorem frD_lim {k : Nat} {n m : Int} (hm : m ≠ 0) (h : Lim k m) : Lim k (frD n m) := (fr_rt hm).lq hm h
theorem frD_pos {n m : Int} (hm : m ≠ 0) : 0 < frD n m := (fr_rt hm).pos
structure Two (k : Nat) (a b c d : Int) : Prop where
  hb : b ≠ 0
  hd : d ≠ 0
  la : Lim k a
  lb : Lim k b
  lc : Lim k c
  ld : Lim k d
theorem Two.mono {k k' : Nat} {a b c d : Int} (h : Two k a b c d) (hk : k ≤ k') : Two k' a b c d := ⟨h.hb, h.hd, h.la.mono hk, h.lb.mono hk, h.lc.mono hk, h.ld.mono hk⟩
theorem fr_sum {a b c d : Int} (hb : b ≠ 0) (hd : d ≠ 0) : fr (frN a b * frD c d + frN c d * frD a b) (frD a b * frD c d) = fr (a * d + c * b) (b * d) := by
  have A := fr_rt (n := a) hb
  have B := fr_rt (n := c) hd
  refine fr_eq (by have := Int.mul_pos A.pos B.pos; omega) (Int.mul_ne_zero hb hd) ?_
  have e1 := A.eq
  have e2 := B.eq
  generalize frN a b = p at e1 ⊢
  generalize frD a b = q at e1 ⊢
  generalize frN c d = r at e2 ⊢
  generalize frD c d = s at e2 ⊢
  clear A B
  have h1 : (p * s + r * q) * (b * d) = (p * b) * (s * d) + (r * d) * (q * b) := by grind
  rw [h1, e1, e2]
  grind
theorem fr_sub {a b c d : Int} (hb : b ≠ 0) (hd : d ≠ 0) : fr (frN a b * frD c d - frN c d * frD a b) (frD a b * frD c d) = fr (a * d - c * b) (b * d) := by
  have A := fr_rt (n := a) hb
  have B := fr_rt (n := c) hd
  refine fr_eq (by have := Int.mul_pos A.pos B.pos; omega) (Int.mul_ne_zero hb hd) ?_
  have e1 := A.eq
  have e2 := B.eq
  generalize frN a b = p at e1 ⊢
  generalize frD a b = q at e1 ⊢
  generalize frN c d = r at e2 ⊢
  generalize frD c d = s at e2 ⊢
  clear A B
  have h1 : (p * s - r * q) * (b * d) = (p * b) * (s * d) - (r * d) * (q * b) := by grind
  rw [h1, e1, e2]
  grind
theorem fr_mul {a b c d : Int} (hb : b ≠ 0) (hd : d ≠ 0) : fr (frN a b * frN c d) (frD a b * frD c d) = fr (a * c) (b * d) := by
  have A := fr_rt (n := a) hb
  have B := fr_rt (n := c) hd
  refine fr_eq (by have := Int.mul_pos A.pos B.pos; omega) (Int.mul_ne_zero hb hd) ?_
  have e1 := A.eq
  have e2 := B.eq
  generalize frN a b = p at e1 ⊢
  generalize frD a b = q at e1 ⊢
  generalize frN c d = r at e2 ⊢
  generalize frD c d = s at e2 ⊢
  clear A B
  have h1 : (p * r) * (b * d) = (p * b) * (r * d) := by grind
  rw [h1, e1, e2]
  grind
theorem frN_ne {c d : Int} (hd : d ≠ 0) (hc : c ≠ 0) : frN c d ≠ 0 := fun z => by
  have e := (fr_rt (n := c) hd).eq
  have q := frD_pos (n := c) hd
  rw [z, Int.zero_mul] at e
  exact Int.mul_ne_zero hc (by omega) e.symm
theorem fr_quo {a b c d : Int} (hb : b ≠ 0) (hd : d ≠ 0) (hc : c ≠ 0) : fr (frN a b * frD c d) (frD a b * frN c d) = fr (a * d) (b * c) := by
  have A := fr_rt (n := a) hb
  have B := fr_rt (n := c) hd
  have nz := frN_ne hd hc
  refine fr_eq (Int.mul_ne_zero (by have := A.pos; omega) nz) (Int.mul_ne_zero hb hc) ?_
  have e1 := A.eq
  have e2 := B.eq
  generalize frN a b = p at e1 ⊢
  generalize frD a b = q at e1 ⊢
  generalize frN c d = r at e2 ⊢
  generalize frD c d = s at e2 ⊢
  clear A B nz
  have h1 : (p * s) * (b * c) = (p * b) * (c * s) := by grind
  rw [h1, e1, ← e2]
  grind
theorem fr_under {a b c d : Int} (hb : 0 < b) (hd : 0 < d) : (frN a b * frD c d < frN c d * frD a b) ↔ (a * d < c * b) := by
  have A := fr_rt (n := a) (m := b) (by omega)
  have B := fr_rt (n := c) (m := d) (by omega)
  have e1 := A.eq
  have e2 := B.eq
  have q0 := A.pos
  have s0 := B.pos
  generalize frN a b = p at e1 ⊢
  generalize frD a b = q at e1 q0 ⊢
  generalize frN c d = r at e2 ⊢
  generalize frD c d = s at e2 s0 ⊢
  clear A B
  have h1 : (p * s) * (b * d) = (a * d) * (q * s) := by
    have e : (p * s) * (b * d) = (p * b) * (s * d) := by grind
    rw [e, e1]
    grind
  have h2 : (r * q) * (b * d) = (c * b) * (q * s) := by
    have e : (r * q) * (b * d) = (r * d) * (q * b) := by grind
    rw [e, e2]
    grind
  have bd := Int.mul_pos hb hd
  have qs := Int.mul_pos q0 s0
  constructor
  · intro h
    have := Int.mul_lt_mul_of_pos_right h bd
    rw [h1, h2] at this
    exact Int.lt_of_mul_lt_mul_right this (Int.le_of_lt qs)
  · intro h
    have := Int.mul_lt_mul_of_pos_right h qs
    rw [← h1, ← h2] at this
    exact Int.lt_of_mul_lt_mul_right this (Int.le_of_lt bd)
theorem fr_sgn {a b : Int} (hb : 0 < b) : (frN a b < 0 ↔ a < 0) ∧ (0 < frN a b ↔ 0 < a) ∧ (frN a b = 0 ↔ a = 0) := by
  have A := fr_rt (n := a) (m := b) (by omega)
  have e1 := A.eq
  have q0 := A.pos
  generalize frN a b = p at e1 ⊢
  generalize frD a b = q at e1 q0 ⊢
  clear A
  rcases Int.lt_trichotomy p 0 with z | z | z
  · have h := Int.mul_neg_of_neg_of_pos z hb
    rw [e1] at h
    have : a < 0 := by
      rcases Int.lt_or_le a 0 with y | y
      · exact y
      · have := Int.mul_nonneg y (Int.le_of_lt q0); omega
    omega
  · rw [z, Int.zero_mul] at e1
    have := (Int.mul_eq_zero.mp e1.symm).resolve_right (by omega)
    omega
  · have h := Int.mul_pos z hb
    rw [e1] at h
    have : 0 < a := by
      rcases Int.lt_or_le 0 a with y | y
      · exact y
      · have := Int.mul_nonneg (show 0 ≤ -a by omega) (Int.le_of_lt q0)
        rw [Int.neg_mul] at this
        omega
    omega
theorem fr_sum1 {a c m : Int} (hm : m ≠ 0) : fr (a * m + c * m) (m * m) = fr (a + c) m := fr_eq (Int.mul_ne_zero hm hm) hm (by grind)
theorem abs_ite (a : Int) : (if a < 0 then -a else a) = (a.natAbs : Int) := by split <;> omega
def isWh : T → Bool
  | .int _ => true
  | _ => false
def sp_P_is_whole : SpT := fun ts Q => ∃ t, ts = [t] ∧ noExc t ∧ Q (.bl (isWh t))
theorem len_P_is_whole : ∀ ts Q, sp_P_is_whole ts Q → ts.length = 1 := by rintro ts Q ⟨_, e, _⟩; subst e; rfl
def w_P_is_whole : WS :=
  (sRet (wAndV (wIsi .int (wVar 0)) (wNotV (wIsi .bool (wVar 0)))))
theorem ok_P_is_whole : ∀ ts Q, sp_P_is_whole ts Q → w_P_is_whole { nx := fun _ => Q .non, rt := Q } (startT 1 ts) := by
  rintro _ Q ⟨t, rfl, ne, h⟩
  unfold w_P_is_whole
  walk_at "tw"
  cases t <;> simp [isK, isWh, noExc] at h ne ⊢ <;> exact h
def sp_P_greatest_factor : SpT := fun ts Q => ∃ a b : Int, ts = [.int a, .int b] ∧ Q (.int (Int.gcd a b))
theorem len_P_greatest_factor : ∀ ts Q, sp_P_greatest_factor ts Q → ts.length = 2 := by rintro ts Q ⟨_, _, e, _⟩; subst e; rfl
def w_P_greatest_factor_b0 : WS :=
  (sSeq (sSet 2 (w2 rModT (wVar 0) (wVar 1)))
    (sSeq (sSet 0 (wVar 1))
    (sSet 1 (wVar 2))))
def w_P_greatest_factor : WS :=
  (sSeq (sWhile (tCmpT cNeT (wVar 1) (wC (.int 0))) w_P_greatest_factor_b0)
    (sRet (wCB rAbsT (aCons (wVar 0) aNil))))
theorem ok_P_greatest_factor : ∀ ts Q, sp_P_greatest_factor ts Q → w_P_greatest_factor { nx := fun _ => Q .non, rt := Q } (startT 3 ts) := by
  rintro _ Q ⟨a, b, rfl, h⟩
  unfold w_P_greatest_factor
  walk_at "tw"
  refine ⟨fun m τ => ∃ (x y : Int) (s : Slot), τ = [.val (.int x), .val (.int y), s] ∧ Int.gcd x y = Int.gcd a b ∧ m = y.natAbs, ⟨_, _, _, _, rfl, rfl, rfl⟩, ?_⟩
  rintro m τ ⟨x, y, s, rfl, hg, rfl⟩
  unfold w_P_greatest_factor_b0
  walk_at "tw"
  refine ⟨fun c => ?_, fun c => ?_⟩
  · have c' : y ≠ 0 := by simpa using c
    exact ⟨c', _, fmod_abs_lt x c', _, _, _, rfl, by rw [gcd_step]; exact hg, rfl⟩
  · have e : y = 0 := by simpa using c
    subst e
    rw [Int.gcd_zero_right] at hg
    rw [abs_ite, hg]
    exact h
def sp_P_ratio_of : SpT := fun ts Q => ∃ a b : Int, ts = [.int a, .int b] ∧ b ≠ 0 ∧ Lim 2000 b ∧ Q (fr a b)
theorem len_P_ratio_of : ∀ ts Q, sp_P_ratio_of ts Q → ts.length = 2 := by rintro ts Q ⟨_, _, e, _⟩; subst e; rfl
def w_P_ratio_of_k0 : WS :=
  (sRet (wTup (aCons (w2 rDivT (wVar 0) (wVar 2)) (aCons (w2 rDivT (wVar 1) (wVar 2)) aNil))))
def w_P_ratio_of : WS :=
  (sSeq (sIf (tOrT (tNotT (tVal (wCall sp_P_is_whole (aCons (wVar 0) aNil)))) (tNotT (tVal (wCall sp_P_is_whole (aCons (wVar 1) aNil))))) sNever sNext)
    (sSeq (sIf (tCmpT cEqT (wVar 1) (wC (.int 0))) sNever sNext)
    (sSeq (sSet 2 (wCall sp_P_greatest_factor (aCons (wVar 0) (aCons (wVar 1) aNil))))
    (sSeq (sIf (tCmpT cLtT (wVar 1) (wC (.int 0))) (sSet 2 (wNeg (wVar 2))) sNext)
    w_P_ratio_of_k0))))
theorem ok_P_ratio_of : ∀ ts Q, sp_P_ratio_of ts Q → w_P_ratio_of { nx := fun _ => Q .non, rt := Q } (startT 3 ts) := by
  rintro _ Q ⟨a, b, rfl, hb, lb, h⟩
  simp only [w_P_ratio_of, w_P_ratio_of_k0]
  walk_at "tw"
  have g0 : 0 < Int.gcd a b := Int.gcd_pos_iff.mpr (Or.inr hb)
  have gl : (Int.gcd a b : Int).natAbs ≤ b.natAbs := by
    have d := Int.gcd_dvd_right a b
    have := Int.natAbs_dvd_natAbs.mpr d
    exact Nat.le_of_dvd (by omega) this
  refine ⟨_, rfl, trivial, ?_⟩
  walk_at "tw"
  simp only [isWh]
  refine ⟨fun z => (by cases z), fun _ => ⟨_, rfl, trivial, ?_⟩⟩
  walk_at "tw"
  simp only [isWh]
  refine ⟨fun z => (by cases z), fun _ => ⟨fun c => hb (of_decide_eq_true c), fun _ => ⟨a, b, rfl, ?_⟩⟩⟩
  walk_at "tw"
  refine ⟨fun c => ?_, fun c => ?_⟩
  · have c' : b < 0 := of_decide_eq_true c
    have dv : DivOk (-(Int.gcd a b : Int)) := divOk (by omega) (lb.le (by omega))
    unfold fr frN frD frG at h
    rw [if_pos c'] at h
    exact ⟨dv, dv, h⟩
  · have c' : ¬ b < 0 := of_decide_eq_false c
    have dv : DivOk (Int.gcd a b : Int) := divOk (by omega) (lb.le gl)
    unfold fr frN frD frG at h
    rw [if_neg c'] at h
    exact ⟨dv, dv, h⟩
def sp_P_ratio_sum : SpT := fun ts Q => ∃ a b c d : Int, ts = [fr a b, fr c d] ∧ Two 900 a b c d ∧ Q (fr (a * d + c * b) (b * d))
theorem len_P_ratio_sum : ∀ ts Q, sp_P_ratio_sum ts Q → ts.length = 2 := by rintro ts Q ⟨_, _, _, _, e, _⟩; subst e; rfl
def w_P_ratio_sum : WS :=
  (sRet (wCall sp_P_ratio_of (aCons (w2 rAddT (w2 rMulT (w2 rIxTT (wVar 0) (wC (.int 0))) (w2 rIxTT (wVar 1) (wC (.int 1)))) (w2 rMulT (w2 rIxTT (wVar 1) (wC (.int 0))) (w2 rIxTT (wVar 0) (wC (.int 1))))) (aCons (w2 rMulT (w2 rIxTT (wVar 0) (wC (.int 1))) (w2 rIxTT (wVar 1) (wC (.int 1)))) aNil))))
theorem ok_P_ratio_sum : ∀ ts Q, sp_P_ratio_sum ts Q → w_P_ratio_sum { nx := fun _ => Q .non, rt := Q } (startT 2 ts) := by
  rintro _ Q ⟨a, b, c, d, rfl, ⟨hb, hd, la, lb, lc, ld⟩, h⟩
  rw [← fr_sum hb hd] at h
  have q := Int.mul_pos (frD_pos (n := a) hb) (frD_pos (n := c) hd)
  have la := frN_lim hb la
  have lb := frD_lim (n := a) hb lb
  have lc := frN_lim hd lc
  have ld := frD_lim (n := c) hd ld
  unfold w_P_ratio_sum fr
  walk_at "tw"
  exact ⟨mulOk la ld, mulOk lc lb, mulOk lb ld, _, _, rfl, by omega, (lb.mul ld).mono (by decide), h⟩
def sp_P_ratio_less : SpT := fun ts Q => ∃ a b c d : Int, ts = [fr a b, fr c d] ∧ Two 900 a b c d ∧ Q (fr (a * d - c * b) (b * d))
theorem len_P_ratio_less : ∀ ts Q, sp_P_ratio_less ts Q → ts.length = 2 := by rintro ts Q ⟨_, _, _, _, e, _⟩; subst e; rfl
def w_P_ratio_less : WS :=
  (sRet (wCall sp_P_ratio_of (aCons (w2 rSubT (w2 rMulT (w2 rIxTT (wVar 0) (wC (.int 0))) (w2 rIxTT (wVar 1) (wC (.int 1)))) (w2 rMulT (w2 rIxTT (wVar 1) (wC (.int 0))) (w2 rIxTT (wVar 0) (wC (.int 1))))) (aCons (w2 rMulT (w2 rIxTT (wVar 0) (wC (.int 1))) (w2 rIxTT (wVar 1) (wC (.int 1)))) aNil))))
theorem ok_P_ratio_less : ∀ ts Q, sp_P_ratio_less ts Q → w_P_ratio_less { nx := fun _ => Q .non, rt := Q } (startT 2 ts) := by
  rintro _ Q ⟨a, b, c, d, rfl, ⟨hb, hd, la, lb, lc, ld⟩, h⟩
  rw [← fr_sub hb hd] at h
  have q := Int.mul_pos (frD_pos (n := a) hb) (frD_pos (n := c) hd)
  have la := frN_lim hb la
  have lb := frD_lim (n := a) hb lb
  have lc := frN_lim hd lc
  have ld := frD_lim (n := c) hd ld
  unfold w_P_ratio_less fr
  walk_at "tw"
  exact ⟨mulOk la ld, mulOk lc lb, mulOk lb ld, _, _, rfl, by omega, (lb.mul ld).mono (by decide), h⟩
def sp_P_ratio_times : SpT := fun ts Q => ∃ a b c d : Int, ts = [fr a b, fr c d] ∧ Two 900 a b c d ∧ Q (fr (a * c) (b * d))
theorem len_P_ratio_times : ∀ ts Q, sp_P_ratio_times ts Q → ts.length = 2 := by rintro ts Q ⟨_, _, _, _, e, _⟩; subst e; rfl
def w_P_ratio_times : WS :=
  (sRet (wCall sp_P_ratio_of (aCons (w2 rMulT (w2 rIxTT (wVar 0) (wC (.int 0))) (w2 rIxTT (wVar 1) (wC (.int 0)))) (aCons (w2 rMulT (w2 rIxTT (wVar 0) (wC (.int 1))) (w2 rIxTT (wVar 1) (wC (.int 1)))) aNil))))
theorem ok_P_ratio_times : ∀ ts Q, sp_P_ratio_times ts Q → w_P_ratio_times { nx := fun _ => Q .non, rt := Q } (startT 2 ts) := by
  rintro _ Q ⟨a, b, c, d, rfl, ⟨hb, hd, la, lb, lc, ld⟩, h⟩
  rw [← fr_mul hb hd] at h
  have q := Int.mul_pos (frD_pos (n := a) hb) (frD_pos (n := c) hd)
  have la := frN_lim hb la
  have lb := frD_lim (n := a) hb lb
  have lc := frN_lim hd lc
  have ld := frD_lim (n := c) hd ld
  unfold w_P_ratio_times fr
  walk_at "tw"
  exact ⟨mulOk la lc, mulOk lb ld, _, _, rfl, by omega, (lb.mul ld).mono (by decide), h⟩
def sp_P_ratio_by : SpT := fun ts Q => ∃ a b c d : Int, ts = [fr a b, fr c d] ∧ Two 900 a b c d ∧ c ≠ 0 ∧ Q (fr (a * d) (b * c))
theorem len_P_ratio_by : ∀ ts Q, sp_P_ratio_by ts Q → ts.length = 2 := by rintro ts Q ⟨_, _, _, _, e, _⟩; subst e; rfl
def w_P_ratio_by : WS :=
  (sRet (wCall sp_P_ratio_of (aCons (w2 rMulT (w2 rIxTT (wVar 0) (wC (.int 0))) (w2 rIxTT (wVar 1) (wC (.int 1)))) (aCons (w2 rMulT (w2 rIxTT (wVar 0) (wC (.int 1))) (w2 rIxTT (wVar 1) (wC (.int 0)))) aNil))))
theorem ok_P_ratio_by : ∀ ts Q, sp_P_ratio_by ts Q → w_P_ratio_by { nx := fun _ => Q .non, rt := Q } (startT 2 ts) := by
  rintro _ Q ⟨a, b, c, d, rfl, ⟨hb, hd, la, lb, lc, ld⟩, hc, h⟩
  rw [← fr_quo hb hd hc] at h
  have q := frD_pos (n := a) hb
  have nz := frN_ne hd hc
  have la := frN_lim hb la
  have lb := frD_lim (n := a) hb lb
  have lc := frN_lim hd lc
  have ld := frD_lim (n := c) hd ld
  unfold w_P_ratio_by fr
  walk_at "tw"
  exact ⟨mulOk la ld, mulOk lb lc, _, _, rfl, Int.mul_ne_zero (by omega) nz, (lb.mul lc).mono (by decide), h⟩
def sp_P_is_under : SpT := fun ts Q => ∃ a b c d : Int, ts = [fr a b, fr c d] ∧ 0 < b ∧ 0 < d ∧ Two 900 a b c d ∧ Q (.bl (decide (a * d < c * b)))
theorem len_P_is_under : ∀ ts Q, sp_P_is_under ts Q → ts.length = 2 := by rintro ts Q ⟨_, _, _, _, e, _⟩; subst e; rfl
def w_P_is_under : WS :=
  (sRet (wCmp cLtT (w2 rMulT (w2 rIxTT (wVar 0) (wC (.int 0))) (w2 rIxTT (wVar 1) (wC (.int 1)))) (w2 rMulT (w2 rIxTT (wVar 1) (wC (.int 0))) (w2 rIxTT (wVar 0) (wC (.int 1))))))
theorem ok_P_is_under : ∀ ts Q, sp_P_is_under ts Q → w_P_is_under { nx := fun _ => Q .non, rt := Q } (startT 2 ts) := by
  rintro _ Q ⟨a, b, c, d, rfl, b0, d0, ⟨hb, hd, la, lb, lc, ld⟩, h⟩
  have e : decide (a * d < c * b) = decide (frN a b * frD c d < frN c d * frD a b) := decide_eq_decide.mpr (fr_under b0 d0).symm
  rw [e] at h
  have la := frN_lim hb la
  have lb := frD_lim (n := a) hb lb
  have lc := frN_lim hd lc
  have ld := frD_lim (n := c) hd ld
  unfold w_P_is_under fr
  walk_at "tw"
  exact ⟨mulOk la ld, mulOk lc lb, h⟩
abbrev tri (a b c : Int) : T := .tup [.int a, .int b, .int c]
abbrev plt (a b c d e f x y z : Int) : T := .tup [tri a b c, tri d e f, tri x y z]
def sp_L_cell : SpT := fun ts Q => ∃ (ns : List Int) (k : Int), ts = [.lst (ns.map T.int), .int k] ∧ 0 ≤ k ∧ ∀ v : Int, Q (.int v)
theorem len_L_cell : ∀ ts Q, sp_L_cell ts Q → ts.length = 2 := by rintro ts Q ⟨_, _, e, _⟩; subst e; rfl
def w_L_cell : WS :=
  (sSeq (sIf (tCmpT cLtT (wVar 1) (wCB rLenT (aCons (wVar 0) aNil))) (sRet (w2 rIxTT (wVar 0) (wVar 1))) sNext)
    (sRet (wC (.int 0))))
theorem ok_L_cell : ∀ ts Q, sp_L_cell ts Q → w_L_cell { nx := fun _ => Q .non, rt := Q } (startT 2 ts) := by
  rintro _ Q ⟨ns, k, rfl, h0, h⟩
  unfold w_L_cell
  walk_at "tw"
  refine ⟨fun c => ?_, fun _ => h 0⟩
  have c' : k < (ns.length : Int) := by simpa using c
  obtain ⟨v, _, e⟩ := atI_map h0 c'
  rw [e]
  exact h v
def Drawn (size : Int) (rs : List Int) : Prop := ∀ r ∈ rs, 0 ≤ r ∧ r < size
theorem Drawn.snoc {size r : Int} {rs : List Int} (h : Drawn size rs) (h0 : 0 ≤ r) (h1 : r < size) : Drawn size (rs ++ [r]) := fun x hx => by
  rcases List.mem_append.mp hx with z | z
  · exact h x z
  · rw [List.mem_singleton.mp z]
    exact ⟨h0, h1⟩
def sp_L_digits : SpT := fun ts Q => ∃ (c k size : Int) (many : Nat), ts = [.int c, .int k, .int (many : Int), .int size] ∧ 0 ≤ k ∧ k ≤ 1000 ∧ many ≤ 100 ∧ 1 ≤ size ∧ size ≤ 10 ^ 100 ∧ ∀ rs : List Int, rs.length = many → Drawn size rs → Q (.lst (rs.map T.int))
theorem len_L_digits : ∀ ts Q, sp_L_digits ts Q → ts.length = 4 := by rintro ts Q ⟨_, _, _, _, e, _⟩; subst e; rfl
def w_L_digits_b0 : WS :=
  (sIf (tOrT (tCmpT cEqT (w2 rModT (wVar 0) (wC (.int 2))) (wC (.int 1))) (tCmpT cEqT (wVar 4) (wC (.int 0)))) (sSeq (sSet 4 (w2 rAddT (w2 rModT (w2 rAddT (wVar 4) (wVar 0)) (wC (.int 2147483629))) (wC (.int 48271))))
    (sSeq (sSet 4 (w2 rAddT (wVar 4) (w2 rMulT (w2 rMulT (wC (.int 7919)) (w2 rAddT (wVar 1) (wVar 6))) (w2 rAddT (wVar 1) (wVar 6)))))
    (sSeq (sSet 4 (w2 rModT (w2 rMulT (wVar 4) (wVar 4)) (wC (.int 2147483587))))
    (sApp 5 (w2 rModT (w2 rDivT (wVar 4) (wC (.int 16))) (wVar 3)))))) (sSeq (sApp 5 (w2 rModT (wVar 4) (wVar 3)))
    (sSet 4 (w2 rDivT (wVar 4) (wVar 3)))))
def w_L_digits : WS :=
  (sSeq (sSet 4 (w2 rDivT (wCB rAbsT (aCons (wVar 0) aNil)) (wC (.int 2))))
    (sSeq (sOwn 5 aNil)
    (sSeq (sFor (iRange1 (aCons (wVar 2) aNil)) (gN 6) w_L_digits_b0)
    (sFrz 5 (sRet (wVar 5))))))
theorem digits_loop {D : DT} {c k size : Int} {t2 : Slot} (h0 : 0 ≤ k) (h1 : k ≤ 1000) (hs0 : 1 ≤ size) (hs1 : size ≤ 10 ^ 100) : ∀ (n : Nat) (rs : List Int) (number : Int) (s6 : Slot), rs.length + n ≤ 100 → Drawn size rs →
    (∀ (rs' : List Int) (number : Int) (s6 : Slot), rs'.length = rs.length + n → Drawn size rs' → D.nx [.val (.int c), .val (.int k), t2, .val (.int size), .val (.int number), .own (rs'.map T.int), s6]) →
    forT (gN 6) w_L_digits_b0 (rangeT rs.length n) D [.val (.int c), .val (.int k), t2, .val (.int size), .val (.int number), .own (rs.map T.int), s6]
  | 0, rs, number, s6, _, hd, h => by
    simp only [rangeT, forT]
    exact h rs number s6 (by simp) hd
  | n + 1, rs, number, s6, hl, hd, h => by
    have ih := fun (r number : Int) (s6 : Slot) (r0 : 0 ≤ r) (r1 : r < size) => digits_loop (D := D) (c := c) (t2 := t2) h0 h1 hs0 hs1 n (rs ++ [r]) number s6 (by simp; omega) (hd.snoc r0 r1) (fun rs' number s6 hl' hd' => h rs' number s6 (by rw [hl']; simp; omega) hd')
    simp only [List.length_append, List.length_singleton, List.map_append, List.map_cons, List.map_nil] at ih
    simp only [rangeT, forT]
    rw [show ((rs.length : Int) + 1) = ((rs.length + 1 : Nat) : Int) by simp]
    generalize forT (gN 6) w_L_digits_b0 (rangeT ((rs.length + 1 : Nat) : Int) n) D = F at ih ⊢
    have hr : (List.map T.int rs).length < 1000 := by rw [List.length_map]; omega
    have lk : Lim 4 (k + (rs.length : Int)) := Lim.of (by omega) (by omega)
    have ds : DivOk size := divOk (n := 101) (by omega) (Lim.of (by omega) (by omega))
    have sne : size ≠ 0 := by omega
    have d16 : DivOk 16 := divOk (by decide) (Lim.of (n := 2) (by decide) (by decide))
    have l7 : Lim 4 (7919 : Int) := Lim.of (by decide) (by decide)
    have one : ∀ number : Int, MulOk 7919 (k + (rs.length : Int)) ∧ MulOk (7919 * (k + (rs.length : Int))) (k + (rs.length : Int)) ∧ MulOk ((number + c).fmod 2147483629 + 48271 + 7919 * (k + (rs.length : Int)) * (k + (rs.length : Int))) ((number + c).fmod 2147483629 + 48271 + 7919 * (k + (rs.length : Int)) * (k + (rs.length : Int))) := fun number => by
      have f := fmod_pos (number + c) (b := 2147483629) (by decide)
      have l2 := ((l7.mul lk).mul lk).bd
      have l3 : Lim 13 ((number + c).fmod 2147483629 + 48271 + 7919 * (k + (rs.length : Int)) * (k + (rs.length : Int))) := Lim.of (by omega) (by omega)
      exact ⟨mulOk l7 lk, mulOk (l7.mul lk) lk, mulOk l3 l3⟩
    unfold w_L_digits_b0
    walk_at "tw"
    have way1 : (2147483629 : Int) ≠ 0 ∧ MulOk 7919 (k + (rs.length : Int)) ∧ MulOk (7919 * (k + (rs.length : Int))) (k + (rs.length : Int)) ∧ MulOk ((number + c).fmod 2147483629 + 48271 + 7919 * (k + (rs.length : Int)) * (k + (rs.length : Int))) ((number + c).fmod 2147483629 + 48271 + 7919 * (k + (rs.length : Int)) * (k + (rs.length : Int))) ∧ (2147483587 : Int) ≠ 0 ∧ DivOk 16 ∧ size ≠ 0 ∧ (List.map T.int rs).length < 1000 ∧
        F [.val (.int c), .val (.int k), t2, .val (.int size), .val (.int ((((number + c).fmod 2147483629 + 48271 + 7919 * (k + (rs.length : Int)) * (k + (rs.length : Int))) * ((number + c).fmod 2147483629 + 48271 + 7919 * (k + (rs.length : Int)) * (k + (rs.length : Int)))).fmod 2147483587)), .own (List.map T.int rs ++ [.int (((((number + c).fmod 2147483629 + 48271 + 7919 * (k + (rs.length : Int)) * (k + (rs.length : Int))) * ((number + c).fmod 2147483629 + 48271 + 7919 * (k + (rs.length : Int)) * (k + (rs.length : Int)))).fmod 2147483587).fdiv 16 |>.fmod size)]), .val (.int rs.length)] := by
      obtain ⟨m1, m2, m3⟩ := one number
      refine ⟨by decide, m1, m2, m3, by decide, d16, sne, hr, ?_⟩
      generalize (((number + c).fmod 2147483629 + 48271 + 7919 * (k + (rs.length : Int)) * (k + (rs.length : Int))) * ((number + c).fmod 2147483629 + 48271 + 7919 * (k + (rs.length : Int)) * (k + (rs.length : Int)))).fmod 2147483587 = v
      have z := fmod_pos (v.fdiv 16) (b := size) (by omega)
      exact ih _ _ _ z.1 z.2
    refine ⟨by decide, fun _ => ⟨fun _ => way1, fun zz => (by cases zz)⟩, fun _ => ⟨fun _ => way1, fun _ => ?_⟩⟩
    have z := fmod_pos number (b := size) (by omega)
    exact ⟨sne, hr, ds, ih _ _ _ z.1 z.2⟩
theorem ok_L_digits : ∀ ts Q, sp_L_digits ts Q → w_L_digits { nx := fun _ => Q .non, rt := Q } (startT 7 ts) := by
  rintro _ Q ⟨c, k, size, many, rfl, h0, h1, hm, hs0, hs1, h⟩
  unfold w_L_digits
  obtain ⟨W0, hW0⟩ : ∃ W, W = w_L_digits_b0 := ⟨_, rfl⟩
  rw [← hW0]
  walk_at "tw"
  refine ⟨divOk (by decide) (Lim.of (n := 1) (by decide) (by decide)), by omega, ?_⟩
  rw [hW0]
  have z := digits_loop (D := { nx := fun τ => sFrz 5 (sRet (wVar 5)) { nx := fun _ => Q .non, rt := Q } τ, rt := Q }) (c := c) (k := k) (size := size) (t2 := .val (.int (many : Int))) h0 h1 hs0 hs1 many [] ((if c < 0 then -c else c).fdiv 2) .no (by simpa using hm) (fun _ hx => absurd hx (by simp)) (fun rs' number s6 hl hd => by
    walk_at "tw"
    exact h rs' (by simpa using hl) hd)
  simpa using z
abbrev Lim3 (k : Nat) (u v w : Int) : Prop := Lim k u ∧ Lim k v ∧ Lim k w
abbrev NoFlat (d e f x y z : Int) : Prop := ¬ (e * z - f * y = 0 ∧ f * x - d * z = 0 ∧ d * y - e * x = 0)
abbrev det3 (d e f x y z u v w : Int) : Int := (e * z - f * y) * u + (f * x - d * z) * v + (d * y - e * x) * w
theorem Lim3.mono {k k' : Nat} {a b c : Int} (h : Lim3 k a b c) (hk : k ≤ k') : Lim3 k' a b c := ⟨h.1.mono hk, h.2.1.mono hk, h.2.2.mono hk⟩
abbrev Lim6 (k : Nat) (d e f x y z : Int) : Prop := Lim k d ∧ Lim k e ∧ Lim k f ∧ Lim k x ∧ Lim k y ∧ Lim k z
theorem lim6 {m n k : Nat} {d e f x y z : Int} (ld : Lim3 m d e f) (lx : Lim3 n x y z) (hm : m ≤ k) (hn : n ≤ k) : Lim6 k d e f x y z := ⟨ld.1.mono hm, ld.2.1.mono hm, ld.2.2.mono hm, lx.1.mono hn, lx.2.1.mono hn, lx.2.2.mono hn⟩
theorem lim_cross {m n k : Nat} {b c e f : Int} (lb : Lim m b) (lc : Lim m c) (le : Lim n e) (lf : Lim n f) (hk : m + n + 1 ≤ k) : Lim k (b * f - c * e) := ((lb.mul lf).sub (lc.mul le)).mono (by simp; omega)
theorem lim_cross3 {m n k : Nat} {d e f x y z : Int} (hd : Lim3 m d e f) (hx : Lim3 n x y z) (hk : m + n + 1 ≤ k) : Lim3 k (e * z - f * y) (f * x - d * z) (d * y - e * x) :=
  ⟨lim_cross hd.2.1 hd.2.2 hx.2.1 hx.2.2 hk, lim_cross hd.2.2 hd.1 hx.2.2 hx.1 hk, lim_cross hd.1 hd.2.1 hx.1 hx.2.1 hk⟩
theorem lim_neg3 {k : Nat} {a b c : Int} (h : Lim3 k a b c) : Lim3 k (0 - a) (0 - b) (0 - c) := by
  have z : ∀ {i : Int}, Lim k i → Lim k (0 - i) := fun h => by rw [Int.zero_sub]; exact h.neg
  exact ⟨z h.1, z h.2.1, z h.2.2⟩
theorem sq_pos {a b c : Int} (h : ¬ (a = 0 ∧ b = 0 ∧ c = 0)) : 0 < a * a + b * b + c * c := by
  have ha : 0 ≤ a * a := by rcases Int.le_total 0 a with z | z; exact Int.mul_nonneg z z; exact Int.mul_nonneg_of_nonpos_of_nonpos z z
  have hb : 0 ≤ b * b := by rcases Int.le_total 0 b with z | z; exact Int.mul_nonneg z z; exact Int.mul_nonneg_of_nonpos_of_nonpos z z
  have hc : 0 ≤ c * c := by rcases Int.le_total 0 c with z | z; exact Int.mul_nonneg z z; exact Int.mul_nonneg_of_nonpos_of_nonpos z z
  have nz : ¬ (a * a = 0 ∧ b * b = 0 ∧ c * c = 0) := fun ⟨x, y, z⟩ => h ⟨(Int.mul_eq_zero.mp x).elim id id, (Int.mul_eq_zero.mp y).elim id id, (Int.mul_eq_zero.mp z).elim id id⟩
  omega
theorem eqOk_tri (a b c d e f : Int) : EqOk (tri a b c) (tri d e f) := eqOk_tup [a, b, c] [d, e, f]
theorem eqT_tri (a b c d e f : Int) : eqT (tri a b c) (tri d e f) = decide (a = d ∧ b = e ∧ c = f) := by
  simp [eqT, eqTs]
abbrev Tr := Int × Int × Int
abbrev trT (d : Tr) : T := tri d.1 d.2.1 d.2.2
abbrev trL (ds : List Tr) : T := .lst (ds.map trT)
abbrev LimT (k : Nat) (d : Tr) : Prop := Lim3 k d.1 d.2.1 d.2.2
abbrev crs (a b : Tr) : Tr := (a.2.1 * b.2.2 - a.2.2 * b.2.1, a.2.2 * b.1 - a.1 * b.2.2, a.1 * b.2.1 - a.2.1 * b.1)
abbrev dotI (a b : Tr) : Int := a.1 * b.1 + a.2.1 * b.2.1 + a.2.2 * b.2.2
abbrev pt (t : Tr) (m : Int) : T := .tup [fr t.1 m, fr t.2.1 m, fr t.2.2 m]
abbrev hpl (h : Tr) : T := .tup [fr h.1 h.2.2, fr h.2.1 h.2.2]
abbrev ptl (c s o : Tr) : T := .tup [trT c, trT s, trT o]
theorem lim_crs {m n k : Nat} {a b : Tr} (ha : LimT m a) (hb : LimT n b) (hk : m + n + 1 ≤ k) : LimT k (crs a b) := by
  have z : ∀ {p q r s : Int}, Lim m p → Lim m q → Lim n r → Lim n s → Lim k (p * s - q * r) := fun hp hq hr hs => ((hp.mul hs).sub (hq.mul hr)).mono (by simp; omega)
  exact ⟨z ha.2.1 ha.2.2 hb.2.1 hb.2.2, z ha.2.2 ha.1 hb.2.2 hb.1, z ha.1 ha.2.1 hb.1 hb.2.1⟩
theorem lim_dotI {m n k : Nat} {a b : Tr} (ha : LimT m a) (hb : LimT n b) (hk : m + n + 2 ≤ k) : Lim k (dotI a b) := (((ha.1.mul hb.1).add (ha.2.1.mul hb.2.1)).add (ha.2.2.mul hb.2.2)).mono (by simp; omega)
abbrev tless (t c : Tr) (m : Int) : Tr := (t.1 - c.1 * m, t.2.1 - c.2.1 * m, t.2.2 - c.2.2 * m)
theorem lim_tless {k j n : Nat} {t c : Tr} {m : Int} (ht : LimT k t) (hc : LimT k c) (hm : Lim j m) (hn : k + j + 1 ≤ n) : LimT n (tless t c m) := by
  have z : ∀ {p q : Int}, Lim k p → Lim k q → Lim n (p - q * m) := fun hp hq => (hp.sub (hq.mul hm)).mono (by simp; omega)
  exact ⟨z ht.1 hc.1, z ht.2.1 hc.2.1, z ht.2.2 hc.2.2⟩
def sp_P_dot_of : SpT := fun ts Q => ∃ a b : Tr, ts = [trT a, trT b] ∧ LimT 2000 a ∧ LimT 2000 b ∧ Q (.int (dotI a b))
theorem len_P_dot_of : ∀ ts Q, sp_P_dot_of ts Q → ts.length = 2 := by rintro ts Q ⟨_, _, e, _⟩; subst e; rfl
def w_P_dot_of : WS :=
  (sRet (w2 rAddT (w2 rAddT (w2 rMulT (w2 rIxTT (wVar 0) (wC (.int 0))) (w2 rIxTT (wVar 1) (wC (.int 0)))) (w2 rMulT (w2 rIxTT (wVar 0) (wC (.int 1))) (w2 rIxTT (wVar 1) (wC (.int 1))))) (w2 rMulT (w2 rIxTT (wVar 0) (wC (.int 2))) (w2 rIxTT (wVar 1) (wC (.int 2))))))
theorem ok_P_dot_of : ∀ ts Q, sp_P_dot_of ts Q → w_P_dot_of { nx := fun _ => Q .non, rt := Q } (startT 2 ts) := by
  rintro _ Q ⟨⟨a, b, c⟩, ⟨d, e, f⟩, rfl, ⟨la, lb, lc⟩, ⟨ld, le, lf⟩, h⟩
  unfold w_P_dot_of
  walk_at "tw"
  exact ⟨mulOk la ld, mulOk lb le, mulOk lc lf, h⟩
def sp_P_cross_of : SpT := fun ts Q => ∃ a b : Tr, ts = [trT a, trT b] ∧ LimT 1000 a ∧ LimT 1000 b ∧ Q (trT (crs a b))
theorem len_P_cross_of : ∀ ts Q, sp_P_cross_of ts Q → ts.length = 2 := by rintro ts Q ⟨_, _, e, _⟩; subst e; rfl
def w_P_cross_of : WS :=
  (sRet (wTup (aCons (w2 rSubT (w2 rMulT (w2 rIxTT (wVar 0) (wC (.int 1))) (w2 rIxTT (wVar 1) (wC (.int 2)))) (w2 rMulT (w2 rIxTT (wVar 0) (wC (.int 2))) (w2 rIxTT (wVar 1) (wC (.int 1))))) (aCons (w2 rSubT (w2 rMulT (w2 rIxTT (wVar 0) (wC (.int 2))) (w2 rIxTT (wVar 1) (wC (.int 0)))) (w2 rMulT (w2 rIxTT (wVar 0) (wC (.int 0))) (w2 rIxTT (wVar 1) (wC (.int 2))))) (aCons (w2 rSubT (w2 rMulT (w2 rIxTT (wVar 0) (wC (.int 0))) (w2 rIxTT (wVar 1) (wC (.int 1)))) (w2 rMulT (w2 rIxTT (wVar 0) (wC (.int 1))) (w2 rIxTT (wVar 1) (wC (.int 0))))) aNil)))))
theorem ok_P_cross_of : ∀ ts Q, sp_P_cross_of ts Q → w_P_cross_of { nx := fun _ => Q .non, rt := Q } (startT 2 ts) := by
  rintro _ Q ⟨⟨a, b, c⟩, ⟨d, e, f⟩, rfl, ⟨la, lb, lc⟩, ⟨ld, le, lf⟩, h⟩
  unfold w_P_cross_of
  walk_at "tw"
  exact ⟨mulOk lb lf, mulOk lc le, mulOk lc ld, mulOk la lf, mulOk la le, mulOk lb ld, h⟩
def sp_P_front_of : SpT := fun ts Q => ∃ (t : T) (s o : Tr), ts = [.tup [t, trT s, trT o]] ∧ LimT 1000 s ∧ LimT 1000 o ∧ Q (trT (crs s o))
theorem len_P_front_of : ∀ ts Q, sp_P_front_of ts Q → ts.length = 1 := by rintro ts Q ⟨_, _, _, e, _⟩; subst e; rfl
def w_P_front_of : WS :=
  (sRet (wCall sp_P_cross_of (aCons (w2 rIxTT (wVar 0) (wC (.int 1))) (aCons (w2 rIxTT (wVar 0) (wC (.int 2))) aNil))))
theorem ok_P_front_of : ∀ ts Q, sp_P_front_of ts Q → w_P_front_of { nx := fun _ => Q .non, rt := Q } (startT 1 ts) := by
  rintro _ Q ⟨t, s, o, rfl, ls, lo, h⟩
  unfold w_P_front_of
  walk_at "go"
  exact ⟨s, o, rfl, ls, lo, h⟩
def sp_P_point_less : SpT := fun ts Q => ∃ (t c : Tr) (m : Int), ts = [pt t m, trT c] ∧ LimT 300 t ∧ LimT 300 c ∧ m ≠ 0 ∧ Lim 300 m ∧ Q (pt (tless t c m) m)
theorem len_P_point_less : ∀ ts Q, sp_P_point_less ts Q → ts.length = 2 := by rintro ts Q ⟨_, _, _, e, _⟩; subst e; rfl
def w_P_point_less_c0 : WE :=
  (wCall sp_P_ratio_less (aCons (w2 rIxTT (wVar 1) (wVar 0)) (aCons (wTup (aCons (w2 rIxTT (wVar 2) (wVar 0)) (aCons (wC (.int 1)) aNil))) aNil)))
def w_P_point_less : WS :=
  (sRet (wCB rTupleT (aCons (wComp (iRange1 (aCons (wC (.int 3)) aNil)) (gN 0) tTrue w_P_point_less_c0 1 [0, 1]) aNil)))
theorem one9 : Lim 900 (1 : Int) := Lim.of (by decide) (by decide)
theorem up900 {i : Int} (h : Lim 300 i) : Lim 900 i := h.mono (by decide)
theorem ok_P_point_less : ∀ ts Q, sp_P_point_less ts Q → w_P_point_less { nx := fun _ => Q .non, rt := Q } (startT 2 ts) := by
  rintro _ Q ⟨⟨t0, t1, t2⟩, ⟨c0, c1, c2⟩, m, rfl, lt, lc, hm, lm, h⟩
  unfold w_P_point_less
  obtain ⟨W0, hW0⟩ : ∃ W, W = w_P_point_less_c0 := ⟨_, rfl⟩
  rw [← hW0]
  have c0 : ∀ {xs cs : List T} {k X C : Int} {Q : T → Prop}, atI xs k = some (fr X m) → atI cs k = some (.int C) → Lim 300 X → Lim 300 C → Q (fr (X - C * m) m) → W0 [.val (.int k), .val (.tup xs), .val (.tup cs)] Q := fun {xs cs k X C Q} ex ec lX lC hQ => by
    rw [hW0]
    unfold w_P_point_less_c0
    walk_at "go"
    rw [ex]
    walk_at "go"
    rw [ec]
    walk_at "go"
    refine ⟨X, m, C, 1, congrArg (fun x => [fr X m, x]) (fr_one C), ⟨hm, by decide, up900 lX, up900 lm, up900 lC, one9⟩, ?_⟩
    rw [Int.mul_one, Int.mul_one]
    exact hQ
  walk_at "go"
  refine c0 (atI0 _ _) (atI0 _ _) lt.1 lc.1 ?_
  walk_at "go"
  refine c0 (atI1 _ _ _) (atI1 _ _ _) lt.2.1 lc.2.1 ?_
  walk_at "go"
  refine c0 (atI2 _ _ _ _) (atI2 _ _ _ _) lt.2.2 lc.2.2 ?_
  walk_at "go"
  exact h
def sp_P_point_dot : SpT := fun ts Q => ∃ (t n : Tr) (m : Int), ts = [pt t m, trT n] ∧ LimT 300 t ∧ LimT 300 n ∧ m ≠ 0 ∧ Lim 300 m ∧ Q (fr (dotI t n) m)
theorem len_P_point_dot : ∀ ts Q, sp_P_point_dot ts Q → ts.length = 2 := by rintro ts Q ⟨_, _, _, e, _⟩; subst e; rfl
def w_P_point_dot_c0 : WE :=
  (wCall sp_P_ratio_times (aCons (w2 rIxTT (wVar 1) (wVar 0)) (aCons (wTup (aCons (w2 rIxTT (wVar 2) (wVar 0)) (aCons (wC (.int 1)) aNil))) aNil)))
def w_P_point_dot : WS :=
  (sSeq (sSet 2 (wComp (iRange1 (aCons (wC (.int 3)) aNil)) (gN 0) tTrue w_P_point_dot_c0 1 [0, 1]))
    (sRet (wCall sp_P_ratio_sum (aCons (w2 rIxTT (wVar 2) (wC (.int 0))) (aCons (wCall sp_P_ratio_sum (aCons (w2 rIxTT (wVar 2) (wC (.int 1))) (aCons (w2 rIxTT (wVar 2) (wC (.int 2))) aNil))) aNil)))))
theorem ok_P_point_dot : ∀ ts Q, sp_P_point_dot ts Q → w_P_point_dot { nx := fun _ => Q .non, rt := Q } (startT 3 ts) := by
  rintro _ Q ⟨⟨t0, t1, t2⟩, ⟨n0, n1, n2⟩, m, rfl, ⟨lt0, lt1, lt2⟩, ⟨ln0, ln1, ln2⟩, hm, lm, h⟩
  simp only at lt0 lt1 lt2 ln0 ln1 ln2
  have up6 : ∀ {i : Int}, Lim (300 + 300) i → Lim 900 i := fun h => h.mono (by decide)
  unfold w_P_point_dot
  obtain ⟨W0, hW0⟩ : ∃ W, W = w_P_point_dot_c0 := ⟨_, rfl⟩
  rw [← hW0]
  have c0 : ∀ {xs cs : List T} {k X C : Int} {Q : T → Prop}, atI xs k = some (fr X m) → atI cs k = some (.int C) → Lim 300 X → Lim 300 C → Q (fr (X * C) m) → W0 [.val (.int k), .val (.tup xs), .val (.tup cs)] Q := fun {xs cs k X C Q} ex ec lX lC hQ => by
    rw [hW0]
    unfold w_P_point_dot_c0
    walk_at "go"
    rw [ex]
    walk_at "go"
    rw [ec]
    walk_at "go"
    refine ⟨X, m, C, 1, congrArg (fun x => [fr X m, x]) (fr_one C), ⟨hm, by decide, up900 lX, up900 lm, up900 lC, one9⟩, ?_⟩
    rw [Int.mul_one]
    exact hQ
  walk_at "go"
  refine c0 (atI0 _ _) (atI0 _ _) lt0 ln0 ?_
  walk_at "go"
  refine c0 (atI1 _ _ _) (atI1 _ _ _) lt1 ln1 ?_
  walk_at "go"
  refine c0 (atI2 _ _ _ _) (atI2 _ _ _ _) lt2 ln2 ?_
  walk_at "go"
  refine ⟨t1 * n1, m, t2 * n2, m, rfl, ⟨hm, hm, up6 (lt1.mul ln1), up900 lm, up6 (lt2.mul ln2), up900 lm⟩, ?_⟩
  rw [fr_sum1 hm]
  walk_at "go"
  refine ⟨t0 * n0, m, t1 * n1 + t2 * n2, m, rfl, ⟨hm, hm, up6 (lt0.mul ln0), up900 lm, ((lt1.mul ln1).add (lt2.mul ln2)).mono (by decide), up900 lm⟩, ?_⟩
  rw [fr_sum1 hm]
  rw [show dotI (t0, t1, t2) (n0, n1, n2) = t0 * n0 + (t1 * n1 + t2 * n2) by simp only [dotI]; omega] at h
  exact h
abbrev meet (c s o t d : Tr) (m : Int) : Tr := (dotI (tless t c m) (crs o d), dotI (tless t c m) (crs d s), m * dotI (crs s o) d)
def sp_P_meeting_of : SpT := fun ts Q => ∃ (c s o t d : Tr) (m : Int), ts = [ptl c s o, pt t m, trT d] ∧ (LimT 50 c ∧ LimT 50 s ∧ LimT 50 o ∧ LimT 100 d) ∧ LimT 150 t ∧ m ≠ 0 ∧ Lim 100 m ∧
  (dotI (crs s o) d = 0 → Q .non) ∧ (dotI (crs s o) d ≠ 0 → Q (hpl (meet c s o t d m)))
theorem len_P_meeting_of : ∀ ts Q, sp_P_meeting_of ts Q → ts.length = 3 := by rintro ts Q ⟨_, _, _, _, _, _, e, _⟩; subst e; rfl
def w_P_meeting_of : WS :=
  (sSeq (sSet 3 (wCall sp_P_dot_of (aCons (wCall sp_P_front_of (aCons (wVar 0) aNil)) (aCons (wVar 2) aNil))))
    (sSeq (sIf (tCmpT cEqT (wVar 3) (wC (.int 0))) (sRet (wC .non)) sNext)
    (sSeq (sSet 4 (wCall sp_P_point_less (aCons (wVar 1) (aCons (w2 rIxTT (wVar 0) (wC (.int 0))) aNil))))
    (sSeq (sSet 5 (wCall sp_P_point_dot (aCons (wVar 4) (aCons (wCall sp_P_cross_of (aCons (w2 rIxTT (wVar 0) (wC (.int 2))) (aCons (wVar 2) aNil))) aNil))))
    (sSeq (sSet 6 (wCall sp_P_point_dot (aCons (wVar 4) (aCons (wCall sp_P_cross_of (aCons (wVar 2) (aCons (w2 rIxTT (wVar 0) (wC (.int 1))) aNil))) aNil))))
    (sRet (wTup (aCons (wCall sp_P_ratio_by (aCons (wVar 5) (aCons (wTup (aCons (wVar 3) (aCons (wC (.int 1)) aNil))) aNil))) (aCons (wCall sp_P_ratio_by (aCons (wVar 6) (aCons (wTup (aCons (wVar 3) (aCons (wC (.int 1)) aNil))) aNil))) aNil)))))))))
theorem ok_P_meeting_of : ∀ ts Q, sp_P_meeting_of ts Q → w_P_meeting_of { nx := fun _ => Q .non, rt := Q } (startT 7 ts) := by
  rintro _ Q ⟨c, s, o, t, d, m, rfl, ⟨lc, ls, lo, ld⟩, lt, hm, lm, h0, h1⟩
  have lF := lim_crs ls lo (k := 101) (by decide)
  have lW := lim_dotI lF ld (k := 203) (by decide)
  have lB := lim_tless (lt.mono (show 150 ≤ 150 by decide)) (lc.mono (show 50 ≤ 150 by decide)) lm (n := 251) (by decide)
  have lod := lim_crs lo ld (k := 151) (by decide)
  have lds := lim_crs ld ls (k := 151) (by decide)
  have lS := lim_dotI lB lod (k := 404) (by decide)
  have lT := lim_dotI lB lds (k := 404) (by decide)
  unfold w_P_meeting_of
  walk_at "go"
  refine ⟨_, s, o, rfl, ls.mono (by decide), lo.mono (by decide), ?_⟩
  walk_at "go"
  refine ⟨crs s o, d, rfl, lF.mono (by decide), ld.mono (by decide), ?_⟩
  walk_at "go"
  refine ⟨fun z => ?_, fun z => ?_⟩
  · walk_at "go"
    exact h0 (of_decide_eq_true z)
  · have hW := of_decide_eq_false z
    have q := h1 hW
    walk_at "go"
    refine ⟨t, c, m, rfl, lt.mono (by decide), lc.mono (by decide), hm, lm.mono (by decide), ?_⟩
    walk_at "go"
    refine ⟨o, d, rfl, lo.mono (by decide), ld.mono (by decide), ?_⟩
    walk_at "go"
    refine ⟨tless t c m, crs o d, m, rfl, lB.mono (by decide), lod.mono (by decide), hm, lm.mono (by decide), ?_⟩
    walk_at "go"
    refine ⟨d, s, rfl, ld.mono (by decide), ls.mono (by decide), ?_⟩
    walk_at "go"
    refine ⟨tless t c m, crs d s, m, rfl, lB.mono (by decide), lds.mono (by decide), hm, lm.mono (by decide), ?_⟩
    walk_at "go"
    refine ⟨_, m, dotI (crs s o) d, 1, congrArg (fun x => [fr (dotI (tless t c m) (crs o d)) m, x]) (fr_one _), ⟨hm, by decide, lS.mono (by decide), lm.mono (by decide), lW.mono (by decide), one9⟩, hW, ?_⟩
    rw [Int.mul_one]
    walk_at "go"
    refine ⟨_, m, dotI (crs s o) d, 1, congrArg (fun x => [fr (dotI (tless t c m) (crs d s)) m, x]) (fr_one _), ⟨hm, by decide, lT.mono (by decide), lm.mono (by decide), lW.mono (by decide), one9⟩, hW, ?_⟩
    rw [Int.mul_one]
    walk_at "go"
    exact q
def sp_P_comes_from_ahead : SpT := fun ts Q => ∃ (t : T) (s o d : Tr), ts = [.tup [t, trT s, trT o], trT d] ∧ (LimT 50 s ∧ LimT 50 o ∧ LimT 100 d) ∧ Q (.bl (decide (0 < dotI (crs s o) d)))
theorem len_P_comes_from_ahead : ∀ ts Q, sp_P_comes_from_ahead ts Q → ts.length = 2 := by rintro ts Q ⟨_, _, _, _, e, _⟩; subst e; rfl
def w_P_comes_from_ahead : WS :=
  (sRet (wCmp cGtT (wCall sp_P_dot_of (aCons (wCall sp_P_front_of (aCons (wVar 0) aNil)) (aCons (wVar 1) aNil))) (wC (.int 0))))
theorem ok_P_comes_from_ahead : ∀ ts Q, sp_P_comes_from_ahead ts Q → w_P_comes_from_ahead { nx := fun _ => Q .non, rt := Q } (startT 2 ts) := by
  rintro _ Q ⟨t, s, o, d, rfl, ⟨ls, lo, ld⟩, h⟩
  have lF := lim_crs ls lo (k := 101) (by decide)
  unfold w_P_comes_from_ahead
  walk_at "go"
  refine ⟨_, s, o, rfl, ls.mono (by decide), lo.mono (by decide), ?_⟩
  walk_at "go"
  refine ⟨crs s o, d, rfl, lF.mono (by decide), ld.mono (by decide), ?_⟩
  walk_at "go"
  exact h
def sp_P_as_point : SpT := fun ts Q => ∃ t : Tr, ts = [trT t] ∧ Q (pt t 1)
theorem len_P_as_point : ∀ ts Q, sp_P_as_point ts Q → ts.length = 1 := by rintro ts Q ⟨_, e, _⟩; subst e; rfl
def w_P_as_point : WS :=
  (sRet (wCB rTupleT (aCons (wComp (iSeq (wVar 0)) (gN 0) tTrue (wTup (aCons (wVar 0) (aCons (wC (.int 1)) aNil))) 1 []) aNil)))
theorem ok_P_as_point : ∀ ts Q, sp_P_as_point ts Q → w_P_as_point { nx := fun _ => Q .non, rt := Q } (startT 1 ts) := by
  rintro _ Q ⟨⟨a, b, c⟩, rfl, h⟩
  simp only [pt, ← fr_one] at h
  unfold w_P_as_point
  walk_at "go"
  exact h
def sp_P_shadow_of : SpT := fun ts Q => ∃ (c s o t d : Tr), ts = [ptl c s o, trT t, trT d] ∧ (LimT 50 c ∧ LimT 50 s ∧ LimT 50 o ∧ LimT 100 d) ∧ LimT 150 t ∧
  (¬ 0 < dotI (crs s o) d → Q .non) ∧ (0 < dotI (crs s o) d → Q (hpl (meet c s o t d 1)))
theorem len_P_shadow_of : ∀ ts Q, sp_P_shadow_of ts Q → ts.length = 3 := by rintro ts Q ⟨_, _, _, _, _, e, _⟩; subst e; rfl
def w_P_shadow_of : WS :=
  (sSeq (sIf (tNotT (tVal (wCall sp_P_comes_from_ahead (aCons (wVar 0) (aCons (wVar 2) aNil))))) (sRet (wC .non)) sNext)
    (sRet (wCall sp_P_meeting_of (aCons (wVar 0) (aCons (wCall sp_P_as_point (aCons (wVar 1) aNil)) (aCons (wVar 2) aNil))))))
theorem ok_P_shadow_of : ∀ ts Q, sp_P_shadow_of ts Q → w_P_shadow_of { nx := fun _ => Q .non, rt := Q } (startT 3 ts) := by
  rintro _ Q ⟨c, s, o, t, d, rfl, ⟨lc, ls, lo, ld⟩, lt, h0, h1⟩
  unfold w_P_shadow_of
  walk_at "go"
  refine ⟨_, s, o, d, rfl, ⟨ls, lo, ld⟩, ?_⟩
  by_cases z : 0 < dotI (crs s o) d
  · rw [decide_eq_true z]
    walk_at "go"
    refine ⟨t, rfl, ?_⟩
    walk_at "go"
    exact ⟨c, s, o, t, d, 1, rfl, ⟨lc, ls, lo, ld⟩, lt, by decide, Lim.of (by decide) (by decide), fun e => absurd z (by omega), fun _ => h1 z⟩
  · rw [decide_eq_false z]
    walk_at "go"
    exact h0 z
def sp_P_triple_sum : SpT := fun ts Q => ∃ a b : Tr, ts = [trT a, trT b] ∧ Q (trT (a.1 + b.1, a.2.1 + b.2.1, a.2.2 + b.2.2))
theorem len_P_triple_sum : ∀ ts Q, sp_P_triple_sum ts Q → ts.length = 2 := by rintro ts Q ⟨_, _, e, _⟩; subst e; rfl
def w_P_triple_sum : WS :=
  (sRet (wTup (aCons (w2 rAddT (w2 rIxTT (wVar 0) (wC (.int 0))) (w2 rIxTT (wVar 1) (wC (.int 0)))) (aCons (w2 rAddT (w2 rIxTT (wVar 0) (wC (.int 1))) (w2 rIxTT (wVar 1) (wC (.int 1)))) (aCons (w2 rAddT (w2 rIxTT (wVar 0) (wC (.int 2))) (w2 rIxTT (wVar 1) (wC (.int 2)))) aNil)))))
theorem ok_P_triple_sum : ∀ ts Q, sp_P_triple_sum ts Q → w_P_triple_sum { nx := fun _ => Q .non, rt := Q } (startT 2 ts) := by
  rintro _ Q ⟨a, b, rfl, h⟩
  unfold w_P_triple_sum
  walk_at "go"
  exact h
abbrev rch (s o d : Tr) : Tr := (dotI (crs s o) (crs o d), dotI (crs s o) (crs d s), dotI (crs s o) d)
def sp_P_reach_of : SpT := fun ts Q => ∃ c s o d : Tr, ts = [ptl c s o, trT d] ∧ (LimT 50 c ∧ LimT 50 s ∧ LimT 50 o ∧ LimT 100 d) ∧ 0 < dotI (crs s o) d ∧ Q (hpl (rch s o d))
theorem len_P_reach_of : ∀ ts Q, sp_P_reach_of ts Q → ts.length = 2 := by rintro ts Q ⟨_, _, _, _, e, _⟩; subst e; rfl
def w_P_reach_of : WS :=
  (sRet (wCall sp_P_shadow_of (aCons (wVar 0) (aCons (wCall sp_P_triple_sum (aCons (w2 rIxTT (wVar 0) (wC (.int 0))) (aCons (wCall sp_P_front_of (aCons (wVar 0) aNil)) aNil))) (aCons (wVar 1) aNil)))))
theorem ok_P_reach_of : ∀ ts Q, sp_P_reach_of ts Q → w_P_reach_of { nx := fun _ => Q .non, rt := Q } (startT 2 ts) := by
  rintro _ Q ⟨c, s, o, d, rfl, ⟨lc, ls, lo, ld⟩, hW, h⟩
  have lF := lim_crs ls lo (k := 101) (by decide)
  have lt : LimT 150 (c.1 + (crs s o).1, c.2.1 + (crs s o).2.1, c.2.2 + (crs s o).2.2) := ⟨(lc.1.add lF.1).mono (by decide), (lc.2.1.add lF.2.1).mono (by decide), (lc.2.2.add lF.2.2).mono (by decide)⟩
  unfold w_P_reach_of
  walk_at "go"
  refine ⟨_, s, o, rfl, ls.mono (by decide), lo.mono (by decide), ?_⟩
  walk_at "go"
  refine ⟨c, crs s o, rfl, ?_⟩
  walk_at "go"
  refine ⟨c, s, o, _, d, rfl, ⟨lc, ls, lo, ld⟩, lt, fun z => absurd hW z, fun _ => ?_⟩
  have e : tless (c.1 + (crs s o).1, c.2.1 + (crs s o).2.1, c.2.2 + (crs s o).2.2) c 1 = crs s o := by
    refine Prod.ext ?_ (Prod.ext ?_ ?_) <;> simp only [tless] <;> omega
  have e2 : meet c s o (c.1 + (crs s o).1, c.2.1 + (crs s o).2.1, c.2.2 + (crs s o).2.2) d 1 = rch s o d := by
    simp only [meet]
    rw [e, Int.one_mul]
  rw [e2]
  exact h
theorem fr_abs {R W : Int} (hW : 0 < W) : (T.tup [.int (if frN R W < 0 then -frN R W else frN R W), .int (frD R W)]) = fr (if R < 0 then -R else R) W := by
  have sg := fr_sgn (a := R) hW
  by_cases z : R < 0
  · rw [if_pos (sg.1.mpr z), if_pos z]
    have A := fr_rt (n := R) (m := W) (by omega)
    refine fr_of (by omega) ⟨A.pos, ?_, ?_⟩
    · rw [Int.neg_gcd]; exact A.cop
    · have := A.eq
      rw [Int.neg_mul, Int.neg_mul, this]
  · rw [if_neg (fun y => z (sg.1.mp y)), if_neg z]
    rfl
def sp_P_height_within : SpT := fun ts Q => ∃ a p R W : Int, ts = [fr a p, fr R W] ∧ 0 < p ∧ 0 < W ∧ (Lim 100 a ∧ Lim 100 p ∧ Lim 400 R ∧ Lim 400 W) ∧
  (R = 0 → Q .non) ∧ (R < 0 → Q (fr (a * W) (p * -R))) ∧ (0 < R → Q (fr ((p - a) * W) (p * R)))
theorem len_P_height_within : ∀ ts Q, sp_P_height_within ts Q → ts.length = 2 := by rintro ts Q ⟨_, _, _, _, e, _⟩; subst e; rfl
def w_P_height_within : WS :=
  (sSeq (sIf (tCmpT cEqT (w2 rIxTT (wVar 1) (wC (.int 0))) (wC (.int 0))) (sRet (wC .non)) sNext)
    (sSeq (sSet 2 (wIfE (tCmpT cLtT (w2 rIxTT (wVar 1) (wC (.int 0))) (wC (.int 0))) (wVar 0) (wCall sp_P_ratio_less (aCons (wTup (aCons (wC (.int 1)) (aCons (wC (.int 1)) aNil))) (aCons (wVar 0) aNil)))))
    (sRet (wCall sp_P_ratio_by (aCons (wVar 2) (aCons (wTup (aCons (wCB rAbsT (aCons (w2 rIxTT (wVar 1) (wC (.int 0))) aNil)) (aCons (w2 rIxTT (wVar 1) (wC (.int 1))) aNil))) aNil))))))
theorem ok_P_height_within : ∀ ts Q, sp_P_height_within ts Q → w_P_height_within { nx := fun _ => Q .non, rt := Q } (startT 3 ts) := by
  rintro _ Q ⟨a, p, R, W, rfl, hp, hW, ⟨la, lp, lR, lW⟩, h0, h1, h2⟩
  have sg := fr_sgn (a := R) hW
  have one : Lim 900 (1 : Int) := Lim.of (by decide) (by decide)
  have ab := fr_abs (R := R) hW
  have d0 : decide (frN R W = 0) = decide (R = 0) := decide_eq_decide.mpr sg.2.2
  have d1 : decide (frN R W < 0) = decide (R < 0) := decide_eq_decide.mpr sg.1
  unfold w_P_height_within
  walk_at "go"
  rw [d0]
  refine ⟨fun z => ?_, fun z => ?_⟩
  · walk_at "go"
    exact h0 (of_decide_eq_true z)
  · have hR := of_decide_eq_false z
    walk_at "go"
    rw [d1]
    refine ⟨fun y => ?_, fun y => ?_⟩
    · have hy := of_decide_eq_true y
      rw [if_pos hy] at ab
      walk_at "go"
      refine ⟨a, p, -R, W, congrArg (fun x => [fr a p, x]) ab, ⟨by omega, by omega, la.mono (by decide), lp.mono (by decide), lR.neg.mono (by decide), lW.mono (by decide)⟩, by omega, h1 hy⟩
    · have hy := of_decide_eq_false y
      rw [if_neg hy] at ab
      walk_at "go"
      refine ⟨1, 1, a, p, congrArg (fun x => [x, fr a p]) (fr_one 1), ⟨by decide, by omega, one, one, la.mono (by decide), lp.mono (by decide)⟩, ?_⟩
      rw [Int.one_mul, Int.mul_one]
      walk_at "go"
      exact ⟨p - a, p, R, W, congrArg (fun x => [fr (p - a) p, x]) ab, ⟨by omega, by omega, (lp.sub la).mono (by decide), lp.mono (by decide), lR.mono (by decide), lW.mono (by decide)⟩, hR, h2 (by omega)⟩
abbrev sT (e : Int × Tr) : T := .tup [.int e.1, trT e.2]
abbrev sunAt (sun : List (Int × Tr)) (h : Int) : Option (Int × Tr) := sun.find? fun e => decide (e.1 = h)
abbrev noHour (h : Int) : T := .exf "NoHour" "hour" (.int h)
def sp_P_direction_at : SpX := fun R ts Q => ∃ (sun : List (Int × Tr)) (h : Int), ts = [.lst (sun.map sT), .int h] ∧ h.natAbs.log2 < 1920 ∧ (match sunAt sun h with | some e => Q (trT e.2) | none => R (noHour h))
theorem len_P_direction_at : ∀ R ts Q, sp_P_direction_at R ts Q → ts.length = 2 := fun R ts Q ⟨_, _, e, _⟩ => by subst e; rfl
def w_P_direction_at_b0 (R : T → Prop) : WS :=
  (sIf (tCmpT cEqT (w2 rIxTT (wVar 2) (wC (.int 0))) (wVar 1)) (sRet (w2 rIxTT (wVar 2) (wC (.int 1)))) sNext)
def w_P_direction_at_k0 (R : T → Prop) : WS :=
  (sRaiseF R "NoHour" "hour" (wVar 1))
def w_P_direction_at (R : T → Prop) : WS :=
  (sSeq (sIf (tVal (wCall sp_P_is_whole (aCons (wVar 1) aNil))) (sFor (iSeq (wVar 0)) (gN 2) (w_P_direction_at_b0 R)) sNext)
    (w_P_direction_at_k0 R))
theorem dat_loop {R Q : T → Prop} {x : Slot} {g : Int} : ∀ (rs : List (Int × Tr)) (s2 : Slot) (N : List Slot → Prop), (match sunAt rs g with | some r => Q (trT r.2) | none => ∀ s2, N [x, .val (.int g), s2]) →
    forT (gN 2) (w_P_direction_at_b0 R) (rs.map sT) { nx := N, rt := Q } [x, .val (.int g), s2]
  | [], s2, N, h => by
    simp only [List.map, forT]
    exact h s2
  | r :: rs, s2, N, h => by
    have ih := fun s2 => dat_loop (R := R) (Q := Q) (x := x) (g := g) rs s2 N
    simp only [List.map, forT]
    generalize forT (gN 2) (w_P_direction_at_b0 R) (rs.map sT) { nx := N, rt := Q } = F at ih ⊢
    unfold w_P_direction_at_b0
    walk_at "go"
    refine ⟨fun c => ?_, fun c => ?_⟩
    · have e : sunAt (r :: rs) g = some r := List.find?_cons_of_pos c
      rw [e] at h
      walk_at "go"
      exact h
    · have e : sunAt (r :: rs) g = sunAt rs g := List.find?_cons_of_neg (by rw [c]; exact Bool.false_ne_true)
      rw [e] at h
      exact ih _ h
theorem ok_P_direction_at : ∀ R ts Q, sp_P_direction_at R ts Q → w_P_direction_at R { nx := fun _ => Q .non, rt := Q } (startT 3 ts) := by
  rintro R _ Q ⟨rs, g, rfl, lg, h⟩
  unfold w_P_direction_at
  obtain ⟨W0, hW0⟩ : ∃ W, W = w_P_direction_at_b0 R := ⟨_, rfl⟩
  obtain ⟨W1, hW1⟩ : ∃ W, W = w_P_direction_at_k0 R := ⟨_, rfl⟩
  rw [← hW0, ← hW1]
  walk_at "go"
  refine ⟨_, rfl, trivial, ?_⟩
  walk_at "tw"
  rw [hW0]
  refine ⟨fun _ => dat_loop rs _ _ ?_, fun z => by cases z⟩
  cases q : sunAt rs g with
  | some r => rw [q] at h; exact h
  | none =>
    rw [q] at h
    intro s2
    rw [hW1]
    unfold w_P_direction_at_k0
    walk_at "go"
    exact h
theorem at_nat {α : Type} {f : α → T} {l : List α} {i : Nat} {x : α} (h : l[i]? = some x) : atI (l.map f) (i : Int) = some (f x) := by
  have hi : i < l.length := (List.getElem?_eq_some_iff.mp h).1
  unfold atI ixN
  rw [List.length_map, if_pos (by omega), if_pos (by omega)]
  simp only [Option.bind, Int.toNat_natCast]
  rw [List.getElem?_map, h]
  rfl
abbrev dirOf (sun : List (Int × Tr)) (h : Int) : Tr := ((sunAt sun h).getD (0, 0, 0, 0)).2
abbrev noH (sun : List (Int × Tr)) (hs : List Int) : Option Int := hs.find? fun h => (sunAt sun h).isNone
abbrev behH (s o : Tr) (sun : List (Int × Tr)) (hs : List Int) : Option Int := hs.find? fun h => !decide (0 < dotI (crs s o) (dirOf sun h))
abbrev notLit (h : Int) : T := .exf "NotLit" "hour" (.int h)
def sp_P_lit_directions : SpX := fun R ts Q => ∃ (t : T) (s o : Tr) (sun : List (Int × Tr)) (hs : List Int), ts = [.tup [t, trT s, trT o], .lst (sun.map sT), .lst (hs.map T.int)] ∧ hs.length ≤ 200 ∧ (∀ h ∈ hs, h.natAbs.log2 < 1920) ∧ (LimT 50 s ∧ LimT 50 o) ∧ (∀ x ∈ sun, LimT 100 x.2) ∧
  (match noH sun hs with
    | some h => R (noHour h)
    | none => match behH s o sun hs with | some h => R (notLit h) | none => Q (trL (hs.map (dirOf sun))))
theorem len_P_lit_directions : ∀ R ts Q, sp_P_lit_directions R ts Q → ts.length = 3 := fun R ts Q ⟨_, _, _, _, _, e, _⟩ => by subst e; rfl
def w_P_lit_directions_b0 (R : T → Prop) : WS :=
  (sIf (tNotT (tVal (wCall sp_P_comes_from_ahead (aCons (wVar 0) (aCons (w2 rIxTT (wVar 3) (wVar 4)) aNil))))) (sRaiseF R "NotLit" "hour" (wVar 5)) sNext)
def w_P_lit_directions (R : T → Prop) : WS :=
  (sSeq (sSet 3 (wComp (iSeq (wVar 2)) (gN 0) tTrue (wCall (sp_P_direction_at R) (aCons (wVar 1) (aCons (wVar 0) aNil))) 1 [1]))
    (sSeq (sFor (iEnum (aCons (wVar 2) aNil)) (gT 2 (gsC (gN 4) (gsC (gN 5) gs0))) (w_P_lit_directions_b0 R))
    (sRet (wVar 3))))
theorem dirs_comp {R : T → Prop} {sun : List (Int × Tr)} {Q : List T → Prop} : ∀ (r : List Int) (acc : List T) (s : Slot), (∀ h ∈ r, h.natAbs.log2 < 1920) → (match noH sun r with | some h => R (noHour h) | none => Q (acc ++ (r.map (dirOf sun)).map trT)) →
    compT (gN 0) tTrue (wCall (sp_P_direction_at R) (aCons (wVar 1) (aCons (wVar 0) aNil))) (r.map T.int) acc [s, .val (.lst (sun.map sT))] Q
  | [], acc, s, _, h => by
    simp only [List.map_nil, compT]
    simpa using h
  | x :: r, acc, s, hl, h => by
    have lx := hl x List.mem_cons_self
    have ih := fun acc s h => dirs_comp (R := R) (sun := sun) (Q := Q) r acc s (fun y hy => hl y (List.mem_cons_of_mem _ hy)) h
    simp only [List.map_cons, compT]
    generalize compT (gN 0) tTrue (wCall (sp_P_direction_at R) (aCons (wVar 1) (aCons (wVar 0) aNil))) (r.map T.int) = F at ih ⊢
    walk_at "go"
    refine ⟨sun, x, rfl, lx, ?_⟩
    cases q : sunAt sun x with
    | none =>
      have e : noH sun (x :: r) = some x := List.find?_cons_of_pos (by rw [q]; rfl)
      rw [e] at h
      exact h
    | some d =>
      have e : noH sun (x :: r) = noH sun r := List.find?_cons_of_neg (by rw [q]; exact Bool.false_ne_true)
      rw [e] at h
      dsimp only
      refine ih _ _ ?_
      have ed : dirOf sun x = d.2 := by unfold dirOf; rw [q]; rfl
      cases z : noH sun r with
      | some y => rw [z] at h; exact h
      | none =>
        rw [z] at h
        simp only [List.map_cons, ed] at h
        simpa using h
theorem lit_loop {R : T → Prop} {D : DT} {t : T} {s o : Tr} {sun : List (Int × Tr)} {es : List Tr} {s1 s2 : Slot} (ls : LimT 50 s ∧ LimT 50 o) (he : ∀ d ∈ es, LimT 100 d) : ∀ (r : List Int) (i : Nat) (s4 s5 : Slot), (∀ k (h : Int), r[k]? = some h → es[i + k]? = some (dirOf sun h)) → (∀ h ∈ r, h.natAbs.log2 < 1920) →
    (match behH s o sun r with | some h => R (notLit h) | none => ∀ s4 s5, D.nx [.val (.tup [t, trT s, trT o]), s1, s2, .val (trL es), s4, s5]) →
    forT (gT 2 (gsC (gN 4) (gsC (gN 5) gs0))) (w_P_lit_directions_b0 R) (enumT i (r.map T.int)) D [.val (.tup [t, trT s, trT o]), s1, s2, .val (trL es), s4, s5]
  | [], i, s4, s5, _, _, h => by
    simp only [List.map_nil, enumT, forT]
    exact h _ _
  | x :: r, i, s4, s5, hi, hl, h => by
    have lx := hl x List.mem_cons_self
    have ei : es[i]? = some (dirOf sun x) := hi 0 x rfl
    have ih := fun s4 s5 h => lit_loop (R := R) (D := D) (t := t) (s := s) (o := o) (sun := sun) (es := es) (s1 := s1) (s2 := s2) ls he r (i + 1) s4 s5 (fun k y hk => by rw [show i + 1 + k = i + (k + 1) from by omega]; exact hi (k + 1) y hk) (fun y hy => hl y (List.mem_cons_of_mem _ hy)) h
    have le := he (dirOf sun x) (List.mem_of_getElem? ei)
    simp only [List.map_cons, enumT, forT]
    generalize forT (gT 2 (gsC (gN 4) (gsC (gN 5) gs0))) (w_P_lit_directions_b0 R) (enumT (i + 1) (r.map T.int)) D = F at ih ⊢
    unfold w_P_lit_directions_b0
    walk_at "go"
    rw [at_nat ei]
    walk_at "go"
    refine ⟨_, s, o, dirOf sun x, rfl, ⟨ls.1, ls.2, le⟩, ?_⟩
    by_cases z : 0 < dotI (crs s o) (dirOf sun x)
    · have e : behH s o sun (x :: r) = behH s o sun r := List.find?_cons_of_neg (by rw [decide_eq_true z]; exact Bool.false_ne_true)
      rw [e] at h
      rw [decide_eq_true z]
      walk_at "go"
      exact ih _ _ h
    · have e : behH s o sun (x :: r) = some x := List.find?_cons_of_pos (by rw [decide_eq_false z]; rfl)
      rw [e] at h
      rw [decide_eq_false z]
      walk_at "go"
      exact h
theorem ok_P_lit_directions : ∀ R ts Q, sp_P_lit_directions R ts Q → w_P_lit_directions R { nx := fun _ => Q .non, rt := Q } (startT 6 ts) := by
  rintro R _ Q ⟨t, s, o, sun, hs, rfl, hn, hl, ls, hp, h⟩
  unfold w_P_lit_directions
  obtain ⟨W0, hW0⟩ : ∃ W, W = w_P_lit_directions_b0 R := ⟨_, rfl⟩
  rw [← hW0]
  refine ⟨by rw [List.length_map]; omega, ?_⟩
  refine dirs_comp hs [] _ hl ?_
  cases q : noH sun hs with
  | some x => rw [q] at h; exact h
  | none =>
    rw [q] at h
    dsimp only at h ⊢
    rw [List.nil_append, hW0]
    refine lit_loop (R := R) (D := { nx := sRet (wVar 3) { nx := fun _ => Q .non, rt := Q }, rt := Q }) (sun := sun) (s1 := .val (.lst (sun.map sT))) (s2 := .val (.lst (hs.map T.int))) ls (fun d hd' => ?_) hs 0 _ _ (fun k y hk => by rw [Nat.zero_add, List.getElem?_map, hk]; rfl) hl ?_
    · obtain ⟨x, hx, rfl⟩ := List.mem_map.mp hd'
      have := List.find?_eq_none.mp q x hx
      cases z : sunAt sun x with
      | none => rw [z] at this; exact absurd rfl this
      | some e =>
        show LimT 100 ((sunAt sun x).getD (0, 0, 0, 0)).2
        rw [z]
        exact hp e (List.mem_of_find?_eq_some z)
    · cases z : behH s o sun hs with
      | some x => rw [z] at h; exact h
      | none =>
        rw [z] at h
        intro s4 s5
        walk_at "go"
        exact h
def Gx (a p R W hn hd : Int) : Prop := 0 ≤ a * W * hd + p * hn * R ∧ a * W * hd + p * hn * R ≤ p * W * hd
def Best (G : Int → Int → Prop) (t : T) : Prop :=
  (t = .non ∧ ∀ hn hd, 0 ≤ hn → 0 < hd → G hn hd) ∨ ∃ n m : Int, t = fr n m ∧ 0 < m ∧ 0 ≤ n ∧ Lim 50 n ∧ Lim 50 m ∧ ∀ hn hd, 0 ≤ hn → 0 < hd → (G hn hd ↔ hn * m ≤ n * hd)
theorem Best.congr {G G' : Int → Int → Prop} {t : T} (h : Best G t) (e : ∀ hn hd, G hn hd ↔ G' hn hd) : Best G' t := by
  rcases h with ⟨h1, h2⟩ | ⟨n, m, h1, h2, h3, h4, h5, h6⟩
  · exact .inl ⟨h1, fun hn hd a b => (e hn hd).mp (h2 hn hd a b)⟩
  · exact .inr ⟨n, m, h1, h2, h3, h4, h5, fun hn hd a b => (e hn hd).symm.trans (h6 hn hd a b)⟩
theorem Best.congr' {G G1 : Int → Int → Prop} {t : T} (h : Best G1 t) (e : ∀ hn hd, 0 ≤ hn → 0 < hd → G hn hd) : Best (fun hn hd => G hn hd ∧ G1 hn hd) t := by
  rcases h with ⟨h1, h2⟩ | ⟨n, m, h1, h2, h3, h4, h5, h6⟩
  · exact .inl ⟨h1, fun hn hd a b => ⟨e hn hd a b, h2 hn hd a b⟩⟩
  · exact .inr ⟨n, m, h1, h2, h3, h4, h5, fun hn hd a b => ⟨fun z => (h6 hn hd a b).mp z.2, fun z => ⟨e hn hd a b, (h6 hn hd a b).mpr z⟩⟩⟩
theorem gx_zero {a p W hn hd : Int} (a0 : 0 ≤ a) (ap : a ≤ p) (hW : 0 < W) (d0 : 0 < hd) : Gx a p 0 W hn hd := by
  have h1 := Int.mul_nonneg (Int.mul_nonneg a0 (Int.le_of_lt hW)) (Int.le_of_lt d0)
  have h2 := Int.mul_le_mul_of_nonneg_right (Int.mul_le_mul_of_nonneg_right ap (Int.le_of_lt hW)) (Int.le_of_lt d0)
  unfold Gx
  rw [Int.mul_zero, Int.add_zero]
  exact ⟨h1, h2⟩
theorem gx_neg {a p R W hn hd : Int} (a0 : 0 ≤ a) (ap : a ≤ p) (hp : 0 < p) (hW : 0 < W) (hR : R < 0) (n0 : 0 ≤ hn) (d0 : 0 < hd) : Gx a p R W hn hd ↔ hn * (p * -R) ≤ a * W * hd := by
  have h2 := Int.mul_le_mul_of_nonneg_right (Int.mul_le_mul_of_nonneg_right ap (Int.le_of_lt hW)) (Int.le_of_lt d0)
  have h3 : 0 ≤ hn * (p * -R) := Int.mul_nonneg n0 (Int.mul_nonneg (Int.le_of_lt hp) (by omega))
  have e : p * hn * R = -(hn * (p * -R)) := by grind
  unfold Gx
  rw [e]
  omega
theorem gx_pos {a p R W hn hd : Int} (a0 : 0 ≤ a) (ap : a ≤ p) (hp : 0 < p) (hW : 0 < W) (hR : 0 < R) (n0 : 0 ≤ hn) (d0 : 0 < hd) : Gx a p R W hn hd ↔ hn * (p * R) ≤ (p - a) * W * hd := by
  have h1 := Int.mul_nonneg (Int.mul_nonneg a0 (Int.le_of_lt hW)) (Int.le_of_lt d0)
  have h3 : 0 ≤ hn * (p * R) := Int.mul_nonneg n0 (Int.mul_nonneg (Int.le_of_lt hp) (by omega))
  have e : p * hn * R = hn * (p * R) := by grind
  have e2 : (p - a) * W * hd = p * W * hd - a * W * hd := by grind
  unfold Gx
  rw [e, e2]
  omega
theorem mul_cmp {n m n' m' hn hd : Int} (hm : 0 < m) (hm' : 0 < m') (n0 : 0 ≤ hn) (d0 : 0 < hd) (c : n * m' ≤ n' * m) (h : hn * m ≤ n * hd) : hn * m' ≤ n' * hd := by
  have h1 := Int.mul_le_mul_of_nonneg_right h (Int.le_of_lt hm')
  have h2 := Int.mul_le_mul_of_nonneg_right c (Int.le_of_lt d0)
  have e1 : hn * m * m' = (hn * m') * m := by grind
  have e2 : n * hd * m' = n * m' * hd := by grind
  have e3 : n' * m * hd = (n' * hd) * m := by grind
  rw [e1, e2] at h1
  rw [e3] at h2
  exact Int.le_of_mul_le_mul_right (Int.le_trans h1 h2) hm
theorem Best.both {G G' : Int → Int → Prop} {n m n' m' : Int} (hm : 0 < m) (hm' : 0 < m') (c : n * m' ≤ n' * m) (h : ∀ hn hd, 0 ≤ hn → 0 < hd → (G hn hd ↔ hn * m ≤ n * hd)) (h' : ∀ hn hd, 0 ≤ hn → 0 < hd → (G' hn hd ↔ hn * m' ≤ n' * hd)) :
    ∀ hn hd, 0 ≤ hn → 0 < hd → ((G hn hd ∧ G' hn hd) ↔ hn * m ≤ n * hd) := fun hn hd a b =>
  ⟨fun z => (h hn hd a b).mp z.1, fun z => ⟨(h hn hd a b).mpr z, (h' hn hd a b).mpr (mul_cmp hm hm' a b c z)⟩⟩
theorem best_axis {a p R W : Int} (a0 : 0 ≤ a) (ap : a ≤ p) (hp : 0 < p) (hW : 0 < W) (la : Lim 9 a) (lp : Lim 9 p) (lR : Lim 34 R) (lW : Lim 34 W) {Q : T → Prop} (h : ∀ t, Best (Gx a p R W) t → Q t) : sp_P_height_within [fr a p, fr R W] Q := by
  refine ⟨a, p, R, W, rfl, hp, hW, ⟨la.mono (by decide), lp.mono (by decide), lR.mono (by decide), lW.mono (by decide)⟩, fun z => ?_, fun z => ?_, fun z => ?_⟩
  · subst z
    exact h _ (.inl ⟨rfl, fun hn hd _ d0 => gx_zero a0 ap hW d0⟩)
  · exact h _ (.inr ⟨_, _, rfl, Int.mul_pos hp (by omega), Int.mul_nonneg a0 (Int.le_of_lt hW), (la.mul lW).mono (by decide), (lp.mul lR.neg).mono (by decide), fun hn hd n0 d0 => gx_neg a0 ap hp hW z n0 d0⟩)
  · exact h _ (.inr ⟨_, _, rfl, Int.mul_pos hp z, Int.mul_nonneg (by omega) (Int.le_of_lt hW), ((lp.sub la).mul lW).mono (by decide), (lp.mul lR).mono (by decide), fun hn hd n0 d0 => gx_pos a0 ap hp hW z n0 d0⟩)
def Gd (s o : Tr) (a p b q : Int) (d : Tr) (hn hd : Int) : Prop := Gx a p (rch s o d).1 (rch s o d).2.2 hn hd ∧ Gx b q (rch s o d).2.1 (rch s o d).2.2 hn hd
def Gall (s o : Tr) (a p b q : Int) (ds : List Tr) (hn hd : Int) : Prop := ∀ d ∈ ds, Gd s o a p b q d hn hd
structure FootOk (a p : Int) : Prop where
  a0 : 0 ≤ a
  ap : a ≤ p
  hp : 0 < p
  la : Lim 9 a
  lp : Lim 9 p
def sp_P_greatest_staff : SpX := fun R ts Q => ∃ (c s o : Tr) (a p b q : Int) (sun : List (Int × Tr)) (hs : List Int), ts = [ptl c s o, .tup [fr a p, fr b q], .lst (sun.map sT), .lst (hs.map T.int)] ∧ hs.length ≤ 200 ∧ (∀ h ∈ hs, h.natAbs.log2 < 1920) ∧ (LimT 6 c ∧ LimT 6 s ∧ LimT 6 o) ∧ (∀ x ∈ sun, LimT 12 x.2) ∧ FootOk a p ∧ FootOk b q ∧
  (match noH sun hs with
    | some h => R (noHour h)
    | none => match behH s o sun hs with | some h => R (notLit h) | none => ∀ t, Q t)
theorem len_P_greatest_staff : ∀ R ts Q, sp_P_greatest_staff R ts Q → ts.length = 4 := fun R ts Q ⟨_, _, _, _, _, _, _, _, _, e, _⟩ => by subst e; rfl
def w_P_greatest_staff_b0 (R : T → Prop) : WS :=
  (sSeq (sSet 8 (wCall sp_P_height_within (aCons (w2 rIxTT (wVar 1) (wVar 7)) (aCons (w2 rIxTT (wVar 6) (wVar 7)) aNil))))
    (sIf (tOrT (tCmpT cIsN (wVar 4) (wC .non)) (tAndT (tCmpT cNotN (wVar 8) (wC .non)) (tVal (wCall sp_P_is_under (aCons (wVar 8) (aCons (wVar 4) aNil)))))) (sSet 4 (wVar 8)) sNext))
def w_P_greatest_staff_b1 (R : T → Prop) : WS :=
  (sSeq (sSet 6 (wCall sp_P_reach_of (aCons (wVar 0) (aCons (wVar 5) aNil))))
    (sFor (iRange1 (aCons (wC (.int 2)) aNil)) (gN 7) (w_P_greatest_staff_b0 R)))
def w_P_greatest_staff (R : T → Prop) : WS :=
  (sSeq (sSet 4 (wC .non))
    (sSeq (sFor (iSeq (wCall (sp_P_lit_directions R) (aCons (wVar 0) (aCons (wVar 2) (aCons (wVar 3) aNil))))) (gN 5) (w_P_greatest_staff_b1 R))
    (sRet (wVar 4))))
theorem gs_b0 {RR : T → Prop} {D : DT} {G G1 : Int → Int → Prop} {g : T} {fs rs : List T} {k : Int} {x y : T} {s0 s2 s3 s5 s8 : Slot} (ex : atI fs k = some x) (ey : atI rs k = some y) (hg : Best G g)
    (hh : ∀ {Q : T → Prop}, (∀ t, Best G1 t → Q t) → sp_P_height_within [x, y] Q)
    (h : ∀ g' s8, Best (fun hn hd => G hn hd ∧ G1 hn hd) g' → D.nx [s0, .val (.tup fs), s2, s3, .val g', s5, .val (.tup rs), .val (.int k), s8]) :
    (w_P_greatest_staff_b0 RR) D [s0, .val (.tup fs), s2, s3, .val g, s5, .val (.tup rs), .val (.int k), s8] := by
  unfold w_P_greatest_staff_b0
  walk_at "go"
  rw [ex]
  walk_at "go"
  rw [ey]
  walk_at "go"
  refine hh (Q := fun t => sIf (tOrT (tCmpT cIsN (wVar 4) (wC .non)) (tAndT (tCmpT cNotN (wVar 8) (wC .non)) (tVal (wCall sp_P_is_under (aCons (wVar 8) (aCons (wVar 4) aNil)))))) (sSet 4 (wVar 8)) sNext D [s0, .val (.tup fs), s2, s3, .val g, s5, .val (.tup rs), .val (.int k), .val t]) fun t ht => ?_
  rcases hg with ⟨rfl, hg⟩ | ⟨n, m, rfl, hm, hn0, ln, lm, hg⟩
  · walk_at "go"
    refine h _ _ ?_
    refine ht.congr' hg
  · rcases ht with ⟨rfl, ht⟩ | ⟨n', m', rfl, hm', hn0', ln', lm', ht⟩
    · walk_at "go"
      refine h _ _ (.inr ⟨n, m, rfl, hm, hn0, ln, lm, fun hn hd a b => ⟨fun z => (hg hn hd a b).mp z.1, fun z => ⟨(hg hn hd a b).mpr z, ht hn hd a b⟩⟩⟩)
    · walk_at "go"
      refine ⟨n', m', n, m, rfl, hm', hm, ⟨by omega, by omega, ln'.mono (by decide), lm'.mono (by decide), ln.mono (by decide), lm.mono (by decide)⟩, ?_⟩
      by_cases c : n' * m < n * m'
      · rw [decide_eq_true c]
        walk_at "go"
        refine h _ _ (.inr ⟨n', m', rfl, hm', hn0', ln', lm', fun hn hd a b => ?_⟩)
        exact and_comm.trans (Best.both hm' hm (Int.le_of_lt c) ht hg hn hd a b)
      · rw [decide_eq_false c]
        walk_at "go"
        exact h _ _ (.inr ⟨n, m, rfl, hm, hn0, ln, lm, fun hn hd a b => Best.both hm hm' (by omega) hg ht hn hd a b⟩)
theorem gs_b1 {RR : T → Prop} {D : DT} {G : Int → Int → Prop} {c s o d : Tr} {a p b q : Int} {g : T} {s2 s3 s6 s7 s8 : Slot} (lc : LimT 6 c ∧ LimT 6 s ∧ LimT 6 o) (ld : LimT 12 d) (hW : 0 < dotI (crs s o) d) (fa : FootOk a p) (fb : FootOk b q) (hg : Best G g)
    (h : ∀ g' s6 s7 s8, Best (fun hn hd => G hn hd ∧ Gd s o a p b q d hn hd) g' → D.nx [.val (ptl c s o), .val (.tup [fr a p, fr b q]), s2, s3, .val g', .val (trT d), s6, s7, s8]) :
    (w_P_greatest_staff_b1 RR) D [.val (ptl c s o), .val (.tup [fr a p, fr b q]), s2, s3, .val g, .val (trT d), s6, s7, s8] := by
  have lF := lim_crs lc.2.1 lc.2.2 (k := 13) (by decide)
  have lR0 : Lim 34 (rch s o d).1 := lim_dotI lF (lim_crs lc.2.2 ld (k := 19) (by decide)) (by decide)
  have lR1 : Lim 34 (rch s o d).2.1 := lim_dotI lF (lim_crs ld lc.2.1 (k := 19) (by decide)) (by decide)
  have lW : Lim 34 (rch s o d).2.2 := lim_dotI lF ld (by decide)
  unfold w_P_greatest_staff_b1
  obtain ⟨W0, hW0⟩ : ∃ W, W = (w_P_greatest_staff_b0 RR) := ⟨_, rfl⟩
  rw [← hW0]
  walk_at "go"
  refine ⟨c, s, o, d, rfl, ⟨lc.1.mono (by decide), lc.2.1.mono (by decide), lc.2.2.mono (by decide), ld.mono (by decide)⟩, hW, ?_⟩
  walk_at "go"
  refine Eq.mpr (congrFun (congrFun hW0 _) _) ?_
  refine gs_b0 (G1 := Gx a p (rch s o d).1 (rch s o d).2.2) (atI0 _ _) (atI0 _ _) hg (fun {Q} hQ => best_axis fa.a0 fa.ap fa.hp hW fa.la fa.lp lR0 lW hQ) fun g1 s8 h1 => ?_
  walk_at "go"
  refine Eq.mpr (congrFun (congrFun hW0 _) _) ?_
  refine gs_b0 (G1 := Gx b q (rch s o d).2.1 (rch s o d).2.2) (atI1 _ _ _) (atI1 _ _ _) h1 (fun {Q} hQ => best_axis fb.a0 fb.ap fb.hp hW fb.la fb.lp lR1 lW hQ) fun g2 s8 h2 => ?_
  walk_at "go"
  exact h _ _ _ _ (h2.congr fun hn hd => and_assoc)
theorem gs_loop {RR : T → Prop} {D : DT} {c s o : Tr} {a p b q : Int} {s2 s3 : Slot} (lc : LimT 6 c ∧ LimT 6 s ∧ LimT 6 o) (fa : FootOk a p) (fb : FootOk b q) : ∀ (l done : List Tr) (g : T) (s5 s6 s7 s8 : Slot), (∀ d ∈ l, LimT 12 d ∧ 0 < dotI (crs s o) d) → Best (Gall s o a p b q done) g →
    (∀ g' s5 s6 s7 s8, Best (Gall s o a p b q (done ++ l)) g' → D.nx [.val (ptl c s o), .val (.tup [fr a p, fr b q]), s2, s3, .val g', s5, s6, s7, s8]) →
    forT (gN 5) (w_P_greatest_staff_b1 RR) (l.map trT) D [.val (ptl c s o), .val (.tup [fr a p, fr b q]), s2, s3, .val g, s5, s6, s7, s8]
  | [], done, g, s5, s6, s7, s8, _, hg, h => by
    simp only [List.map, forT]
    rw [List.append_nil] at h
    exact h _ _ _ _ _ hg
  | d :: l, done, g, s5, s6, s7, s8, hl, hg, h => by
    obtain ⟨ld, hW⟩ := hl d List.mem_cons_self
    have ih := fun g' s5 s6 s7 s8 hg' => gs_loop (RR := RR) (D := D) (s2 := s2) (s3 := s3) lc fa fb l (done ++ [d]) g' s5 s6 s7 s8 (fun x hx => hl x (List.mem_cons_of_mem _ hx)) hg' (by simpa using h)
    simp only [List.map_cons, forT]
    generalize forT (gN 5) (w_P_greatest_staff_b1 RR) (l.map trT) D = F at ih ⊢
    refine gs_b1 (D := { D with nx := F, ct := F, bk := D.nx }) lc ld hW fa fb hg fun g' s6 s7 s8 hg' => ih _ _ _ _ _ (hg'.congr fun hn hd => ?_)
    unfold Gall
    constructor
    · rintro ⟨z1, z2⟩ x hx
      rcases List.mem_append.mp hx with y | y
      · exact z1 x y
      · rw [List.mem_singleton.mp y]; exact z2
    · intro z
      exact ⟨fun x hx => z x (List.mem_append_left _ hx), z d (List.mem_append_right _ (List.mem_singleton.mpr rfl))⟩
theorem ok_P_greatest_staff : ∀ R ts Q, sp_P_greatest_staff R ts Q → w_P_greatest_staff R { nx := fun _ => Q .non, rt := Q } (startT 9 ts) := by
  rintro R _ Q ⟨c, s, o, a, p, b, q, sun, hs, rfl, hn, hl, lc, hp, fa, fb, h⟩
  unfold w_P_greatest_staff
  obtain ⟨W0, hW0⟩ : ∃ W, W = w_P_greatest_staff_b1 R := ⟨_, rfl⟩
  rw [← hW0]
  walk_at "go"
  refine ⟨_, s, o, sun, hs, rfl, hn, hl, ⟨lc.2.1.mono (by decide), lc.2.2.mono (by decide)⟩, fun x hx => (hp x hx).mono (by decide), ?_⟩
  cases q1 : noH sun hs with
  | some x => rw [q1] at h; exact h
  | none =>
    rw [q1] at h
    dsimp only at h ⊢
    cases q2 : behH s o sun hs with
    | some x => rw [q2] at h; exact h
    | none =>
      rw [q2] at h
      dsimp only at h ⊢
      walk_at "go"
      rw [hW0]
      refine gs_loop (RR := R) (D := { nx := sRet (wVar 4) { nx := fun _ => Q .non, rt := Q }, rt := Q }) lc fa fb (hs.map (dirOf sun)) [] _ _ _ _ _ (fun d hd' => ?_) (.inl ⟨rfl, fun hn hd _ _ x hx => absurd hx (by simp)⟩) fun g' s5 s6 s7 s8 hg => ?_
      · obtain ⟨x, hx, rfl⟩ := List.mem_map.mp hd'
        have n1 := List.find?_eq_none.mp q1 x hx
        have n2 := List.find?_eq_none.mp q2 x hx
        refine ⟨?_, by simpa using n2⟩
        cases z : sunAt sun x with
        | none => rw [z] at n1; exact absurd rfl n1
        | some e =>
          show LimT 12 ((sunAt sun x).getD (0, 0, 0, 0)).2
          rw [z]
          exact hp e (List.mem_of_find?_eq_some z)
      · walk_at "go"
        exact h g'
def sp_L_cross : SpT := fun ts Q => ∃ a b c d e f : Int, ts = [tri a b c, tri d e f] ∧ Lim6 1000 a b c d e f ∧ Q (tri (b * f - c * e) (c * d - a * f) (a * e - b * d))
theorem len_L_cross : ∀ ts Q, sp_L_cross ts Q → ts.length = 2 := by rintro ts Q ⟨_, _, _, _, _, _, e, _⟩; subst e; rfl
def w_L_cross : WS :=
  (sSeq (sAsg (gT 3 (gsC (gN 2) (gsC (gN 3) (gsC (gN 4) gs0)))) (wVar 0))
    (sSeq (sAsg (gT 3 (gsC (gN 5) (gsC (gN 6) (gsC (gN 7) gs0)))) (wVar 1))
    (sRet (wTup (aCons (w2 rSubT (w2 rMulT (wVar 3) (wVar 7)) (w2 rMulT (wVar 4) (wVar 6))) (aCons (w2 rSubT (w2 rMulT (wVar 4) (wVar 5)) (w2 rMulT (wVar 2) (wVar 7))) (aCons (w2 rSubT (w2 rMulT (wVar 2) (wVar 6)) (w2 rMulT (wVar 3) (wVar 5))) aNil)))))))
theorem ok_L_cross : ∀ ts Q, sp_L_cross ts Q → w_L_cross { nx := fun _ => Q .non, rt := Q } (startT 8 ts) := by
  rintro _ Q ⟨a, b, c, d, e, f, rfl, ⟨la, lb, lc, ld, le, lf⟩, h⟩
  unfold w_L_cross
  walk_at "tw"
  exact ⟨mulOk lb lf, mulOk lc le, mulOk lc ld, mulOk la lf, mulOk la le, mulOk lb ld, h⟩
def sp_L_dot : SpT := fun ts Q => ∃ a b c d e f : Int, ts = [tri a b c, tri d e f] ∧ Lim6 2000 a b c d e f ∧ Q (.int (a * d + b * e + c * f))
theorem len_L_dot : ∀ ts Q, sp_L_dot ts Q → ts.length = 2 := by rintro ts Q ⟨_, _, _, _, _, _, e, _⟩; subst e; rfl
def w_L_dot : WS :=
  (sRet (w2 rAddT (w2 rAddT (w2 rMulT (w2 rIxTT (wVar 0) (wC (.int 0))) (w2 rIxTT (wVar 1) (wC (.int 0)))) (w2 rMulT (w2 rIxTT (wVar 0) (wC (.int 1))) (w2 rIxTT (wVar 1) (wC (.int 1))))) (w2 rMulT (w2 rIxTT (wVar 0) (wC (.int 2))) (w2 rIxTT (wVar 1) (wC (.int 2))))))
theorem ok_L_dot : ∀ ts Q, sp_L_dot ts Q → w_L_dot { nx := fun _ => Q .non, rt := Q } (startT 2 ts) := by
  rintro _ Q ⟨a, b, c, d, e, f, rfl, ⟨la, lb, lc, ld, le, lf⟩, h⟩
  unfold w_L_dot
  walk_at "tw"
  exact ⟨mulOk la ld, mulOk lb le, mulOk lc lf, h⟩
theorem pickP (n : Int) : ∃ v : Int, 1 ≤ v ∧ v ≤ 2001 ∧ atI [T.int 5, T.int 19, T.int 2001, T.int 19] (n.fmod 4) = some (.int v) := by
  have f := fmod_pos n (b := 4) (by decide)
  obtain ⟨v, hv, ev⟩ := atI_map (ns := [5, 19, 2001, 19]) (k := n.fmod 4) f.1 (by simpa using f.2)
  refine ⟨v, ?_, ?_, ev⟩ <;> (simp only [List.mem_cons, List.not_mem_nil, or_false] at hv; omega)
theorem pickL (n : Int) : ∃ v : Int, 1 ≤ v ∧ v ≤ 101 ∧ atI [T.int 3, T.int 9, T.int 101, T.int 9] (n.fmod 4) = some (.int v) := by
  have f := fmod_pos n (b := 4) (by decide)
  obtain ⟨v, hv, ev⟩ := atI_map (ns := [3, 9, 101, 9]) (k := n.fmod 4) f.1 (by simpa using f.2)
  refine ⟨v, ?_, ?_, ev⟩ <;> (simp only [List.mem_cons, List.not_mem_nil, or_false] at hv; omega)
theorem lenS {α : Type} {l : List α} {n : Nat} (h : l.length = n + 1) : ∃ a r, l = a :: r ∧ r.length = n := by
  cases l with
  | nil => cases h
  | cons a r => exact ⟨a, r, rfl, Nat.succ.inj h⟩
theorem len3 {α : Type} {l : List α} (h : l.length = 3) : ∃ a b c, l = [a, b, c] := by
  obtain ⟨a, l1, rfl, h1⟩ := lenS h
  obtain ⟨b, l2, rfl, h2⟩ := lenS h1
  obtain ⟨c, l3, rfl, h3⟩ := lenS h2
  exact ⟨a, b, c, by rw [List.length_eq_zero_iff.mp h3]⟩
theorem len9 {α : Type} {l : List α} (h : l.length = 9) : ∃ a b c d e f x y z, l = [a, b, c, d, e, f, x, y, z] := by
  obtain ⟨a, l1, rfl, h1⟩ := lenS h
  obtain ⟨b, l2, rfl, h2⟩ := lenS h1
  obtain ⟨c, l3, rfl, h3⟩ := lenS h2
  obtain ⟨d, l4, rfl, h4⟩ := lenS h3
  obtain ⟨e, l5, rfl, h5⟩ := lenS h4
  obtain ⟨f, l6, rfl, h6⟩ := lenS h5
  obtain ⟨x, y, z, rfl⟩ := len3 h6
  exact ⟨a, b, c, d, e, f, x, y, z, rfl⟩
theorem d2 : DivOk 2 := divOk (by decide) (Lim.of (n := 1) (by decide) (by decide))
theorem d8 : DivOk 8 := divOk (by decide) (Lim.of (n := 1) (by decide) (by decide))
abbrev Small9 (a b c d e f x y z : Int) : Prop := Lim3 4 a b c ∧ Lim3 4 d e f ∧ Lim3 4 x y z
def sp_L_plate : SpT := fun ts Q => ∃ c k : Int, ts = [.int c, .int k] ∧ 0 ≤ k ∧ k ≤ 1000 ∧ ∀ a b c d e f x y z : Int, Small9 a b c d e f x y z → NoFlat d e f x y z → Q (plt a b c d e f x y z)
theorem len_L_plate : ∀ ts Q, sp_L_plate ts Q → ts.length = 2 := by rintro ts Q ⟨_, _, e, _⟩; subst e; rfl
def w_L_plate : WS :=
  (sSeq (sSet 2 (w2 rIxTT (wLst (aCons (wC (.int 5)) (aCons (wC (.int 19)) (aCons (wC (.int 2001)) (aCons (wC (.int 19)) aNil))))) (w2 rModT (w2 rDivT (wVar 0) (wC (.int 2))) (wC (.int 4)))))
    (sSeq (sSet 3 (wComp (iSeq (wCall sp_L_digits (aCons (w2 rAddT (w2 rMulT (w2 rDivT (wVar 0) (wC (.int 8))) (wC (.int 2))) (w2 rModT (wVar 0) (wC (.int 2)))) (aCons (wVar 1) (aCons (wC (.int 9)) (aCons (wVar 2) aNil)))))) (gN 0) tTrue (w2 rSubT (wVar 0) (w2 rDivT (wVar 1) (wC (.int 2)))) 1 [2]))
    (sSeq (sSet 4 (wTup (aCons (wCB rTupleT (aCons (wSl (wVar 3) wo0 (wo (wC (.int 3)))) aNil)) (aCons (wCB rTupleT (aCons (wSl (wVar 3) (wo (wC (.int 3))) (wo (wC (.int 6)))) aNil)) (aCons (wCB rTupleT (aCons (wSl (wVar 3) (wo (wC (.int 6))) wo0) aNil)) aNil)))))
    (sSeq (sIf (tCmpT cEqT (wCall sp_L_cross (aCons (w2 rIxTT (wVar 4) (wC (.int 1))) (aCons (w2 rIxTT (wVar 4) (wC (.int 2))) aNil))) (wTup (aCons (wC (.int 0)) (aCons (wC (.int 0)) (aCons (wC (.int 0)) aNil))))) (sRet (wTup (aCons (w2 rIxTT (wVar 4) (wC (.int 0))) (aCons (wTup (aCons (wC (.int 2)) (aCons (wC (.int 0)) (aCons (wC (.int 0)) aNil)))) (aCons (wTup (aCons (wC (.int 0)) (aCons (wC (.int 3)) (aCons (wC (.int 0)) aNil)))) aNil))))) sNext)
    (sRet (wVar 4))))))
theorem half_lim {v n : Int} (h0 : 1 ≤ v) (h1 : v ≤ 2001) (n0 : 0 ≤ n ∧ n < v) : Lim 4 (n - v.fdiv 2) := by
  rw [Int.fdiv_eq_ediv_of_nonneg _ (by decide : (0 : Int) ≤ 2)]
  exact Lim.of (by omega) (by omega)
theorem ok_L_plate : ∀ ts Q, sp_L_plate ts Q → w_L_plate { nx := fun _ => Q .non, rt := Q } (startT 5 ts) := by
  rintro _ Q ⟨cc, k, rfl, h0, h1, h⟩
  obtain ⟨v, v0, v1, ev⟩ := pickP (cc.fdiv 2)
  have d2 := d2
  have d8 := d8
  have m2 : MulOk (cc.fdiv 8) 2 := mulOkR (Lim.of (by decide) (by decide))
  unfold w_L_plate
  walk_at "go"
  rw [ev]
  walk_at "go"
  refine ⟨_, k, v, 9, rfl, h0, h1, by decide, v0, by omega, fun rs hl hd => ?_⟩
  obtain ⟨a, b, c, d, e, f, x, y, z, rfl⟩ := len9 hl
  have g : ∀ n ∈ [a, b, c, d, e, f, x, y, z], Lim 4 (n - v.fdiv 2) := fun n hn => half_lim v0 v1 (hd n hn)
  have la : Lim3 4 (a - v.fdiv 2) (b - v.fdiv 2) (c - v.fdiv 2) := ⟨g _ (by simp), g _ (by simp), g _ (by simp)⟩
  have ld : Lim3 4 (d - v.fdiv 2) (e - v.fdiv 2) (f - v.fdiv 2) := ⟨g _ (by simp), g _ (by simp), g _ (by simp)⟩
  have lx : Lim3 4 (x - v.fdiv 2) (y - v.fdiv 2) (z - v.fdiv 2) := ⟨g _ (by simp), g _ (by simp), g _ (by simp)⟩
  walk_at "go"
  refine ⟨_, _, _, _, _, _, rfl, lim6 ld lx (by decide) (by decide), ?_⟩
  walk_at "go"
  refine ⟨eqOk_tri _ _ _ _ _ _, fun _ => ?_, fun zz => ?_⟩
  · walk_at "go"
    have s : ∀ {n : Int}, -10 < n → n < 10 → Lim 4 n := fun h0 h1 => Lim.of (by omega) (by omega)
    refine h _ _ _ _ _ _ _ _ _ ⟨la, ⟨s (by decide) (by decide), s (by decide) (by decide), s (by decide) (by decide)⟩, ⟨s (by decide) (by decide), s (by decide) (by decide), s (by decide) (by decide)⟩⟩ (by decide)
  · rw [eqT_tri] at zz
    exact h _ _ _ _ _ _ _ _ _ ⟨la, ld, lx⟩ (of_decide_eq_false zz)
def sp_L_front : SpT := fun ts Q => ∃ (t : T) (a b c d e f : Int), ts = [.tup [t, tri a b c, tri d e f]] ∧ Lim6 1000 a b c d e f ∧ Q (tri (b * f - c * e) (c * d - a * f) (a * e - b * d))
theorem len_L_front : ∀ ts Q, sp_L_front ts Q → ts.length = 1 := by rintro ts Q ⟨_, _, _, _, _, _, _, e, _⟩; subst e; rfl
def w_L_front : WS :=
  (sRet (wCall sp_L_cross (aCons (w2 rIxTT (wVar 0) (wC (.int 1))) (aCons (w2 rIxTT (wVar 0) (wC (.int 2))) aNil))))
theorem ok_L_front : ∀ ts Q, sp_L_front ts Q → w_L_front { nx := fun _ => Q .non, rt := Q } (startT 1 ts) := by
  rintro _ Q ⟨t, a, b, c, d, e, f, rfl, l, h⟩
  unfold w_L_front
  walk_at "go"
  exact ⟨_, _, _, _, _, _, rfl, l, h⟩
def sp_L_lit : SpT := fun ts Q => ∃ (t : T) (d e f x y z c k : Int), ts = [.tup [t, tri d e f, tri x y z], .int c, .int k] ∧ 0 ≤ k ∧ k ≤ 1000 ∧ Lim3 4 d e f ∧ Lim3 4 x y z ∧ NoFlat d e f x y z ∧ ∀ u v w : Int, Lim3 9 u v w → 0 < det3 d e f x y z u v w → Q (tri u v w)
theorem len_L_lit : ∀ ts Q, sp_L_lit ts Q → ts.length = 3 := by rintro ts Q ⟨_, _, _, _, _, _, _, _, _, e, _⟩; subst e; rfl
def w_L_lit : WS :=
  (sSeq (sSet 3 (w2 rIxTT (wLst (aCons (wC (.int 3)) (aCons (wC (.int 9)) (aCons (wC (.int 101)) (aCons (wC (.int 9)) aNil))))) (w2 rModT (w2 rDivT (wVar 1) (wC (.int 2))) (wC (.int 4)))))
    (sSeq (sSet 4 (wCB rTupleT (aCons (wComp (iSeq (wCall sp_L_digits (aCons (w2 rAddT (w2 rMulT (w2 rDivT (wVar 1) (wC (.int 8))) (wC (.int 2))) (w2 rModT (wVar 1) (wC (.int 2)))) (aCons (wVar 2) (aCons (wC (.int 3)) (aCons (wVar 3) aNil)))))) (gN 0) tTrue (w2 rSubT (wVar 0) (w2 rDivT (wVar 1) (wC (.int 2)))) 1 [3]) aNil)))
    (sSeq (sSet 5 (wCall sp_L_dot (aCons (wVar 4) (aCons (wCall sp_L_front (aCons (wVar 0) aNil)) aNil))))
    (sSeq (sIf (tCmpT cEqT (wVar 5) (wC (.int 0))) (sRet (wCall sp_L_front (aCons (wVar 0) aNil))) sNext)
    (sSeq (sIf (tCmpT cLtT (wVar 5) (wC (.int 0))) (sRet (wTup (aCons (w2 rSubT (wC (.int 0)) (w2 rIxTT (wVar 4) (wC (.int 0)))) (aCons (w2 rSubT (wC (.int 0)) (w2 rIxTT (wVar 4) (wC (.int 1)))) (aCons (w2 rSubT (wC (.int 0)) (w2 rIxTT (wVar 4) (wC (.int 2)))) aNil))))) sNext)
    (sRet (wVar 4)))))))
theorem dot_comm3 (u v w d e f x y z : Int) : u * (e * z - f * y) + v * (f * x - d * z) + w * (d * y - e * x) = det3 d e f x y z u v w := by
  simp only [det3]; grind
theorem det_neg (d e f x y z u v w : Int) : det3 d e f x y z (0 - u) (0 - v) (0 - w) = - det3 d e f x y z u v w := by
  simp only [det3]; grind
theorem ok_L_lit : ∀ ts Q, sp_L_lit ts Q → w_L_lit { nx := fun _ => Q .non, rt := Q } (startT 6 ts) := by
  rintro _ Q ⟨t, d, e, f, x, y, z, cc, k, rfl, h0, h1, ld, lx, NF, h⟩
  obtain ⟨s, v0, v1, ev⟩ := pickL (cc.fdiv 2)
  have d2 := d2
  have d8 := d8
  have m2 : MulOk (cc.fdiv 8) 2 := mulOkR (Lim.of (by decide) (by decide))
  have lF := lim_cross3 ld lx (k := 9) (by decide)
  unfold w_L_lit
  walk_at "go"
  rw [ev]
  walk_at "go"
  refine ⟨_, k, s, 3, rfl, h0, h1, by decide, v0, by omega, fun rs hl hd => ?_⟩
  obtain ⟨u, v, w, rfl⟩ := len3 hl
  have g : ∀ n ∈ [u, v, w], Lim 4 (n - s.fdiv 2) := fun n hn => half_lim v0 (by omega) (hd n hn)
  have lu : Lim3 4 (u - s.fdiv 2) (v - s.fdiv 2) (w - s.fdiv 2) := ⟨g _ (by simp), g _ (by simp), g _ (by simp)⟩
  walk_at "go"
  refine ⟨_, _, _, _, _, _, _, rfl, lim6 ld lx (by decide) (by decide), ?_⟩
  walk_at "go"
  refine ⟨_, _, _, _, _, _, rfl, lim6 lu lF (by decide) (by decide), ?_⟩
  rw [dot_comm3]
  walk_at "go"
  refine ⟨fun c => ?_, fun c => ?_⟩
  · walk_at "go"
    exact ⟨_, _, _, _, _, _, _, rfl, lim6 ld lx (by decide) (by decide), h _ _ _ lF (sq_pos NF)⟩
  · have c1 := of_decide_eq_false c
    walk_at "go"
    refine ⟨fun c => ?_, fun c => ?_⟩
    · have c2 := of_decide_eq_true c
      walk_at "go"
      refine h _ _ _ (lim_neg3 (lu.mono (by decide))) ?_
      rw [det_neg]
      omega
    · have c2 := of_decide_eq_false c
      walk_at "go"
      exact h _ _ _ (lu.mono (by decide)) (by omega)
structure SunOk (sun : List (Int × Tr)) : Prop where
  nd : (sun.map (·.1)).Nodup
  hp : ∀ x ∈ sun, LimT 12 x.2 ∧ 0 ≤ x.1 ∧ x.1 < 1000
def sp_L_sun : SpT := fun ts Q => ∃ (ns : List Int) (c s o : Tr), ts = [.lst (ns.map T.int), ptl c s o] ∧ (LimT 4 s ∧ LimT 4 o) ∧ NoFlat s.1 s.2.1 s.2.2 o.1 o.2.1 o.2.2 ∧ ∀ sun : List (Int × Tr), SunOk sun → 1 ≤ sun.length → sun.length ≤ 12 → Q (.lst (sun.map sT))
theorem len_L_sun : ∀ ts Q, sp_L_sun ts Q → ts.length = 2 := by rintro ts Q ⟨_, _, _, _, e, _⟩; subst e; rfl
def w_L_sun_k0 : WS :=
  (sApp 2 (wTup (aCons (w2 rAddT (w2 rMulT (wC (.int 3)) (wVar 3)) (wC (.int 1))) (aCons (wVar 5) aNil))))
def w_L_sun_k1 : WS :=
  (sSeq (sIf (tCmpT cEqT (w2 rModT (w2 rDivT (wVar 4) (wC (.int 3))) (wC (.int 7))) (wC (.int 1))) (sSet 5 (w2 rIxTT (wLst (aCons (w2 rIxTT (wVar 1) (wC (.int 1))) (aCons (w2 rIxTT (wVar 1) (wC (.int 2))) aNil))) (w2 rModT (wVar 3) (wC (.int 2))))) sNext)
    w_L_sun_k0)
def w_L_sun_b0 : WS :=
  (sSeq (sSet 4 (wCall sp_L_cell (aCons (wVar 0) (aCons (w2 rAddT (wC (.int 3)) (wVar 3)) aNil))))
    (sSeq (sSet 5 (wCall sp_L_lit (aCons (wVar 1) (aCons (wVar 4) (aCons (w2 rAddT (wVar 3) (wC (.int 2))) aNil)))))
    (sSeq (sIf (tCmpT cEqT (w2 rModT (w2 rDivT (wVar 4) (wC (.int 3))) (wC (.int 3))) (wC (.int 0))) (sSet 5 (wTup (aCons (w2 rSubT (wC (.int 0)) (w2 rIxTT (wVar 5) (wC (.int 0)))) (aCons (w2 rSubT (wC (.int 0)) (w2 rIxTT (wVar 5) (wC (.int 1)))) (aCons (w2 rSubT (wC (.int 0)) (w2 rIxTT (wVar 5) (wC (.int 2)))) aNil))))) sNext)
    w_L_sun_k1)))
def w_L_sun : WS :=
  (sSeq (sOwn 2 aNil)
    (sSeq (sFor (iRange1 (aCons (w2 rAddT (wC (.int 1)) (w2 rModT (wCall sp_L_cell (aCons (wVar 0) (aCons (wC (.int 1)) aNil))) (wC (.int 12)))) aNil)) (gN 3) w_L_sun_b0)
    (sFrz 2 (sRet (wVar 2)))))
theorem SunOk.snoc {sn : List (Int × Tr)} {x : Int × Tr} (h : SunOk sn) (hx : LimT 12 x.2 ∧ 0 ≤ x.1 ∧ x.1 < 1000) (hk : ∀ y ∈ sn, y.1 < x.1) : SunOk (sn ++ [x]) := by
  refine ⟨?_, fun y hy => ?_⟩
  · rw [List.map_append, List.nodup_append]
    refine ⟨h.nd, by simp, fun a ha b hb => ?_⟩
    obtain ⟨y, hy, rfl⟩ := List.mem_map.mp ha
    have := hk y hy
    simp only [List.map_cons, List.map_nil, List.mem_singleton] at hb
    subst hb
    exact Int.ne_of_lt this
  · rcases List.mem_append.mp hy with z | z
    · exact h.hp y z
    · rw [List.mem_singleton.mp z]; exact hx
theorem sun_k0 {D : DT} {sn : List (Int × Tr)} {k : Nat} {d : Tr} {s0 s1 s4 : Slot} (hl : sn.length < 900) (h : D.nx [s0, s1, .own ((sn ++ [(3 * (k : Int) + 1, d)]).map sT), .val (.int k), s4, .val (trT d)]) :
    w_L_sun_k0 D [s0, s1, .own (sn.map sT), .val (.int k), s4, .val (trT d)] := by
  have hl' : (sn.map sT).length < 1000 := by rw [List.length_map]; omega
  have l3 : MulOk 3 (k : Int) := mulOkL (Lim.of (by decide) (by decide))
  rw [List.map_append] at h
  unfold w_L_sun_k0
  walk_at "go"
  exact h
theorem sun_k1 {D : DT} {sn : List (Int × Tr)} {k : Nat} {c s o d : Tr} {v : Int} {s0 : Slot} (lc : LimT 4 s ∧ LimT 4 o) (ld : LimT 12 d) (hl : sn.length < 900) (h : ∀ d s4, LimT 12 d → D.nx [s0, .val (ptl c s o), .own ((sn ++ [(3 * (k : Int) + 1, d)]).map sT), .val (.int k), s4, .val (trT d)]) :
    w_L_sun_k1 D [s0, .val (ptl c s o), .own (sn.map sT), .val (.int k), .val (.int v), .val (trT d)] := by
  have d3 : DivOk (3 : Int) := divOk (by decide) (Lim.of (n := 1) (by decide) (by decide))
  unfold w_L_sun_k1
  obtain ⟨W0, hW0⟩ : ∃ W, W = w_L_sun_k0 := ⟨_, rfl⟩
  rw [← hW0]
  walk_at "go"
  refine ⟨fun z => ?_, fun z => ?_⟩
  · have f := fmod_pos (k : Int) (b := 2) (by decide)
    obtain ⟨e, le, ee⟩ : ∃ e : Tr, LimT 12 e ∧ atI [trT s, trT o] ((k : Int).fmod 2) = some (trT e) := by
      obtain z | z : (k : Int).fmod 2 = 0 ∨ (k : Int).fmod 2 = 1 := by omega
      · exact ⟨s, lc.1.mono (by decide), by rw [z]; exact atI0 _ _⟩
      · exact ⟨o, lc.2.mono (by decide), by rw [z]; exact atI1 _ _ _⟩
    walk_at "go"
    rw [ee]
    walk_at "go"
    refine Eq.mpr (congrFun (congrFun hW0 _) _) ?_
    exact sun_k0 hl (h e _ le)
  · walk_at "go"
    refine Eq.mpr (congrFun (congrFun hW0 _) _) ?_
    exact sun_k0 hl (h d _ ld)
theorem sun_loop {D : DT} {ns : List Int} {c s o : Tr} (lc : LimT 4 s ∧ LimT 4 o) (nf : NoFlat s.1 s.2.1 s.2.2 o.1 o.2.1 o.2.2) : ∀ (n k : Nat) (sn : List (Int × Tr)) (s3 s4 s5 : Slot), k + n ≤ 100 → SunOk sn → (∀ y ∈ sn, y.1 < 3 * (k : Int) + 1) → sn.length = k →
    (∀ sn' s3 s4 s5, SunOk sn' → sn'.length = k + n → D.nx [.val (.lst (ns.map T.int)), .val (ptl c s o), .own (sn'.map sT), s3, s4, s5]) →
    forT (gN 3) w_L_sun_b0 (rangeT k n) D [.val (.lst (ns.map T.int)), .val (ptl c s o), .own (sn.map sT), s3, s4, s5]
  | 0, k, sn, s3, s4, s5, _, hs, _, hl, h => by
    simp only [rangeT, forT]
    exact h sn _ _ _ hs (by omega)
  | n + 1, k, sn, s3, s4, s5, hk, hs, hy, hl, h => by
    have ih := fun (d : Tr) (ok : LimT 12 d) s3 s4 s5 => sun_loop (D := D) (ns := ns) (c := c) lc nf n (k + 1) (sn ++ [(3 * (k : Int) + 1, d)]) s3 s4 s5 (by omega) (hs.snoc ⟨ok, by show 0 ≤ 3 * (k : Int) + 1; omega, by show 3 * (k : Int) + 1 < 1000; omega⟩ hy) (fun y m => by
      rcases List.mem_append.mp m with z | z
      · have := hy y z; omega
      · rw [List.mem_singleton.mp z]; simp only []; omega) (by simp; omega) (fun sn' s3 s4 s5 a b => h sn' s3 s4 s5 a (by omega))
    have d3 : DivOk (3 : Int) := divOk (by decide) (Lim.of (n := 1) (by decide) (by decide))
    simp only [rangeT, forT]
    rw [show ((k : Int) + 1) = ((k + 1 : Nat) : Int) by simp]
    generalize forT (gN 3) w_L_sun_b0 (rangeT ((k + 1 : Nat) : Int) n) D = F at ih ⊢
    unfold w_L_sun_b0
    obtain ⟨W0, hW0⟩ : ∃ W, W = w_L_sun_k1 := ⟨_, rfl⟩
    rw [← hW0]
    walk_at "go"
    refine ⟨ns, 3 + (k : Int), rfl, by omega, fun v => ?_⟩
    walk_at "go"
    refine ⟨_, s.1, s.2.1, s.2.2, o.1, o.2.1, o.2.2, v, (k : Int) + 2, rfl, by omega, by omega, lc.1, lc.2, nf, fun x y z lu hW => ?_⟩
    walk_at "go"
    have neg : LimT 12 (0 - x, 0 - y, 0 - z) := by
      have n1 : ∀ {i : Int}, Lim 11 i → Lim 12 (0 - i) := fun h => (Lim.sub (Lim.of (n := 11) (by decide) (by decide)) h).mono (by decide)
      exact ⟨n1 (lu.1.mono (by decide)), n1 (lu.2.1.mono (by decide)), n1 (lu.2.2.mono (by decide))⟩
    refine ⟨fun z => ?_, fun z => ?_⟩
    · walk_at "go"
      refine Eq.mpr (congrFun (congrFun hW0 _) _) ?_
      exact sun_k1 (d := (0 - x, 0 - y, 0 - _)) lc neg (by omega) fun d s4 ld => ih d ld _ _ _
    · walk_at "go"
      refine Eq.mpr (congrFun (congrFun hW0 _) _) ?_
      exact sun_k1 (d := (x, y, _)) lc (lu.mono (by decide)) (by omega) fun d s4 ld => ih d ld _ _ _
theorem ok_L_sun : ∀ ts Q, sp_L_sun ts Q → w_L_sun { nx := fun _ => Q .non, rt := Q } (startT 6 ts) := by
  rintro _ Q ⟨ns, c, s, o, rfl, lc, nf, h⟩
  unfold w_L_sun
  obtain ⟨W0, hW0⟩ : ∃ W, W = w_L_sun_b0 := ⟨_, rfl⟩
  rw [← hW0]
  walk_at "go"
  refine ⟨ns, 1, rfl, by decide, fun v => ?_⟩
  have f := fmod_pos v (b := 12) (by decide)
  walk_at "tw"
  refine ⟨by decide, by omega, ?_⟩
  rw [hW0]
  refine sun_loop (D := { nx := sFrz 2 (sRet (wVar 2)) { nx := fun _ => Q .non, rt := Q }, rt := Q }) (ns := ns) (c := c) lc nf (1 + v.fmod 12).toNat 0 [] _ _ _ (by omega) ⟨by simp, fun x hx => absurd hx (by simp)⟩ (fun x hx => absurd hx (by simp)) rfl fun sn s3 s4 s5 hs hl => ?_
  walk_at "go"
  exact h sn hs (by omega) (by omega)
abbrev vNo (h : Int) : T := .tup [.str (Str.ofString "none"), .int h]
abbrev vBe (h : Int) : T := .tup [.str (Str.ofString "behind"), .int h]
abbrev vTo : T := .tup [.str (Str.ofString "told"), .int 0]
def verd (s o : Tr) (sun : List (Int × Tr)) (hs : List Int) : T := match noH sun hs with
  | some h => vNo h
  | none => match behH s o sun hs with | some h => vBe h | none => vTo
abbrev Ask (s o : Tr) (sun : List (Int × Tr)) (hs : List Int) : Prop := hs.length ≤ 200 ∧ (∀ h ∈ hs, 0 ≤ h ∧ h < 10000) ∧ SunOk sun
theorem small_log {h : Int} (h0 : 0 ≤ h) (h1 : h < 10000) : h.natAbs.log2 < 1920 := by
  have a : h.natAbs < 2 ^ 1920 := Nat.lt_of_lt_of_le (show h.natAbs < 2 ^ 14 by omega) (Nat.pow_le_pow_right (by decide) (by decide))
  by_cases z : h.natAbs = 0
  · rw [z]; decide
  · exact (Nat.log2_lt z).mpr a
def sp_L_due : SpT := fun ts Q => ∃ (c s o : Tr) (sun : List (Int × Tr)) (hs : List Int), ts = [ptl c s o, .lst (sun.map sT), .lst (hs.map T.int)] ∧ (LimT 6 s ∧ LimT 6 o) ∧ Ask s o sun hs ∧ Q (verd s o sun hs)
theorem len_L_due : ∀ ts Q, sp_L_due ts Q → ts.length = 3 := by rintro ts Q ⟨_, _, _, _, _, e, _⟩; subst e; rfl
def w_L_due_b0 : WS :=
  (sIf (tNinD 3 (wVar 4)) (sRet (wTup (aCons (wC (.str (Str.ofString "none"))) (aCons (wVar 4) aNil)))) sNext)
def w_L_due_b1 : WS :=
  (sIf (tCmpT cLeT (wCall sp_L_dot (aCons (wDis 3 (wVar 4)) (aCons (wCall sp_L_front (aCons (wVar 0) aNil)) aNil))) (wC (.int 0))) (sRet (wTup (aCons (wC (.str (Str.ofString "behind"))) (aCons (wVar 4) aNil)))) sNext)
def w_L_due : WS :=
  (sSeq (sDic 3 (wVar 1))
    (sSeq (sFor (iSeq (wVar 2)) (gN 4) w_L_due_b0)
    (sSeq (sFor (iSeq (wVar 2)) (gN 4) w_L_due_b1)
    (sRet (wTup (aCons (wC (.str (Str.ofString "told"))) (aCons (wC (.int 0)) aNil)))))))
abbrev dicOf (sun : List (Int × Tr)) : List (Int × T) := sun.map fun p => (p.1, trT p.2)
theorem dic_key (sun : List (Int × Tr)) : (dicOf sun).map (·.1) = sun.map (·.1) := by rw [List.map_map]; rfl
theorem no_key {sun : List (Int × Tr)} {h : Int} : (sunAt sun h).isNone = !decide (h ∈ (dicOf sun).map (·.1)) := by
  rw [dic_key]
  cases q : sunAt sun h with
  | none =>
    have : ¬ h ∈ sun.map (·.1) := fun m => by
      obtain ⟨x, hx, rfl⟩ := List.mem_map.mp m
      have := List.find?_eq_none.mp q x hx
      simp at this
    rw [decide_eq_false this]
    rfl
  | some e =>
    have : h ∈ sun.map (·.1) := by
      have h1 := List.find?_some q
      exact List.mem_map.mpr ⟨e, List.mem_of_find?_eq_some q, by simpa using h1⟩
    rw [decide_eq_true this]
    rfl
theorem due_b0 {Q : T → Prop} {N : List Slot → Prop} {sun : List (Int × Tr)} {s0 s1 s2 : Slot} : ∀ (r : List Int) (s4 : Slot), (match noH sun r with | some h => Q (vNo h) | none => ∀ s4, N [s0, s1, s2, .dic (dicOf sun), s4]) →
    forT (gN 4) w_L_due_b0 (r.map T.int) { nx := N, rt := Q } [s0, s1, s2, .dic (dicOf sun), s4]
  | [], s4, h => h s4
  | x :: r, s4, h => by
    have ih := fun s4 h => due_b0 (Q := Q) (N := N) (sun := sun) (s0 := s0) (s1 := s1) (s2 := s2) r s4 h
    simp only [List.map_cons, forT]
    generalize forT (gN 4) w_L_due_b0 (r.map T.int) { nx := N, rt := Q } = F at ih ⊢
    unfold w_L_due_b0
    walk_at "go"
    rw [← no_key]
    cases q : (sunAt sun x).isNone with
    | true =>
      have e : noH sun (x :: r) = some x := List.find?_cons_of_pos q
      rw [e] at h
      walk_at "go"
      exact h
    | false =>
      have e : noH sun (x :: r) = noH sun r := List.find?_cons_of_neg (by rw [q]; exact Bool.false_ne_true)
      rw [e] at h
      walk_at "go"
      exact ih _ h
theorem due_b1 {Q : T → Prop} {N : List Slot → Prop} {c s o : Tr} {sun : List (Int × Tr)} {s1 s2 : Slot} (ls : LimT 6 s ∧ LimT 6 o) (S : SunOk sun) : ∀ (r : List Int) (s4 : Slot), (∀ h ∈ r, (sunAt sun h).isNone = false) → (match behH s o sun r with | some h => Q (vBe h) | none => ∀ s4, N [.val (ptl c s o), s1, s2, .dic (dicOf sun), s4]) →
    forT (gN 4) w_L_due_b1 (r.map T.int) { nx := N, rt := Q } [.val (ptl c s o), s1, s2, .dic (dicOf sun), s4]
  | [], s4, _, h => h s4
  | x :: r, s4, hn, h => by
    have ih := fun s4 h => due_b1 (Q := Q) (N := N) (c := c) (s1 := s1) (s2 := s2) ls S r s4 (fun y hy => hn y (List.mem_cons_of_mem _ hy)) h
    obtain ⟨e, he⟩ : ∃ e, sunAt sun x = some e := by
      have := hn x List.mem_cons_self
      cases q : sunAt sun x with
      | none => rw [q] at this; cases this
      | some e => exact ⟨e, rfl⟩
    have me := List.mem_of_find?_eq_some he
    have ke : e.1 = x := by have := List.find?_some he; simpa using this
    have le := (S.hp e me).1
    have ed : dirOf sun x = e.2 := by unfold dirOf; rw [he]; rfl
    have lF := lim_crs ls.1 ls.2 (k := 13) (by decide)
    have comm : dotI e.2 (crs s o) = dotI (crs s o) e.2 := by simp only [dotI]; grind
    simp only [List.map_cons, forT]
    generalize forT (gN 4) w_L_due_b1 (r.map T.int) { nx := N, rt := Q } = F at ih ⊢
    unfold w_L_due_b1
    walk_at "go"
    refine ⟨by rw [dic_key]; exact S.nd, ?_⟩
    walk_at "go"
    refine ⟨x, trT e.2, rfl, List.mem_map.mpr ⟨e, me, by rw [ke]⟩, ?_⟩
    walk_at "go"
    refine ⟨_, s.1, s.2.1, s.2.2, o.1, o.2.1, o.2.2, rfl, lim6 ls.1 ls.2 (by decide) (by decide), ?_⟩
    walk_at "go"
    refine ⟨_, _, _, _, _, _, rfl, lim6 le lF (by decide) (by decide), ?_⟩
    by_cases z : 0 < dotI (crs s o) e.2
    · have eb : behH s o sun (x :: r) = behH s o sun r := List.find?_cons_of_neg (by rw [ed, decide_eq_true z]; exact Bool.false_ne_true)
      rw [eb] at h
      walk_at "go"
      refine ⟨fun c => absurd (of_decide_eq_true c) (fun c => ?_), fun _ => ?_⟩
      · have c' : dotI e.2 (crs s o) ≤ 0 := c
        rw [comm] at c'
        omega
      · walk_at "go"
        exact ih _ h
    · have eb : behH s o sun (x :: r) = some x := List.find?_cons_of_pos (by rw [ed, decide_eq_false z]; rfl)
      rw [eb] at h
      walk_at "go"
      refine ⟨fun _ => ?_, fun c => absurd (of_decide_eq_false c) (fun c => ?_)⟩
      · walk_at "go"
        exact h
      · refine c ?_
        show dotI e.2 (crs s o) ≤ 0
        rw [comm]
        omega
theorem ok_L_due : ∀ ts Q, sp_L_due ts Q → w_L_due { nx := fun _ => Q .non, rt := Q } (startT 5 ts) := by
  rintro _ Q ⟨c, s, o, sun, hs, rfl, ls, ⟨hl, hb, S⟩, h⟩
  unfold verd at h
  unfold w_L_due
  obtain ⟨W0, hW0⟩ : ∃ W, W = w_L_due_b0 := ⟨_, rfl⟩
  obtain ⟨W1, hW1⟩ : ∃ W, W = w_L_due_b1 := ⟨_, rfl⟩
  rw [← hW0, ← hW1]
  walk_at "go"
  refine ⟨dicOf sun, by rw [List.map_map]; rfl, by rw [dic_key]; exact S.nd, ?_⟩
  walk_at "go"
  try walk_at "tw"
  rw [hW0]
  refine due_b0 hs _ ?_
  cases q : noH sun hs with
  | some x => rw [q] at h; exact h
  | none =>
    rw [q] at h
    intro s4
    have hn : ∀ y ∈ hs, (sunAt sun y).isNone = false := fun y hy => by
      have := List.find?_eq_none.mp q y hy
      simpa using this
    walk_at "go"
    try walk_at "tw"
    rw [hW1]
    refine due_b1 (c := c) (s := s) (o := o) ls S hs _ hn ?_
    cases z : behH s o sun hs with
    | some x => rw [z] at h; exact h
    | none =>
      rw [z] at h
      intro s4
      walk_at "go"
      exact h
def sp_L_told : SpT := fun ts Q => ∃ (c s o : Tr) (sun : List (Int × Tr)) (hs : List Int), ts = [ptl c s o, .lst (sun.map sT), .lst (hs.map T.int)] ∧ (LimT 6 c ∧ LimT 6 s ∧ LimT 6 o) ∧ Ask s o sun hs ∧ Q (verd s o sun hs)
theorem len_L_told : ∀ ts Q, sp_L_told ts Q → ts.length = 3 := by rintro ts Q ⟨_, _, _, _, _, e, _⟩; subst e; rfl
def w_L_told : WS :=
  (sSeq (sSet 3 (wC .non))
    (sSeq (sTry (fun R => (sExpr (wCall (sp_P_greatest_staff R) (aCons (wVar 0) (aCons (wTup (aCons (wTup (aCons (wC (.int 1)) (aCons (wC (.int 2)) aNil))) (aCons (wTup (aCons (wC (.int 1)) (aCons (wC (.int 3)) aNil))) aNil))) (aCons (wVar 1) (aCons (wVar 2) aNil))))))) 4 3 ["NoHour", "NotLit"])
    (sSeq (sIf (tCmpT cIsN (wVar 3) (wC .non)) (sRet (wTup (aCons (wC (.str (Str.ofString "told"))) (aCons (wC (.int 0)) aNil)))) sNext)
    (sSeq (sIf (tOrT (tVal (wIsE [("NoHour", false), ("NotLit", false)] (wVar 3))) (tNotT (tVal (wIsE [("NoHour", true), ("NotLit", true)] (wVar 3))))) (sRet (wTup (aCons (wC (.str (Str.ofString "other"))) (aCons (wC (.int 0)) aNil)))) sNext)
    (sSeq (sIf (tAndT (tVal (wIsE [("NoHour", true), ("NotLit", false)] (wVar 3))) (tNotT (tVal (wIsE [("NoHour", false), ("NotLit", true)] (wVar 3))))) (sRet (wTup (aCons (wC (.str (Str.ofString "none"))) (aCons (wFld "hour" ["NoHour", "NotLit"] (wVar 3)) aNil)))) sNext)
    (sSeq (sIf (tAndT (tVal (wIsE [("NoHour", false), ("NotLit", true)] (wVar 3))) (tNotT (tVal (wIsE [("NoHour", true), ("NotLit", false)] (wVar 3))))) (sRet (wTup (aCons (wC (.str (Str.ofString "behind"))) (aCons (wFld "hour" ["NoHour", "NotLit"] (wVar 3)) aNil)))) sNext)
    (sRet (wTup (aCons (wC (.str (Str.ofString "other"))) (aCons (wC (.int 0)) aNil))))))))))
theorem fr12 : fr 1 2 = .tup [.int 1, .int 2] := by unfold fr; rw [show frN 1 2 = 1 from by decide +kernel, show frD 1 2 = 2 from by decide +kernel]
theorem fr13 : fr 1 3 = .tup [.int 1, .int 3] := by unfold fr; rw [show frN 1 3 = 1 from by decide +kernel, show frD 1 3 = 3 from by decide +kernel]
theorem ok_L_told : ∀ ts Q, sp_L_told ts Q → w_L_told { nx := fun _ => Q .non, rt := Q } (startT 5 ts) := by
  rintro _ Q ⟨c, s, o, sun, hs, rfl, lc, ⟨hl, hb, S⟩, h⟩
  unfold verd at h
  have ask : ∀ {R Q : T → Prop}, (match noH sun hs with | some h => R (noHour h) | none => match behH s o sun hs with | some h => R (notLit h) | none => ∀ t, Q t) → sp_P_greatest_staff R [ptl c s o, .tup [.tup [.int 1, .int 2], .tup [.int 1, .int 3]], .lst (sun.map sT), .lst (hs.map T.int)] Q := fun q =>
    ⟨c, s, o, 1, 2, 1, 3, sun, hs, by rw [fr12, fr13], hl, fun x hx => small_log (hb x hx).1 (hb x hx).2, lc, fun x hx => (S.hp x hx).1, ⟨by decide, by decide, by decide, Lim.of (by decide) (by decide), Lim.of (by decide) (by decide)⟩, ⟨by decide, by decide, by decide, Lim.of (by decide) (by decide), Lim.of (by decide) (by decide)⟩, q⟩
  unfold w_L_told
  obtain ⟨SG, hSG⟩ : ∃ S, S = sp_P_greatest_staff := ⟨_, rfl⟩
  rw [← hSG] at ask ⊢
  clear hSG
  walk_at "go"
  refine ask ?_
  cases q : noH sun hs with
  | some x =>
    rw [q] at h
    dsimp only at h ⊢
    refine ⟨List.mem_cons_self, ?_⟩
    walk_at "go"
    exact h
  | none =>
    rw [q] at h
    dsimp only at h ⊢
    cases z : behH s o sun hs with
    | some x =>
      rw [z] at h
      dsimp only at h ⊢
      refine ⟨List.mem_cons_of_mem _ (List.mem_singleton.mpr rfl), ?_⟩
      walk_at "go"
      exact h
    | none =>
      rw [z] at h
      dsimp only at h ⊢
      intro t
      walk_at "go"
      exact h
def w_L_law_c0 : WE :=
  (w2 rIxTT (w2 rIxTT (wVar 1) (w2 rModT (wVar 0) (wCB rLenT (aCons (wVar 1) aNil)))) (wC (.int 0)))
def w_L_law_k0 : WS :=
  (sIf (tCmpT cNeT (wCall sp_L_told (aCons (wVar 1) (aCons (wVar 2) (aCons (wVar 6) aNil)))) (wCall sp_L_due (aCons (wVar 1) (aCons (wVar 2) (aCons (wVar 6) aNil))))) (sRet (wC (.bl false))) sNext)
def w_L_law_b0 : WS :=
  (sSeq (sSet 5 (wCall sp_L_digits (aCons (w2 rDivT (wVar 4) (wC (.int 3))) (aCons (w2 rAddT (wVar 3) (wC (.int 3))) (aCons (wC (.int 6)) (aCons (wC (.int 12)) aNil))))))
    (sSeq (sSet 6 (wComp (iSeq (wSl (wVar 5) wo0 (wo (w2 rAddT (wC (.int 1)) (w2 rModT (w2 rIxTT (wVar 5) (wC (.int 4))) (wC (.int 4))))))) (gN 0) tTrue w_L_law_c0 1 [2]))
    (sSeq (sIf (tCmpT cEqT (w2 rModT (w2 rIxTT (wVar 5) (wC (.int 5))) (wC (.int 2))) (wC (.int 0))) (sSet 6 (w2 rCatLT (w2 rCatLT (wSl (wVar 6) wo0 (wo (w2 rModT (w2 rIxTT (wVar 5) (wC (.int 3))) (wC (.int 4))))) (wLst (aCons (w2 rAddT (w2 rMulT (wC (.int 3)) (w2 rIxTT (wVar 5) (wC (.int 5)))) (wC (.int 2))) (aCons (wC (.int 9999)) aNil)))) (wSl (wVar 6) (wo (w2 rModT (w2 rIxTT (wVar 5) (wC (.int 3))) (wC (.int 4)))) wo0))) sNext)
    w_L_law_k0)))
def w_L_law : WS :=
  (sSeq (sSet 1 (wCall sp_L_plate (aCons (wCall sp_L_cell (aCons (wVar 0) (aCons (wC (.int 0)) aNil))) (aCons (wC (.int 3)) aNil))))
    (sSeq (sSet 2 (wCall sp_L_sun (aCons (wVar 0) (aCons (wVar 1) aNil))))
    (sSeq (sFor (iEnum (aCons (w2 rCatLT (wSl (wVar 0) (wo (wC (.int 16))) (wo (wC (.int 61)))) (wLst (aCons (wC (.int 11)) aNil))) aNil)) (gT 2 (gsC (gN 3) (gsC (gN 4) gs0))) w_L_law_b0)
    (sRet (wC (.bl true))))))
theorem at_sun {sn : List (Int × Tr)} {i : Int} (h0 : 0 ≤ i) (h1 : i < sn.length) : ∃ x ∈ sn, atI (sn.map sT) i = some (.tup [.int x.1, trT x.2]) := by
  have hi : i.toNat < sn.length := by omega
  refine ⟨sn[i.toNat], List.getElem_mem hi, ?_⟩
  have := at_nat (f := sT) (List.getElem?_eq_getElem hi)
  rw [Int.toNat_of_nonneg h0] at this
  exact this
theorem hours_comp {sn : List (Int × Tr)} (S : SunOk sn) (hs : 1 ≤ sn.length) (hs2 : sn.length ≤ 12) : ∀ (rs : List Int) (acc : List T) (x : Slot) (Q : List T → Prop), (∀ hd : List Int, hd.length = rs.length → (∀ y ∈ hd, 0 ≤ y ∧ y < 10000) → Q (acc ++ hd.map T.int)) →
    compT (gN 0) tTrue w_L_law_c0 (rs.map T.int) acc [x, .val (.lst (sn.map sT))] Q
  | [], acc, x, Q, h => by
    simp only [List.map_nil, compT]
    have := h [] rfl (fun y hy => absurd hy (by simp))
    simpa using this
  | r :: rs, acc, x, Q, h => by
    have f := fmod_pos r (b := ((sn.map sT).length : Int)) (by rw [List.length_map]; omega)
    obtain ⟨y, hy, ey⟩ := at_sun (sn := sn) f.1 (by rw [List.length_map] at f ⊢; exact f.2)
    have by' := S.hp y hy
    have i1 := hours_comp S hs hs2 rs (acc ++ [.int y.1]) (.val (.int r)) Q (fun hd hl hm => by
      have := h (y.1 :: hd) (by simp [hl]) (fun z hz => by
        rcases List.mem_cons.mp hz with rfl | hz
        · exact ⟨by'.2.1, by have := by'.2.2; omega⟩
        · exact hm z hz)
      simpa using this)
    have dv : (((sn.map sT).length : Nat) : Int) ≠ 0 := by rw [List.length_map]; omega
    simp only [List.map_cons, compT]
    generalize compT (gN 0) tTrue w_L_law_c0 (rs.map T.int) = F at i1 ⊢
    unfold w_L_law_c0
    walk_at "go"
    rw [ey]
    walk_at "go"
    exact i1
theorem cut_ints (xs : List Int) (lo hi : Option Int) : ∃ ys : List Int, cutT (xs.map T.int) lo hi = ys.map T.int ∧ ys.length ≤ xs.length ∧ ∀ y ∈ ys, y ∈ xs := by
  refine ⟨(xs.drop (HT.sIx xs.length 0 lo)).take (HT.sIx xs.length xs.length hi - HT.sIx xs.length 0 lo), ?_, ?_, fun y hy => List.mem_of_mem_drop (List.mem_of_mem_take hy)⟩
  · unfold cutT
    rw [List.length_map, List.map_take, List.map_drop]
  · rw [List.length_take, List.length_drop]
    omega
theorem pn_verd (s o : Tr) (sun : List (Int × Tr)) (hs : List Int) : Pn 1 (verd s o sun hs) := by
  have two : ∀ {nm : Str} {i : Int}, PyData.strOk nm = true → Pn 1 (.tup [.str nm, .int i]) := fun hn => Pn.tup fun y m => by
    rcases List.mem_cons.mp m with rfl | m
    · exact ⟨by simpa [plain, pd, PyData.canLay0] using hn, by simp [dep, pd, PyData.depth]⟩
    rw [List.mem_singleton.mp m]
    exact Pn.int _
  unfold verd
  split
  · exact two (by decide +kernel)
  · split
    · exact two (by decide +kernel)
    · exact two (by decide +kernel)
theorem law_k0 {D : DT} {c s o : Tr} {sn : List (Int × Tr)} {hs : List Int} {s0 s3 s4 s5 : Slot} (lc : LimT 6 c ∧ LimT 6 s ∧ LimT 6 o) (A : Ask s o sn hs)
    (h : D.nx [s0, .val (ptl c s o), .val (.lst (sn.map sT)), s3, s4, s5, .val (.lst (hs.map T.int))]) :
    w_L_law_k0 D [s0, .val (ptl c s o), .val (.lst (sn.map sT)), s3, s4, s5, .val (.lst (hs.map T.int))] := by
  have P := pn_verd s o sn hs
  unfold w_L_law_k0
  walk_at "go"
  refine ⟨c, s, o, sn, hs, rfl, lc, A, ?_⟩
  walk_at "go"
  refine ⟨c, s, o, sn, hs, rfl, lc.2, A, ?_⟩
  obtain ⟨v, hv⟩ : ∃ v, v = verd s o sn hs := ⟨_, rfl⟩
  rw [← hv] at P ⊢
  have key : ∀ {Q : Bool → Prop}, Q false → cNeT v v Q := fun {Q} q => by
    have h2 : EqOk v v ∧ Q (!eqT v v) := ⟨P.ok P (by decide), by rw [P.self]; exact q⟩
    cases v with
    | int i => show Q (!decide (i = i)); rw [decide_eq_true rfl]; exact q
    | _ => exact h2
  refine key ?_
  refine ⟨fun z => Bool.noConfusion z, fun _ => ?_⟩
  try walk_at "tw"
  exact h
theorem len6' {α : Type} {l : List α} (h : l.length = 6) : ∃ a b c d e f, l = [a, b, c, d, e, f] := by
  match l, h with
  | [a, b, c, d, e, f], _ => exact ⟨a, b, c, d, e, f, rfl⟩
theorem law_b0 {D : DT} {c s o : Tr} {sn : List (Int × Tr)} {k cc : Int} {s0 s5 s6 : Slot} (lc : LimT 6 c ∧ LimT 6 s ∧ LimT 6 o) (S : SunOk sn) (h1 : 1 ≤ sn.length) (h2 : sn.length ≤ 12) (k0 : 0 ≤ k) (k1 : k ≤ 100)
    (h : ∀ s5 s6, D.nx [s0, .val (ptl c s o), .val (.lst (sn.map sT)), .val (.int k), .val (.int cc), s5, s6]) :
    w_L_law_b0 D [s0, .val (ptl c s o), .val (.lst (sn.map sT)), .val (.int k), .val (.int cc), s5, s6] := by
  have d3 : DivOk (3 : Int) := divOk (by decide) (Lim.of (n := 1) (by decide) (by decide))
  unfold w_L_law_b0
  obtain ⟨W0, hW0⟩ : ∃ W, W = w_L_law_k0 := ⟨_, rfl⟩
  obtain ⟨C0, hC0⟩ : ∃ W, W = w_L_law_c0 := ⟨_, rfl⟩
  rw [← hW0, ← hC0]
  walk_at "go"
  refine ⟨cc.fdiv 3, k + 3, 12, 6, rfl, by omega, by omega, by decide, by decide, by decide, fun rs hl hd => ?_⟩
  obtain ⟨a, b, x, y, u, v, rfl⟩ := len6' hl
  have bv := hd v (by simp)
  obtain ⟨ys, ey, ly, _⟩ := cut_ints [a, b, x, y, u, v] none (some (1 + u.fmod 4))
  walk_at "go"
  rw [ey]
  refine ⟨by rw [List.length_map]; simp at ly; omega, ?_⟩
  rw [hC0]
  refine hours_comp S h1 h2 ys [] _ _ fun hd2 hl2 hb2 => ?_
  rw [List.nil_append]
  simp only [List.length_cons, List.length_nil] at ly
  walk_at "go"
  refine ⟨fun z => ?_, fun z => ?_⟩
  · obtain ⟨p, ep, lp, mp⟩ := cut_ints hd2 none (some (y.fmod 4))
    obtain ⟨q, eq, lq, mq⟩ := cut_ints hd2 (some (y.fmod 4)) none
    walk_at "go"
    rw [ep]
    walk_at "go"
    refine ⟨mulOkL (Lim.of (by decide) (by decide)), ?_⟩
    walk_at "go"
    refine ⟨by rw [List.length_map]; simp only [List.length_cons, List.length_nil]; omega, ?_⟩
    walk_at "go"
    rw [eq]
    walk_at "go"
    refine ⟨by simp only [List.length_append, List.length_map, List.length_cons, List.length_nil]; omega, ?_⟩
    have e : p.map T.int ++ [T.int (3 * v + 2), T.int 9999] ++ q.map T.int = (p ++ [3 * v + 2, 9999] ++ q).map T.int := by simp
    walk_at "go"
    rw [e]
    try walk_at "tw"
    rw [hW0]
    refine law_k0 lc ⟨by simp only [List.length_append, List.length_cons, List.length_nil]; omega, fun t ht => ?_, S⟩ (h _ _)
    rcases List.mem_append.mp ht with ht | ht
    · rcases List.mem_append.mp ht with ht | ht
      · exact hb2 t (mp t ht)
      · rcases List.mem_cons.mp ht with rfl | ht
        · exact ⟨by omega, by omega⟩
        · rw [List.mem_singleton.mp ht]
          exact ⟨by decide, by decide⟩
    · exact hb2 t (mq t ht)
  · walk_at "go"
    try walk_at "tw"
    rw [hW0]
    exact law_k0 lc ⟨by omega, hb2, S⟩ (h _ _)
theorem law_loop {D : DT} {c s o : Tr} {sn : List (Int × Tr)} {s0 : Slot} (lc : LimT 6 c ∧ LimT 6 s ∧ LimT 6 o) (S : SunOk sn) (h1 : 1 ≤ sn.length) (h2 : sn.length ≤ 12) (h : ∀ s3 s4 s5 s6, D.nx [s0, .val (ptl c s o), .val (.lst (sn.map sT)), s3, s4, s5, s6]) :
    ∀ (l : List Int) (k : Nat) (s3 s4 s5 s6 : Slot), k + l.length ≤ 90 → forT (gT 2 (gsC (gN 3) (gsC (gN 4) gs0))) w_L_law_b0 (enumT k (l.map T.int)) D [s0, .val (ptl c s o), .val (.lst (sn.map sT)), s3, s4, s5, s6]
  | [], k, s3, s4, s5, s6, _ => by
    simp only [List.map_nil, enumT, forT]
    exact h _ _ _ _
  | x :: l, k, s3, s4, s5, s6, hk => by
    rw [List.length_cons] at hk
    have ih := fun s3 s4 s5 s6 => law_loop (D := D) (c := c) (s0 := s0) lc S h1 h2 h l (k + 1) s3 s4 s5 s6 (by omega)
    simp only [List.map_cons, enumT, forT]
    generalize forT (gT 2 (gsC (gN 3) (gsC (gN 4) gs0))) w_L_law_b0 (enumT (k + 1) (l.map T.int)) D = F at ih ⊢
    obtain ⟨W0, hW0⟩ : ∃ W, W = w_L_law_b0 := ⟨_, rfl⟩
    rw [← hW0]
    walk_at "go"
    refine Eq.mpr (congrFun (congrFun hW0 _) _) ?_
    exact law_b0 (D := { D with nx := F, ct := F, bk := D.nx }) lc S h1 h2 (by omega) (by omega) fun s5 s6 => ih _ _ _ _
theorem ok_L_law : ∀ ts Q, lawSp ts Q → w_L_law { nx := fun _ => Q .non, rt := Q } (startT 7 ts) := by
  rintro _ Q ⟨ns, rfl, hl, h⟩
  unfold w_L_law
  obtain ⟨W0, hW0⟩ : ∃ W, W = w_L_law_b0 := ⟨_, rfl⟩
  rw [← hW0]
  walk_at "go"
  refine ⟨ns, 0, rfl, by decide, fun v => ?_⟩
  walk_at "go"
  refine ⟨v, 3, rfl, by decide, by decide, fun a0 b0 c0 d0 e0 f0 x0 y0 z0 S NF => ?_⟩
  walk_at "go"
  refine ⟨ns, (a0, b0, c0), (d0, e0, f0), (x0, y0, z0), rfl, ⟨S.2.1, S.2.2⟩, NF, fun sn hs h1 h2 => ?_⟩
  walk_at "go"
  have hc : (cutT (ns.map T.int) (some 16) (some 61)).length ≤ 63 := by
    unfold cutT
    rw [List.length_take, List.length_drop, List.length_map]
    omega
  refine ⟨by have : (List.length [T.int 11]) = 1 := rfl; omega, ?_⟩
  rw [hW0]
  obtain ⟨l, el⟩ : ∃ l : List Int, cutT (ns.map T.int) (some 16) (some 61) ++ [T.int 11] = l.map T.int := ⟨(ns.drop (HT.sIx ns.length 0 (some 16))).take (HT.sIx ns.length ns.length (some 61) - HT.sIx ns.length 0 (some 16)) ++ [11], by
    unfold cutT
    rw [List.length_map, List.map_append, List.map_take, List.map_drop]
    rfl⟩
  have ll : l.length ≤ 64 := by
    have := congrArg List.length el
    rw [List.length_append, List.length_map] at this
    simp only [List.length_singleton] at this
    omega
  rw [el]
  refine law_loop (D := { nx := sRet (wC (.bl true)) { nx := fun _ => Q .non, rt := Q }, rt := Q }) (c := (a0, b0, c0)) (s := (d0, e0, f0)) (o := (x0, y0, z0)) ⟨S.1.mono (by decide), S.2.1.mono (by decide), S.2.2.mono (by decide)⟩ hs h1 h2 (fun s3 s4 s5 s6 => ?_) l 0 _ _ _ _ (by omega)
  walk_at "go"
  exact h
local macro_rules | `(tactic| walk_at "v") => `(tactic| exact ⟨by first | exact Or.inl rfl | exact Or.inr (Or.inl rfl) | exact Or.inr (Or.inr rfl), by decide, by decide⟩)
local macro_rules | `(tactic| walk_at "s") => `(tactic| exact ⟨rfl, rfl, rfl, by decide +kernel, rfl, by decide +kernel, by decide +kernel⟩)
local macro_rules | `(tactic| walk_at "f") => `(tactic| first | exact .inl rfl | exact .inr rfl | assumption)
theorem jV {X : Cx} (i : Nat) {x : Str} {pos : Pos} (hN : X.N[i]? = some x) (h : Vis X.env.scope x ∧ (x == ("__debug__" : Str)) = false ∧ (x == ("__classdict__" : Str)) = false) : JE X (.Name x pos) (wVar i) := jv i hN h.1 h.2.1 h.2.2
def top (i : Nat) : Stmt := PySem.Challenge.pw_dialyard_k53_staffs_refused.main.body.getD i (.Pass ⟨0, 0, 0, 0⟩)
abbrev ini_NoHour : Stmt := inSt (top 7)
theorem sc_ini_NoHour : FnScope ["self", "hour"] ["self", "hour"] (defScope ini_NoHour) := by walk_at "s"
abbrev ini_NotLit : Stmt := inSt (top 6)
theorem sc_ini_NotLit : FnScope ["self", "hour"] ["self", "hour"] (defScope ini_NotLit) := by walk_at "s"
section
variable {P : Program} {w : World} {K : PySem.W.Frag} {mg : Str → Option Value} {base : Heap}
abbrev st_L_cell : Stmt := top 40
theorem sc_L_cell : FnScope ["_law_script", "_law_k"] ["_law_script", "_law_k"] (defScope st_L_cell) := by walk_at "s"
theorem fn_L_cell {f : Addr} {fd : FuncData} (F : Fun K "_law_cell" "_law_cell" st_L_cell f fd) (m : mg "_law_cell" = some (.ref f)) (z_len : mg "len" = none) : Cal P w K mg base 1 "_law_cell" ["_law_script", "_law_k"] sp_L_cell :=
  .mk F m (F.binds fun _ _ _ _ _ _ us hl => args2 hl fun _ _ => rfl) (fnT (W := w_L_cell) F sc_L_cell len_L_cell (fun cdv A outer s H E hr =>
    (@jsc _ _ _ _ _ (@jsif _ _ _ _ _ _ _ _ (@tcmp _ _ _ _ _ _ _ _ c_lt (@jV _ 1 _ _ rfl (by walk_at "v")) (@jblt _ _ _ _ _ _ _ _ _ bl_len rfl z_len boot_len (@ja _ _ _ _ _ (@jV _ 0 _ _ rfl (by walk_at "v")) (@ja0 _) (star1 rfl)) (by decide) (by decide) (star1 rfl) (stars rfl)) (nomark _)) (@js1 _ _ _ (@jret _ _ _ _ (@jix _ _ _ _ _ _ (@jV _ 0 _ _ rfl (by walk_at "v")) (@jV _ 1 _ _ rfl (by walk_at "v")) (fun _ _ => rfl)))) (@js0 _)) (@js1 _ _ _ (@jret _ _ _ _ (@ji _ _ _ _))))) ok_L_cell)
abbrev st_L_digits : Stmt := top 41
theorem sc_L_digits : FnScope ["_law_cell_here", "_law_k", "_law_many", "_law_size", "_law_number", "_law_found", "_law_turn"] ["_law_cell_here", "_law_k", "_law_many", "_law_size"] (defScope st_L_digits) := by walk_at "s"
theorem fn_L_digits {f : Addr} {fd : FuncData} (F : Fun K "_law_digits" "_law_digits" st_L_digits f fd) (m : mg "_law_digits" = some (.ref f)) (z_abs : mg "abs" = none) (z_range : mg "range" = none) : Cal P w K mg base 1 "_law_digits" ["_law_cell_here", "_law_k", "_law_many", "_law_size"] sp_L_digits :=
  .mk F m (F.binds fun _ _ _ _ _ _ us hl => args4 hl fun _ _ _ _ => rfl) (fnT (W := w_L_digits) F sc_L_digits len_L_digits (fun cdv A outer s H E hr =>
    (@jsc _ _ _ _ _ (@jset _ _ _ _ (4) _ _ sc_L_digits.nd rfl (Or.inl rfl) (@jop _ _ _ _ _ _ _ _ b_div (@jblt _ _ _ _ _ _ _ _ _ bl_abs rfl z_abs boot_abs (@ja _ _ _ _ _ (@jV _ 0 _ _ rfl (by walk_at "v")) (@ja0 _) (star1 rfl)) (by decide) (by decide) (star1 rfl) (stars rfl)) (@ji _ _ _ _)) (by rfl) (by walk_at "f")) (@jsc _ _ _ _ _ (@jown _ _ _ _ (5) _ _ _ sc_L_digits.nd rfl (Or.inl rfl) (@ja0 _) (by rfl) (by walk_at "f")) (@jsc _ _ _ _ _ (@jfor _ _ _ _ _ _ _ _ PassesOwn.never rfl (@jiRange1 _ _ _ _ _ _ rfl z_range (@ja _ _ _ _ _ (@jV _ 2 _ _ rfl (by walk_at "v")) (@ja0 _) (star1 rfl)) (by rfl)) (@jg _ _ (6) _ sc_L_digits.nd rfl (Or.inl rfl) (by walk_at "f")) (@js1 _ _ _ (@jsif _ _ _ _ _ _ _ _ (@jw _ _ _ (@tor _ _ _ _ _ _ _ (@tcmp _ _ _ _ _ _ _ _ (c_eq hr) (@jop _ _ _ _ _ _ _ _ b_mod (@jV _ 0 _ _ rfl (by walk_at "v")) (@ji _ _ _ _)) (@ji _ _ _ _) (nomark _)) (@tor1 _ _ _ _ (@tcmp _ _ _ _ _ _ _ _ (c_eq hr) (@jV _ 4 _ _ rfl (by walk_at "v")) (@ji _ _ _ _) (nomark _))))) (@jsc _ _ _ _ _ (@jset _ _ _ _ (4) _ _ sc_L_digits.nd rfl (Or.inl rfl) (@jop _ _ _ _ _ _ _ _ b_add (@jop _ _ _ _ _ _ _ _ b_mod (@jop _ _ _ _ _ _ _ _ b_add (@jV _ 4 _ _ rfl (by walk_at "v")) (@jV _ 0 _ _ rfl (by walk_at "v"))) (@ji _ _ _ _)) (@ji _ _ _ _)) (by rfl) (by walk_at "f")) (@jsc _ _ _ _ _ (@jset _ _ _ _ (4) _ _ sc_L_digits.nd rfl (Or.inl rfl) (@jop _ _ _ _ _ _ _ _ b_add (@jV _ 4 _ _ rfl (by walk_at "v")) (@jop _ _ _ _ _ _ _ _ b_mul (@jop _ _ _ _ _ _ _ _ b_mul (@ji _ _ _ _) (@jop _ _ _ _ _ _ _ _ b_add (@jV _ 1 _ _ rfl (by walk_at "v")) (@jV _ 6 _ _ rfl (by walk_at "v")))) (@jop _ _ _ _ _ _ _ _ b_add (@jV _ 1 _ _ rfl (by walk_at "v")) (@jV _ 6 _ _ rfl (by walk_at "v"))))) (by rfl) (by walk_at "f")) (@jsc _ _ _ _ _ (@jset _ _ _ _ (4) _ _ sc_L_digits.nd rfl (Or.inl rfl) (@jop _ _ _ _ _ _ _ _ b_mod (@jop _ _ _ _ _ _ _ _ b_mul (@jV _ 4 _ _ rfl (by walk_at "v")) (@jV _ 4 _ _ rfl (by walk_at "v"))) (@ji _ _ _ _)) (by rfl) (by walk_at "f")) (@js1 _ _ _ (@japp _ _ _ _ _ _ _ _ _ (pv 5) (@jop _ _ _ _ _ _ _ _ b_mod (@jop _ _ _ _ _ _ _ _ b_div (@jV _ 4 _ _ rfl (by walk_at "v")) (@ji _ _ _ _)) (@jV _ 3 _ _ rfl (by walk_at "v"))) (by rfl) (by rfl) (by rfl) (by rfl) (by rfl) (by rfl)))))) (@jsc _ _ _ _ _ (@japp _ _ _ _ _ _ _ _ _ (pv 5) (@jop _ _ _ _ _ _ _ _ b_mod (@jV _ 4 _ _ rfl (by walk_at "v")) (@jV _ 3 _ _ rfl (by walk_at "v"))) (by rfl) (by rfl) (by rfl) (by rfl) (by rfl) (by rfl)) (@js1 _ _ _ (@jset _ _ _ _ (4) _ _ sc_L_digits.nd rfl (Or.inl rfl) (@jop _ _ _ _ _ _ _ _ b_div (@jV _ 4 _ _ rfl (by walk_at "v")) (@jV _ 3 _ _ rfl (by walk_at "v"))) (by rfl) (by walk_at "f")))))) (fun _ => rfl)) (@jfrz _ _ 5 _ (@js1 _ _ _ (@jret _ _ _ _ (@jV _ 5 _ _ rfl (by walk_at "v"))))))))) ok_L_digits)
abbrev st_L_cross : Stmt := top 42
theorem sc_L_cross : FnScope ["_law_one", "_law_other", "_law_a", "_law_b", "_law_c", "_law_d", "_law_e", "_law_f"] ["_law_one", "_law_other"] (defScope st_L_cross) := by walk_at "s"
theorem fn_L_cross {f : Addr} {fd : FuncData} (F : Fun K "_law_cross" "_law_cross" st_L_cross f fd) (m : mg "_law_cross" = some (.ref f)) : Cal P w K mg base 1 "_law_cross" ["_law_one", "_law_other"] sp_L_cross :=
  .mk F m (F.binds fun _ _ _ _ _ _ us hl => args2 hl fun _ _ => rfl) (fnT (W := w_L_cross) F sc_L_cross len_L_cross (fun cdv A outer s H E hr =>
    (@jsc _ _ _ _ _ (@jasg _ _ _ _ _ _ (@jgt _ _ _ _ _ _ rfl (@jgsc _ _ _ _ _ (@jg _ _ (2) _ sc_L_cross.nd rfl (Or.inl rfl) (by walk_at "f")) (@jgsc _ _ _ _ _ (@jg _ _ (3) _ sc_L_cross.nd rfl (Or.inl rfl) (by walk_at "f")) (@jgsc _ _ _ _ _ (@jg _ _ (4) _ sc_L_cross.nd rfl (Or.inl rfl) (by walk_at "f")) (@jgs0 _) (by rfl)) (by rfl)) (by rfl)) (by rfl) (by rfl)) (@jV _ 0 _ _ rfl (by walk_at "v")) (by rfl) (by rfl) (by rfl)) (@jsc _ _ _ _ _ (@jasg _ _ _ _ _ _ (@jgt _ _ _ _ _ _ rfl (@jgsc _ _ _ _ _ (@jg _ _ (5) _ sc_L_cross.nd rfl (Or.inl rfl) (by walk_at "f")) (@jgsc _ _ _ _ _ (@jg _ _ (6) _ sc_L_cross.nd rfl (Or.inl rfl) (by walk_at "f")) (@jgsc _ _ _ _ _ (@jg _ _ (7) _ sc_L_cross.nd rfl (Or.inl rfl) (by walk_at "f")) (@jgs0 _) (by rfl)) (by rfl)) (by rfl)) (by rfl) (by rfl)) (@jV _ 1 _ _ rfl (by walk_at "v")) (by rfl) (by rfl) (by rfl)) (@js1 _ _ _ (@jret _ _ _ _ (@jtup _ _ _ _ _ (@ja _ _ _ _ _ (@jop _ _ _ _ _ _ _ _ b_sub (@jop _ _ _ _ _ _ _ _ b_mul (@jV _ 3 _ _ rfl (by walk_at "v")) (@jV _ 7 _ _ rfl (by walk_at "v"))) (@jop _ _ _ _ _ _ _ _ b_mul (@jV _ 4 _ _ rfl (by walk_at "v")) (@jV _ 6 _ _ rfl (by walk_at "v")))) (@ja _ _ _ _ _ (@jop _ _ _ _ _ _ _ _ b_sub (@jop _ _ _ _ _ _ _ _ b_mul (@jV _ 4 _ _ rfl (by walk_at "v")) (@jV _ 5 _ _ rfl (by walk_at "v"))) (@jop _ _ _ _ _ _ _ _ b_mul (@jV _ 2 _ _ rfl (by walk_at "v")) (@jV _ 7 _ _ rfl (by walk_at "v")))) (@ja _ _ _ _ _ (@jop _ _ _ _ _ _ _ _ b_sub (@jop _ _ _ _ _ _ _ _ b_mul (@jV _ 2 _ _ rfl (by walk_at "v")) (@jV _ 6 _ _ rfl (by walk_at "v"))) (@jop _ _ _ _ _ _ _ _ b_mul (@jV _ 3 _ _ rfl (by walk_at "v")) (@jV _ 5 _ _ rfl (by walk_at "v")))) (@ja0 _) (star1 rfl)) (star1 rfl)) (star1 rfl)))))))) ok_L_cross)
abbrev st_L_plate : Stmt := top 44
theorem sc_L_plate : FnScope ["_law_cell_here", "_law_k", "_law_size", "_law_row", "_law_plate_here"] ["_law_cell_here", "_law_k"] (defScope st_L_plate) := by walk_at "s"
theorem fn_L_plate {f : Addr} {fd : FuncData} (F : Fun K "_law_plate" "_law_plate" st_L_plate f fd) (m : mg "_law_plate" = some (.ref f)) (C_L_digits : Cal P w K mg base 1 "_law_digits" ["_law_cell_here", "_law_k", "_law_many", "_law_size"] sp_L_digits) (C_L_cross : Cal P w K mg base 1 "_law_cross" ["_law_one", "_law_other"] sp_L_cross) (z_tuple : mg "tuple" = none) : Cal P w K mg base 2 "_law_plate" ["_law_cell_here", "_law_k"] sp_L_plate :=
  .mk F m (F.binds fun _ _ _ _ _ _ us hl => args2 hl fun _ _ => rfl) (fnT (W := w_L_plate) F sc_L_plate len_L_plate (fun cdv A outer s H E hr =>
    (@jsc _ _ _ _ _ (@jset _ _ _ _ (2) _ _ sc_L_plate.nd rfl (Or.inr rfl) (@jix _ _ _ _ _ _ (@jlst _ _ _ _ (@ja _ _ _ _ _ (@ji _ _ _ _) (@ja _ _ _ _ _ (@ji _ _ _ _) (@ja _ _ _ _ _ (@ji _ _ _ _) (@ja _ _ _ _ _ (@ji _ _ _ _) (@ja0 _) (star1 rfl)) (star1 rfl)) (star1 rfl)) (star1 rfl))) (@jop _ _ _ _ _ _ _ _ b_mod (@jop _ _ _ _ _ _ _ _ b_div (@jV _ 0 _ _ rfl (by walk_at "v")) (@ji _ _ _ _)) (@ji _ _ _ _)) (fun _ _ => rfl)) (by rfl) (by walk_at "f")) (@jsc _ _ _ _ _ (@jsetc _ _ _ _ _ _ _ (defScope st_L_plate) (["_law_number"]) (["_law_cell_here" , "_law_k" , "_law_size" , "_law_row" , "_law_plate_here"]) ([("_law_size" , 2)]) _ _ _ _ (3) _ _ _ sc_L_plate.nd rfl (Or.inl rfl) rfl rfl rfl (@jiSeq _ _ _ _ (@jcallC _ _ _ _ _ _ _ _ _ _ C_L_digits (hr.mono (by omega)) rfl (@ja _ _ _ _ _ (@jop _ _ _ _ _ _ _ _ b_add (@jop _ _ _ _ _ _ _ _ b_mul (@jop _ _ _ _ _ _ _ _ b_div (@jV _ 0 _ _ rfl (by walk_at "v")) (@ji _ _ _ _)) (@ji _ _ _ _)) (@jop _ _ _ _ _ _ _ _ b_mod (@jV _ 0 _ _ rfl (by walk_at "v")) (@ji _ _ _ _))) (@ja _ _ _ _ _ (@jV _ 1 _ _ rfl (by walk_at "v")) (@ja _ _ _ _ _ (@ji _ _ _ _) (@ja _ _ _ _ _ (@jV _ 2 _ _ rfl (by walk_at "v")) (@ja0 _) (star1 rfl)) (star1 rfl)) (star1 rfl)) (star1 rfl)) (by decide) (star1 rfl) (stars rfl))) rfl rfl (by decide +kernel) (by decide +kernel) (by decide +kernel) (by decide +kernel) (fun cl C s3 H2 ex => (@jg _ _ (0) _ (show List.Nodup (["_law_number" , "_law_size"] : List Str) from by decide +kernel) rfl (Or.inl rfl) (by walk_at "f"))) (fun cl C s3 H2 ex => (@jts0 _)) (fun cl C s3 H2 ex => (@jop _ _ _ _ _ _ _ _ b_sub (@jV _ 0 _ _ rfl (by walk_at "v")) (@jop _ _ _ _ _ _ _ _ b_div (@jV _ 1 _ _ rfl (by walk_at "v")) (@ji _ _ _ _)))) (fun _ => rfl) (by rfl) (by walk_at "f")) (@jsc _ _ _ _ _ (@jset _ _ _ _ (4) _ _ sc_L_plate.nd rfl (Or.inl rfl) (@jtup _ _ _ _ _ (@ja _ _ _ _ _ (@jty _ _ _ _ _ _ _ _ _ ty_tuple rfl z_tuple boot_tuple (@ja _ _ _ _ _ (@jsl _ _ _ _ _ _ _ _ _ (@jV _ 3 _ _ rfl (by walk_at "v")) (@jo0 _) (@jo _ _ _ (@ji _ _ _ _))) (@ja0 _) (star1 rfl)) (by decide) (by decide) (star1 rfl) (stars rfl)) (@ja _ _ _ _ _ (@jty _ _ _ _ _ _ _ _ _ ty_tuple rfl z_tuple boot_tuple (@ja _ _ _ _ _ (@jsl _ _ _ _ _ _ _ _ _ (@jV _ 3 _ _ rfl (by walk_at "v")) (@jo _ _ _ (@ji _ _ _ _)) (@jo _ _ _ (@ji _ _ _ _))) (@ja0 _) (star1 rfl)) (by decide) (by decide) (star1 rfl) (stars rfl)) (@ja _ _ _ _ _ (@jty _ _ _ _ _ _ _ _ _ ty_tuple rfl z_tuple boot_tuple (@ja _ _ _ _ _ (@jsl _ _ _ _ _ _ _ _ _ (@jV _ 3 _ _ rfl (by walk_at "v")) (@jo _ _ _ (@ji _ _ _ _)) (@jo0 _)) (@ja0 _) (star1 rfl)) (by decide) (by decide) (star1 rfl) (stars rfl)) (@ja0 _) (star1 rfl)) (star1 rfl)) (star1 rfl))) (by rfl) (by walk_at "f")) (@jsc _ _ _ _ _ (@jsif _ _ _ _ _ _ _ _ (@tcmp _ _ _ _ _ _ _ _ (c_eq hr) (@jcallC _ _ _ _ _ _ _ _ _ _ C_L_cross (hr.mono (by omega)) rfl (@ja _ _ _ _ _ (@jix _ _ _ _ _ _ (@jV _ 4 _ _ rfl (by walk_at "v")) (@ji _ _ _ _) (fun _ _ => rfl)) (@ja _ _ _ _ _ (@jix _ _ _ _ _ _ (@jV _ 4 _ _ rfl (by walk_at "v")) (@ji _ _ _ _) (fun _ _ => rfl)) (@ja0 _) (star1 rfl)) (star1 rfl)) (by decide) (star1 rfl) (stars rfl)) (@jtup _ _ _ _ _ (@ja _ _ _ _ _ (@ji _ _ _ _) (@ja _ _ _ _ _ (@ji _ _ _ _) (@ja _ _ _ _ _ (@ji _ _ _ _) (@ja0 _) (star1 rfl)) (star1 rfl)) (star1 rfl))) (nomark _)) (@js1 _ _ _ (@jret _ _ _ _ (@jtup _ _ _ _ _ (@ja _ _ _ _ _ (@jix _ _ _ _ _ _ (@jV _ 4 _ _ rfl (by walk_at "v")) (@ji _ _ _ _) (fun _ _ => rfl)) (@ja _ _ _ _ _ (@jtup _ _ _ _ _ (@ja _ _ _ _ _ (@ji _ _ _ _) (@ja _ _ _ _ _ (@ji _ _ _ _) (@ja _ _ _ _ _ (@ji _ _ _ _) (@ja0 _) (star1 rfl)) (star1 rfl)) (star1 rfl))) (@ja _ _ _ _ _ (@jtup _ _ _ _ _ (@ja _ _ _ _ _ (@ji _ _ _ _) (@ja _ _ _ _ _ (@ji _ _ _ _) (@ja _ _ _ _ _ (@ji _ _ _ _) (@ja0 _) (star1 rfl)) (star1 rfl)) (star1 rfl))) (@ja0 _) (star1 rfl)) (star1 rfl)) (star1 rfl))))) (@js0 _)) (@js1 _ _ _ (@jret _ _ _ _ (@jV _ 4 _ _ rfl (by walk_at "v"))))))))) ok_L_plate)
abbrev st_L_front : Stmt := top 45
theorem sc_L_front : FnScope ["_law_plate_here"] ["_law_plate_here"] (defScope st_L_front) := by walk_at "s"
theorem fn_L_front {f : Addr} {fd : FuncData} (F : Fun K "_law_front" "_law_front" st_L_front f fd) (m : mg "_law_front" = some (.ref f)) (C_L_cross : Cal P w K mg base 1 "_law_cross" ["_law_one", "_law_other"] sp_L_cross) : Cal P w K mg base 2 "_law_front" ["_law_plate_here"] sp_L_front :=
  .mk F m (F.binds fun _ _ _ _ _ _ us hl => args1 hl fun _ => rfl) (fnT (W := w_L_front) F sc_L_front len_L_front (fun cdv A outer s H E hr =>
    (@js1 _ _ _ (@jret _ _ _ _ (@jcallC _ _ _ _ _ _ _ _ _ _ C_L_cross (hr.mono (by omega)) rfl (@ja _ _ _ _ _ (@jix _ _ _ _ _ _ (@jV _ 0 _ _ rfl (by walk_at "v")) (@ji _ _ _ _) (fun _ _ => rfl)) (@ja _ _ _ _ _ (@jix _ _ _ _ _ _ (@jV _ 0 _ _ rfl (by walk_at "v")) (@ji _ _ _ _) (fun _ _ => rfl)) (@ja0 _) (star1 rfl)) (star1 rfl)) (by decide) (star1 rfl) (stars rfl))))) ok_L_front)
abbrev st_L_dot : Stmt := top 43
theorem sc_L_dot : FnScope ["_law_one", "_law_other"] ["_law_one", "_law_other"] (defScope st_L_dot) := by walk_at "s"
theorem fn_L_dot {f : Addr} {fd : FuncData} (F : Fun K "_law_dot" "_law_dot" st_L_dot f fd) (m : mg "_law_dot" = some (.ref f)) : Cal P w K mg base 1 "_law_dot" ["_law_one", "_law_other"] sp_L_dot :=
  .mk F m (F.binds fun _ _ _ _ _ _ us hl => args2 hl fun _ _ => rfl) (fnT (W := w_L_dot) F sc_L_dot len_L_dot (fun cdv A outer s H E hr =>
    (@js1 _ _ _ (@jret _ _ _ _ (@jop _ _ _ _ _ _ _ _ b_add (@jop _ _ _ _ _ _ _ _ b_add (@jop _ _ _ _ _ _ _ _ b_mul (@jix _ _ _ _ _ _ (@jV _ 0 _ _ rfl (by walk_at "v")) (@ji _ _ _ _) (fun _ _ => rfl)) (@jix _ _ _ _ _ _ (@jV _ 1 _ _ rfl (by walk_at "v")) (@ji _ _ _ _) (fun _ _ => rfl))) (@jop _ _ _ _ _ _ _ _ b_mul (@jix _ _ _ _ _ _ (@jV _ 0 _ _ rfl (by walk_at "v")) (@ji _ _ _ _) (fun _ _ => rfl)) (@jix _ _ _ _ _ _ (@jV _ 1 _ _ rfl (by walk_at "v")) (@ji _ _ _ _) (fun _ _ => rfl)))) (@jop _ _ _ _ _ _ _ _ b_mul (@jix _ _ _ _ _ _ (@jV _ 0 _ _ rfl (by walk_at "v")) (@ji _ _ _ _) (fun _ _ => rfl)) (@jix _ _ _ _ _ _ (@jV _ 1 _ _ rfl (by walk_at "v")) (@ji _ _ _ _) (fun _ _ => rfl))))))) ok_L_dot)
abbrev st_L_lit : Stmt := top 46
theorem sc_L_lit : FnScope ["_law_plate_here", "_law_cell_here", "_law_k", "_law_size", "_law_direction", "_law_ahead"] ["_law_plate_here", "_law_cell_here", "_law_k"] (defScope st_L_lit) := by walk_at "s"
theorem fn_L_lit {f : Addr} {fd : FuncData} (F : Fun K "_law_lit" "_law_lit" st_L_lit f fd) (m : mg "_law_lit" = some (.ref f)) (C_L_digits : Cal P w K mg base 1 "_law_digits" ["_law_cell_here", "_law_k", "_law_many", "_law_size"] sp_L_digits) (C_L_front : Cal P w K mg base 2 "_law_front" ["_law_plate_here"] sp_L_front) (C_L_dot : Cal P w K mg base 1 "_law_dot" ["_law_one", "_law_other"] sp_L_dot) (z_tuple : mg "tuple" = none) : Cal P w K mg base 3 "_law_lit" ["_law_plate_here", "_law_cell_here", "_law_k"] sp_L_lit :=
  .mk F m (F.binds fun _ _ _ _ _ _ us hl => args3 hl fun _ _ _ => rfl) (fnT (W := w_L_lit) F sc_L_lit len_L_lit (fun cdv A outer s H E hr =>
    (@jsc _ _ _ _ _ (@jset _ _ _ _ (3) _ _ sc_L_lit.nd rfl (Or.inr rfl) (@jix _ _ _ _ _ _ (@jlst _ _ _ _ (@ja _ _ _ _ _ (@ji _ _ _ _) (@ja _ _ _ _ _ (@ji _ _ _ _) (@ja _ _ _ _ _ (@ji _ _ _ _) (@ja _ _ _ _ _ (@ji _ _ _ _) (@ja0 _) (star1 rfl)) (star1 rfl)) (star1 rfl)) (star1 rfl))) (@jop _ _ _ _ _ _ _ _ b_mod (@jop _ _ _ _ _ _ _ _ b_div (@jV _ 1 _ _ rfl (by walk_at "v")) (@ji _ _ _ _)) (@ji _ _ _ _)) (fun _ _ => rfl)) (by rfl) (by walk_at "f")) (@jsc _ _ _ _ _ (@jset _ _ _ _ (4) _ _ sc_L_lit.nd rfl (Or.inl rfl) (@jty _ _ _ _ _ _ _ _ _ ty_tuple rfl z_tuple boot_tuple (@ja _ _ _ _ _ (@jcomp _ _ _ _ _ _ _ (defScope st_L_lit) (["_law_number"]) (["_law_plate_here" , "_law_cell_here" , "_law_k" , "_law_size" , "_law_direction" , "_law_ahead"]) ([("_law_size" , 3)]) _ _ _ _ rfl rfl rfl (@jiSeq _ _ _ _ (@jcallC _ _ _ _ _ _ _ _ _ _ C_L_digits (hr.mono (by omega)) rfl (@ja _ _ _ _ _ (@jop _ _ _ _ _ _ _ _ b_add (@jop _ _ _ _ _ _ _ _ b_mul (@jop _ _ _ _ _ _ _ _ b_div (@jV _ 1 _ _ rfl (by walk_at "v")) (@ji _ _ _ _)) (@ji _ _ _ _)) (@jop _ _ _ _ _ _ _ _ b_mod (@jV _ 1 _ _ rfl (by walk_at "v")) (@ji _ _ _ _))) (@ja _ _ _ _ _ (@jV _ 2 _ _ rfl (by walk_at "v")) (@ja _ _ _ _ _ (@ji _ _ _ _) (@ja _ _ _ _ _ (@jV _ 3 _ _ rfl (by walk_at "v")) (@ja0 _) (star1 rfl)) (star1 rfl)) (star1 rfl)) (star1 rfl)) (by decide) (star1 rfl) (stars rfl))) rfl rfl (by decide +kernel) (by decide +kernel) (by decide +kernel) (by decide +kernel) (fun cl C s3 H2 ex => (@jg _ _ (0) _ (show List.Nodup (["_law_number" , "_law_size"] : List Str) from by decide +kernel) rfl (Or.inl rfl) (by walk_at "f"))) (fun cl C s3 H2 ex => (@jts0 _)) (fun cl C s3 H2 ex => (@jop _ _ _ _ _ _ _ _ b_sub (@jV _ 0 _ _ rfl (by walk_at "v")) (@jop _ _ _ _ _ _ _ _ b_div (@jV _ 1 _ _ rfl (by walk_at "v")) (@ji _ _ _ _)))) (fun _ => rfl)) (@ja0 _) (star1 rfl)) (by decide) (by decide) (star1 rfl) (stars rfl)) (by rfl) (by walk_at "f")) (@jsc _ _ _ _ _ (@jset _ _ _ _ (5) _ _ sc_L_lit.nd rfl (Or.inl rfl) (@jcallC _ _ _ _ _ _ _ _ _ _ C_L_dot (hr.mono (by omega)) rfl (@ja _ _ _ _ _ (@jV _ 4 _ _ rfl (by walk_at "v")) (@ja _ _ _ _ _ (@jcallC _ _ _ _ _ _ _ _ _ _ C_L_front (hr.mono (by omega)) rfl (@ja _ _ _ _ _ (@jV _ 0 _ _ rfl (by walk_at "v")) (@ja0 _) (star1 rfl)) (by decide) (star1 rfl) (stars rfl)) (@ja0 _) (star1 rfl)) (star1 rfl)) (by decide) (star1 rfl) (stars rfl)) (by rfl) (by walk_at "f")) (@jsc _ _ _ _ _ (@jsif _ _ _ _ _ _ _ _ (@tcmp _ _ _ _ _ _ _ _ (c_eq hr) (@jV _ 5 _ _ rfl (by walk_at "v")) (@ji _ _ _ _) (nomark _)) (@js1 _ _ _ (@jret _ _ _ _ (@jcallC _ _ _ _ _ _ _ _ _ _ C_L_front (hr.mono (by omega)) rfl (@ja _ _ _ _ _ (@jV _ 0 _ _ rfl (by walk_at "v")) (@ja0 _) (star1 rfl)) (by decide) (star1 rfl) (stars rfl)))) (@js0 _)) (@jsc _ _ _ _ _ (@jsif _ _ _ _ _ _ _ _ (@tcmp _ _ _ _ _ _ _ _ c_lt (@jV _ 5 _ _ rfl (by walk_at "v")) (@ji _ _ _ _) (nomark _)) (@js1 _ _ _ (@jret _ _ _ _ (@jtup _ _ _ _ _ (@ja _ _ _ _ _ (@jop _ _ _ _ _ _ _ _ b_sub (@ji _ _ _ _) (@jix _ _ _ _ _ _ (@jV _ 4 _ _ rfl (by walk_at "v")) (@ji _ _ _ _) (fun _ _ => rfl))) (@ja _ _ _ _ _ (@jop _ _ _ _ _ _ _ _ b_sub (@ji _ _ _ _) (@jix _ _ _ _ _ _ (@jV _ 4 _ _ rfl (by walk_at "v")) (@ji _ _ _ _) (fun _ _ => rfl))) (@ja _ _ _ _ _ (@jop _ _ _ _ _ _ _ _ b_sub (@ji _ _ _ _) (@jix _ _ _ _ _ _ (@jV _ 4 _ _ rfl (by walk_at "v")) (@ji _ _ _ _) (fun _ _ => rfl))) (@ja0 _) (star1 rfl)) (star1 rfl)) (star1 rfl))))) (@js0 _)) (@js1 _ _ _ (@jret _ _ _ _ (@jV _ 4 _ _ rfl (by walk_at "v")))))))))) ok_L_lit)
abbrev st_L_sun : Stmt := top 47
theorem sc_L_sun : FnScope ["_law_script", "_law_plate_here", "_law_sun_here", "_law_k", "_law_cell_here", "_law_direction"] ["_law_script", "_law_plate_here"] (defScope st_L_sun) := by walk_at "s"
theorem fn_L_sun {f : Addr} {fd : FuncData} (F : Fun K "_law_sun" "_law_sun" st_L_sun f fd) (m : mg "_law_sun" = some (.ref f)) (C_L_cell : Cal P w K mg base 1 "_law_cell" ["_law_script", "_law_k"] sp_L_cell) (C_L_lit : Cal P w K mg base 3 "_law_lit" ["_law_plate_here", "_law_cell_here", "_law_k"] sp_L_lit) (z_range : mg "range" = none) : Cal P w K mg base 4 "_law_sun" ["_law_script", "_law_plate_here"] sp_L_sun :=
  .mk F m (F.binds fun _ _ _ _ _ _ us hl => args2 hl fun _ _ => rfl) (fnT (W := w_L_sun) F sc_L_sun len_L_sun (fun cdv A outer s H E hr =>
    (@jsc _ _ _ _ _ (@jown _ _ _ _ (2) _ _ _ sc_L_sun.nd rfl (Or.inl rfl) (@ja0 _) (by rfl) (by walk_at "f")) (@jsc _ _ _ _ _ (@jfor _ _ _ _ _ _ _ _ PassesOwn.never rfl (@jiRange1 _ _ _ _ _ _ rfl z_range (@ja _ _ _ _ _ (@jop _ _ _ _ _ _ _ _ b_add (@ji _ _ _ _) (@jop _ _ _ _ _ _ _ _ b_mod (@jcallC _ _ _ _ _ _ _ _ _ _ C_L_cell (hr.mono (by omega)) rfl (@ja _ _ _ _ _ (@jV _ 0 _ _ rfl (by walk_at "v")) (@ja _ _ _ _ _ (@ji _ _ _ _) (@ja0 _) (star1 rfl)) (star1 rfl)) (by decide) (star1 rfl) (stars rfl)) (@ji _ _ _ _))) (@ja0 _) (star1 rfl)) (by rfl)) (@jg _ _ (3) _ sc_L_sun.nd rfl (Or.inl rfl) (by walk_at "f")) (@jsc _ _ _ _ _ (@jset _ _ _ _ (4) _ _ sc_L_sun.nd rfl (Or.inl rfl) (@jcallC _ _ _ _ _ _ _ _ _ _ C_L_cell (hr.mono (by omega)) rfl (@ja _ _ _ _ _ (@jV _ 0 _ _ rfl (by walk_at "v")) (@ja _ _ _ _ _ (@jop _ _ _ _ _ _ _ _ b_add (@ji _ _ _ _) (@jV _ 3 _ _ rfl (by walk_at "v"))) (@ja0 _) (star1 rfl)) (star1 rfl)) (by decide) (star1 rfl) (stars rfl)) (by rfl) (by walk_at "f")) (@jsc _ _ _ _ _ (@jset _ _ _ _ (5) _ _ sc_L_sun.nd rfl (Or.inl rfl) (@jcallC _ _ _ _ _ _ _ _ _ _ C_L_lit (hr.mono (by omega)) rfl (@ja _ _ _ _ _ (@jV _ 1 _ _ rfl (by walk_at "v")) (@ja _ _ _ _ _ (@jV _ 4 _ _ rfl (by walk_at "v")) (@ja _ _ _ _ _ (@jop _ _ _ _ _ _ _ _ b_add (@jV _ 3 _ _ rfl (by walk_at "v")) (@ji _ _ _ _)) (@ja0 _) (star1 rfl)) (star1 rfl)) (star1 rfl)) (by decide) (star1 rfl) (stars rfl)) (by rfl) (by walk_at "f")) (@jsc _ _ _ _ _ (@jsif _ _ _ _ _ _ _ _ (@tcmp _ _ _ _ _ _ _ _ (c_eq hr) (@jop _ _ _ _ _ _ _ _ b_mod (@jop _ _ _ _ _ _ _ _ b_div (@jV _ 4 _ _ rfl (by walk_at "v")) (@ji _ _ _ _)) (@ji _ _ _ _)) (@ji _ _ _ _) (nomark _)) (@js1 _ _ _ (@jset _ _ _ _ (5) _ _ sc_L_sun.nd rfl (Or.inl rfl) (@jtup _ _ _ _ _ (@ja _ _ _ _ _ (@jop _ _ _ _ _ _ _ _ b_sub (@ji _ _ _ _) (@jix _ _ _ _ _ _ (@jV _ 5 _ _ rfl (by walk_at "v")) (@ji _ _ _ _) (fun _ _ => rfl))) (@ja _ _ _ _ _ (@jop _ _ _ _ _ _ _ _ b_sub (@ji _ _ _ _) (@jix _ _ _ _ _ _ (@jV _ 5 _ _ rfl (by walk_at "v")) (@ji _ _ _ _) (fun _ _ => rfl))) (@ja _ _ _ _ _ (@jop _ _ _ _ _ _ _ _ b_sub (@ji _ _ _ _) (@jix _ _ _ _ _ _ (@jV _ 5 _ _ rfl (by walk_at "v")) (@ji _ _ _ _) (fun _ _ => rfl))) (@ja0 _) (star1 rfl)) (star1 rfl)) (star1 rfl))) (by rfl) (by walk_at "f"))) (@js0 _)) (@jsc _ _ _ _ _ (@jsif _ _ _ _ _ _ _ _ (@tcmp _ _ _ _ _ _ _ _ (c_eq hr) (@jop _ _ _ _ _ _ _ _ b_mod (@jop _ _ _ _ _ _ _ _ b_div (@jV _ 4 _ _ rfl (by walk_at "v")) (@ji _ _ _ _)) (@ji _ _ _ _)) (@ji _ _ _ _) (nomark _)) (@js1 _ _ _ (@jset _ _ _ _ (5) _ _ sc_L_sun.nd rfl (Or.inl rfl) (@jix _ _ _ _ _ _ (@jlst _ _ _ _ (@ja _ _ _ _ _ (@jix _ _ _ _ _ _ (@jV _ 1 _ _ rfl (by walk_at "v")) (@ji _ _ _ _) (fun _ _ => rfl)) (@ja _ _ _ _ _ (@jix _ _ _ _ _ _ (@jV _ 1 _ _ rfl (by walk_at "v")) (@ji _ _ _ _) (fun _ _ => rfl)) (@ja0 _) (star1 rfl)) (star1 rfl))) (@jop _ _ _ _ _ _ _ _ b_mod (@jV _ 3 _ _ rfl (by walk_at "v")) (@ji _ _ _ _)) (fun _ _ => rfl)) (by rfl) (by walk_at "f"))) (@js0 _)) (@js1 _ _ _ (@japp _ _ _ _ _ _ _ _ _ (pv 2) (@jtup _ _ _ _ _ (@ja _ _ _ _ _ (@jop _ _ _ _ _ _ _ _ b_add (@jop _ _ _ _ _ _ _ _ b_mul (@ji _ _ _ _) (@jV _ 3 _ _ rfl (by walk_at "v"))) (@ji _ _ _ _)) (@ja _ _ _ _ _ (@jV _ 5 _ _ rfl (by walk_at "v")) (@ja0 _) (star1 rfl)) (star1 rfl))) (by rfl) (by rfl) (by rfl) (by rfl) (by rfl) (by rfl))))))) (fun _ => rfl)) (@jfrz _ _ 2 _ (@js1 _ _ _ (@jret _ _ _ _ (@jV _ 2 _ _ rfl (by walk_at "v")))))))) ok_L_sun)
abbrev st_P_is_whole : Stmt := top 10
theorem sc_P_is_whole : FnScope ["thing"] ["thing"] (defScope st_P_is_whole) := by walk_at "s"
theorem fn_P_is_whole {f : Addr} {fd : FuncData} (F : Fun K "is_whole" "is_whole" st_P_is_whole f fd) (m : mg "is_whole" = some (.ref f)) (z_isinstance : mg "isinstance" = none) (z_int : mg "int" = none) (z_bool : mg "bool" = none) : Cal P w K mg base 1 "is_whole" ["thing"] sp_P_is_whole :=
  .mk F m (F.binds fun _ _ _ _ _ _ us hl => args1 hl fun _ => rfl) (fnT (W := w_P_is_whole) F sc_P_is_whole len_P_is_whole (fun cdv A outer s H E hr =>
    (@js1 _ _ _ (@jret _ _ _ _ (@jand _ _ _ _ _ _ _ (@jisi _ _ _ _ .int _ _ _ (@jV _ 0 _ _ rfl (by walk_at "v")) rfl z_isinstance rfl z_int boot_int (by decide) (by decide) (star1 rfl) (star1 rfl) (stars rfl)) (@jone _ _ _ _ _ (@jnot _ _ _ _ (@jisi _ _ _ _ .bool _ _ _ (@jV _ 0 _ _ rfl (by walk_at "v")) rfl z_isinstance rfl z_bool boot_bool (by decide) (by decide) (star1 rfl) (star1 rfl) (stars rfl)))))))) ok_P_is_whole)
abbrev st_P_direction_at : Stmt := top 33
theorem sc_P_direction_at : FnScope ["sun", "hour", "entry"] ["sun", "hour"] (defScope st_P_direction_at) := by walk_at "s"
theorem fn_P_direction_at {f : Addr} {fd : FuncData} (F : Fun K "direction_at" "direction_at" st_P_direction_at f fd) (m : mg "direction_at" = some (.ref f)) (C_P_is_whole : Cal P w K mg base 1 "is_whole" ["thing"] sp_P_is_whole) (x_NoHour : FldCls K mg "NoHour" "hour") : CalX P w K mg base 3 "direction_at" ["sun", "hour"] sp_P_direction_at :=
  .mk F m (F.binds fun _ _ _ _ _ _ us hl => args2 hl fun _ _ => rfl) (fnX (W := w_P_direction_at) F sc_P_direction_at len_P_direction_at (fun R cdv A outer s H E hr tk =>
    (@jsc _ _ _ _ _ (@jsif _ _ _ _ _ _ _ _ (@tval _ _ _ (@jcallC _ _ _ _ _ _ _ _ _ _ C_P_is_whole (hr.mono (by omega)) rfl (@ja _ _ _ _ _ (@jV _ 1 _ _ rfl (by walk_at "v")) (@ja0 _) (star1 rfl)) (by decide) (star1 rfl) (stars rfl)) (fun _ => rfl)) (@js1 _ _ _ (@jfor _ _ _ _ _ _ _ _ PassesOwn.leaving rfl (@jiSeq _ _ _ _ (@jV _ 0 _ _ rfl (by walk_at "v"))) (@jg _ _ (2) _ sc_P_direction_at.nd rfl (Or.inl rfl) (by walk_at "f")) (@js1 _ _ _ (@jsif _ _ _ _ _ _ _ _ (@tcmp _ _ _ _ _ _ _ _ (c_eq hr) (@jix _ _ _ _ _ _ (@jV _ 2 _ _ rfl (by walk_at "v")) (@ji _ _ _ _) (fun _ _ => rfl)) (@jV _ 1 _ _ rfl (by walk_at "v")) (nomark _)) (@js1 _ _ _ (@jret _ _ _ _ (@jix _ _ _ _ _ _ (@jV _ 2 _ _ rfl (by walk_at "v")) (@ji _ _ _ _) (fun _ _ => rfl)))) (@js0 _))) (fun _ => rfl))) (@js0 _)) (@js1 _ _ _ (@jraiseF _ _ _ _ _ _ _ _ _ (0) x_NoHour tk rfl (hr.mono (by omega)) rfl (@jV _ 1 _ _ rfl (by walk_at "v")) (by rfl) (star1 rfl) (stars rfl))))) ok_P_direction_at)
abbrev st_P_cross_of : Stmt := top 21
theorem sc_P_cross_of : FnScope ["one", "other"] ["one", "other"] (defScope st_P_cross_of) := by walk_at "s"
theorem fn_P_cross_of {f : Addr} {fd : FuncData} (F : Fun K "cross_of" "cross_of" st_P_cross_of f fd) (m : mg "cross_of" = some (.ref f)) : Cal P w K mg base 1 "cross_of" ["one", "other"] sp_P_cross_of :=
  .mk F m (F.binds fun _ _ _ _ _ _ us hl => args2 hl fun _ _ => rfl) (fnT (W := w_P_cross_of) F sc_P_cross_of len_P_cross_of (fun cdv A outer s H E hr =>
    (@js1 _ _ _ (@jret _ _ _ _ (@jtup _ _ _ _ _ (@ja _ _ _ _ _ (@jop _ _ _ _ _ _ _ _ b_sub (@jop _ _ _ _ _ _ _ _ b_mul (@jix _ _ _ _ _ _ (@jV _ 0 _ _ rfl (by walk_at "v")) (@ji _ _ _ _) (fun _ _ => rfl)) (@jix _ _ _ _ _ _ (@jV _ 1 _ _ rfl (by walk_at "v")) (@ji _ _ _ _) (fun _ _ => rfl))) (@jop _ _ _ _ _ _ _ _ b_mul (@jix _ _ _ _ _ _ (@jV _ 0 _ _ rfl (by walk_at "v")) (@ji _ _ _ _) (fun _ _ => rfl)) (@jix _ _ _ _ _ _ (@jV _ 1 _ _ rfl (by walk_at "v")) (@ji _ _ _ _) (fun _ _ => rfl)))) (@ja _ _ _ _ _ (@jop _ _ _ _ _ _ _ _ b_sub (@jop _ _ _ _ _ _ _ _ b_mul (@jix _ _ _ _ _ _ (@jV _ 0 _ _ rfl (by walk_at "v")) (@ji _ _ _ _) (fun _ _ => rfl)) (@jix _ _ _ _ _ _ (@jV _ 1 _ _ rfl (by walk_at "v")) (@ji _ _ _ _) (fun _ _ => rfl))) (@jop _ _ _ _ _ _ _ _ b_mul (@jix _ _ _ _ _ _ (@jV _ 0 _ _ rfl (by walk_at "v")) (@ji _ _ _ _) (fun _ _ => rfl)) (@jix _ _ _ _ _ _ (@jV _ 1 _ _ rfl (by walk_at "v")) (@ji _ _ _ _) (fun _ _ => rfl)))) (@ja _ _ _ _ _ (@jop _ _ _ _ _ _ _ _ b_sub (@jop _ _ _ _ _ _ _ _ b_mul (@jix _ _ _ _ _ _ (@jV _ 0 _ _ rfl (by walk_at "v")) (@ji _ _ _ _) (fun _ _ => rfl)) (@jix _ _ _ _ _ _ (@jV _ 1 _ _ rfl (by walk_at "v")) (@ji _ _ _ _) (fun _ _ => rfl))) (@jop _ _ _ _ _ _ _ _ b_mul (@jix _ _ _ _ _ _ (@jV _ 0 _ _ rfl (by walk_at "v")) (@ji _ _ _ _) (fun _ _ => rfl)) (@jix _ _ _ _ _ _ (@jV _ 1 _ _ rfl (by walk_at "v")) (@ji _ _ _ _) (fun _ _ => rfl)))) (@ja0 _) (star1 rfl)) (star1 rfl)) (star1 rfl)))))) ok_P_cross_of)
abbrev st_P_front_of : Stmt := top 23
theorem sc_P_front_of : FnScope ["plate"] ["plate"] (defScope st_P_front_of) := by walk_at "s"
theorem fn_P_front_of {f : Addr} {fd : FuncData} (F : Fun K "front_of" "front_of" st_P_front_of f fd) (m : mg "front_of" = some (.ref f)) (C_P_cross_of : Cal P w K mg base 1 "cross_of" ["one", "other"] sp_P_cross_of) : Cal P w K mg base 2 "front_of" ["plate"] sp_P_front_of :=
  .mk F m (F.binds fun _ _ _ _ _ _ us hl => args1 hl fun _ => rfl) (fnT (W := w_P_front_of) F sc_P_front_of len_P_front_of (fun cdv A outer s H E hr =>
    (@js1 _ _ _ (@jret _ _ _ _ (@jcallC _ _ _ _ _ _ _ _ _ _ C_P_cross_of (hr.mono (by omega)) rfl (@ja _ _ _ _ _ (@jix _ _ _ _ _ _ (@jV _ 0 _ _ rfl (by walk_at "v")) (@ji _ _ _ _) (fun _ _ => rfl)) (@ja _ _ _ _ _ (@jix _ _ _ _ _ _ (@jV _ 0 _ _ rfl (by walk_at "v")) (@ji _ _ _ _) (fun _ _ => rfl)) (@ja0 _) (star1 rfl)) (star1 rfl)) (by decide) (star1 rfl) (stars rfl))))) ok_P_front_of)
abbrev st_P_dot_of : Stmt := top 20
theorem sc_P_dot_of : FnScope ["one", "other"] ["one", "other"] (defScope st_P_dot_of) := by walk_at "s"
theorem fn_P_dot_of {f : Addr} {fd : FuncData} (F : Fun K "dot_of" "dot_of" st_P_dot_of f fd) (m : mg "dot_of" = some (.ref f)) : Cal P w K mg base 1 "dot_of" ["one", "other"] sp_P_dot_of :=
  .mk F m (F.binds fun _ _ _ _ _ _ us hl => args2 hl fun _ _ => rfl) (fnT (W := w_P_dot_of) F sc_P_dot_of len_P_dot_of (fun cdv A outer s H E hr =>
    (@js1 _ _ _ (@jret _ _ _ _ (@jop _ _ _ _ _ _ _ _ b_add (@jop _ _ _ _ _ _ _ _ b_add (@jop _ _ _ _ _ _ _ _ b_mul (@jix _ _ _ _ _ _ (@jV _ 0 _ _ rfl (by walk_at "v")) (@ji _ _ _ _) (fun _ _ => rfl)) (@jix _ _ _ _ _ _ (@jV _ 1 _ _ rfl (by walk_at "v")) (@ji _ _ _ _) (fun _ _ => rfl))) (@jop _ _ _ _ _ _ _ _ b_mul (@jix _ _ _ _ _ _ (@jV _ 0 _ _ rfl (by walk_at "v")) (@ji _ _ _ _) (fun _ _ => rfl)) (@jix _ _ _ _ _ _ (@jV _ 1 _ _ rfl (by walk_at "v")) (@ji _ _ _ _) (fun _ _ => rfl)))) (@jop _ _ _ _ _ _ _ _ b_mul (@jix _ _ _ _ _ _ (@jV _ 0 _ _ rfl (by walk_at "v")) (@ji _ _ _ _) (fun _ _ => rfl)) (@jix _ _ _ _ _ _ (@jV _ 1 _ _ rfl (by walk_at "v")) (@ji _ _ _ _) (fun _ _ => rfl))))))) ok_P_dot_of)
abbrev st_P_comes_from_ahead : Stmt := top 24
theorem sc_P_comes_from_ahead : FnScope ["plate", "direction"] ["plate", "direction"] (defScope st_P_comes_from_ahead) := by walk_at "s"
theorem fn_P_comes_from_ahead {f : Addr} {fd : FuncData} (F : Fun K "comes_from_ahead" "comes_from_ahead" st_P_comes_from_ahead f fd) (m : mg "comes_from_ahead" = some (.ref f)) (C_P_front_of : Cal P w K mg base 2 "front_of" ["plate"] sp_P_front_of) (C_P_dot_of : Cal P w K mg base 1 "dot_of" ["one", "other"] sp_P_dot_of) : Cal P w K mg base 3 "comes_from_ahead" ["plate", "direction"] sp_P_comes_from_ahead :=
  .mk F m (F.binds fun _ _ _ _ _ _ us hl => args2 hl fun _ _ => rfl) (fnT (W := w_P_comes_from_ahead) F sc_P_comes_from_ahead len_P_comes_from_ahead (fun cdv A outer s H E hr =>
    (@js1 _ _ _ (@jret _ _ _ _ (@jcmp _ _ _ _ _ _ _ _ c_gt (@jcallC _ _ _ _ _ _ _ _ _ _ C_P_dot_of (hr.mono (by omega)) rfl (@ja _ _ _ _ _ (@jcallC _ _ _ _ _ _ _ _ _ _ C_P_front_of (hr.mono (by omega)) rfl (@ja _ _ _ _ _ (@jV _ 0 _ _ rfl (by walk_at "v")) (@ja0 _) (star1 rfl)) (by decide) (star1 rfl) (stars rfl)) (@ja _ _ _ _ _ (@jV _ 1 _ _ rfl (by walk_at "v")) (@ja0 _) (star1 rfl)) (star1 rfl)) (by decide) (star1 rfl) (stars rfl)) (@ji _ _ _ _) (nomark _))))) ok_P_comes_from_ahead)
abbrev st_P_lit_directions : Stmt := top 37
theorem sc_P_lit_directions : FnScope ["plate", "sun", "hours", "directions", "number", "hour"] ["plate", "sun", "hours"] (defScope st_P_lit_directions) := by walk_at "s"
theorem fn_P_lit_directions {f : Addr} {fd : FuncData} (F : Fun K "lit_directions" "lit_directions" st_P_lit_directions f fd) (m : mg "lit_directions" = some (.ref f)) (C_P_direction_at : CalX P w K mg base 3 "direction_at" ["sun", "hour"] sp_P_direction_at) (C_P_comes_from_ahead : Cal P w K mg base 3 "comes_from_ahead" ["plate", "direction"] sp_P_comes_from_ahead) (z_enumerate : mg "enumerate" = none) (x_NotLit : FldCls K mg "NotLit" "hour") : CalX P w K mg base 4 "lit_directions" ["plate", "sun", "hours"] sp_P_lit_directions :=
  .mk F m (F.binds fun _ _ _ _ _ _ us hl => args3 hl fun _ _ _ => rfl) (fnXC (W := w_P_lit_directions) F sc_P_lit_directions len_P_lit_directions (fun R cdv A outer s H E hr tk tkc =>
    (@jsc _ _ _ _ _ (@jsetcX _ _ _ _ _ _ _ _ (defScope st_P_lit_directions) (["hour"]) (["plate" , "sun" , "hours" , "directions" , "number" , "hour"]) ([("sun" , 1)]) _ _ _ _ (3) _ _ _ sc_P_lit_directions.nd rfl (Or.inl rfl) rfl rfl rfl tkc (@jiSeq _ _ _ _ (@jV _ 2 _ _ rfl (by walk_at "v"))) rfl rfl (by decide +kernel) (by decide +kernel) (by decide +kernel) (by decide +kernel) (fun cl C s3 H2 ex => (@jg _ _ (0) _ (show List.Nodup (["hour" , "sun"] : List Str) from by decide +kernel) rfl (Or.inl rfl) (by walk_at "f"))) (fun cl C s3 H2 ex => (@jts0 _)) (fun cl C s3 H2 ex E0 tko => (@jcallY _ _ _ _ _ _ _ _ _ _ _ C_P_direction_at tko (hr.mono (by omega)) rfl (@ja _ _ _ _ _ (@jV _ 1 _ _ rfl (by walk_at "v")) (@ja _ _ _ _ _ (@jV _ 0 _ _ rfl (by walk_at "v")) (@ja0 _) (star1 rfl)) (star1 rfl)) (by decide) (star1 rfl) (stars rfl))) (fun _ => rfl) (by rfl) (by walk_at "f")) (@jsc _ _ _ _ _ (@jfor _ _ _ _ _ _ _ _ PassesOwn.leaving rfl (@jiEnum _ _ _ _ _ _ _ _ rfl z_enumerate (@ja _ _ _ _ _ (@jV _ 2 _ _ rfl (by walk_at "v")) (@ja0 _) (star1 rfl)) (by rfl)) (@jgt _ _ _ _ _ _ rfl (@jgsc _ _ _ _ _ (@jg _ _ (4) _ sc_P_lit_directions.nd rfl (Or.inl rfl) (by walk_at "f")) (@jgsc _ _ _ _ _ (@jg _ _ (5) _ sc_P_lit_directions.nd rfl (Or.inl rfl) (by walk_at "f")) (@jgs0 _) (by rfl)) (by rfl)) (by rfl) (by rfl)) (@js1 _ _ _ (@jsif _ _ _ _ _ _ _ _ (@tnot _ _ _ _ (@tval _ _ _ (@jcallC _ _ _ _ _ _ _ _ _ _ C_P_comes_from_ahead (hr.mono (by omega)) rfl (@ja _ _ _ _ _ (@jV _ 0 _ _ rfl (by walk_at "v")) (@ja _ _ _ _ _ (@jix _ _ _ _ _ _ (@jV _ 3 _ _ rfl (by walk_at "v")) (@jV _ 4 _ _ rfl (by walk_at "v")) (fun _ _ => rfl)) (@ja0 _) (star1 rfl)) (star1 rfl)) (by decide) (star1 rfl) (stars rfl)) (fun _ => rfl))) (@js1 _ _ _ (@jraiseF _ _ _ _ _ _ _ _ _ (0) x_NotLit tk rfl (hr.mono (by omega)) rfl (@jV _ 5 _ _ rfl (by walk_at "v")) (by rfl) (star1 rfl) (stars rfl))) (@js0 _))) (fun _ => rfl)) (@js1 _ _ _ (@jret _ _ _ _ (@jV _ 3 _ _ rfl (by walk_at "v"))))))) ok_P_lit_directions)
abbrev st_P_triple_sum : Stmt := top 19
theorem sc_P_triple_sum : FnScope ["one", "other"] ["one", "other"] (defScope st_P_triple_sum) := by walk_at "s"
theorem fn_P_triple_sum {f : Addr} {fd : FuncData} (F : Fun K "triple_sum" "triple_sum" st_P_triple_sum f fd) (m : mg "triple_sum" = some (.ref f)) : Cal P w K mg base 1 "triple_sum" ["one", "other"] sp_P_triple_sum :=
  .mk F m (F.binds fun _ _ _ _ _ _ us hl => args2 hl fun _ _ => rfl) (fnT (W := w_P_triple_sum) F sc_P_triple_sum len_P_triple_sum (fun cdv A outer s H E hr =>
    (@js1 _ _ _ (@jret _ _ _ _ (@jtup _ _ _ _ _ (@ja _ _ _ _ _ (@jop _ _ _ _ _ _ _ _ b_add (@jix _ _ _ _ _ _ (@jV _ 0 _ _ rfl (by walk_at "v")) (@ji _ _ _ _) (fun _ _ => rfl)) (@jix _ _ _ _ _ _ (@jV _ 1 _ _ rfl (by walk_at "v")) (@ji _ _ _ _) (fun _ _ => rfl))) (@ja _ _ _ _ _ (@jop _ _ _ _ _ _ _ _ b_add (@jix _ _ _ _ _ _ (@jV _ 0 _ _ rfl (by walk_at "v")) (@ji _ _ _ _) (fun _ _ => rfl)) (@jix _ _ _ _ _ _ (@jV _ 1 _ _ rfl (by walk_at "v")) (@ji _ _ _ _) (fun _ _ => rfl))) (@ja _ _ _ _ _ (@jop _ _ _ _ _ _ _ _ b_add (@jix _ _ _ _ _ _ (@jV _ 0 _ _ rfl (by walk_at "v")) (@ji _ _ _ _) (fun _ _ => rfl)) (@jix _ _ _ _ _ _ (@jV _ 1 _ _ rfl (by walk_at "v")) (@ji _ _ _ _) (fun _ _ => rfl))) (@ja0 _) (star1 rfl)) (star1 rfl)) (star1 rfl)))))) ok_P_triple_sum)
abbrev st_P_as_point : Stmt := top 26
theorem sc_P_as_point : FnScope ["triple"] ["triple"] (defScope st_P_as_point) := by walk_at "s"
theorem fn_P_as_point {f : Addr} {fd : FuncData} (F : Fun K "as_point" "as_point" st_P_as_point f fd) (m : mg "as_point" = some (.ref f)) (z_tuple : mg "tuple" = none) : Cal P w K mg base 1 "as_point" ["triple"] sp_P_as_point :=
  .mk F m (F.binds fun _ _ _ _ _ _ us hl => args1 hl fun _ => rfl) (fnT (W := w_P_as_point) F sc_P_as_point len_P_as_point (fun cdv A outer s H E hr =>
    (@js1 _ _ _ (@jret _ _ _ _ (@jty _ _ _ _ _ _ _ _ _ ty_tuple rfl z_tuple boot_tuple (@ja _ _ _ _ _ (@jcomp _ _ _ _ _ _ _ (defScope st_P_as_point) (["number"]) (["triple"]) ([]) _ _ _ _ rfl rfl rfl (@jiSeq _ _ _ _ (@jV _ 0 _ _ rfl (by walk_at "v"))) rfl rfl (by decide +kernel) (by decide +kernel) (by decide +kernel) (by decide +kernel) (fun cl C s3 H2 ex => (@jg _ _ (0) _ (show List.Nodup (["number"] : List Str) from by decide +kernel) rfl (Or.inl rfl) (by walk_at "f"))) (fun cl C s3 H2 ex => (@jts0 _)) (fun cl C s3 H2 ex => (@jtup _ _ _ _ _ (@ja _ _ _ _ _ (@jV _ 0 _ _ rfl (by walk_at "v")) (@ja _ _ _ _ _ (@ji _ _ _ _) (@ja0 _) (star1 rfl)) (star1 rfl)))) (fun _ => rfl)) (@ja0 _) (star1 rfl)) (by decide) (by decide) (star1 rfl) (stars rfl))))) ok_P_as_point)
abbrev st_P_greatest_factor : Stmt := top 11
theorem sc_P_greatest_factor : FnScope ["one", "other", "rest"] ["one", "other"] (defScope st_P_greatest_factor) := by walk_at "s"
theorem fn_P_greatest_factor {f : Addr} {fd : FuncData} (F : Fun K "greatest_factor" "greatest_factor" st_P_greatest_factor f fd) (m : mg "greatest_factor" = some (.ref f)) (z_abs : mg "abs" = none) : Cal P w K mg base 1 "greatest_factor" ["one", "other"] sp_P_greatest_factor :=
  .mk F m (F.binds fun _ _ _ _ _ _ us hl => args2 hl fun _ _ => rfl) (fnT (W := w_P_greatest_factor) F sc_P_greatest_factor len_P_greatest_factor (fun cdv A outer s H E hr =>
    (@jsc _ _ _ _ _ (@jwhile _ _ _ _ _ _ PassesOwn.never (@tcmp _ _ _ _ _ _ _ _ (c_ne hr) (@jV _ 1 _ _ rfl (by walk_at "v")) (@ji _ _ _ _) (nomark _)) (@jsc _ _ _ _ _ (@jset _ _ _ _ (2) _ _ sc_P_greatest_factor.nd rfl (Or.inl rfl) (@jop _ _ _ _ _ _ _ _ b_mod (@jV _ 0 _ _ rfl (by walk_at "v")) (@jV _ 1 _ _ rfl (by walk_at "v"))) (by rfl) (by walk_at "f")) (@jsc _ _ _ _ _ (@jset _ _ _ _ (0) _ _ sc_P_greatest_factor.nd rfl (Or.inl rfl) (@jV _ 1 _ _ rfl (by walk_at "v")) (by rfl) (by walk_at "f")) (@js1 _ _ _ (@jset _ _ _ _ (1) _ _ sc_P_greatest_factor.nd rfl (Or.inl rfl) (@jV _ 2 _ _ rfl (by walk_at "v")) (by rfl) (by walk_at "f")))))) (@js1 _ _ _ (@jret _ _ _ _ (@jblt _ _ _ _ _ _ _ _ _ bl_abs rfl z_abs boot_abs (@ja _ _ _ _ _ (@jV _ 0 _ _ rfl (by walk_at "v")) (@ja0 _) (star1 rfl)) (by decide) (by decide) (star1 rfl) (stars rfl)))))) ok_P_greatest_factor)
abbrev st_P_ratio_of : Stmt := top 12
theorem sc_P_ratio_of : FnScope ["top", "bottom", "factor"] ["top", "bottom"] (defScope st_P_ratio_of) := by walk_at "s"
theorem fn_P_ratio_of {f : Addr} {fd : FuncData} (F : Fun K "ratio_of" "ratio_of" st_P_ratio_of f fd) (m : mg "ratio_of" = some (.ref f)) (C_P_is_whole : Cal P w K mg base 1 "is_whole" ["thing"] sp_P_is_whole) (C_P_greatest_factor : Cal P w K mg base 1 "greatest_factor" ["one", "other"] sp_P_greatest_factor) : Cal P w K mg base 2 "ratio_of" ["top", "bottom"] sp_P_ratio_of :=
  .mk F m (F.binds fun _ _ _ _ _ _ us hl => args2 hl fun _ _ => rfl) (fnT (W := w_P_ratio_of) F sc_P_ratio_of len_P_ratio_of (fun cdv A outer s H E hr =>
    (@jsc _ _ _ _ _ (@jsif _ _ _ _ _ _ _ _ (@jw _ _ _ (@tor _ _ _ _ _ _ _ (@tnot _ _ _ _ (@tval _ _ _ (@jcallC _ _ _ _ _ _ _ _ _ _ C_P_is_whole (hr.mono (by omega)) rfl (@ja _ _ _ _ _ (@jV _ 0 _ _ rfl (by walk_at "v")) (@ja0 _) (star1 rfl)) (by decide) (star1 rfl) (stars rfl)) (fun _ => rfl))) (@tor1 _ _ _ _ (@tnot _ _ _ _ (@tval _ _ _ (@jcallC _ _ _ _ _ _ _ _ _ _ C_P_is_whole (hr.mono (by omega)) rfl (@ja _ _ _ _ _ (@jV _ 1 _ _ rfl (by walk_at "v")) (@ja0 _) (star1 rfl)) (by decide) (star1 rfl) (stars rfl)) (fun _ => rfl)))))) (@js1 _ _ _ (@jnever _ _)) (@js0 _)) (@jsc _ _ _ _ _ (@jsif _ _ _ _ _ _ _ _ (@tcmp _ _ _ _ _ _ _ _ (c_eq hr) (@jV _ 1 _ _ rfl (by walk_at "v")) (@ji _ _ _ _) (nomark _)) (@js1 _ _ _ (@jnever _ _)) (@js0 _)) (@jsc _ _ _ _ _ (@jset _ _ _ _ (2) _ _ sc_P_ratio_of.nd rfl (Or.inl rfl) (@jcallC _ _ _ _ _ _ _ _ _ _ C_P_greatest_factor (hr.mono (by omega)) rfl (@ja _ _ _ _ _ (@jV _ 0 _ _ rfl (by walk_at "v")) (@ja _ _ _ _ _ (@jV _ 1 _ _ rfl (by walk_at "v")) (@ja0 _) (star1 rfl)) (star1 rfl)) (by decide) (star1 rfl) (stars rfl)) (by rfl) (by walk_at "f")) (@jsc _ _ _ _ _ (@jsif _ _ _ _ _ _ _ _ (@tcmp _ _ _ _ _ _ _ _ c_lt (@jV _ 1 _ _ rfl (by walk_at "v")) (@ji _ _ _ _) (nomark _)) (@js1 _ _ _ (@jset _ _ _ _ (2) _ _ sc_P_ratio_of.nd rfl (Or.inl rfl) (@jneg _ _ _ _ (@jV _ 2 _ _ rfl (by walk_at "v"))) (by rfl) (by walk_at "f"))) (@js0 _)) (@js1 _ _ _ (@jret _ _ _ _ (@jtup _ _ _ _ _ (@ja _ _ _ _ _ (@jop _ _ _ _ _ _ _ _ b_div (@jV _ 0 _ _ rfl (by walk_at "v")) (@jV _ 2 _ _ rfl (by walk_at "v"))) (@ja _ _ _ _ _ (@jop _ _ _ _ _ _ _ _ b_div (@jV _ 1 _ _ rfl (by walk_at "v")) (@jV _ 2 _ _ rfl (by walk_at "v"))) (@ja0 _) (star1 rfl)) (star1 rfl)))))))))) ok_P_ratio_of)
abbrev st_P_ratio_less : Stmt := top 14
theorem sc_P_ratio_less : FnScope ["one", "other"] ["one", "other"] (defScope st_P_ratio_less) := by walk_at "s"
theorem fn_P_ratio_less {f : Addr} {fd : FuncData} (F : Fun K "ratio_less" "ratio_less" st_P_ratio_less f fd) (m : mg "ratio_less" = some (.ref f)) (C_P_ratio_of : Cal P w K mg base 2 "ratio_of" ["top", "bottom"] sp_P_ratio_of) : Cal P w K mg base 3 "ratio_less" ["one", "other"] sp_P_ratio_less :=
  .mk F m (F.binds fun _ _ _ _ _ _ us hl => args2 hl fun _ _ => rfl) (fnT (W := w_P_ratio_less) F sc_P_ratio_less len_P_ratio_less (fun cdv A outer s H E hr =>
    (@js1 _ _ _ (@jret _ _ _ _ (@jcallC _ _ _ _ _ _ _ _ _ _ C_P_ratio_of (hr.mono (by omega)) rfl (@ja _ _ _ _ _ (@jop _ _ _ _ _ _ _ _ b_sub (@jop _ _ _ _ _ _ _ _ b_mul (@jix _ _ _ _ _ _ (@jV _ 0 _ _ rfl (by walk_at "v")) (@ji _ _ _ _) (fun _ _ => rfl)) (@jix _ _ _ _ _ _ (@jV _ 1 _ _ rfl (by walk_at "v")) (@ji _ _ _ _) (fun _ _ => rfl))) (@jop _ _ _ _ _ _ _ _ b_mul (@jix _ _ _ _ _ _ (@jV _ 1 _ _ rfl (by walk_at "v")) (@ji _ _ _ _) (fun _ _ => rfl)) (@jix _ _ _ _ _ _ (@jV _ 0 _ _ rfl (by walk_at "v")) (@ji _ _ _ _) (fun _ _ => rfl)))) (@ja _ _ _ _ _ (@jop _ _ _ _ _ _ _ _ b_mul (@jix _ _ _ _ _ _ (@jV _ 0 _ _ rfl (by walk_at "v")) (@ji _ _ _ _) (fun _ _ => rfl)) (@jix _ _ _ _ _ _ (@jV _ 1 _ _ rfl (by walk_at "v")) (@ji _ _ _ _) (fun _ _ => rfl))) (@ja0 _) (star1 rfl)) (star1 rfl)) (by decide) (star1 rfl) (stars rfl))))) ok_P_ratio_less)
abbrev st_P_point_less : Stmt := top 27
theorem sc_P_point_less : FnScope ["point", "triple"] ["point", "triple"] (defScope st_P_point_less) := by walk_at "s"
theorem fn_P_point_less {f : Addr} {fd : FuncData} (F : Fun K "point_less" "point_less" st_P_point_less f fd) (m : mg "point_less" = some (.ref f)) (C_P_ratio_less : Cal P w K mg base 3 "ratio_less" ["one", "other"] sp_P_ratio_less) (z_range : mg "range" = none) (z_tuple : mg "tuple" = none) : Cal P w K mg base 4 "point_less" ["point", "triple"] sp_P_point_less :=
  .mk F m (F.binds fun _ _ _ _ _ _ us hl => args2 hl fun _ _ => rfl) (fnT (W := w_P_point_less) F sc_P_point_less len_P_point_less (fun cdv A outer s H E hr =>
    (@js1 _ _ _ (@jret _ _ _ _ (@jty _ _ _ _ _ _ _ _ _ ty_tuple rfl z_tuple boot_tuple (@ja _ _ _ _ _ (@jcomp _ _ _ _ _ _ _ (defScope st_P_point_less) (["axis"]) (["point" , "triple"]) ([("point" , 0) , ("triple" , 1)]) _ _ _ _ rfl rfl rfl (@jiRange1 _ _ _ _ _ _ rfl z_range (@ja _ _ _ _ _ (@ji _ _ _ _) (@ja0 _) (star1 rfl)) (by rfl)) rfl rfl (by decide +kernel) (by decide +kernel) (by decide +kernel) (by decide +kernel) (fun cl C s3 H2 ex => (@jg _ _ (0) _ (show List.Nodup (["axis" , "point" , "triple"] : List Str) from by decide +kernel) rfl (Or.inl rfl) (by walk_at "f"))) (fun cl C s3 H2 ex => (@jts0 _)) (fun cl C s3 H2 ex => (@jcallC _ _ _ _ _ _ _ _ _ _ C_P_ratio_less (hr.mono (by omega)) rfl (@ja _ _ _ _ _ (@jix _ _ _ _ _ _ (@jV _ 1 _ _ rfl (by walk_at "v")) (@jV _ 0 _ _ rfl (by walk_at "v")) (fun _ _ => rfl)) (@ja _ _ _ _ _ (@jtup _ _ _ _ _ (@ja _ _ _ _ _ (@jix _ _ _ _ _ _ (@jV _ 2 _ _ rfl (by walk_at "v")) (@jV _ 0 _ _ rfl (by walk_at "v")) (fun _ _ => rfl)) (@ja _ _ _ _ _ (@ji _ _ _ _) (@ja0 _) (star1 rfl)) (star1 rfl))) (@ja0 _) (star1 rfl)) (star1 rfl)) (by decide) (star1 rfl) (stars rfl))) (fun _ => rfl)) (@ja0 _) (star1 rfl)) (by decide) (by decide) (star1 rfl) (stars rfl))))) ok_P_point_less)
abbrev st_P_ratio_times : Stmt := top 15
theorem sc_P_ratio_times : FnScope ["one", "other"] ["one", "other"] (defScope st_P_ratio_times) := by walk_at "s"
theorem fn_P_ratio_times {f : Addr} {fd : FuncData} (F : Fun K "ratio_times" "ratio_times" st_P_ratio_times f fd) (m : mg "ratio_times" = some (.ref f)) (C_P_ratio_of : Cal P w K mg base 2 "ratio_of" ["top", "bottom"] sp_P_ratio_of) : Cal P w K mg base 3 "ratio_times" ["one", "other"] sp_P_ratio_times :=
  .mk F m (F.binds fun _ _ _ _ _ _ us hl => args2 hl fun _ _ => rfl) (fnT (W := w_P_ratio_times) F sc_P_ratio_times len_P_ratio_times (fun cdv A outer s H E hr =>
    (@js1 _ _ _ (@jret _ _ _ _ (@jcallC _ _ _ _ _ _ _ _ _ _ C_P_ratio_of (hr.mono (by omega)) rfl (@ja _ _ _ _ _ (@jop _ _ _ _ _ _ _ _ b_mul (@jix _ _ _ _ _ _ (@jV _ 0 _ _ rfl (by walk_at "v")) (@ji _ _ _ _) (fun _ _ => rfl)) (@jix _ _ _ _ _ _ (@jV _ 1 _ _ rfl (by walk_at "v")) (@ji _ _ _ _) (fun _ _ => rfl))) (@ja _ _ _ _ _ (@jop _ _ _ _ _ _ _ _ b_mul (@jix _ _ _ _ _ _ (@jV _ 0 _ _ rfl (by walk_at "v")) (@ji _ _ _ _) (fun _ _ => rfl)) (@jix _ _ _ _ _ _ (@jV _ 1 _ _ rfl (by walk_at "v")) (@ji _ _ _ _) (fun _ _ => rfl))) (@ja0 _) (star1 rfl)) (star1 rfl)) (by decide) (star1 rfl) (stars rfl))))) ok_P_ratio_times)
abbrev st_P_ratio_sum : Stmt := top 13
theorem sc_P_ratio_sum : FnScope ["one", "other"] ["one", "other"] (defScope st_P_ratio_sum) := by walk_at "s"
theorem fn_P_ratio_sum {f : Addr} {fd : FuncData} (F : Fun K "ratio_sum" "ratio_sum" st_P_ratio_sum f fd) (m : mg "ratio_sum" = some (.ref f)) (C_P_ratio_of : Cal P w K mg base 2 "ratio_of" ["top", "bottom"] sp_P_ratio_of) : Cal P w K mg base 3 "ratio_sum" ["one", "other"] sp_P_ratio_sum :=
  .mk F m (F.binds fun _ _ _ _ _ _ us hl => args2 hl fun _ _ => rfl) (fnT (W := w_P_ratio_sum) F sc_P_ratio_sum len_P_ratio_sum (fun cdv A outer s H E hr =>
    (@js1 _ _ _ (@jret _ _ _ _ (@jcallC _ _ _ _ _ _ _ _ _ _ C_P_ratio_of (hr.mono (by omega)) rfl (@ja _ _ _ _ _ (@jop _ _ _ _ _ _ _ _ b_add (@jop _ _ _ _ _ _ _ _ b_mul (@jix _ _ _ _ _ _ (@jV _ 0 _ _ rfl (by walk_at "v")) (@ji _ _ _ _) (fun _ _ => rfl)) (@jix _ _ _ _ _ _ (@jV _ 1 _ _ rfl (by walk_at "v")) (@ji _ _ _ _) (fun _ _ => rfl))) (@jop _ _ _ _ _ _ _ _ b_mul (@jix _ _ _ _ _ _ (@jV _ 1 _ _ rfl (by walk_at "v")) (@ji _ _ _ _) (fun _ _ => rfl)) (@jix _ _ _ _ _ _ (@jV _ 0 _ _ rfl (by walk_at "v")) (@ji _ _ _ _) (fun _ _ => rfl)))) (@ja _ _ _ _ _ (@jop _ _ _ _ _ _ _ _ b_mul (@jix _ _ _ _ _ _ (@jV _ 0 _ _ rfl (by walk_at "v")) (@ji _ _ _ _) (fun _ _ => rfl)) (@jix _ _ _ _ _ _ (@jV _ 1 _ _ rfl (by walk_at "v")) (@ji _ _ _ _) (fun _ _ => rfl))) (@ja0 _) (star1 rfl)) (star1 rfl)) (by decide) (star1 rfl) (stars rfl))))) ok_P_ratio_sum)
abbrev st_P_point_dot : Stmt := top 28
theorem sc_P_point_dot : FnScope ["point", "triple", "products"] ["point", "triple"] (defScope st_P_point_dot) := by walk_at "s"
theorem fn_P_point_dot {f : Addr} {fd : FuncData} (F : Fun K "point_dot" "point_dot" st_P_point_dot f fd) (m : mg "point_dot" = some (.ref f)) (C_P_ratio_times : Cal P w K mg base 3 "ratio_times" ["one", "other"] sp_P_ratio_times) (C_P_ratio_sum : Cal P w K mg base 3 "ratio_sum" ["one", "other"] sp_P_ratio_sum) (z_range : mg "range" = none) : Cal P w K mg base 4 "point_dot" ["point", "triple"] sp_P_point_dot :=
  .mk F m (F.binds fun _ _ _ _ _ _ us hl => args2 hl fun _ _ => rfl) (fnT (W := w_P_point_dot) F sc_P_point_dot len_P_point_dot (fun cdv A outer s H E hr =>
    (@jsc _ _ _ _ _ (@jsetc _ _ _ _ _ _ _ (defScope st_P_point_dot) (["axis"]) (["point" , "triple" , "products"]) ([("point" , 0) , ("triple" , 1)]) _ _ _ _ (2) _ _ _ sc_P_point_dot.nd rfl (Or.inl rfl) rfl rfl rfl (@jiRange1 _ _ _ _ _ _ rfl z_range (@ja _ _ _ _ _ (@ji _ _ _ _) (@ja0 _) (star1 rfl)) (by rfl)) rfl rfl (by decide +kernel) (by decide +kernel) (by decide +kernel) (by decide +kernel) (fun cl C s3 H2 ex => (@jg _ _ (0) _ (show List.Nodup (["axis" , "point" , "triple"] : List Str) from by decide +kernel) rfl (Or.inl rfl) (by walk_at "f"))) (fun cl C s3 H2 ex => (@jts0 _)) (fun cl C s3 H2 ex => (@jcallC _ _ _ _ _ _ _ _ _ _ C_P_ratio_times (hr.mono (by omega)) rfl (@ja _ _ _ _ _ (@jix _ _ _ _ _ _ (@jV _ 1 _ _ rfl (by walk_at "v")) (@jV _ 0 _ _ rfl (by walk_at "v")) (fun _ _ => rfl)) (@ja _ _ _ _ _ (@jtup _ _ _ _ _ (@ja _ _ _ _ _ (@jix _ _ _ _ _ _ (@jV _ 2 _ _ rfl (by walk_at "v")) (@jV _ 0 _ _ rfl (by walk_at "v")) (fun _ _ => rfl)) (@ja _ _ _ _ _ (@ji _ _ _ _) (@ja0 _) (star1 rfl)) (star1 rfl))) (@ja0 _) (star1 rfl)) (star1 rfl)) (by decide) (star1 rfl) (stars rfl))) (fun _ => rfl) (by rfl) (by walk_at "f")) (@js1 _ _ _ (@jret _ _ _ _ (@jcallC _ _ _ _ _ _ _ _ _ _ C_P_ratio_sum (hr.mono (by omega)) rfl (@ja _ _ _ _ _ (@jix _ _ _ _ _ _ (@jV _ 2 _ _ rfl (by walk_at "v")) (@ji _ _ _ _) (fun _ _ => rfl)) (@ja _ _ _ _ _ (@jcallC _ _ _ _ _ _ _ _ _ _ C_P_ratio_sum (hr.mono (by omega)) rfl (@ja _ _ _ _ _ (@jix _ _ _ _ _ _ (@jV _ 2 _ _ rfl (by walk_at "v")) (@ji _ _ _ _) (fun _ _ => rfl)) (@ja _ _ _ _ _ (@jix _ _ _ _ _ _ (@jV _ 2 _ _ rfl (by walk_at "v")) (@ji _ _ _ _) (fun _ _ => rfl)) (@ja0 _) (star1 rfl)) (star1 rfl)) (by decide) (star1 rfl) (stars rfl)) (@ja0 _) (star1 rfl)) (star1 rfl)) (by decide) (star1 rfl) (stars rfl)))))) ok_P_point_dot)
abbrev st_P_ratio_by : Stmt := top 16
theorem sc_P_ratio_by : FnScope ["one", "other"] ["one", "other"] (defScope st_P_ratio_by) := by walk_at "s"
theorem fn_P_ratio_by {f : Addr} {fd : FuncData} (F : Fun K "ratio_by" "ratio_by" st_P_ratio_by f fd) (m : mg "ratio_by" = some (.ref f)) (C_P_ratio_of : Cal P w K mg base 2 "ratio_of" ["top", "bottom"] sp_P_ratio_of) : Cal P w K mg base 3 "ratio_by" ["one", "other"] sp_P_ratio_by :=
  .mk F m (F.binds fun _ _ _ _ _ _ us hl => args2 hl fun _ _ => rfl) (fnT (W := w_P_ratio_by) F sc_P_ratio_by len_P_ratio_by (fun cdv A outer s H E hr =>
    (@js1 _ _ _ (@jret _ _ _ _ (@jcallC _ _ _ _ _ _ _ _ _ _ C_P_ratio_of (hr.mono (by omega)) rfl (@ja _ _ _ _ _ (@jop _ _ _ _ _ _ _ _ b_mul (@jix _ _ _ _ _ _ (@jV _ 0 _ _ rfl (by walk_at "v")) (@ji _ _ _ _) (fun _ _ => rfl)) (@jix _ _ _ _ _ _ (@jV _ 1 _ _ rfl (by walk_at "v")) (@ji _ _ _ _) (fun _ _ => rfl))) (@ja _ _ _ _ _ (@jop _ _ _ _ _ _ _ _ b_mul (@jix _ _ _ _ _ _ (@jV _ 0 _ _ rfl (by walk_at "v")) (@ji _ _ _ _) (fun _ _ => rfl)) (@jix _ _ _ _ _ _ (@jV _ 1 _ _ rfl (by walk_at "v")) (@ji _ _ _ _) (fun _ _ => rfl))) (@ja0 _) (star1 rfl)) (star1 rfl)) (by decide) (star1 rfl) (stars rfl))))) ok_P_ratio_by)
abbrev st_P_meeting_of : Stmt := top 30
theorem sc_P_meeting_of : FnScope ["plate", "point", "direction", "across", "beyond", "along_side", "along_other"] ["plate", "point", "direction"] (defScope st_P_meeting_of) := by walk_at "s"
theorem fn_P_meeting_of {f : Addr} {fd : FuncData} (F : Fun K "meeting_of" "meeting_of" st_P_meeting_of f fd) (m : mg "meeting_of" = some (.ref f)) (C_P_front_of : Cal P w K mg base 2 "front_of" ["plate"] sp_P_front_of) (C_P_dot_of : Cal P w K mg base 1 "dot_of" ["one", "other"] sp_P_dot_of) (C_P_point_less : Cal P w K mg base 4 "point_less" ["point", "triple"] sp_P_point_less) (C_P_cross_of : Cal P w K mg base 1 "cross_of" ["one", "other"] sp_P_cross_of) (C_P_point_dot : Cal P w K mg base 4 "point_dot" ["point", "triple"] sp_P_point_dot) (C_P_ratio_by : Cal P w K mg base 3 "ratio_by" ["one", "other"] sp_P_ratio_by) : Cal P w K mg base 5 "meeting_of" ["plate", "point", "direction"] sp_P_meeting_of :=
  .mk F m (F.binds fun _ _ _ _ _ _ us hl => args3 hl fun _ _ _ => rfl) (fnT (W := w_P_meeting_of) F sc_P_meeting_of len_P_meeting_of (fun cdv A outer s H E hr =>
    (@jsc _ _ _ _ _ (@jset _ _ _ _ (3) _ _ sc_P_meeting_of.nd rfl (Or.inl rfl) (@jcallC _ _ _ _ _ _ _ _ _ _ C_P_dot_of (hr.mono (by omega)) rfl (@ja _ _ _ _ _ (@jcallC _ _ _ _ _ _ _ _ _ _ C_P_front_of (hr.mono (by omega)) rfl (@ja _ _ _ _ _ (@jV _ 0 _ _ rfl (by walk_at "v")) (@ja0 _) (star1 rfl)) (by decide) (star1 rfl) (stars rfl)) (@ja _ _ _ _ _ (@jV _ 2 _ _ rfl (by walk_at "v")) (@ja0 _) (star1 rfl)) (star1 rfl)) (by decide) (star1 rfl) (stars rfl)) (by rfl) (by walk_at "f")) (@jsc _ _ _ _ _ (@jsif _ _ _ _ _ _ _ _ (@tcmp _ _ _ _ _ _ _ _ (c_eq hr) (@jV _ 3 _ _ rfl (by walk_at "v")) (@ji _ _ _ _) (nomark _)) (@js1 _ _ _ (@jret _ _ _ _ (@jn _ _ _))) (@js0 _)) (@jsc _ _ _ _ _ (@jset _ _ _ _ (4) _ _ sc_P_meeting_of.nd rfl (Or.inl rfl) (@jcallC _ _ _ _ _ _ _ _ _ _ C_P_point_less (hr.mono (by omega)) rfl (@ja _ _ _ _ _ (@jV _ 1 _ _ rfl (by walk_at "v")) (@ja _ _ _ _ _ (@jix _ _ _ _ _ _ (@jV _ 0 _ _ rfl (by walk_at "v")) (@ji _ _ _ _) (fun _ _ => rfl)) (@ja0 _) (star1 rfl)) (star1 rfl)) (by decide) (star1 rfl) (stars rfl)) (by rfl) (by walk_at "f")) (@jsc _ _ _ _ _ (@jset _ _ _ _ (5) _ _ sc_P_meeting_of.nd rfl (Or.inl rfl) (@jcallC _ _ _ _ _ _ _ _ _ _ C_P_point_dot (hr.mono (by omega)) rfl (@ja _ _ _ _ _ (@jV _ 4 _ _ rfl (by walk_at "v")) (@ja _ _ _ _ _ (@jcallC _ _ _ _ _ _ _ _ _ _ C_P_cross_of (hr.mono (by omega)) rfl (@ja _ _ _ _ _ (@jix _ _ _ _ _ _ (@jV _ 0 _ _ rfl (by walk_at "v")) (@ji _ _ _ _) (fun _ _ => rfl)) (@ja _ _ _ _ _ (@jV _ 2 _ _ rfl (by walk_at "v")) (@ja0 _) (star1 rfl)) (star1 rfl)) (by decide) (star1 rfl) (stars rfl)) (@ja0 _) (star1 rfl)) (star1 rfl)) (by decide) (star1 rfl) (stars rfl)) (by rfl) (by walk_at "f")) (@jsc _ _ _ _ _ (@jset _ _ _ _ (6) _ _ sc_P_meeting_of.nd rfl (Or.inl rfl) (@jcallC _ _ _ _ _ _ _ _ _ _ C_P_point_dot (hr.mono (by omega)) rfl (@ja _ _ _ _ _ (@jV _ 4 _ _ rfl (by walk_at "v")) (@ja _ _ _ _ _ (@jcallC _ _ _ _ _ _ _ _ _ _ C_P_cross_of (hr.mono (by omega)) rfl (@ja _ _ _ _ _ (@jV _ 2 _ _ rfl (by walk_at "v")) (@ja _ _ _ _ _ (@jix _ _ _ _ _ _ (@jV _ 0 _ _ rfl (by walk_at "v")) (@ji _ _ _ _) (fun _ _ => rfl)) (@ja0 _) (star1 rfl)) (star1 rfl)) (by decide) (star1 rfl) (stars rfl)) (@ja0 _) (star1 rfl)) (star1 rfl)) (by decide) (star1 rfl) (stars rfl)) (by rfl) (by walk_at "f")) (@js1 _ _ _ (@jret _ _ _ _ (@jtup _ _ _ _ _ (@ja _ _ _ _ _ (@jcallC _ _ _ _ _ _ _ _ _ _ C_P_ratio_by (hr.mono (by omega)) rfl (@ja _ _ _ _ _ (@jV _ 5 _ _ rfl (by walk_at "v")) (@ja _ _ _ _ _ (@jtup _ _ _ _ _ (@ja _ _ _ _ _ (@jV _ 3 _ _ rfl (by walk_at "v")) (@ja _ _ _ _ _ (@ji _ _ _ _) (@ja0 _) (star1 rfl)) (star1 rfl))) (@ja0 _) (star1 rfl)) (star1 rfl)) (by decide) (star1 rfl) (stars rfl)) (@ja _ _ _ _ _ (@jcallC _ _ _ _ _ _ _ _ _ _ C_P_ratio_by (hr.mono (by omega)) rfl (@ja _ _ _ _ _ (@jV _ 6 _ _ rfl (by walk_at "v")) (@ja _ _ _ _ _ (@jtup _ _ _ _ _ (@ja _ _ _ _ _ (@jV _ 3 _ _ rfl (by walk_at "v")) (@ja _ _ _ _ _ (@ji _ _ _ _) (@ja0 _) (star1 rfl)) (star1 rfl))) (@ja0 _) (star1 rfl)) (star1 rfl)) (by decide) (star1 rfl) (stars rfl)) (@ja0 _) (star1 rfl)) (star1 rfl))))))))))) ok_P_meeting_of)
abbrev st_P_shadow_of : Stmt := top 31
theorem sc_P_shadow_of : FnScope ["plate", "tip", "direction"] ["plate", "tip", "direction"] (defScope st_P_shadow_of) := by walk_at "s"
theorem fn_P_shadow_of {f : Addr} {fd : FuncData} (F : Fun K "shadow_of" "shadow_of" st_P_shadow_of f fd) (m : mg "shadow_of" = some (.ref f)) (C_P_comes_from_ahead : Cal P w K mg base 3 "comes_from_ahead" ["plate", "direction"] sp_P_comes_from_ahead) (C_P_as_point : Cal P w K mg base 1 "as_point" ["triple"] sp_P_as_point) (C_P_meeting_of : Cal P w K mg base 5 "meeting_of" ["plate", "point", "direction"] sp_P_meeting_of) : Cal P w K mg base 6 "shadow_of" ["plate", "tip", "direction"] sp_P_shadow_of :=
  .mk F m (F.binds fun _ _ _ _ _ _ us hl => args3 hl fun _ _ _ => rfl) (fnT (W := w_P_shadow_of) F sc_P_shadow_of len_P_shadow_of (fun cdv A outer s H E hr =>
    (@jsc _ _ _ _ _ (@jsif _ _ _ _ _ _ _ _ (@tnot _ _ _ _ (@tval _ _ _ (@jcallC _ _ _ _ _ _ _ _ _ _ C_P_comes_from_ahead (hr.mono (by omega)) rfl (@ja _ _ _ _ _ (@jV _ 0 _ _ rfl (by walk_at "v")) (@ja _ _ _ _ _ (@jV _ 2 _ _ rfl (by walk_at "v")) (@ja0 _) (star1 rfl)) (star1 rfl)) (by decide) (star1 rfl) (stars rfl)) (fun _ => rfl))) (@js1 _ _ _ (@jret _ _ _ _ (@jn _ _ _))) (@js0 _)) (@js1 _ _ _ (@jret _ _ _ _ (@jcallC _ _ _ _ _ _ _ _ _ _ C_P_meeting_of (hr.mono (by omega)) rfl (@ja _ _ _ _ _ (@jV _ 0 _ _ rfl (by walk_at "v")) (@ja _ _ _ _ _ (@jcallC _ _ _ _ _ _ _ _ _ _ C_P_as_point (hr.mono (by omega)) rfl (@ja _ _ _ _ _ (@jV _ 1 _ _ rfl (by walk_at "v")) (@ja0 _) (star1 rfl)) (by decide) (star1 rfl) (stars rfl)) (@ja _ _ _ _ _ (@jV _ 2 _ _ rfl (by walk_at "v")) (@ja0 _) (star1 rfl)) (star1 rfl)) (star1 rfl)) (by decide) (star1 rfl) (stars rfl)))))) ok_P_shadow_of)
abbrev st_P_reach_of : Stmt := top 35
theorem sc_P_reach_of : FnScope ["plate", "direction"] ["plate", "direction"] (defScope st_P_reach_of) := by walk_at "s"
theorem fn_P_reach_of {f : Addr} {fd : FuncData} (F : Fun K "reach_of" "reach_of" st_P_reach_of f fd) (m : mg "reach_of" = some (.ref f)) (C_P_front_of : Cal P w K mg base 2 "front_of" ["plate"] sp_P_front_of) (C_P_triple_sum : Cal P w K mg base 1 "triple_sum" ["one", "other"] sp_P_triple_sum) (C_P_shadow_of : Cal P w K mg base 6 "shadow_of" ["plate", "tip", "direction"] sp_P_shadow_of) : Cal P w K mg base 7 "reach_of" ["plate", "direction"] sp_P_reach_of :=
  .mk F m (F.binds fun _ _ _ _ _ _ us hl => args2 hl fun _ _ => rfl) (fnT (W := w_P_reach_of) F sc_P_reach_of len_P_reach_of (fun cdv A outer s H E hr =>
    (@js1 _ _ _ (@jret _ _ _ _ (@jcallC _ _ _ _ _ _ _ _ _ _ C_P_shadow_of (hr.mono (by omega)) rfl (@ja _ _ _ _ _ (@jV _ 0 _ _ rfl (by walk_at "v")) (@ja _ _ _ _ _ (@jcallC _ _ _ _ _ _ _ _ _ _ C_P_triple_sum (hr.mono (by omega)) rfl (@ja _ _ _ _ _ (@jix _ _ _ _ _ _ (@jV _ 0 _ _ rfl (by walk_at "v")) (@ji _ _ _ _) (fun _ _ => rfl)) (@ja _ _ _ _ _ (@jcallC _ _ _ _ _ _ _ _ _ _ C_P_front_of (hr.mono (by omega)) rfl (@ja _ _ _ _ _ (@jV _ 0 _ _ rfl (by walk_at "v")) (@ja0 _) (star1 rfl)) (by decide) (star1 rfl) (stars rfl)) (@ja0 _) (star1 rfl)) (star1 rfl)) (by decide) (star1 rfl) (stars rfl)) (@ja _ _ _ _ _ (@jV _ 1 _ _ rfl (by walk_at "v")) (@ja0 _) (star1 rfl)) (star1 rfl)) (star1 rfl)) (by decide) (star1 rfl) (stars rfl))))) ok_P_reach_of)
abbrev st_P_height_within : Stmt := top 36
theorem sc_P_height_within : FnScope ["start", "reach", "room"] ["start", "reach"] (defScope st_P_height_within) := by walk_at "s"
theorem fn_P_height_within {f : Addr} {fd : FuncData} (F : Fun K "height_within" "height_within" st_P_height_within f fd) (m : mg "height_within" = some (.ref f)) (C_P_ratio_less : Cal P w K mg base 3 "ratio_less" ["one", "other"] sp_P_ratio_less) (C_P_ratio_by : Cal P w K mg base 3 "ratio_by" ["one", "other"] sp_P_ratio_by) (z_abs : mg "abs" = none) : Cal P w K mg base 4 "height_within" ["start", "reach"] sp_P_height_within :=
  .mk F m (F.binds fun _ _ _ _ _ _ us hl => args2 hl fun _ _ => rfl) (fnT (W := w_P_height_within) F sc_P_height_within len_P_height_within (fun cdv A outer s H E hr =>
    (@jsc _ _ _ _ _ (@jsif _ _ _ _ _ _ _ _ (@tcmp _ _ _ _ _ _ _ _ (c_eq hr) (@jix _ _ _ _ _ _ (@jV _ 1 _ _ rfl (by walk_at "v")) (@ji _ _ _ _) (fun _ _ => rfl)) (@ji _ _ _ _) (nomark _)) (@js1 _ _ _ (@jret _ _ _ _ (@jn _ _ _))) (@js0 _)) (@jsc _ _ _ _ _ (@jset _ _ _ _ (2) _ _ sc_P_height_within.nd rfl (Or.inl rfl) (@jif _ _ _ _ _ _ _ _ (@tcmp _ _ _ _ _ _ _ _ c_lt (@jix _ _ _ _ _ _ (@jV _ 1 _ _ rfl (by walk_at "v")) (@ji _ _ _ _) (fun _ _ => rfl)) (@ji _ _ _ _) (nomark _)) (@jV _ 0 _ _ rfl (by walk_at "v")) (@jcallC _ _ _ _ _ _ _ _ _ _ C_P_ratio_less (hr.mono (by omega)) rfl (@ja _ _ _ _ _ (@jtup _ _ _ _ _ (@ja _ _ _ _ _ (@ji _ _ _ _) (@ja _ _ _ _ _ (@ji _ _ _ _) (@ja0 _) (star1 rfl)) (star1 rfl))) (@ja _ _ _ _ _ (@jV _ 0 _ _ rfl (by walk_at "v")) (@ja0 _) (star1 rfl)) (star1 rfl)) (by decide) (star1 rfl) (stars rfl))) (by rfl) (by walk_at "f")) (@js1 _ _ _ (@jret _ _ _ _ (@jcallC _ _ _ _ _ _ _ _ _ _ C_P_ratio_by (hr.mono (by omega)) rfl (@ja _ _ _ _ _ (@jV _ 2 _ _ rfl (by walk_at "v")) (@ja _ _ _ _ _ (@jtup _ _ _ _ _ (@ja _ _ _ _ _ (@jblt _ _ _ _ _ _ _ _ _ bl_abs rfl z_abs boot_abs (@ja _ _ _ _ _ (@jix _ _ _ _ _ _ (@jV _ 1 _ _ rfl (by walk_at "v")) (@ji _ _ _ _) (fun _ _ => rfl)) (@ja0 _) (star1 rfl)) (by decide) (by decide) (star1 rfl) (stars rfl)) (@ja _ _ _ _ _ (@jix _ _ _ _ _ _ (@jV _ 1 _ _ rfl (by walk_at "v")) (@ji _ _ _ _) (fun _ _ => rfl)) (@ja0 _) (star1 rfl)) (star1 rfl))) (@ja0 _) (star1 rfl)) (star1 rfl)) (by decide) (star1 rfl) (stars rfl))))))) ok_P_height_within)
abbrev st_P_is_under : Stmt := top 17
theorem sc_P_is_under : FnScope ["one", "other"] ["one", "other"] (defScope st_P_is_under) := by walk_at "s"
theorem fn_P_is_under {f : Addr} {fd : FuncData} (F : Fun K "is_under" "is_under" st_P_is_under f fd) (m : mg "is_under" = some (.ref f)) : Cal P w K mg base 1 "is_under" ["one", "other"] sp_P_is_under :=
  .mk F m (F.binds fun _ _ _ _ _ _ us hl => args2 hl fun _ _ => rfl) (fnT (W := w_P_is_under) F sc_P_is_under len_P_is_under (fun cdv A outer s H E hr =>
    (@js1 _ _ _ (@jret _ _ _ _ (@jcmp _ _ _ _ _ _ _ _ c_lt (@jop _ _ _ _ _ _ _ _ b_mul (@jix _ _ _ _ _ _ (@jV _ 0 _ _ rfl (by walk_at "v")) (@ji _ _ _ _) (fun _ _ => rfl)) (@jix _ _ _ _ _ _ (@jV _ 1 _ _ rfl (by walk_at "v")) (@ji _ _ _ _) (fun _ _ => rfl))) (@jop _ _ _ _ _ _ _ _ b_mul (@jix _ _ _ _ _ _ (@jV _ 1 _ _ rfl (by walk_at "v")) (@ji _ _ _ _) (fun _ _ => rfl)) (@jix _ _ _ _ _ _ (@jV _ 0 _ _ rfl (by walk_at "v")) (@ji _ _ _ _) (fun _ _ => rfl))) (nomark _))))) ok_P_is_under)
abbrev st_P_greatest_staff : Stmt := top 38
theorem sc_P_greatest_staff : FnScope ["plate", "foot", "sun", "hours", "greatest", "direction", "reach", "axis", "height"] ["plate", "foot", "sun", "hours"] (defScope st_P_greatest_staff) := by walk_at "s"
theorem fn_P_greatest_staff {f : Addr} {fd : FuncData} (F : Fun K "greatest_staff" "greatest_staff" st_P_greatest_staff f fd) (m : mg "greatest_staff" = some (.ref f)) (C_P_lit_directions : CalX P w K mg base 4 "lit_directions" ["plate", "sun", "hours"] sp_P_lit_directions) (C_P_reach_of : Cal P w K mg base 7 "reach_of" ["plate", "direction"] sp_P_reach_of) (C_P_height_within : Cal P w K mg base 4 "height_within" ["start", "reach"] sp_P_height_within) (C_P_is_under : Cal P w K mg base 1 "is_under" ["one", "other"] sp_P_is_under) (z_range : mg "range" = none) : CalX P w K mg base 8 "greatest_staff" ["plate", "foot", "sun", "hours"] sp_P_greatest_staff :=
  .mk F m (F.binds fun _ _ _ _ _ _ us hl => args4 hl fun _ _ _ _ => rfl) (fnX (W := w_P_greatest_staff) F sc_P_greatest_staff len_P_greatest_staff (fun R cdv A outer s H E hr tk =>
    (@jsc _ _ _ _ _ (@jset _ _ _ _ (4) _ _ sc_P_greatest_staff.nd rfl (Or.inl rfl) (@jn _ _ _) (by rfl) (by walk_at "f")) (@jsc _ _ _ _ _ (@jfor _ _ _ _ _ _ _ _ PassesOwn.leaving rfl (@jiSeq _ _ _ _ (@jcallX _ _ _ _ _ _ _ _ _ _ _ C_P_lit_directions tk (hr.mono (by omega)) rfl (@ja _ _ _ _ _ (@jV _ 0 _ _ rfl (by walk_at "v")) (@ja _ _ _ _ _ (@jV _ 2 _ _ rfl (by walk_at "v")) (@ja _ _ _ _ _ (@jV _ 3 _ _ rfl (by walk_at "v")) (@ja0 _) (star1 rfl)) (star1 rfl)) (star1 rfl)) (by decide) (star1 rfl) (stars rfl))) (@jg _ _ (5) _ sc_P_greatest_staff.nd rfl (Or.inl rfl) (by walk_at "f")) (@jsc _ _ _ _ _ (@jset _ _ _ _ (6) _ _ sc_P_greatest_staff.nd rfl (Or.inl rfl) (@jcallC _ _ _ _ _ _ _ _ _ _ C_P_reach_of (hr.mono (by omega)) rfl (@ja _ _ _ _ _ (@jV _ 0 _ _ rfl (by walk_at "v")) (@ja _ _ _ _ _ (@jV _ 5 _ _ rfl (by walk_at "v")) (@ja0 _) (star1 rfl)) (star1 rfl)) (by decide) (star1 rfl) (stars rfl)) (by rfl) (by walk_at "f")) (@js1 _ _ _ (@jfor _ _ _ _ _ _ _ _ PassesOwn.leaving rfl (@jiRange1 _ _ _ _ _ _ rfl z_range (@ja _ _ _ _ _ (@ji _ _ _ _) (@ja0 _) (star1 rfl)) (by rfl)) (@jg _ _ (7) _ sc_P_greatest_staff.nd rfl (Or.inl rfl) (by walk_at "f")) (@jsc _ _ _ _ _ (@jset _ _ _ _ (8) _ _ sc_P_greatest_staff.nd rfl (Or.inl rfl) (@jcallC _ _ _ _ _ _ _ _ _ _ C_P_height_within (hr.mono (by omega)) rfl (@ja _ _ _ _ _ (@jix _ _ _ _ _ _ (@jV _ 1 _ _ rfl (by walk_at "v")) (@jV _ 7 _ _ rfl (by walk_at "v")) (fun _ _ => rfl)) (@ja _ _ _ _ _ (@jix _ _ _ _ _ _ (@jV _ 6 _ _ rfl (by walk_at "v")) (@jV _ 7 _ _ rfl (by walk_at "v")) (fun _ _ => rfl)) (@ja0 _) (star1 rfl)) (star1 rfl)) (by decide) (star1 rfl) (stars rfl)) (by rfl) (by walk_at "f")) (@js1 _ _ _ (@jsif _ _ _ _ _ _ _ _ (@jw _ _ _ (@tor _ _ _ _ _ _ _ (@tcmp _ _ _ _ _ _ _ _ c_is (@jV _ 4 _ _ rfl (by walk_at "v")) (@jn _ _ _) (nomark _)) (@tor1 _ _ _ _ (@jw _ _ _ (@tand _ _ _ _ _ _ _ (@tcmp _ _ _ _ _ _ _ _ c_isnot (@jV _ 8 _ _ rfl (by walk_at "v")) (@jn _ _ _) (nomark _)) (@tand1 _ _ _ _ (@tval _ _ _ (@jcallC _ _ _ _ _ _ _ _ _ _ C_P_is_under (hr.mono (by omega)) rfl (@ja _ _ _ _ _ (@jV _ 8 _ _ rfl (by walk_at "v")) (@ja _ _ _ _ _ (@jV _ 4 _ _ rfl (by walk_at "v")) (@ja0 _) (star1 rfl)) (star1 rfl)) (by decide) (star1 rfl) (stars rfl)) (fun _ => rfl)))))))) (@js1 _ _ _ (@jset _ _ _ _ (4) _ _ sc_P_greatest_staff.nd rfl (Or.inl rfl) (@jV _ 8 _ _ rfl (by walk_at "v")) (by rfl) (by walk_at "f"))) (@js0 _)))) (fun _ => rfl)))) (fun _ => rfl)) (@js1 _ _ _ (@jret _ _ _ _ (@jV _ 4 _ _ rfl (by walk_at "v"))))))) ok_P_greatest_staff)
abbrev st_L_told : Stmt := top 49
theorem sc_L_told : FnScope ["_law_plate_here", "_law_sun_here", "_law_hours", "_law_caught", "_law_e"] ["_law_plate_here", "_law_sun_here", "_law_hours"] (defScope st_L_told) := by walk_at "s"
theorem fn_L_told {f : Addr} {fd : FuncData} (F : Fun K "_law_told" "_law_told" st_L_told f fd) (m : mg "_law_told" = some (.ref f)) (C_P_greatest_staff : CalX P w K mg base 8 "greatest_staff" ["plate", "foot", "sun", "hours"] sp_P_greatest_staff) (z_isinstance : mg "isinstance" = none) (z_ValueError : mg "ValueError" = none) (ct_YardError : Catches K mg "YardError" ["NoHour", "NotLit"]) (gf_hour : GetF K "hour" ["NoHour", "NotLit"]) {D_NoName : Addr} (mc_NoName : mg "NoName" = some (.ref D_NoName)) {D_NoPlate : Addr} (mc_NoPlate : mg "NoPlate" = some (.ref D_NoPlate)) {D_NoSun : Addr} (mc_NoSun : mg "NoSun" = some (.ref D_NoSun)) {D_NoYard : Addr} (mc_NoYard : mg "NoYard" = some (.ref D_NoYard)) {D_NoHour : Addr} (mc_NoHour : mg "NoHour" = some (.ref D_NoHour)) {D_NotLit : Addr} (mc_NotLit : mg "NotLit" = some (.ref D_NotLit)) (an_NoName_NoPlate_NoSun_NoYard : AnsN K (List.map Value.ref [D_NoName, D_NoPlate, D_NoSun, D_NoYard]) [("NoHour", false), ("NotLit", false)]) (an_ValueError : Ans1 K (.type "ValueError") [("NoHour", true), ("NotLit", true)]) (an_NoHour : Ans1 K (.ref D_NoHour) [("NoHour", true), ("NotLit", false)]) (an_NotLit : Ans1 K (.ref D_NotLit) [("NoHour", false), ("NotLit", true)]) : Cal P w K mg base 9 "_law_told" ["_law_plate_here", "_law_sun_here", "_law_hours"] sp_L_told :=
  .mk F m (F.binds fun _ _ _ _ _ _ us hl => args3 hl fun _ _ _ => rfl) (fnT (W := w_L_told) F sc_L_told len_L_told (fun cdv A outer s H E hr =>
    (@jsc _ _ _ _ _ (@jset _ _ _ _ (3) _ _ sc_L_told.nd rfl (Or.inl rfl) (@jn _ _ _) (by rfl) (by walk_at "f")) (@jsc _ _ _ _ _ (@jtry _ _ _ _ _ _ _ (4) (3) _ _ _ _ _ _ (DefCx.mk rfl rfl rfl) ct_YardError sc_L_told.nd rfl rfl (by decide) rfl rfl rfl (@jbExpr _ _ _ _ _ _ _ _ _ _ _ C_P_greatest_staff (fun _ _ z => z) (hr.mono (by omega)) rfl (@ja _ _ _ _ _ (@jV _ 0 _ _ rfl (by walk_at "v")) (@ja _ _ _ _ _ (@jtup _ _ _ _ _ (@ja _ _ _ _ _ (@jtup _ _ _ _ _ (@ja _ _ _ _ _ (@ji _ _ _ _) (@ja _ _ _ _ _ (@ji _ _ _ _) (@ja0 _) (star1 rfl)) (star1 rfl))) (@ja _ _ _ _ _ (@jtup _ _ _ _ _ (@ja _ _ _ _ _ (@ji _ _ _ _) (@ja _ _ _ _ _ (@ji _ _ _ _) (@ja0 _) (star1 rfl)) (star1 rfl))) (@ja0 _) (star1 rfl)) (star1 rfl))) (@ja _ _ _ _ _ (@jV _ 1 _ _ rfl (by walk_at "v")) (@ja _ _ _ _ _ (@jV _ 2 _ _ rfl (by walk_at "v")) (@ja0 _) (star1 rfl)) (star1 rfl)) (star1 rfl)) (star1 rfl)) (by decide) (star1 rfl) (stars rfl) (by rfl)) (by decide) (by decide) (by decide)) (@jsc _ _ _ _ _ (@jsif _ _ _ _ _ _ _ _ (@tcmp _ _ _ _ _ _ _ _ c_is (@jV _ 3 _ _ rfl (by walk_at "v")) (@jn _ _ _) (nomark _)) (@js1 _ _ _ (@jret _ _ _ _ (@jtup _ _ _ _ _ (@ja _ _ _ _ _ (@js _ _ _ _) (@ja _ _ _ _ _ (@ji _ _ _ _) (@ja0 _) (star1 rfl)) (star1 rfl))))) (@js0 _)) (@jsc _ _ _ _ _ (@jsif _ _ _ _ _ _ _ _ (@jw _ _ _ (@tor _ _ _ _ _ _ _ (@tval _ _ _ (@jisN _ _ _ _ _ _ _ _ _ _ an_NoName_NoPlate_NoSun_NoYard (show 4 ≤ 1000 from (by decide)) (@jV _ 3 _ _ rfl (by walk_at "v")) rfl z_isinstance (@crow _ _ _ _ _ _ rfl mc_NoName (@crow _ _ _ _ _ _ rfl mc_NoPlate (@crow _ _ _ _ _ _ rfl mc_NoSun (@crow _ _ _ _ _ _ rfl mc_NoYard (@crow0 _) (by decide)) (by decide)) (by decide)) (by decide)) (star1 rfl) (star1 rfl) (stars rfl)) (fun _ => rfl)) (@tor1 _ _ _ _ (@tnot _ _ _ _ (@tval _ _ _ (@jisB _ _ _ _ _ _ _ _ _ an_ValueError (@jV _ 3 _ _ rfl (by walk_at "v")) rfl z_isinstance rfl z_ValueError PyProof.Rows.Boot.«ValueError» (by decide) (by decide) (star1 rfl) (star1 rfl) (stars rfl)) (fun _ => rfl)))))) (@js1 _ _ _ (@jret _ _ _ _ (@jtup _ _ _ _ _ (@ja _ _ _ _ _ (@js _ _ _ _) (@ja _ _ _ _ _ (@ji _ _ _ _) (@ja0 _) (star1 rfl)) (star1 rfl))))) (@js0 _)) (@jsc _ _ _ _ _ (@jsif _ _ _ _ _ _ _ _ (@jw _ _ _ (@tand _ _ _ _ _ _ _ (@tval _ _ _ (@jisO _ _ _ _ _ _ _ _ _ an_NoHour (@jV _ 3 _ _ rfl (by walk_at "v")) rfl z_isinstance rfl mc_NoHour (by decide) (star1 rfl) (star1 rfl) (stars rfl)) (fun _ => rfl)) (@tand1 _ _ _ _ (@tnot _ _ _ _ (@tval _ _ _ (@jisO _ _ _ _ _ _ _ _ _ an_NotLit (@jV _ 3 _ _ rfl (by walk_at "v")) rfl z_isinstance rfl mc_NotLit (by decide) (star1 rfl) (star1 rfl) (stars rfl)) (fun _ => rfl)))))) (@js1 _ _ _ (@jret _ _ _ _ (@jtup _ _ _ _ _ (@ja _ _ _ _ _ (@js _ _ _ _) (@ja _ _ _ _ _ (@jfld _ _ _ _ _ _ gf_hour (@jV _ 3 _ _ rfl (by walk_at "v")) (by rfl)) (@ja0 _) (star1 rfl)) (star1 rfl))))) (@js0 _)) (@jsc _ _ _ _ _ (@jsif _ _ _ _ _ _ _ _ (@jw _ _ _ (@tand _ _ _ _ _ _ _ (@tval _ _ _ (@jisO _ _ _ _ _ _ _ _ _ an_NotLit (@jV _ 3 _ _ rfl (by walk_at "v")) rfl z_isinstance rfl mc_NotLit (by decide) (star1 rfl) (star1 rfl) (stars rfl)) (fun _ => rfl)) (@tand1 _ _ _ _ (@tnot _ _ _ _ (@tval _ _ _ (@jisO _ _ _ _ _ _ _ _ _ an_NoHour (@jV _ 3 _ _ rfl (by walk_at "v")) rfl z_isinstance rfl mc_NoHour (by decide) (star1 rfl) (star1 rfl) (stars rfl)) (fun _ => rfl)))))) (@js1 _ _ _ (@jret _ _ _ _ (@jtup _ _ _ _ _ (@ja _ _ _ _ _ (@js _ _ _ _) (@ja _ _ _ _ _ (@jfld _ _ _ _ _ _ gf_hour (@jV _ 3 _ _ rfl (by walk_at "v")) (by rfl)) (@ja0 _) (star1 rfl)) (star1 rfl))))) (@js0 _)) (@js1 _ _ _ (@jret _ _ _ _ (@jtup _ _ _ _ _ (@ja _ _ _ _ _ (@js _ _ _ _) (@ja _ _ _ _ _ (@ji _ _ _ _) (@ja0 _) (star1 rfl)) (star1 rfl)))))))))))) ok_L_told)
abbrev st_L_due : Stmt := top 48
theorem sc_L_due : FnScope ["_law_plate_here", "_law_sun_here", "_law_hours", "_law_known", "_law_hour"] ["_law_plate_here", "_law_sun_here", "_law_hours"] (defScope st_L_due) := by walk_at "s"
theorem fn_L_due {f : Addr} {fd : FuncData} (F : Fun K "_law_due" "_law_due" st_L_due f fd) (m : mg "_law_due" = some (.ref f)) (C_L_front : Cal P w K mg base 2 "_law_front" ["_law_plate_here"] sp_L_front) (C_L_dot : Cal P w K mg base 1 "_law_dot" ["_law_one", "_law_other"] sp_L_dot) (z_dict : mg "dict" = none) : Cal P w K mg base 3 "_law_due" ["_law_plate_here", "_law_sun_here", "_law_hours"] sp_L_due :=
  .mk F m (F.binds fun _ _ _ _ _ _ us hl => args3 hl fun _ _ _ => rfl) (fnT (W := w_L_due) F sc_L_due len_L_due (fun cdv A outer s H E hr =>
    (@jsc _ _ _ _ _ (@jdic _ _ _ _ (3) _ _ _ _ _ sc_L_due.nd rfl (Or.inl rfl) rfl rfl z_dict boot_dict (@jV _ 1 _ _ rfl (by walk_at "v")) (by decide) (by decide) (star1 rfl) (by rfl) (by walk_at "f")) (@jsc _ _ _ _ _ (@jfor _ _ _ _ _ _ _ _ PassesOwn.never rfl (@jiSeq _ _ _ _ (@jV _ 2 _ _ rfl (by walk_at "v"))) (@jg _ _ (4) _ sc_L_due.nd rfl (Or.inl rfl) (by walk_at "f")) (@js1 _ _ _ (@jsif _ _ _ _ _ _ _ _ (@tninD _ _ _ _ (3) _ _ (@jV _ 4 _ _ rfl (by walk_at "v")) (pv 3) rfl) (@js1 _ _ _ (@jret _ _ _ _ (@jtup _ _ _ _ _ (@ja _ _ _ _ _ (@js _ _ _ _) (@ja _ _ _ _ _ (@jV _ 4 _ _ rfl (by walk_at "v")) (@ja0 _) (star1 rfl)) (star1 rfl))))) (@js0 _))) (fun _ => rfl)) (@jsc _ _ _ _ _ (@jfor _ _ _ _ _ _ _ _ PassesOwn.never rfl (@jiSeq _ _ _ _ (@jV _ 2 _ _ rfl (by walk_at "v"))) (@jg _ _ (4) _ sc_L_due.nd rfl (Or.inl rfl) (by walk_at "f")) (@js1 _ _ _ (@jsif _ _ _ _ _ _ _ _ (@tcmp _ _ _ _ _ _ _ _ c_le (@jcallC _ _ _ _ _ _ _ _ _ _ C_L_dot (hr.mono (by omega)) rfl (@ja _ _ _ _ _ (@jdis _ _ _ _ (3) _ _ (pv 3) (@jV _ 4 _ _ rfl (by walk_at "v")) (fun _ _ => rfl)) (@ja _ _ _ _ _ (@jcallC _ _ _ _ _ _ _ _ _ _ C_L_front (hr.mono (by omega)) rfl (@ja _ _ _ _ _ (@jV _ 0 _ _ rfl (by walk_at "v")) (@ja0 _) (star1 rfl)) (by decide) (star1 rfl) (stars rfl)) (@ja0 _) (star1 rfl)) (star1 rfl)) (by decide) (star1 rfl) (stars rfl)) (@ji _ _ _ _) (nomark _)) (@js1 _ _ _ (@jret _ _ _ _ (@jtup _ _ _ _ _ (@ja _ _ _ _ _ (@js _ _ _ _) (@ja _ _ _ _ _ (@jV _ 4 _ _ rfl (by walk_at "v")) (@ja0 _) (star1 rfl)) (star1 rfl))))) (@js0 _))) (fun _ => rfl)) (@js1 _ _ _ (@jret _ _ _ _ (@jtup _ _ _ _ _ (@ja _ _ _ _ _ (@js _ _ _ _) (@ja _ _ _ _ _ (@ji _ _ _ _) (@ja0 _) (star1 rfl)) (star1 rfl))))))))) ok_L_due)
abbrev st_L_law : Stmt := top 50
theorem sc_L_law : FnScope ["_law_script", "_law_plate_here", "_law_sun_here", "_law_k", "_law_cell_here", "_law_row", "_law_hours"] ["_law_script"] (defScope st_L_law) := by walk_at "s"
theorem fn_L_law {f : Addr} {fd : FuncData} (F : Fun K "law" "law" st_L_law f fd) (C_L_cell : Cal P w K mg base 1 "_law_cell" ["_law_script", "_law_k"] sp_L_cell) (C_L_plate : Cal P w K mg base 2 "_law_plate" ["_law_cell_here", "_law_k"] sp_L_plate) (C_L_sun : Cal P w K mg base 4 "_law_sun" ["_law_script", "_law_plate_here"] sp_L_sun) (C_L_digits : Cal P w K mg base 1 "_law_digits" ["_law_cell_here", "_law_k", "_law_many", "_law_size"] sp_L_digits) (C_L_told : Cal P w K mg base 9 "_law_told" ["_law_plate_here", "_law_sun_here", "_law_hours"] sp_L_told) (C_L_due : Cal P w K mg base 3 "_law_due" ["_law_plate_here", "_law_sun_here", "_law_hours"] sp_L_due) (z_enumerate : mg "enumerate" = none) (z_len : mg "len" = none) : FnT P w K mg base 10 f fd ["_law_script"] lawSp :=
  fnT (W := w_L_law) F sc_L_law len_law (fun cdv A outer s H E hr =>
    (@jsc _ _ _ _ _ (@jset _ _ _ _ (1) _ _ sc_L_law.nd rfl (Or.inl rfl) (@jcallC _ _ _ _ _ _ _ _ _ _ C_L_plate (hr.mono (by omega)) rfl (@ja _ _ _ _ _ (@jcallC _ _ _ _ _ _ _ _ _ _ C_L_cell (hr.mono (by omega)) rfl (@ja _ _ _ _ _ (@jV _ 0 _ _ rfl (by walk_at "v")) (@ja _ _ _ _ _ (@ji _ _ _ _) (@ja0 _) (star1 rfl)) (star1 rfl)) (by decide) (star1 rfl) (stars rfl)) (@ja _ _ _ _ _ (@ji _ _ _ _) (@ja0 _) (star1 rfl)) (star1 rfl)) (by decide) (star1 rfl) (stars rfl)) (by rfl) (by walk_at "f")) (@jsc _ _ _ _ _ (@jset _ _ _ _ (2) _ _ sc_L_law.nd rfl (Or.inr rfl) (@jcallC _ _ _ _ _ _ _ _ _ _ C_L_sun (hr.mono (by omega)) rfl (@ja _ _ _ _ _ (@jV _ 0 _ _ rfl (by walk_at "v")) (@ja _ _ _ _ _ (@jV _ 1 _ _ rfl (by walk_at "v")) (@ja0 _) (star1 rfl)) (star1 rfl)) (by decide) (star1 rfl) (stars rfl)) (by rfl) (by walk_at "f")) (@jsc _ _ _ _ _ (@jfor _ _ _ _ _ _ _ _ PassesOwn.never rfl (@jiEnum _ _ _ _ _ _ _ _ rfl z_enumerate (@ja _ _ _ _ _ (@jop _ _ _ _ _ _ _ _ b_cat (@jsl _ _ _ _ _ _ _ _ _ (@jV _ 0 _ _ rfl (by walk_at "v")) (@jo _ _ _ (@ji _ _ _ _)) (@jo _ _ _ (@ji _ _ _ _))) (@jlst _ _ _ _ (@ja _ _ _ _ _ (@ji _ _ _ _) (@ja0 _) (star1 rfl)))) (@ja0 _) (star1 rfl)) (by rfl)) (@jgt _ _ _ _ _ _ rfl (@jgsc _ _ _ _ _ (@jg _ _ (3) _ sc_L_law.nd rfl (Or.inl rfl) (by walk_at "f")) (@jgsc _ _ _ _ _ (@jg _ _ (4) _ sc_L_law.nd rfl (Or.inl rfl) (by walk_at "f")) (@jgs0 _) (by rfl)) (by rfl)) (by rfl) (by rfl)) (@jsc _ _ _ _ _ (@jset _ _ _ _ (5) _ _ sc_L_law.nd rfl (Or.inl rfl) (@jcallC _ _ _ _ _ _ _ _ _ _ C_L_digits (hr.mono (by omega)) rfl (@ja _ _ _ _ _ (@jop _ _ _ _ _ _ _ _ b_div (@jV _ 4 _ _ rfl (by walk_at "v")) (@ji _ _ _ _)) (@ja _ _ _ _ _ (@jop _ _ _ _ _ _ _ _ b_add (@jV _ 3 _ _ rfl (by walk_at "v")) (@ji _ _ _ _)) (@ja _ _ _ _ _ (@ji _ _ _ _) (@ja _ _ _ _ _ (@ji _ _ _ _) (@ja0 _) (star1 rfl)) (star1 rfl)) (star1 rfl)) (star1 rfl)) (by decide) (star1 rfl) (stars rfl)) (by rfl) (by walk_at "f")) (@jsc _ _ _ _ _ (@jsetc _ _ _ _ _ _ _ (defScope st_L_law) (["_law_one"]) (["_law_script" , "_law_plate_here" , "_law_sun_here" , "_law_k" , "_law_cell_here" , "_law_row" , "_law_hours"]) ([("_law_sun_here" , 2)]) _ _ _ _ (6) _ _ _ sc_L_law.nd rfl (Or.inl rfl) rfl rfl rfl (@jiSeq _ _ _ _ (@jsl _ _ _ _ _ _ _ _ _ (@jV _ 5 _ _ rfl (by walk_at "v")) (@jo0 _) (@jo _ _ _ (@jop _ _ _ _ _ _ _ _ b_add (@ji _ _ _ _) (@jop _ _ _ _ _ _ _ _ b_mod (@jix _ _ _ _ _ _ (@jV _ 5 _ _ rfl (by walk_at "v")) (@ji _ _ _ _) (fun _ _ => rfl)) (@ji _ _ _ _)))))) rfl rfl (by decide +kernel) (by decide +kernel) (by decide +kernel) (by decide +kernel) (fun cl C s3 H2 ex => (@jg _ _ (0) _ (show List.Nodup (["_law_one" , "_law_sun_here"] : List Str) from by decide +kernel) rfl (Or.inl rfl) (by walk_at "f"))) (fun cl C s3 H2 ex => (@jts0 _)) (fun cl C s3 H2 ex => (@jix _ _ _ _ _ _ (@jix _ _ _ _ _ _ (@jV _ 1 _ _ rfl (by walk_at "v")) (@jop _ _ _ _ _ _ _ _ b_mod (@jV _ 0 _ _ rfl (by walk_at "v")) (@jblt _ _ _ _ _ _ _ _ _ bl_len rfl z_len boot_len (@ja _ _ _ _ _ (@jV _ 1 _ _ rfl (by walk_at "v")) (@ja0 _) (star1 rfl)) (by decide) (by decide) (star1 rfl) (stars rfl))) (fun _ _ => rfl)) (@ji _ _ _ _) (fun _ _ => rfl))) (fun _ => rfl) (by rfl) (by walk_at "f")) (@jsc _ _ _ _ _ (@jsif _ _ _ _ _ _ _ _ (@tcmp _ _ _ _ _ _ _ _ (c_eq hr) (@jop _ _ _ _ _ _ _ _ b_mod (@jix _ _ _ _ _ _ (@jV _ 5 _ _ rfl (by walk_at "v")) (@ji _ _ _ _) (fun _ _ => rfl)) (@ji _ _ _ _)) (@ji _ _ _ _) (nomark _)) (@js1 _ _ _ (@jset _ _ _ _ (6) _ _ sc_L_law.nd rfl (Or.inl rfl) (@jop _ _ _ _ _ _ _ _ b_cat (@jop _ _ _ _ _ _ _ _ b_cat (@jsl _ _ _ _ _ _ _ _ _ (@jV _ 6 _ _ rfl (by walk_at "v")) (@jo0 _) (@jo _ _ _ (@jop _ _ _ _ _ _ _ _ b_mod (@jix _ _ _ _ _ _ (@jV _ 5 _ _ rfl (by walk_at "v")) (@ji _ _ _ _) (fun _ _ => rfl)) (@ji _ _ _ _)))) (@jlst _ _ _ _ (@ja _ _ _ _ _ (@jop _ _ _ _ _ _ _ _ b_add (@jop _ _ _ _ _ _ _ _ b_mul (@ji _ _ _ _) (@jix _ _ _ _ _ _ (@jV _ 5 _ _ rfl (by walk_at "v")) (@ji _ _ _ _) (fun _ _ => rfl))) (@ji _ _ _ _)) (@ja _ _ _ _ _ (@ji _ _ _ _) (@ja0 _) (star1 rfl)) (star1 rfl)))) (@jsl _ _ _ _ _ _ _ _ _ (@jV _ 6 _ _ rfl (by walk_at "v")) (@jo _ _ _ (@jop _ _ _ _ _ _ _ _ b_mod (@jix _ _ _ _ _ _ (@jV _ 5 _ _ rfl (by walk_at "v")) (@ji _ _ _ _) (fun _ _ => rfl)) (@ji _ _ _ _))) (@jo0 _))) (by rfl) (by walk_at "f"))) (@js0 _)) (@js1 _ _ _ (@jsif _ _ _ _ _ _ _ _ (@tcmp _ _ _ _ _ _ _ _ (c_ne hr) (@jcallC _ _ _ _ _ _ _ _ _ _ C_L_told (hr.mono (by omega)) rfl (@ja _ _ _ _ _ (@jV _ 1 _ _ rfl (by walk_at "v")) (@ja _ _ _ _ _ (@jV _ 2 _ _ rfl (by walk_at "v")) (@ja _ _ _ _ _ (@jV _ 6 _ _ rfl (by walk_at "v")) (@ja0 _) (star1 rfl)) (star1 rfl)) (star1 rfl)) (by decide) (star1 rfl) (stars rfl)) (@jcallC _ _ _ _ _ _ _ _ _ _ C_L_due (hr.mono (by omega)) rfl (@ja _ _ _ _ _ (@jV _ 1 _ _ rfl (by walk_at "v")) (@ja _ _ _ _ _ (@jV _ 2 _ _ rfl (by walk_at "v")) (@ja _ _ _ _ _ (@jV _ 6 _ _ rfl (by walk_at "v")) (@ja0 _) (star1 rfl)) (star1 rfl)) (star1 rfl)) (by decide) (star1 rfl) (stars rfl)) (nomark _)) (@js1 _ _ _ (@jret _ _ _ _ (@jb _ _ _ _))) (@js0 _)))))) (fun _ => rfl)) (@js1 _ _ _ (@jret _ _ _ _ (@jb _ _ _ _))))))) ok_L_law
end
theorem all_mk {l : PySem.W.OpenLaw} {w : World} {K : PySem.W.Frag} {h : Heap} {mg : Str → Option Value} {fa f0 f1 f2 f3 f4 f5 f6 f7 f8 f9 f10 f11 f12 f13 f14 f15 f16 f17 f18 f19 f20 f21 f22 f23 f24 f25 f26 f27 f28 f29 f30 f31 f32 f33 : Addr} (X : K.In h) (G : h.Ns mainGlobals mg) (hfa : mg "law" = some (.ref fa))
    {od0 an0 od1 an1 od2 an2 od3 an3 od4 an4 od5 an5 od6 an6 od7 an7 od8 an8 od9 an9 od10 an10 od11 an11 od12 an12 od13 an13 od14 an14 od15 an15 od16 an16 od17 an17 od18 an18 od19 an19 od20 an20 od21 an21 od22 an22 od23 an23 od24 an24 od25 an25 od26 an26 od27 an27 od28 an28 od29 an29 od30 an30 od31 an31 od32 an32 od33 an33 : Option Addr} {sl0 sl1 sl2 sl3 sl4 sl5 sl6 sl7 sl8 sl9 sl10 sl11 sl12 sl13 sl14 sl15 sl16 sl17 sl18 sl19 sl20 sl21 sl22 sl23 sl24 sl25 sl26 sl27 sl28 sl29 sl30 sl31 sl32 sl33 : Array (Option Value)} {oc0 kV0 dc0 pm0 cd0 ct0 oc1 kV1 dc1 pm1 cd1 ct1 oc2 kV2 dc2 pm2 cd2 ct2 oc3 kV3 dc3 pm3 cd3 ct3 oc4 kV4 dc4 pm4 cd4 ct4 oc5 kV5 dc5 pm5 cd5 ct5 oc6 kV6 dc6 pm6 cd6 ct6 oc7 kV7 dc7 pm7 cd7 ct7 oc8 kV8 dc8 pm8 cd8 ct8 oc9 kV9 dc9 pm9 cd9 ct9 oc10 kV10 dc10 pm10 cd10 ct10 oc11 kV11 dc11 pm11 cd11 ct11 oc12 kV12 dc12 pm12 cd12 ct12 oc13 kV13 dc13 pm13 cd13 ct13 oc14 kV14 dc14 pm14 cd14 ct14 oc15 kV15 dc15 pm15 cd15 ct15 oc16 kV16 dc16 pm16 cd16 ct16 oc17 kV17 dc17 pm17 cd17 ct17 oc18 kV18 dc18 pm18 cd18 ct18 oc19 kV19 dc19 pm19 cd19 ct19 oc20 kV20 dc20 pm20 cd20 ct20 oc21 kV21 dc21 pm21 cd21 ct21 oc22 kV22 dc22 pm22 cd22 ct22 oc23 kV23 dc23 pm23 cd23 ct23 oc24 kV24 dc24 pm24 cd24 ct24 oc25 kV25 dc25 pm25 cd25 ct25 oc26 kV26 dc26 pm26 cd26 ct26 oc27 kV27 dc27 pm27 cd27 ct27 oc28 kV28 dc28 pm28 cd28 ct28 oc29 kV29 dc29 pm29 cd29 ct29 oc30 kV30 dc30 pm30 cd30 ct30 oc31 kV31 dc31 pm31 cd31 ct31 oc32 kV32 dc32 pm32 cd32 ct32 oc33 kV33 dc33 pm33 cd33 ct33 : Value}
    (a0 : PySem.W.nsIn K mainGlobals "_law_cell" = some (some (.ref f0))) (l0 : K.lookup f0 = some ⟨oc0, od0, .func (PySem.W.fnOf "_law_cell" "_law_cell" (defArgs st_L_cell) (defBody st_L_cell) (defScope st_L_cell) .none kV0 dc0 pm0 an0 cd0 ct0), sl0⟩) (c0 : PySem.W.codeIn K cd0 "_law_cell" = true) (k0 : PySem.W.keepIn K (.ref f0) = true)
    (a1 : PySem.W.nsIn K mainGlobals "_law_digits" = some (some (.ref f1))) (l1 : K.lookup f1 = some ⟨oc1, od1, .func (PySem.W.fnOf "_law_digits" "_law_digits" (defArgs st_L_digits) (defBody st_L_digits) (defScope st_L_digits) .none kV1 dc1 pm1 an1 cd1 ct1), sl1⟩) (c1 : PySem.W.codeIn K cd1 "_law_digits" = true) (k1 : PySem.W.keepIn K (.ref f1) = true)
    (a2 : PySem.W.nsIn K mainGlobals "_law_cross" = some (some (.ref f2))) (l2 : K.lookup f2 = some ⟨oc2, od2, .func (PySem.W.fnOf "_law_cross" "_law_cross" (defArgs st_L_cross) (defBody st_L_cross) (defScope st_L_cross) .none kV2 dc2 pm2 an2 cd2 ct2), sl2⟩) (c2 : PySem.W.codeIn K cd2 "_law_cross" = true) (k2 : PySem.W.keepIn K (.ref f2) = true)
    (a3 : PySem.W.nsIn K mainGlobals "_law_plate" = some (some (.ref f3))) (l3 : K.lookup f3 = some ⟨oc3, od3, .func (PySem.W.fnOf "_law_plate" "_law_plate" (defArgs st_L_plate) (defBody st_L_plate) (defScope st_L_plate) .none kV3 dc3 pm3 an3 cd3 ct3), sl3⟩) (c3 : PySem.W.codeIn K cd3 "_law_plate" = true) (k3 : PySem.W.keepIn K (.ref f3) = true)
    (a4 : PySem.W.nsIn K mainGlobals "_law_front" = some (some (.ref f4))) (l4 : K.lookup f4 = some ⟨oc4, od4, .func (PySem.W.fnOf "_law_front" "_law_front" (defArgs st_L_front) (defBody st_L_front) (defScope st_L_front) .none kV4 dc4 pm4 an4 cd4 ct4), sl4⟩) (c4 : PySem.W.codeIn K cd4 "_law_front" = true) (k4 : PySem.W.keepIn K (.ref f4) = true)
    (a5 : PySem.W.nsIn K mainGlobals "_law_dot" = some (some (.ref f5))) (l5 : K.lookup f5 = some ⟨oc5, od5, .func (PySem.W.fnOf "_law_dot" "_law_dot" (defArgs st_L_dot) (defBody st_L_dot) (defScope st_L_dot) .none kV5 dc5 pm5 an5 cd5 ct5), sl5⟩) (c5 : PySem.W.codeIn K cd5 "_law_dot" = true) (k5 : PySem.W.keepIn K (.ref f5) = true)
    (a6 : PySem.W.nsIn K mainGlobals "_law_lit" = some (some (.ref f6))) (l6 : K.lookup f6 = some ⟨oc6, od6, .func (PySem.W.fnOf "_law_lit" "_law_lit" (defArgs st_L_lit) (defBody st_L_lit) (defScope st_L_lit) .none kV6 dc6 pm6 an6 cd6 ct6), sl6⟩) (c6 : PySem.W.codeIn K cd6 "_law_lit" = true) (k6 : PySem.W.keepIn K (.ref f6) = true)
    (a7 : PySem.W.nsIn K mainGlobals "_law_sun" = some (some (.ref f7))) (l7 : K.lookup f7 = some ⟨oc7, od7, .func (PySem.W.fnOf "_law_sun" "_law_sun" (defArgs st_L_sun) (defBody st_L_sun) (defScope st_L_sun) .none kV7 dc7 pm7 an7 cd7 ct7), sl7⟩) (c7 : PySem.W.codeIn K cd7 "_law_sun" = true) (k7 : PySem.W.keepIn K (.ref f7) = true)
    (a8 : PySem.W.nsIn K mainGlobals "is_whole" = some (some (.ref f8))) (l8 : K.lookup f8 = some ⟨oc8, od8, .func (PySem.W.fnOf "is_whole" "is_whole" (defArgs st_P_is_whole) (defBody st_P_is_whole) (defScope st_P_is_whole) .none kV8 dc8 pm8 an8 cd8 ct8), sl8⟩) (c8 : PySem.W.codeIn K cd8 "is_whole" = true) (k8 : PySem.W.keepIn K (.ref f8) = true)
    (a9 : PySem.W.nsIn K mainGlobals "direction_at" = some (some (.ref f9))) (l9 : K.lookup f9 = some ⟨oc9, od9, .func (PySem.W.fnOf "direction_at" "direction_at" (defArgs st_P_direction_at) (defBody st_P_direction_at) (defScope st_P_direction_at) .none kV9 dc9 pm9 an9 cd9 ct9), sl9⟩) (c9 : PySem.W.codeIn K cd9 "direction_at" = true) (k9 : PySem.W.keepIn K (.ref f9) = true)
    (a10 : PySem.W.nsIn K mainGlobals "cross_of" = some (some (.ref f10))) (l10 : K.lookup f10 = some ⟨oc10, od10, .func (PySem.W.fnOf "cross_of" "cross_of" (defArgs st_P_cross_of) (defBody st_P_cross_of) (defScope st_P_cross_of) .none kV10 dc10 pm10 an10 cd10 ct10), sl10⟩) (c10 : PySem.W.codeIn K cd10 "cross_of" = true) (k10 : PySem.W.keepIn K (.ref f10) = true)
    (a11 : PySem.W.nsIn K mainGlobals "front_of" = some (some (.ref f11))) (l11 : K.lookup f11 = some ⟨oc11, od11, .func (PySem.W.fnOf "front_of" "front_of" (defArgs st_P_front_of) (defBody st_P_front_of) (defScope st_P_front_of) .none kV11 dc11 pm11 an11 cd11 ct11), sl11⟩) (c11 : PySem.W.codeIn K cd11 "front_of" = true) (k11 : PySem.W.keepIn K (.ref f11) = true)
    (a12 : PySem.W.nsIn K mainGlobals "dot_of" = some (some (.ref f12))) (l12 : K.lookup f12 = some ⟨oc12, od12, .func (PySem.W.fnOf "dot_of" "dot_of" (defArgs st_P_dot_of) (defBody st_P_dot_of) (defScope st_P_dot_of) .none kV12 dc12 pm12 an12 cd12 ct12), sl12⟩) (c12 : PySem.W.codeIn K cd12 "dot_of" = true) (k12 : PySem.W.keepIn K (.ref f12) = true)
    (a13 : PySem.W.nsIn K mainGlobals "comes_from_ahead" = some (some (.ref f13))) (l13 : K.lookup f13 = some ⟨oc13, od13, .func (PySem.W.fnOf "comes_from_ahead" "comes_from_ahead" (defArgs st_P_comes_from_ahead) (defBody st_P_comes_from_ahead) (defScope st_P_comes_from_ahead) .none kV13 dc13 pm13 an13 cd13 ct13), sl13⟩) (c13 : PySem.W.codeIn K cd13 "comes_from_ahead" = true) (k13 : PySem.W.keepIn K (.ref f13) = true)
    (a14 : PySem.W.nsIn K mainGlobals "lit_directions" = some (some (.ref f14))) (l14 : K.lookup f14 = some ⟨oc14, od14, .func (PySem.W.fnOf "lit_directions" "lit_directions" (defArgs st_P_lit_directions) (defBody st_P_lit_directions) (defScope st_P_lit_directions) .none kV14 dc14 pm14 an14 cd14 ct14), sl14⟩) (c14 : PySem.W.codeIn K cd14 "lit_directions" = true) (k14 : PySem.W.keepIn K (.ref f14) = true)
    (a15 : PySem.W.nsIn K mainGlobals "triple_sum" = some (some (.ref f15))) (l15 : K.lookup f15 = some ⟨oc15, od15, .func (PySem.W.fnOf "triple_sum" "triple_sum" (defArgs st_P_triple_sum) (defBody st_P_triple_sum) (defScope st_P_triple_sum) .none kV15 dc15 pm15 an15 cd15 ct15), sl15⟩) (c15 : PySem.W.codeIn K cd15 "triple_sum" = true) (k15 : PySem.W.keepIn K (.ref f15) = true)
    (a16 : PySem.W.nsIn K mainGlobals "as_point" = some (some (.ref f16))) (l16 : K.lookup f16 = some ⟨oc16, od16, .func (PySem.W.fnOf "as_point" "as_point" (defArgs st_P_as_point) (defBody st_P_as_point) (defScope st_P_as_point) .none kV16 dc16 pm16 an16 cd16 ct16), sl16⟩) (c16 : PySem.W.codeIn K cd16 "as_point" = true) (k16 : PySem.W.keepIn K (.ref f16) = true)
    (a17 : PySem.W.nsIn K mainGlobals "greatest_factor" = some (some (.ref f17))) (l17 : K.lookup f17 = some ⟨oc17, od17, .func (PySem.W.fnOf "greatest_factor" "greatest_factor" (defArgs st_P_greatest_factor) (defBody st_P_greatest_factor) (defScope st_P_greatest_factor) .none kV17 dc17 pm17 an17 cd17 ct17), sl17⟩) (c17 : PySem.W.codeIn K cd17 "greatest_factor" = true) (k17 : PySem.W.keepIn K (.ref f17) = true)
    (a18 : PySem.W.nsIn K mainGlobals "ratio_of" = some (some (.ref f18))) (l18 : K.lookup f18 = some ⟨oc18, od18, .func (PySem.W.fnOf "ratio_of" "ratio_of" (defArgs st_P_ratio_of) (defBody st_P_ratio_of) (defScope st_P_ratio_of) .none kV18 dc18 pm18 an18 cd18 ct18), sl18⟩) (c18 : PySem.W.codeIn K cd18 "ratio_of" = true) (k18 : PySem.W.keepIn K (.ref f18) = true)
    (a19 : PySem.W.nsIn K mainGlobals "ratio_less" = some (some (.ref f19))) (l19 : K.lookup f19 = some ⟨oc19, od19, .func (PySem.W.fnOf "ratio_less" "ratio_less" (defArgs st_P_ratio_less) (defBody st_P_ratio_less) (defScope st_P_ratio_less) .none kV19 dc19 pm19 an19 cd19 ct19), sl19⟩) (c19 : PySem.W.codeIn K cd19 "ratio_less" = true) (k19 : PySem.W.keepIn K (.ref f19) = true)
    (a20 : PySem.W.nsIn K mainGlobals "point_less" = some (some (.ref f20))) (l20 : K.lookup f20 = some ⟨oc20, od20, .func (PySem.W.fnOf "point_less" "point_less" (defArgs st_P_point_less) (defBody st_P_point_less) (defScope st_P_point_less) .none kV20 dc20 pm20 an20 cd20 ct20), sl20⟩) (c20 : PySem.W.codeIn K cd20 "point_less" = true) (k20 : PySem.W.keepIn K (.ref f20) = true)
    (a21 : PySem.W.nsIn K mainGlobals "ratio_times" = some (some (.ref f21))) (l21 : K.lookup f21 = some ⟨oc21, od21, .func (PySem.W.fnOf "ratio_times" "ratio_times" (defArgs st_P_ratio_times) (defBody st_P_ratio_times) (defScope st_P_ratio_times) .none kV21 dc21 pm21 an21 cd21 ct21), sl21⟩) (c21 : PySem.W.codeIn K cd21 "ratio_times" = true) (k21 : PySem.W.keepIn K (.ref f21) = true)
    (a22 : PySem.W.nsIn K mainGlobals "ratio_sum" = some (some (.ref f22))) (l22 : K.lookup f22 = some ⟨oc22, od22, .func (PySem.W.fnOf "ratio_sum" "ratio_sum" (defArgs st_P_ratio_sum) (defBody st_P_ratio_sum) (defScope st_P_ratio_sum) .none kV22 dc22 pm22 an22 cd22 ct22), sl22⟩) (c22 : PySem.W.codeIn K cd22 "ratio_sum" = true) (k22 : PySem.W.keepIn K (.ref f22) = true)
    (a23 : PySem.W.nsIn K mainGlobals "point_dot" = some (some (.ref f23))) (l23 : K.lookup f23 = some ⟨oc23, od23, .func (PySem.W.fnOf "point_dot" "point_dot" (defArgs st_P_point_dot) (defBody st_P_point_dot) (defScope st_P_point_dot) .none kV23 dc23 pm23 an23 cd23 ct23), sl23⟩) (c23 : PySem.W.codeIn K cd23 "point_dot" = true) (k23 : PySem.W.keepIn K (.ref f23) = true)
    (a24 : PySem.W.nsIn K mainGlobals "ratio_by" = some (some (.ref f24))) (l24 : K.lookup f24 = some ⟨oc24, od24, .func (PySem.W.fnOf "ratio_by" "ratio_by" (defArgs st_P_ratio_by) (defBody st_P_ratio_by) (defScope st_P_ratio_by) .none kV24 dc24 pm24 an24 cd24 ct24), sl24⟩) (c24 : PySem.W.codeIn K cd24 "ratio_by" = true) (k24 : PySem.W.keepIn K (.ref f24) = true)
    (a25 : PySem.W.nsIn K mainGlobals "meeting_of" = some (some (.ref f25))) (l25 : K.lookup f25 = some ⟨oc25, od25, .func (PySem.W.fnOf "meeting_of" "meeting_of" (defArgs st_P_meeting_of) (defBody st_P_meeting_of) (defScope st_P_meeting_of) .none kV25 dc25 pm25 an25 cd25 ct25), sl25⟩) (c25 : PySem.W.codeIn K cd25 "meeting_of" = true) (k25 : PySem.W.keepIn K (.ref f25) = true)
    (a26 : PySem.W.nsIn K mainGlobals "shadow_of" = some (some (.ref f26))) (l26 : K.lookup f26 = some ⟨oc26, od26, .func (PySem.W.fnOf "shadow_of" "shadow_of" (defArgs st_P_shadow_of) (defBody st_P_shadow_of) (defScope st_P_shadow_of) .none kV26 dc26 pm26 an26 cd26 ct26), sl26⟩) (c26 : PySem.W.codeIn K cd26 "shadow_of" = true) (k26 : PySem.W.keepIn K (.ref f26) = true)
    (a27 : PySem.W.nsIn K mainGlobals "reach_of" = some (some (.ref f27))) (l27 : K.lookup f27 = some ⟨oc27, od27, .func (PySem.W.fnOf "reach_of" "reach_of" (defArgs st_P_reach_of) (defBody st_P_reach_of) (defScope st_P_reach_of) .none kV27 dc27 pm27 an27 cd27 ct27), sl27⟩) (c27 : PySem.W.codeIn K cd27 "reach_of" = true) (k27 : PySem.W.keepIn K (.ref f27) = true)
    (a28 : PySem.W.nsIn K mainGlobals "height_within" = some (some (.ref f28))) (l28 : K.lookup f28 = some ⟨oc28, od28, .func (PySem.W.fnOf "height_within" "height_within" (defArgs st_P_height_within) (defBody st_P_height_within) (defScope st_P_height_within) .none kV28 dc28 pm28 an28 cd28 ct28), sl28⟩) (c28 : PySem.W.codeIn K cd28 "height_within" = true) (k28 : PySem.W.keepIn K (.ref f28) = true)
    (a29 : PySem.W.nsIn K mainGlobals "is_under" = some (some (.ref f29))) (l29 : K.lookup f29 = some ⟨oc29, od29, .func (PySem.W.fnOf "is_under" "is_under" (defArgs st_P_is_under) (defBody st_P_is_under) (defScope st_P_is_under) .none kV29 dc29 pm29 an29 cd29 ct29), sl29⟩) (c29 : PySem.W.codeIn K cd29 "is_under" = true) (k29 : PySem.W.keepIn K (.ref f29) = true)
    (a30 : PySem.W.nsIn K mainGlobals "greatest_staff" = some (some (.ref f30))) (l30 : K.lookup f30 = some ⟨oc30, od30, .func (PySem.W.fnOf "greatest_staff" "greatest_staff" (defArgs st_P_greatest_staff) (defBody st_P_greatest_staff) (defScope st_P_greatest_staff) .none kV30 dc30 pm30 an30 cd30 ct30), sl30⟩) (c30 : PySem.W.codeIn K cd30 "greatest_staff" = true) (k30 : PySem.W.keepIn K (.ref f30) = true)
    (a31 : PySem.W.nsIn K mainGlobals "_law_told" = some (some (.ref f31))) (l31 : K.lookup f31 = some ⟨oc31, od31, .func (PySem.W.fnOf "_law_told" "_law_told" (defArgs st_L_told) (defBody st_L_told) (defScope st_L_told) .none kV31 dc31 pm31 an31 cd31 ct31), sl31⟩) (c31 : PySem.W.codeIn K cd31 "_law_told" = true) (k31 : PySem.W.keepIn K (.ref f31) = true)
    (a32 : PySem.W.nsIn K mainGlobals "_law_due" = some (some (.ref f32))) (l32 : K.lookup f32 = some ⟨oc32, od32, .func (PySem.W.fnOf "_law_due" "_law_due" (defArgs st_L_due) (defBody st_L_due) (defScope st_L_due) .none kV32 dc32 pm32 an32 cd32 ct32), sl32⟩) (c32 : PySem.W.codeIn K cd32 "_law_due" = true) (k32 : PySem.W.keepIn K (.ref f32) = true)
    (a33 : PySem.W.nsIn K mainGlobals "law" = some (some (.ref f33))) (l33 : K.lookup f33 = some ⟨oc33, od33, .func (PySem.W.fnOf "law" "law" (defArgs st_L_law) (defBody st_L_law) (defScope st_L_law) .none kV33 dc33 pm33 an33 cd33 ct33), sl33⟩) (c33 : PySem.W.codeIn K cd33 "law" = true) (k33 : PySem.W.keepIn K (.ref f33) = true)
    (z0 : PySem.W.nsIn K mainGlobals "len" = some none)
    (z1 : PySem.W.nsIn K mainGlobals "abs" = some none)
    (z2 : PySem.W.nsIn K mainGlobals "range" = some none)
    (z3 : PySem.W.nsIn K mainGlobals "tuple" = some none)
    (z4 : PySem.W.nsIn K mainGlobals "isinstance" = some none)
    (z5 : PySem.W.nsIn K mainGlobals "int" = some none)
    (z6 : PySem.W.nsIn K mainGlobals "bool" = some none)
    (z7 : PySem.W.nsIn K mainGlobals "enumerate" = some none)
    (z8 : PySem.W.nsIn K mainGlobals "ValueError" = some none)
    (z9 : PySem.W.nsIn K mainGlobals "dict" = some none)
    {FI_NoHour FI_NotLit : Addr} {odI_NoHour anI_NoHour odI_NotLit anI_NotLit : Option Addr} {kVI_NoHour dcI_NoHour pmI_NoHour cdI_NoHour ctI_NoHour kVI_NotLit dcI_NotLit pmI_NotLit cdI_NotLit ctI_NotLit : Value} {slI_NoHour slI_NotLit : Array (Option Value)} {CD_NoHour CD_NotLit : ClassData}
    {D_NoHour D_NotLit D_YardError D_NoName D_NoPlate D_NoSun D_NoYard : Addr} (dd_NoHour : PySem.W.nsIn K mainGlobals "NoHour" = some (some (.ref D_NoHour))) (dd_NotLit : PySem.W.nsIn K mainGlobals "NotLit" = some (some (.ref D_NotLit))) (dd_YardError : PySem.W.nsIn K mainGlobals "YardError" = some (some (.ref D_YardError))) (dd_NoName : PySem.W.nsIn K mainGlobals "NoName" = some (some (.ref D_NoName))) (dd_NoPlate : PySem.W.nsIn K mainGlobals "NoPlate" = some (some (.ref D_NoPlate))) (dd_NoSun : PySem.W.nsIn K mainGlobals "NoSun" = some (some (.ref D_NoSun))) (dd_NoYard : PySem.W.nsIn K mainGlobals "NoYard" = some (some (.ref D_NoYard))) (ff_NoHour : PySem.W.findIn K (.ref D_NoHour) "__init__" = some (some (.ref FI_NoHour))) (xi_NoHour : ownIn K D_NoHour FI_NoHour = true) (li_NoHour : K.lookup FI_NoHour = some ⟨.type "function", odI_NoHour, .func (PySem.W.fnOf "__init__" "NoHour.__init__" (defArgs ini_NoHour) (defBody ini_NoHour) (defScope ini_NoHour) .none kVI_NoHour dcI_NoHour pmI_NoHour anI_NoHour cdI_NoHour ctI_NoHour), slI_NoHour⟩) (lc_NoHour : PySem.W.codeIn K cdI_NoHour "NoHour.__init__" = true) (lk_NoHour : PySem.W.keepIn K (.ref FI_NoHour) = true) (ci_NoHour : PySem.W.clsIn K D_NoHour = some CD_NoHour) (mr_NoHour : CD_NoHour.mro = List.map Value.ref [D_NoHour, D_YardError] ++ mroVE) (hd_NoHour : CD_NoHour.hasDict = true) (sa_NoHour : PySem.W.findIn K (.ref D_NoHour) "__setattr__" = some (some (.builtin "object.__setattr__"))) (na_NoHour : PySem.W.findIn K (.ref D_NoHour) "hour" = some none) (sp_NoHour : PySem.W.specialIn K (.ref D_YardError) "__getattribute__" = some (some (.builtin "type.__getattribute__"))) (rd_NoHour : PySem.W.readsIn K D_YardError (.type "type") = true) (fk_NoHour : PySem.W.findCls K (.ref D_YardError) (.type "type") "__init__" = some (.val (.builtin "ValueError.__init__"))) (fa_NoHour : PySem.W.findIn K (.ref D_NoHour) "__getattribute__" = some (some (.builtin "BaseException.__getattribute__"))) (fb_NoHour : PySem.W.findIn K (.ref D_NoHour) "__class__" = some (some (.builtin "object.__class__"))) (fc_NoHour : PySem.W.findIn K (.ref D_NoHour) "__getattr__" = some none) (fd_NoHour : PySem.W.subIn K (.ref D_NoHour) (.type "BaseException") = some true) (fe_NoHour : PySem.W.subIn K (.ref D_NoHour) (.type "object") = some true) (em_YardError_NoHour : PySem.W.exmOne K (.ref D_NoHour) (.ref D_YardError) = some true) (ki_NoName_NoPlate_NoSun_NoYard_NoHour : PySem.W.kitAny K (.ref D_NoHour) [.ref D_NoName, .ref D_NoPlate, .ref D_NoSun, .ref D_NoYard] = some false) (ki_ValueError_NoHour : PySem.W.kitOne K (.ref D_NoHour) (.type "ValueError") = some true) (ki_NoHour_NoHour : PySem.W.kitOne K (.ref D_NoHour) (.ref D_NoHour) = some true) (ki_NotLit_NoHour : PySem.W.kitOne K (.ref D_NoHour) (.ref D_NotLit) = some false) (ff_NotLit : PySem.W.findIn K (.ref D_NotLit) "__init__" = some (some (.ref FI_NotLit))) (xi_NotLit : ownIn K D_NotLit FI_NotLit = true) (li_NotLit : K.lookup FI_NotLit = some ⟨.type "function", odI_NotLit, .func (PySem.W.fnOf "__init__" "NotLit.__init__" (defArgs ini_NotLit) (defBody ini_NotLit) (defScope ini_NotLit) .none kVI_NotLit dcI_NotLit pmI_NotLit anI_NotLit cdI_NotLit ctI_NotLit), slI_NotLit⟩) (lc_NotLit : PySem.W.codeIn K cdI_NotLit "NotLit.__init__" = true) (lk_NotLit : PySem.W.keepIn K (.ref FI_NotLit) = true) (ci_NotLit : PySem.W.clsIn K D_NotLit = some CD_NotLit) (mr_NotLit : CD_NotLit.mro = List.map Value.ref [D_NotLit, D_YardError] ++ mroVE) (hd_NotLit : CD_NotLit.hasDict = true) (sa_NotLit : PySem.W.findIn K (.ref D_NotLit) "__setattr__" = some (some (.builtin "object.__setattr__"))) (na_NotLit : PySem.W.findIn K (.ref D_NotLit) "hour" = some none) (sp_NotLit : PySem.W.specialIn K (.ref D_YardError) "__getattribute__" = some (some (.builtin "type.__getattribute__"))) (rd_NotLit : PySem.W.readsIn K D_YardError (.type "type") = true) (fk_NotLit : PySem.W.findCls K (.ref D_YardError) (.type "type") "__init__" = some (.val (.builtin "ValueError.__init__"))) (fa_NotLit : PySem.W.findIn K (.ref D_NotLit) "__getattribute__" = some (some (.builtin "BaseException.__getattribute__"))) (fb_NotLit : PySem.W.findIn K (.ref D_NotLit) "__class__" = some (some (.builtin "object.__class__"))) (fc_NotLit : PySem.W.findIn K (.ref D_NotLit) "__getattr__" = some none) (fd_NotLit : PySem.W.subIn K (.ref D_NotLit) (.type "BaseException") = some true) (fe_NotLit : PySem.W.subIn K (.ref D_NotLit) (.type "object") = some true) (em_YardError_NotLit : PySem.W.exmOne K (.ref D_NotLit) (.ref D_YardError) = some true) (ki_NoName_NoPlate_NoSun_NoYard_NotLit : PySem.W.kitAny K (.ref D_NotLit) [.ref D_NoName, .ref D_NoPlate, .ref D_NoSun, .ref D_NoYard] = some false) (ki_ValueError_NotLit : PySem.W.kitOne K (.ref D_NotLit) (.type "ValueError") = some true) (ki_NoHour_NotLit : PySem.W.kitOne K (.ref D_NotLit) (.ref D_NoHour) = some false) (ki_NotLit_NotLit : PySem.W.kitOne K (.ref D_NotLit) (.ref D_NotLit) = some true)
    : ∃ fd : FuncData, (∀ (s : Shared) (v : Value), BindsTo s fd ⟨[v], []⟩ [("_law_script", v)]) ∧ ∀ base : Heap, K.In base → base.Ns mainGlobals mg → FnOk l.prog w K mg base CX0 10 fa fd ["_law_script"] (spT K 1 lawSp) := by
  have e := hfa.symm.trans (PySem.W.mg_of X G a33)
  cases e
  have F0 := fun_mk (st := st_L_cell) l0 c0 k0
  have F1 := fun_mk (st := st_L_digits) l1 c1 k1
  have F2 := fun_mk (st := st_L_cross) l2 c2 k2
  have F3 := fun_mk (st := st_L_plate) l3 c3 k3
  have F4 := fun_mk (st := st_L_front) l4 c4 k4
  have F5 := fun_mk (st := st_L_dot) l5 c5 k5
  have F6 := fun_mk (st := st_L_lit) l6 c6 k6
  have F7 := fun_mk (st := st_L_sun) l7 c7 k7
  have F8 := fun_mk (st := st_P_is_whole) l8 c8 k8
  have F9 := fun_mk (st := st_P_direction_at) l9 c9 k9
  have F10 := fun_mk (st := st_P_cross_of) l10 c10 k10
  have F11 := fun_mk (st := st_P_front_of) l11 c11 k11
  have F12 := fun_mk (st := st_P_dot_of) l12 c12 k12
  have F13 := fun_mk (st := st_P_comes_from_ahead) l13 c13 k13
  have F14 := fun_mk (st := st_P_lit_directions) l14 c14 k14
  have F15 := fun_mk (st := st_P_triple_sum) l15 c15 k15
  have F16 := fun_mk (st := st_P_as_point) l16 c16 k16
  have F17 := fun_mk (st := st_P_greatest_factor) l17 c17 k17
  have F18 := fun_mk (st := st_P_ratio_of) l18 c18 k18
  have F19 := fun_mk (st := st_P_ratio_less) l19 c19 k19
  have F20 := fun_mk (st := st_P_point_less) l20 c20 k20
  have F21 := fun_mk (st := st_P_ratio_times) l21 c21 k21
  have F22 := fun_mk (st := st_P_ratio_sum) l22 c22 k22
  have F23 := fun_mk (st := st_P_point_dot) l23 c23 k23
  have F24 := fun_mk (st := st_P_ratio_by) l24 c24 k24
  have F25 := fun_mk (st := st_P_meeting_of) l25 c25 k25
  have F26 := fun_mk (st := st_P_shadow_of) l26 c26 k26
  have F27 := fun_mk (st := st_P_reach_of) l27 c27 k27
  have F28 := fun_mk (st := st_P_height_within) l28 c28 k28
  have F29 := fun_mk (st := st_P_is_under) l29 c29 k29
  have F30 := fun_mk (st := st_P_greatest_staff) l30 c30 k30
  have F31 := fun_mk (st := st_L_told) l31 c31 k31
  have F32 := fun_mk (st := st_L_due) l32 c32 k32
  have F33 := fun_mk (st := st_L_law) l33 c33 k33
  have z_len := PySem.W.mg_none_of X G z0
  have z_abs := PySem.W.mg_none_of X G z1
  have z_range := PySem.W.mg_none_of X G z2
  have z_tuple := PySem.W.mg_none_of X G z3
  have z_isinstance := PySem.W.mg_none_of X G z4
  have z_int := PySem.W.mg_none_of X G z5
  have z_bool := PySem.W.mg_none_of X G z6
  have z_enumerate := PySem.W.mg_none_of X G z7
  have z_ValueError := PySem.W.mg_none_of X G z8
  have z_dict := PySem.W.mg_none_of X G z9
  have mc_NoHour := PySem.W.mg_of X G dd_NoHour
  have mc_NotLit := PySem.W.mg_of X G dd_NotLit
  have mc_YardError := PySem.W.mg_of X G dd_YardError
  have mc_NoName := PySem.W.mg_of X G dd_NoName
  have mc_NoPlate := PySem.W.mg_of X G dd_NoPlate
  have mc_NoSun := PySem.W.mg_of X G dd_NoSun
  have mc_NoYard := PySem.W.mg_of X G dd_NoYard
  have tl_NoHour : ClsTold K D_NoHour := ⟨fa_NoHour, fb_NoHour, fc_NoHour, fd_NoHour, fe_NoHour⟩
  have tl_NotLit : ClsTold K D_NotLit := ⟨fa_NotLit, fb_NotLit, fc_NotLit, fd_NotLit, fe_NotLit⟩
  have fI_NoHour := fun_mk (st := ini_NoHour) li_NoHour lc_NoHour lk_NoHour
  have x_NoHour : FldCls K mg "NoHour" "hour" := ini_fld (st := ini_NoHour) dd_NoHour mc_NoHour xi_NoHour fI_NoHour ⟨_, li_NoHour, rfl⟩ (fI_NoHour.binds (ps := ["self", "hour"]) fun _ _ _ _ _ _ us hl => args2 hl fun _ _ => rfl) rfl sc_ini_NoHour (.inl rfl) (.inl rfl) rfl mc_YardError sp_NoHour rd_NoHour fk_NoHour sa_NoHour na_NoHour ci_NoHour mr_NoHour hd_NoHour (by decide) rfl rfl rfl rfl rfl (fun _ => rfl) (fun _ => rfl)
  have fI_NotLit := fun_mk (st := ini_NotLit) li_NotLit lc_NotLit lk_NotLit
  have x_NotLit : FldCls K mg "NotLit" "hour" := ini_fld (st := ini_NotLit) dd_NotLit mc_NotLit xi_NotLit fI_NotLit ⟨_, li_NotLit, rfl⟩ (fI_NotLit.binds (ps := ["self", "hour"]) fun _ _ _ _ _ _ us hl => args2 hl fun _ _ => rfl) rfl sc_ini_NotLit (.inl rfl) (.inl rfl) rfl mc_YardError sp_NotLit rd_NotLit fk_NotLit sa_NotLit na_NotLit ci_NotLit mr_NotLit hd_NotLit (by decide) rfl rfl rfl rfl rfl (fun _ => rfl) (fun _ => rfl)
  have gf_hour : GetF K "hour" ["NoHour", "NotLit"] := (getF_cons dd_NoHour ⟨fa_NoHour, fc_NoHour, ci_NoHour, mr_NoHour, hd_NoHour, na_NoHour⟩ (getF_cons dd_NotLit ⟨fa_NotLit, fc_NotLit, ci_NotLit, mr_NotLit, hd_NotLit, na_NotLit⟩ getF_nil))
  have ct_YardError : Catches K mg "YardError" ["NoHour", "NotLit"] := catches_cons dd_NoHour mc_YardError em_YardError_NoHour (catches_cons dd_NotLit mc_YardError em_YardError_NotLit (catches_nil mc_YardError))
  have an_NoName_NoPlate_NoSun_NoYard := ansN_cons dd_NoHour tl_NoHour (isCls_own xi_NoHour) ki_NoName_NoPlate_NoSun_NoYard_NoHour (ansN_cons dd_NotLit tl_NotLit (isCls_own xi_NotLit) ki_NoName_NoPlate_NoSun_NoYard_NotLit (ansN_nil))
  have an_ValueError := ans1_cons dd_NoHour tl_NoHour (isCls_own xi_NoHour) ki_ValueError_NoHour (ans1_cons dd_NotLit tl_NotLit (isCls_own xi_NotLit) ki_ValueError_NotLit (ans1_nil))
  have an_NoHour := ans1_cons dd_NoHour tl_NoHour (isCls_own xi_NoHour) ki_NoHour_NoHour (ans1_cons dd_NotLit tl_NotLit (isCls_own xi_NotLit) ki_NoHour_NotLit (ans1_nil))
  have an_NotLit := ans1_cons dd_NoHour tl_NoHour (isCls_own xi_NoHour) ki_NotLit_NoHour (ans1_cons dd_NotLit tl_NotLit (isCls_own xi_NotLit) ki_NotLit_NotLit (ans1_nil))
  refine ⟨PySem.W.fnOf "law" "law" (defArgs st_L_law) (defBody st_L_law) (defScope st_L_law) .none kV33 dc33 pm33 an33 cd33 ct33, fun s v => .of_eq rfl, fun base _ _ => ?_⟩
  have C_L_cell := fn_L_cell (P := l.prog) (w := w) (base := base) F0 (PySem.W.mg_of X G a0) z_len
  have C_L_digits := fn_L_digits (P := l.prog) (w := w) (base := base) F1 (PySem.W.mg_of X G a1) z_abs z_range
  have C_L_cross := fn_L_cross (P := l.prog) (w := w) (base := base) F2 (PySem.W.mg_of X G a2)
  have C_L_plate := fn_L_plate (P := l.prog) (w := w) (base := base) F3 (PySem.W.mg_of X G a3) C_L_digits C_L_cross z_tuple
  have C_L_front := fn_L_front (P := l.prog) (w := w) (base := base) F4 (PySem.W.mg_of X G a4) C_L_cross
  have C_L_dot := fn_L_dot (P := l.prog) (w := w) (base := base) F5 (PySem.W.mg_of X G a5)
  have C_L_lit := fn_L_lit (P := l.prog) (w := w) (base := base) F6 (PySem.W.mg_of X G a6) C_L_digits C_L_front C_L_dot z_tuple
  have C_L_sun := fn_L_sun (P := l.prog) (w := w) (base := base) F7 (PySem.W.mg_of X G a7) C_L_cell C_L_lit z_range
  have C_P_is_whole := fn_P_is_whole (P := l.prog) (w := w) (base := base) F8 (PySem.W.mg_of X G a8) z_isinstance z_int z_bool
  have C_P_direction_at := fn_P_direction_at (P := l.prog) (w := w) (base := base) F9 (PySem.W.mg_of X G a9) C_P_is_whole x_NoHour
  have C_P_cross_of := fn_P_cross_of (P := l.prog) (w := w) (base := base) F10 (PySem.W.mg_of X G a10)
  have C_P_front_of := fn_P_front_of (P := l.prog) (w := w) (base := base) F11 (PySem.W.mg_of X G a11) C_P_cross_of
  have C_P_dot_of := fn_P_dot_of (P := l.prog) (w := w) (base := base) F12 (PySem.W.mg_of X G a12)
  have C_P_comes_from_ahead := fn_P_comes_from_ahead (P := l.prog) (w := w) (base := base) F13 (PySem.W.mg_of X G a13) C_P_front_of C_P_dot_of
  have C_P_lit_directions := fn_P_lit_directions (P := l.prog) (w := w) (base := base) F14 (PySem.W.mg_of X G a14) C_P_direction_at C_P_comes_from_ahead z_enumerate x_NotLit
  have C_P_triple_sum := fn_P_triple_sum (P := l.prog) (w := w) (base := base) F15 (PySem.W.mg_of X G a15)
  have C_P_as_point := fn_P_as_point (P := l.prog) (w := w) (base := base) F16 (PySem.W.mg_of X G a16) z_tuple
  have C_P_greatest_factor := fn_P_greatest_factor (P := l.prog) (w := w) (base := base) F17 (PySem.W.mg_of X G a17) z_abs
  have C_P_ratio_of := fn_P_ratio_of (P := l.prog) (w := w) (base := base) F18 (PySem.W.mg_of X G a18) C_P_is_whole C_P_greatest_factor
  have C_P_ratio_less := fn_P_ratio_less (P := l.prog) (w := w) (base := base) F19 (PySem.W.mg_of X G a19) C_P_ratio_of
  have C_P_point_less := fn_P_point_less (P := l.prog) (w := w) (base := base) F20 (PySem.W.mg_of X G a20) C_P_ratio_less z_range z_tuple
  have C_P_ratio_times := fn_P_ratio_times (P := l.prog) (w := w) (base := base) F21 (PySem.W.mg_of X G a21) C_P_ratio_of
  have C_P_ratio_sum := fn_P_ratio_sum (P := l.prog) (w := w) (base := base) F22 (PySem.W.mg_of X G a22) C_P_ratio_of
  have C_P_point_dot := fn_P_point_dot (P := l.prog) (w := w) (base := base) F23 (PySem.W.mg_of X G a23) C_P_ratio_times C_P_ratio_sum z_range
  have C_P_ratio_by := fn_P_ratio_by (P := l.prog) (w := w) (base := base) F24 (PySem.W.mg_of X G a24) C_P_ratio_of
  have C_P_meeting_of := fn_P_meeting_of (P := l.prog) (w := w) (base := base) F25 (PySem.W.mg_of X G a25) C_P_front_of C_P_dot_of C_P_point_less C_P_cross_of C_P_point_dot C_P_ratio_by
  have C_P_shadow_of := fn_P_shadow_of (P := l.prog) (w := w) (base := base) F26 (PySem.W.mg_of X G a26) C_P_comes_from_ahead C_P_as_point C_P_meeting_of
  have C_P_reach_of := fn_P_reach_of (P := l.prog) (w := w) (base := base) F27 (PySem.W.mg_of X G a27) C_P_front_of C_P_triple_sum C_P_shadow_of
  have C_P_height_within := fn_P_height_within (P := l.prog) (w := w) (base := base) F28 (PySem.W.mg_of X G a28) C_P_ratio_less C_P_ratio_by z_abs
  have C_P_is_under := fn_P_is_under (P := l.prog) (w := w) (base := base) F29 (PySem.W.mg_of X G a29)
  have C_P_greatest_staff := fn_P_greatest_staff (P := l.prog) (w := w) (base := base) F30 (PySem.W.mg_of X G a30) C_P_lit_directions C_P_reach_of C_P_height_within C_P_is_under z_range
  have C_L_told := fn_L_told (P := l.prog) (w := w) (base := base) F31 (PySem.W.mg_of X G a31) C_P_greatest_staff z_isinstance z_ValueError ct_YardError gf_hour mc_NoName mc_NoPlate mc_NoSun mc_NoYard mc_NoHour mc_NotLit an_NoName_NoPlate_NoSun_NoYard an_ValueError an_NoHour an_NotLit
  have C_L_due := fn_L_due (P := l.prog) (w := w) (base := base) F32 (PySem.W.mg_of X G a32) C_L_front C_L_dot z_dict
  exact (fn_L_law (P := l.prog) (w := w) (base := base) F33 C_L_cell C_L_plate C_L_sun C_L_digits C_L_told C_L_due z_enumerate z_len).ok
end TL
open PySem PySem.W PyProof.Rows
def PySem.W.Fast.tw17699819551150205021 : Nat := 0
def PySem.W.Fast.tw5231801380234976215 : Nat := 0
def PySem.W.Fast.tw13964607595048244342 : Nat := 0
def PySem.W.Fast.tw17433929139976308426 : Nat := 0
def PySem.W.Fast.tw9911649966438263568 : Nat := 0
def PySem.W.Fast.tw8960812421337992419 : Nat := 0
def PySem.W.Fast.tw10757329680034148094 : Nat := 0
def PySem.W.Fast.tw14438260632760749 : Nat := 0
def PySem.W.Fast.tw11791313226091090852 : Nat := 0
def PySem.W.Fast.tw4107675075802387104 : Nat := 0
def PySem.W.Fast.tw8361796823901414845 : Nat := 0
def PySem.W.Fast.tw14586062285770825985 : Nat := 0
def PySem.W.Fast.tw6348207943629309960 : Nat := 0
def PySem.W.Fast.tw18256776647358824926 : Nat := 0
def PySem.W.Fast.tw8442090981202956335 : Nat := 0
def PySem.W.Fast.tw11904319808302700320 : Nat := 0
def PySem.W.Fast.tw7495288988896551984 : Nat := 0
def PySem.W.Fast.tw15218232634392773070 : Nat := 0
def PySem.W.Fast.tw579169617695557866 : Nat := 0
def PySem.W.Fast.tw5243550036408585792 : Nat := 0
def PySem.W.Fast.tw10879343315979857808 : Nat := 0
def PySem.W.Fast.tw13809802069804859884 : Nat := 0
def PySem.W.Fast.tw16558216134280383502 : Nat := 0
def PySem.W.Fast.tw1405026044177638223 : Nat := 0
def PySem.W.Fast.tw8990756935479807729 : Nat := 0
def PySem.W.Fast.tw10113645823639483987 : Nat := 0
def PySem.W.Fast.tw2619048920494522563 : Nat := 0
def PySem.W.Fast.tw3771042232263547423 : Nat := 0
def PySem.W.Fast.tw14032108624923252187 : Nat := 0
def PySem.W.Fast.tw4320842228351373684 : Nat := 0
def PySem.W.Fast.tw12729926014234198076 : Nat := 0
def PySem.W.Fast.tw11116442551807927970 : Nat := 0
def PySem.W.Fast.tw3035322369265380074 : Nat := 0
def PySem.W.Fast.tw8703302878877995218 : Nat := 0
def PySem.W.Fast.tw6891949110867151005 : Nat := 0
def PySem.W.Fast.tw1780357355185121812 : Nat := 0
def PySem.W.Fast.tw2091830463779212666 : Nat := 0
def PySem.W.Fast.tw14322092536268216870 : Nat := 0
def PySem.W.Fast.tw10384781793251170276 : Nat := 0
def PySem.W.Fast.tw16504684041218488335 : Nat := 0
def PySem.W.Fast.tw1257181581343502995 : Nat := 0
def PySem.W.Fast.tw16175057368844548147 : Nat := 0
def PySem.W.Fast.tw99088780753315877 : Nat := 0
def PySem.W.Fast.tw2925762345486376422 : Nat := 0
def PySem.W.Fast.tw16642376638568782635 : Nat := 0
def PySem.W.Fast.tw4132547812790220538 : Nat := 0
def PySem.W.Fast.tw1962889716847272748 : Nat := 0
def PySem.W.Fast.tw8159270337155022663 : Nat := 0
def PySem.W.Fast.tw4891019634540925935 : Nat := 0
def PySem.W.Fast.tw17623529820931466167 : Nat := 0
def PySem.W.Fast.tw1695472410968847700 : Nat := 0
def PySem.W.Fast.tw5932338174956873597 : Nat := 0
def PySem.W.Fast.tw701928628459078164 : Nat := 0
def PySem.W.Fast.tw9733995006351974385 : Nat := 0
def PySem.W.Fast.tw5914300251376593996 : Nat := 0
set_option maxRecDepth 100000 in
set_option maxHeartbeats 0 in
theorem PySem.Challenge.cw_dialyard_k53_staffs_refused_holds : PySem.Challenge.rw_dialyard_k53_staffs_refused.Holds := by
  w_on; o_law; k_head; (case hw => w_witness2)
  k_fill
  refine TL.walk (l := PySem.Challenge.rw_dialyard_k53_staffs_refused) (x := "_law_script") (k := 10) rfl rfl ⟨rfl, by decide, by decide⟩ (fun w h Y => PySem.W.kIn_of Y) ?F
  case F =>
    intro w mg fa h KX G hmg
    refine' TL.all_mk KX G hmg ?a0 ?l0 ?c0 ?k0 ?a1 ?l1 ?c1 ?k1 ?a2 ?l2 ?c2 ?k2 ?a3 ?l3 ?c3 ?k3 ?a4 ?l4 ?c4 ?k4 ?a5 ?l5 ?c5 ?k5 ?a6 ?l6 ?c6 ?k6 ?a7 ?l7 ?c7 ?k7 ?a8 ?l8 ?c8 ?k8 ?a9 ?l9 ?c9 ?k9 ?a10 ?l10 ?c10 ?k10 ?a11 ?l11 ?c11 ?k11 ?a12 ?l12 ?c12 ?k12 ?a13 ?l13 ?c13 ?k13 ?a14 ?l14 ?c14 ?k14 ?a15 ?l15 ?c15 ?k15 ?a16 ?l16 ?c16 ?k16 ?a17 ?l17 ?c17 ?k17 ?a18 ?l18 ?c18 ?k18 ?a19 ?l19 ?c19 ?k19 ?a20 ?l20 ?c20 ?k20 ?a21 ?l21 ?c21 ?k21 ?a22 ?l22 ?c22 ?k22 ?a23 ?l23 ?c23 ?k23 ?a24 ?l24 ?c24 ?k24 ?a25 ?l25 ?c25 ?k25 ?a26 ?l26 ?c26 ?k26 ?a27 ?l27 ?c27 ?k27 ?a28 ?l28 ?c28 ?k28 ?a29 ?l29 ?c29 ?k29 ?a30 ?l30 ?c30 ?k30 ?a31 ?l31 ?c31 ?k31 ?a32 ?l32 ?c32 ?k32 ?a33 ?l33 ?c33 ?k33 ?z0 ?z1 ?z2 ?z3 ?z4 ?z5 ?z6 ?z7 ?z8 ?z9 ?dd_NoHour ?dd_NotLit ?dd_YardError ?dd_NoName ?dd_NoPlate ?dd_NoSun ?dd_NoYard ?ff_NoHour ?xi_NoHour ?li_NoHour ?lc_NoHour ?lk_NoHour ?ci_NoHour ?mr_NoHour ?hd_NoHour ?sa_NoHour ?na_NoHour ?sp_NoHour ?rd_NoHour ?fk_NoHour ?fa_NoHour ?fb_NoHour ?fc_NoHour ?fd_NoHour ?fe_NoHour ?em_YardError_NoHour ?ki_NoName_NoPlate_NoSun_NoYard_NoHour ?ki_ValueError_NoHour ?ki_NoHour_NoHour ?ki_NotLit_NoHour ?ff_NotLit ?xi_NotLit ?li_NotLit ?lc_NotLit ?lk_NotLit ?ci_NotLit ?mr_NotLit ?hd_NotLit ?sa_NotLit ?na_NotLit ?sp_NotLit ?rd_NotLit ?fk_NotLit ?fa_NotLit ?fb_NotLit ?fc_NotLit ?fd_NotLit ?fe_NotLit ?em_YardError_NotLit ?ki_NoName_NoPlate_NoSun_NoYard_NotLit ?ki_ValueError_NotLit ?ki_NoHour_NotLit ?ki_NotLit_NotLit
    (case a0 => k_is)
    (case l0 => k_is)
    (case c0 => k_is)
    (case k0 => k_is)
    (case a1 => k_is)
    (case l1 => k_is)
    (case c1 => k_is)
    (case k1 => k_is)
    (case a2 => k_is)
    (case l2 => k_is)
    (case c2 => k_is)
    (case k2 => k_is)
    (case a3 => k_is)
    (case l3 => k_is)
    (case c3 => k_is)
    (case k3 => k_is)
    (case a4 => k_is)
    (case l4 => k_is)
    (case c4 => k_is)
    (case k4 => k_is)
    (case a5 => k_is)
    (case l5 => k_is)
    (case c5 => k_is)
    (case k5 => k_is)
    (case a6 => k_is)
    (case l6 => k_is)
    (case c6 => k_is)
    (case k6 => k_is)
    (case a7 => k_is)
    (case l7 => k_is)
    (case c7 => k_is)
    (case k7 => k_is)
    (case a8 => k_is)
    (case l8 => k_is)
    (case c8 => k_is)
    (case k8 => k_is)
    (case a9 => k_is)
    (case l9 => k_is)
    (case c9 => k_is)
    (case k9 => k_is)
    (case a10 => k_is)
    (case l10 => k_is)
    (case c10 => k_is)
    (case k10 => k_is)
    (case a11 => k_is)
    (case l11 => k_is)
    (case c11 => k_is)
    (case k11 => k_is)
    (case a12 => k_is)
    (case l12 => k_is)
    (case c12 => k_is)
    (case k12 => k_is)
    (case a13 => k_is)
    (case l13 => k_is)
    (case c13 => k_is)
    (case k13 => k_is)
    (case a14 => k_is)
    (case l14 => k_is)
    (case c14 => k_is)
    (case k14 => k_is)
    (case a15 => k_is)
    (case l15 => k_is)
    (case c15 => k_is)
    (case k15 => k_is)
    (case a16 => k_is)
    (case l16 => k_is)
    (case c16 => k_is)
    (case k16 => k_is)
    (case a17 => k_is)
    (case l17 => k_is)
    (case c17 => k_is)
    (case k17 => k_is)
    (case a18 => k_is)
    (case l18 => k_is)
    (case c18 => k_is)
    (case k18 => k_is)
    (case a19 => k_is)
    (case l19 => k_is)
    (case c19 => k_is)
    (case k19 => k_is)
    (case a20 => k_is)
    (case l20 => k_is)
    (case c20 => k_is)
    (case k20 => k_is)
    (case a21 => k_is)
    (case l21 => k_is)
    (case c21 => k_is)
    (case k21 => k_is)
    (case a22 => k_is)
    (case l22 => k_is)
    (case c22 => k_is)
    (case k22 => k_is)
    (case a23 => k_is)
    (case l23 => k_is)
    (case c23 => k_is)
    (case k23 => k_is)
    (case a24 => k_is)
    (case l24 => k_is)
    (case c24 => k_is)
    (case k24 => k_is)
    (case a25 => k_is)
    (case l25 => k_is)
    (case c25 => k_is)
    (case k25 => k_is)
    (case a26 => k_is)
    (case l26 => k_is)
    (case c26 => k_is)
    (case k26 => k_is)
    (case a27 => k_is)
    (case l27 => k_is)
    (case c27 => k_is)
    (case k27 => k_is)
    (case a28 => k_is)
    (case l28 => k_is)
    (case c28 => k_is)
    (case k28 => k_is)
    (case a29 => k_is)
    (case l29 => k_is)
    (case c29 => k_is)
    (case k29 => k_is)
    (case a30 => k_is)
    (case l30 => k_is)
    (case c30 => k_is)
    (case k30 => k_is)
    (case a31 => k_is)
    (case l31 => k_is)
    (case c31 => k_is)
    (case k31 => k_is)
    (case a32 => k_is)
    (case l32 => k_is)
    (case c32 => k_is)
    (case k32 => k_is)
    (case a33 => k_is)
    (case l33 => k_is)
    (case c33 => k_is)
    (case k33 => k_is)
    (case z0 => k_is)
    (case z1 => k_is)
    (case z2 => k_is)
    (case z3 => k_is)
    (case z4 => k_is)
    (case z5 => k_is)
    (case z6 => k_is)
    (case z7 => k_is)
    (case z8 => k_is)
    (case z9 => k_is)
    (case dd_NoHour => k_is)
    (case dd_NotLit => k_is)
    (case dd_YardError => k_is)
    (case dd_NoName => k_is)
    (case dd_NoPlate => k_is)
    (case dd_NoSun => k_is)
    (case dd_NoYard => k_is)
    (case ff_NoHour => k_is)
    (case xi_NoHour => kernel_rfl)
    (case li_NoHour => k_is)
    (case lc_NoHour => k_is)
    (case lk_NoHour => k_is)
    (case ci_NoHour => k_is)
    (case mr_NoHour => rfl)
    (case hd_NoHour => rfl)
    (case sa_NoHour => k_is)
    (case na_NoHour => k_is)
    (case sp_NoHour => k_is)
    (case rd_NoHour => k_is)
    (case fk_NoHour => k_is)
    (case fa_NoHour => k_is)
    (case fb_NoHour => k_is)
    (case fc_NoHour => k_is)
    (case fd_NoHour => k_is)
    (case fe_NoHour => k_is)
    (case em_YardError_NoHour => kts_exm)
    (case ki_NoName_NoPlate_NoSun_NoYard_NoHour => kit_is)
    (case ki_ValueError_NoHour => kit_is)
    (case ki_NoHour_NoHour => kit_is)
    (case ki_NotLit_NoHour => kit_is)
    (case ff_NotLit => k_is)
    (case xi_NotLit => kernel_rfl)
    (case li_NotLit => k_is)
    (case lc_NotLit => k_is)
    (case lk_NotLit => k_is)
    (case ci_NotLit => k_is)
    (case mr_NotLit => rfl)
    (case hd_NotLit => rfl)
    (case sa_NotLit => k_is)
    (case na_NotLit => k_is)
    (case sp_NotLit => k_is)
    (case rd_NotLit => k_is)
    (case fk_NotLit => k_is)
    (case fa_NotLit => k_is)
    (case fb_NotLit => k_is)
    (case fc_NotLit => k_is)
    (case fd_NotLit => k_is)
    (case fe_NotLit => k_is)
    (case em_YardError_NotLit => kts_exm)
    (case ki_NoName_NoPlate_NoSun_NoYard_NotLit => kit_is)
    (case ki_ValueError_NotLit => kit_is)
    (case ki_NoHour_NotLit => kit_is)
    (case ki_NotLit_NotLit => kit_is)
