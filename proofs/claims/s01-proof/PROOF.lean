import PyProof.Rows.All
import Wide.All
import OpenK.AllK
import Wide.FinOn
import PyProof.EqAt
import PyProof.EqKinds
import PyProof.TupleCall
import KE.BitLaws
import Open.SpecLaws
import KE.OsHead
import KE.OsGo
import KE.KSortTupG
import KE.KSortKey
import KE.KLam
import PyProof.ListRange
import PyProof.Rows.SortShellAny
import PyProof.Rows.SetFrom
import PyProof.SetRoads
import KE.KNestM
import PySem.Challenge.RW_cachetasks_s01_answers
set_option Elab.async false
set_option linter.all false
set_option maxRecDepth 100000
namespace L2
open PySem PySem.Spec PyProof.Rows
abbrev Key := Sum Int Str
def keyIs : Key → Value → Bool
  | .inl k, v => Value.isInt k v
  | .inr x, v => Value.isStrOf x v
def keyH (w : World) : Key → Int
  | .inl k => hashInt k
  | .inr x => hashStr w x
theorem keyIs_shape : ∀ {k : Key} {v : Value}, keyIs k v = true → (∃ i t, k = Sum.inl i ∧ v = Value.int i t) ∨ (∃ x t, k = Sum.inr x ∧ v = Value.str x t)
  | .inl i, v, h => by
    obtain ⟨t, e⟩ := Value.isInt_shape (k := i) (v := v) h
    exact .inl ⟨i, t, rfl, e⟩
  | .inr x, v, h => by
    obtain ⟨t, e⟩ := Value.isStrOf_shape (x := x) (v := v) h
    exact .inr ⟨x, t, rfl, e⟩
theorem keyIs_int (i : Int) (t : Tok) : keyIs (.inl i) (.int i t) = true := by simp [keyIs, Value.isInt]
theorem keyIs_str (x : Str) (t : Tok) : keyIs (.inr x) (.str x t) = true := by simp [keyIs, Value.isStrOf]
theorem key_ll (a b : Int) : decide ((Sum.inl a : Key) = Sum.inl b) = (a == b) := by
  by_cases e : a = b
  · subst e; simp
  · have h : ¬ (Sum.inl a : Key) = Sum.inl b := fun q => e (Sum.inl.inj q)
    rw [decide_eq_false h]
    exact (beq_eq_false_iff_ne.mpr e).symm
theorem key_rr (a b : Str) : decide ((Sum.inr a : Key) = Sum.inr b) = decide (a = b) := by
  by_cases e : a = b
  · subst e; simp
  · have h : ¬ (Sum.inr a : Key) = Sum.inr b := fun q => e (Sum.inr.inj q)
    rw [decide_eq_false h, decide_eq_false e]
theorem key_lr (a : Int) (b : Str) : decide ((Sum.inl a : Key) = Sum.inr b) = false := decide_eq_false (fun q => nomatch q)
theorem key_rl (a : Str) (b : Int) : decide ((Sum.inr a : Key) = Sum.inl b) = false := decide_eq_false (fun q => nomatch q)
def mixKind (prog : Program) (w : World) : PySem.KeyKind prog w Key where
  is := keyIs
  hash := keyH w
  inj := fun v a b ha hb => by
    rcases keyIs_shape ha with ⟨i, t, rfl, rfl⟩ | ⟨x, t, rfl, rfl⟩
    · rcases keyIs_shape hb with ⟨j, u, rfl, e⟩ | ⟨y, u, rfl, e⟩
      · injection e with e1 _; rw [e1]
      · exact nomatch e
    · rcases keyIs_shape hb with ⟨j, u, rfl, e⟩ | ⟨y, u, rfl, e⟩
      · exact nomatch e
      · injection e with e1 _; rw [e1]
  byValue := fun k v h => by
    rcases keyIs_shape h with ⟨i, t, rfl, rfl⟩ | ⟨x, t, rfl, rfl⟩ <;> rfl
  pyHash := fun hv h => by
    rcases keyIs_shape hv with ⟨i, t, rfl, rfl⟩ | ⟨x, t, rfl, rfl⟩
    · exact wpAny_pyHash_int h
    · exact wpAny_pyHash_str h
  eqBool := fun hu hv h => by
    rcases keyIs_shape hu with ⟨i, t, rfl, rfl⟩ | ⟨x, t, rfl, rfl⟩
    · rcases keyIs_shape hv with ⟨j, u, rfl, rfl⟩ | ⟨y, u, rfl, rfl⟩
      · rw [key_ll] at h; exact wpAny_eqBool_int h
      · rw [key_lr] at h; exact SeqAt.EqAt.int_str i t y u _ _ _ _ h
    · rcases keyIs_shape hv with ⟨j, u, rfl, rfl⟩ | ⟨y, u, rfl, rfl⟩
      · rw [key_rl] at h; exact SeqAt.EqAt.str_int x t j u _ _ _ _ h
      · rw [key_rr] at h; exact wpAny_eqBool_str h
  «strs» := fun k x t v h => by
    rcases keyIs_shape h with ⟨i, u, rfl, e⟩ | ⟨y, u, rfl, e⟩
    · exact nomatch e
    · injection e with e1 _
      subst e1
      cases v <;> rfl
theorem mixKind_int (prog : Program) (w : World) (i : Int) (t : Tok) : (mixKind prog w).is (.inl i) (.int i t) = true := keyIs_int i t
theorem mixKind_str (prog : Program) (w : World) (x : Str) (t : Tok) : (mixKind prog w).is (.inr x) (.str x t) = true := keyIs_str x t
end L2
namespace L2
open PySem PySem.Spec PyProof.Rows
inductive V where
  | non | bl (b : Bool) | int (i : Int) | str (x : Str) | byt (b : Array UInt8) | flt (b : UInt64) | ref (a : Addr) | ty (n : String)
  deriving DecidableEq
def RelV : V → Value → Prop
  | .non, u => u = Value.none
  | .bl b, u => u = Value.bool b
  | .int i, u => ∃ t, u = Value.int i t
  | .str x, u => ∃ t, u = Value.str x t
  | .byt b, u => ∃ t, u = Value.bytes b t
  | .flt b, u => ∃ t, u = Value.float b t
  | .ref a, u => u = Value.ref a
  | .ty n, u => u = Value.type n
abbrev Vals : List V → List Value → Prop := Paired RelV
theorem Vals.length {xs : List V} {us : List Value} (r : Vals xs us) : xs.length = us.length := Paired.length r
theorem Vals.get : ∀ {xs : List V} {us : List Value} {i : Nat} {x : V}, Vals xs us → xs[i]? = some x → ∃ u, us[i]? = some u ∧ RelV x u
  | _, _, _, _, .nil, e => by simp at e
  | _, _, 0, _, .cons r _, e => by simp at e; subst e; exact ⟨_, rfl, r⟩
  | _, _, i + 1, x, .cons _ t, e => by
    obtain ⟨u, h1, h2⟩ := Vals.get (i := i) (x := x) t (by simpa using e)
    exact ⟨u, by simpa using h1, h2⟩
theorem Vals.set {x : V} {u : Value} (r : RelV x u) : ∀ {xs : List V} {us : List Value} (i : Nat), Vals xs us → Vals (xs.set i x) (us.set i u)
  | _, _, _, .nil => .nil
  | _, _, 0, .cons _ t => .cons r t
  | _, _, i + 1, .cons q t => .cons q (Vals.set r i t)
theorem Vals.append : ∀ {xs ys : List V} {us ws : List Value}, Vals xs us → Vals ys ws → Vals (xs ++ ys) (us ++ ws)
  | _, _, _, _, .nil, s => s
  | _, _, _, _, .cons r t, s => .cons r (Vals.append t s)
theorem Vals.take : ∀ {xs : List V} {us : List Value} (n : Nat), Vals xs us → Vals (xs.take n) (us.take n)
  | _, _, 0, _ => .nil
  | _, _, _ + 1, .nil => .nil
  | _, _, n + 1, .cons r t => .cons r (Vals.take n t)
theorem Vals.drop : ∀ {xs : List V} {us : List Value} (n : Nat), Vals xs us → Vals (xs.drop n) (us.drop n)
  | _, _, 0, r => r
  | _, _, _ + 1, .nil => .nil
  | _, _, n + 1, .cons _ t => Vals.drop n t
def RelO : Option V → Option Value → Prop
  | some v, some u => RelV v u
  | none, none => True
  | _, _ => False
def KV {κ : Type} : List (κ × V) → List (κ × Value) → Prop := Paired fun (p : κ × V) (q : κ × Value) => p.1 = q.1 ∧ RelV p.2 q.2
def kV : Key → V
  | .inl i => .int i
  | .inr x => .str x
inductive HO where
  | lst (xs : List V)
  | tup (xs : List V)
  | dK (kvs : List (Key × V)) | dT (kvs : List (List Key × V))
  | set (S : Int → Bool) (n : Nat)
  | ins (C dx : Addr) (fs : List (Str × V))
  | own (x : Addr)
  | xd (fs : List (Str × V))
  | met (f x : Addr)
  | rng (lo hi : Int)
  | frz (o : Obj) (u : HO)
  | tbl (ps : Array Value)
  | ext (φ : Heap → Prop)
abbrev Hp := Addr → Option HO
def upd (H : Hp) (a : Addr) (o : HO) : Hp := fun b => if b = a then some o else H b
theorem upd_same {H : Hp} {a : Addr} {o : HO} : upd H a o a = some o := by unfold upd; rw [if_pos rfl]
theorem upd_ne {H : Hp} {a b : Addr} {o : HO} (h : b ≠ a) : upd H a o b = H b := by unfold upd; rw [if_neg h]
theorem upd_upd {H : Hp} {a : Addr} {o u : HO} : upd (upd H a o) a u = upd H a u := by
  funext b; unfold upd; split <;> rfl
theorem ne_of {H : Hp} {a b : Addr} {o u : HO} (h : H a = some o) (h' : H b = some u) (d : o ≠ u) : a ≠ b := by
  intro e; subst e; rw [h] at h'; exact d (Option.some.inj h')
theorem ne_of_none {H : Hp} {a b : Addr} {o : HO} (h : H a = some o) (h' : H b = none) : a ≠ b := by
  intro e; subst e; rw [h] at h'; cases h'
section
variable (P : Program) (w : World)
def ObjOk (H : Hp) (h : Heap) (a : Addr) : HO → Prop
  | .lst xs => xs.length ≤ sizeLine ∧ ∃ (its : List Value) (n : Nat), Vals xs its ∧ h.get? a = some { cls := .type "list", data := .seq its.toArray n }
  | .tup xs => xs.length ≤ sizeLine ∧ ∃ its : List Value, Vals xs its ∧ IsTup h a its.toArray
  | .dK kvs => kvs.length ≤ sizeLine ∧ (a == sysModules) = false ∧ ∃ vs, KV kvs vs ∧ h.DictOf (mixKind P w) a vs
  | .dT kvs => kvs.length ≤ sizeLine ∧ (a == sysModules) = false ∧ ∃ xs : List (List Key × Addr × Value),
      Paired (fun (p : List Key × V) (q : List Key × Addr × Value) => p.1 = q.1 ∧ H q.2.1 = some (.tup (p.1.map kV)) ∧ RelV p.2 q.2.2) kvs xs ∧
      ∃ o es ep, h.get? a = some o ∧ o.ExactDict ∧ o.data = .dict es ep ∧ es.toList = xs.map (entryOfKey (tupleKind (mixKind P w))) ∧ (xs.map (·.1)).Nodup
  | .set S n => h.SetOf (intKind P w) a S n
  | .ins C dx fs => H dx = some (.own a) ∧ fs.length ≤ 1000 ∧ dx ≠ a ∧ h.get? a = some (PySem.W.instObj C dx) ∧
      ∃ mA, h.Ns1 dx mA ∧ (∀ f, RelO (fs.lookup f) (mA f)) ∧ PySem.Within mA (fs.map (·.1))
  | .own _ => ∃ o, h.get? a = some o
  | .xd fs => ∃ mA, h.Ns1 a mA ∧ ∀ f, RelO (fs.lookup f) (mA f)
  | .rng lo hi => ∃ t u v, h.get? a = some { cls := .type "range", data := .fields #[.int lo t, .int hi u, .int 1 v] }
  | .frz o u => h.get? a = some o ∧ ObjOk H h a u
  | .tbl ps => h.get? a = some { cls := .none, data := .fields ps }
  | .met f x => h.get? a = some (PySem.W.methodObj (.ref f) (.ref x))
  | .ext φ => φ h ∧ (∃ o, h.get? a = some o) ∧ ∀ h1 h2 : Heap, φ h1 → (∀ o, h1.get? a = some o → h2.get? a = some o) → φ h2
def HOk (H : Hp) (h : Heap) : Prop := ∀ a o, H a = some o → ObjOk P w H h a o
end
section
variable {P : Program} {w : World} {H H' : Hp} {h h' : Heap} {a : Addr} {o : HO}
theorem ObjOk.lt (x : ObjOk P w H h a o) : a < h.objs.size := by
  cases o with
  | lst xs => obtain ⟨_, _, _, _, e⟩ := x; exact Heap.lt_size e
  | tup xs => obtain ⟨_, _, _, p⟩ := x; exact p.lt
  | dK kvs => obtain ⟨_, _, _, _, o, _, _, e, _⟩ := x; exact Heap.lt_size e
  | dT kvs => obtain ⟨_, _, _, _, o, _, _, e, _⟩ := x; exact Heap.lt_size e
  | set S n => obtain ⟨o, _, _, _, e, _⟩ := x; exact Heap.lt_size e
  | ins C dx fs => obtain ⟨_, _, _, e, _⟩ := x; exact Heap.lt_size e
  | own y => obtain ⟨_, e⟩ := x; exact Heap.lt_size e
  | xd fs => obtain ⟨_, ⟨_, _, _, e, _⟩, _⟩ := x; exact Heap.lt_size e
  | rng lo hi => obtain ⟨_, _, _, e⟩ := x; exact Heap.lt_size e
  | frz ob u => obtain ⟨e, _⟩ := x; exact Heap.lt_size e
  | tbl ps => exact Heap.lt_size (show h.get? a = some _ from x)
  | met f y => exact Heap.lt_size (show h.get? a = some _ from x)
  | ext φ => obtain ⟨_, ⟨_, e⟩, _⟩ := x; exact Heap.lt_size e
theorem Paired.mapP {α β : Type} {F G : α → β → Prop} : ∀ {l₁ : List α} {l₂ : List β}, Paired F l₁ l₂ → (∀ a b, F a b → G a b) → Paired G l₁ l₂
  | _, _, .nil, _ => .nil
  | _, _, .cons r t, f => .cons (f _ _ r) (Paired.mapP t f)
theorem ObjOk.stay (x : ObjOk P w H h a o) (k : ∀ b u, (b = a ∨ H b = some (.own a)) → h.get? b = some u → h'.get? b = some u)
    (ho : ∀ b, H b = some (.own a) → H' b = some (.own a)) (ht : ∀ b xs, H b = some (.tup xs) → H' b = some (.tup xs)) : ObjOk P w H' h' a o := by
  induction o with
  | lst xs => obtain ⟨z, its, n, r, e⟩ := x; exact ⟨z, its, n, r, k _ _ (.inl rfl) e⟩
  | tup xs => obtain ⟨z, its, r, ob, e, c⟩ := x; exact ⟨z, its, r, ob, k _ _ (.inl rfl) e, c⟩
  | dK kvs => obtain ⟨z, y, vs, r, ob, es, ep, e, c⟩ := x; exact ⟨z, y, vs, r, ob, es, ep, k _ _ (.inl rfl) e, c⟩
  | dT kvs =>
    obtain ⟨z, y, xs, r, ob, es, ep, e, c⟩ := x
    exact ⟨z, y, xs, Paired.mapP r fun p q z => ⟨z.1, ht _ _ z.2.1, z.2.2⟩, ob, es, ep, k _ _ (.inl rfl) e, c⟩
  | set S n => obtain ⟨ob, es, ep, t, e, c⟩ := x; exact ⟨ob, es, ep, t, k _ _ (.inl rfl) e, c⟩
  | ins C dx fs =>
    obtain ⟨d, z, ne, e, mA, ⟨od, es, ep, e2, c⟩, r⟩ := x
    exact ⟨ho _ d, z, ne, k _ _ (.inl rfl) e, mA, ⟨od, es, ep, k _ _ (.inr d) e2, c⟩, r⟩
  | own y => obtain ⟨ob, e⟩ := x; exact ⟨ob, k _ _ (.inl rfl) e⟩
  | xd fs => obtain ⟨mA, ⟨od, es, ep, e, c⟩, r⟩ := x; exact ⟨mA, ⟨od, es, ep, k _ _ (.inl rfl) e, c⟩, r⟩
  | rng lo hi => obtain ⟨t, u, v, e⟩ := x; exact ⟨t, u, v, k _ _ (.inl rfl) e⟩
  | frz ob u ih => obtain ⟨e, q⟩ := x; exact ⟨k _ _ (.inl rfl) e, ih q⟩
  | tbl ps =>
    have e : h.get? a = some { cls := .none, data := .fields ps } := x
    show h'.get? a = some { cls := .none, data := .fields ps }
    exact k a _ (.inl rfl) e
  | met f y =>
    have e : h.get? a = some (PySem.W.methodObj (.ref f) (.ref y)) := x
    show h'.get? a = some (PySem.W.methodObj (.ref f) (.ref y))
    exact k a _ (.inl rfl) e
  | ext φ => obtain ⟨p, ⟨o, e⟩, st⟩ := x; exact ⟨st _ _ p fun o q => k _ _ (.inl rfl) q, ⟨o, k _ _ (.inl rfl) e⟩, st⟩
theorem HOk.lt (x : HOk P w H h) (e : H a = some o) : a < h.objs.size := (x a o e).lt
theorem HOk.fresh (x : HOk P w H h) (e : h.objs.size ≤ a) : H a = none := by
  cases q : H a with
  | none => rfl
  | some u => exact absurd (Nat.lt_of_lt_of_le (x.lt q) e) (Nat.lt_irrefl _)
theorem HOk.kept (x : HOk P w H h) (k : ∀ b u, h.get? b = some u → h'.get? b = some u) : HOk P w H h' := fun a o e =>
  (x a o e).stay (fun b u _ q => k b u q) (fun _ q => q) fun _ _ q => q
theorem HOk.laid (x : HOk P w H h) (k : ∀ b u, h.get? b = some u → h'.get? b = some u) (hp : h.objs.size ≤ a) (new : ObjOk P w (upd H a o) h' a o) : HOk P w (upd H a o) h' := fun b u e => by
  have hn := x.fresh hp
  by_cases hb : b = a
  · subst hb; rw [upd_same] at e; cases e; exact new
  · rw [upd_ne hb] at e
    exact (x b u e).stay (fun c v _ q => k c v q) (fun c q => by rw [upd_ne (ne_of_none q hn)]; exact q) fun c xs q => by rw [upd_ne (ne_of_none q hn)]; exact q
end
def Rd (H : Hp) (a : Addr) (u : HO) : Prop := H a = some u ∨ ∃ o, H a = some (.frz o u)
theorem Rd.ok {P : Program} {w : World} {H : Hp} {h : Heap} {a : Addr} {u : HO} (r : Rd H a u) (x : HOk P w H h) : ObjOk P w H h a u := by
  rcases r with r | ⟨o, r⟩
  · exact x a u r
  · obtain ⟨_, q⟩ := x a _ r
    exact q
def Mut : Option HO → Prop
  | some (.lst _) => True
  | some (.dK _) => True
  | some (.dT _) => True
  | some (.set _ _) => True
  | some (.ins _ _ _) => True
  | some (.ext _) => True
  | _ => False
section
variable {P : Program} {w : World} {H : Hp} {h h' : Heap} {x e : Addr} {o' : HO}
theorem HOk.write (ok : HOk P w H h) (mu : Mut (H x)) (he : e = x ∨ H e = some (.own x)) (k : ∀ b u, b ≠ e → h.get? b = some u → h'.get? b = some u) (heo : ∃ u, h'.get? e = some u)
    (new : ObjOk P w (upd H x o') h' x o') : HOk P w (upd H x o') h' := fun b u q => by
  have nown : ∀ c y, H c = some (.own y) → c ≠ x := fun c y r z => by subst z; rw [r] at mu; exact mu
  have ntup : ∀ c xs, H c = some (.tup xs) → c ≠ x := fun c xs r z => by subst z; rw [r] at mu; exact mu
  by_cases hb : b = x
  · subst hb; rw [upd_same] at q; cases q; exact new
  · rw [upd_ne hb] at q
    by_cases hbe : b = e
    · have q' : H b = some (.own x) := by
        rcases he with z | z
        · exact absurd (hbe.trans z) hb
        · rw [hbe]; exact z
      rw [q] at q'; cases q'
      obtain ⟨v, hv⟩ := heo
      exact ⟨v, by rw [hbe]; exact hv⟩
    · refine (ok b u q).stay (fun c v hc r => k c v ?_ r) (fun c r => by rw [upd_ne (nown c b r)]; exact r) fun c xs r => by rw [upd_ne (ntup c xs r)]; exact r
      rcases hc with rfl | hc
      · exact hbe
      · rintro rfl
        rcases he with z | z
        · exact nown c b hc z
        · rw [hc] at z; cases z; exact hb rfl
end
structure Un (fs ex : List Addr) (H H' : Hp) (h h' : Heap) : Prop where
  keep : ∀ b o, h.get? b = some o → H b = none → b ∉ fs → b ∉ ex → h'.get? b = some o
  slot : ∀ b o, h.get? b = some o → H b = none → b ∈ fs → b ∉ ex → ∃ sl, h'.get? b = some { o with slots := sl }
  free : ∀ b o, h.get? b = some o → H b = none → b ∉ ex → H' b = none
  there : ∀ b o, h.get? b = some o → b ∉ ex → ∃ o', h'.get? b = some o'
  tups : ∀ b xs, H b = some (.tup xs) → H' b = some (.tup xs)
  frzs : ∀ b o u, H b = some (.frz o u) → H' b = some (.frz o u)
  tbls : ∀ b ps, H b = some (.tbl ps) → ∃ more, H' b = some (.tbl (ps ++ more))
section
variable {fs fs' ex ex' : List Addr} {H H1 H2 : Hp} {h h1 h2 h' : Heap} {a x e : Addr} {o : HO}
theorem Un.any (u : Un fs ex H H1 h h1) {b : Addr} {ob : Obj} (q : h.get? b = some ob) (n : H b = none) (hx : b ∉ ex) : ∃ sl, h1.get? b = some { ob with slots := sl } := by
  by_cases hb : b ∈ fs
  · exact u.slot b ob q n hb hx
  · exact ⟨ob.slots, u.keep b ob q n hb hx⟩
theorem Un.kept (k : ∀ b u, h.get? b = some u → h'.get? b = some u) : Un fs ex H H h h' :=
  ⟨fun b ob q _ _ _ => k b ob q, fun b ob q _ _ _ => ⟨ob.slots, k b ob q⟩, fun _ _ _ n _ => n, fun b ob q _ => ⟨ob, k b ob q⟩, fun _ _ q => q, fun _ _ _ q => q, fun _ ps q => ⟨#[], by rw [q]; simp⟩⟩
theorem Un.refl : Un fs ex H H h h := Un.kept fun _ _ q => q
theorem Un.laid (k : ∀ b u, h.get? b = some u → h'.get? b = some u) (hp : h.objs.size ≤ a) (hn : H a = none) : Un fs ex H (upd H a o) h h' where
  keep := fun b u q _ _ _ => k b u q
  slot := fun b u q _ _ _ => ⟨u.slots, k b u q⟩
  free := fun b u q n _ => by rw [upd_ne (Nat.ne_of_lt (Nat.lt_of_lt_of_le (Heap.lt_size q) hp))]; exact n
  there := fun b u q _ => ⟨u, k b u q⟩
  tups := fun b xs q => by rw [upd_ne (ne_of_none q hn)]; exact q
  frzs := fun b u xs q => by rw [upd_ne (ne_of_none q hn)]; exact q
  tbls := fun b ps q => ⟨#[], by rw [upd_ne (ne_of_none q hn), q]; simp⟩
theorem Un.write (mu : Mut (H x)) (he : e = x ∨ H e = some (.own x)) (k : ∀ b u, b ≠ e → h.get? b = some u → h'.get? b = some u) (heo : ∃ u, h'.get? e = some u) : Un fs ex H (upd H x o) h h' := by
  have hx : ∀ b, H b = none → b ≠ x := fun b n z => by subst z; rw [n] at mu; exact mu
  have hb : ∀ b, H b = none → b ≠ e := fun b n z => by
    subst z
    rcases he with r | r
    · exact hx b n r
    · rw [n] at r; cases r
  have hm : ∀ b u, H b = some u → ¬ Mut (some u) → b ≠ x := fun b u q nm z => by subst z; rw [q] at mu; exact nm mu
  refine ⟨fun b u q n _ _ => k b u (hb b n) q, fun b u q n _ _ => ⟨u.slots, k b u (hb b n) q⟩, fun b u q n _ => by rw [upd_ne (hx b n)]; exact n, fun b u q _ => ?_,
    fun b xs q => by rw [upd_ne (hm b _ q fun z => z)]; exact q, fun b u xs q => by rw [upd_ne (hm b _ q fun z => z)]; exact q, fun b ps q => ⟨#[], by rw [upd_ne (hm b _ q fun z => z), q]; simp⟩⟩
  by_cases hbe : b = e
  · subst hbe; exact heo
  · exact ⟨u, k b u hbe q⟩
end
def trk (h : Heap) (H : Hp) : List Addr := (List.range h.objs.size).filter fun a => (H a).isSome
def hidT (h : Heap) (H : Hp) : Heap := PySem.W.hideAll h (trk h H)
theorem hidT_size (h : Heap) (H : Hp) : (hidT h H).objs.size = h.objs.size := PySem.W.hideAll_size _ _
theorem hidT_get {h : Heap} {H : Hp} {b : Addr} {o : Obj} (e : h.get? b = some o) (n : H b = none) : (hidT h H).get? b = some o :=
  PySem.W.hideAll_get _ e fun hm => by
    have q : (H b).isSome = true := (List.mem_filter.mp hm).2
    rw [n] at q; simp at q
theorem of_hidT {h : Heap} {H : Hp} {b : Addr} {o : Obj} (e : (hidT h H).get? b = some o) : h.get? b = some o ∧ H b = none := by
  have e' : h.get? b = some o := PySem.W.of_hideAll (trk h H) e
  refine ⟨e', ?_⟩
  cases q : H b with
  | none => rfl
  | some x =>
    have hm : b ∈ trk h H := List.mem_filter.mpr ⟨List.mem_range.mpr (Heap.lt_size e'), by simp [q]⟩
    have z : (hidT h H).get? b = none := PySem.W.hideAll_none (trk h H) hm
    rw [z] at e; cases e
end L2
namespace L2
open PySem PySem.Spec PyProof.Rows
structure Mod (K : PySem.W.Frag) (mg : Str → Option Value) (base : Heap) : Prop where
  kin : K.In base
  glob : base.Ns mainGlobals mg
  blt : ∃ mb, base.Ns builtinsNs mb ∧ ∀ x : Str, x ≠ "__name__" → mb x = bootBuiltins x
  nolimit : base.NoLimit
structure Cx where
  prog : Program
  w : World
  K : PySem.W.Frag
  mg : Str → Option Value
  base : Heap
  A : Around
  N : List Str
  s_0 : Shared
  H_0 : Hp
  env : Env
  outer : List Env
  stack : List Env
  ex : List Addr
  fn : Str → Bool
  calm : Bool
  pn : List (Addr × Obj)
  xe : Value → Shared → Prop
def frs (l : List Env) : List Addr := l.filterMap (·.frame)
abbrev Cx.fs (X : Cx) : List Addr := frs X.outer
def Vis (sc : Scope) (x : Str) : Prop := sc.names.lookup x = some .local ∨ sc.names.lookup x = some .cell ∨ sc.names.lookup x = some .free
def Loc (sc : Scope) (x : Str) : Prop := sc.names.lookup x = some .local ∨ sc.names.lookup x = some .cell
def Look (env : Env) (h : Heap) (m : Str → Option Value) (x : Str) (u : Value) : Prop :=
  (env.kindOf x = some .local ∧ m x = some u) ∨ ((env.kindOf x = some .cell ∨ env.kindOf x = some .free) ∧ ∃ c, env.cells.lookup x = some c ∧ h.IsCell c (some u))
structure Cx.Ok (X : Cx) : Prop where
  mod : Mod X.K X.mg X.base
  kind : X.env.scope.kind = .function
  glob : X.env.globals = mainGlobals
  blt : X.env.builtins = builtinsNs
  above : X.s_0.heap.objs.size ≤ X.env.locals
  inj : ∀ x y c, X.env.cells.lookup x = some c → X.env.cells.lookup y = some c → x = y
  has : ∀ x, (X.env.kindOf x = some .cell ∨ X.env.kindOf x = some .free) → ∃ c, X.env.cells.lookup x = some c
  cab : ∀ x c, X.fn x = true → X.env.cells.lookup x = some c → X.s_0.heap.objs.size ≤ c
  hd : X.calm = true → X.A.handled = none
  frames : X.A.frames = some X.stack
  stk : X.stack = X.outer ∨ (X.stack = X.env :: X.outer ∧ X.env.frame = some X.env.locals)
  exf : ∀ b ∈ X.ex, b ≠ X.env.locals ∧ ∀ x c, X.env.cells.lookup x = some c → c ≠ b
  bs : ∀ b o, X.base.get? b = some o → X.s_0.heap.get? b = some o ∧ X.H_0 b = none
  bsz : X.base.objs.size ≤ X.s_0.heap.objs.size
  noex : ∀ b o, X.base.get? b = some o → b ∉ X.ex
  exfs : ∀ b ∈ X.ex, b ∉ X.fs
  funs : X.s_0.heap.FunFrames X.base X.outer
  frf : ∀ b ∈ X.fs, X.H_0 b = none
structure Inv (X : Cx) (pins : List (Addr × Obj)) (σ : List (Option V)) (H : Hp) (s : Shared) : Prop where
  ok : X.Ok
  os : s.os = X.s_0.os
  bare : AllBare s.gens
  base : Un X.fs X.ex X.H_0 H X.s_0.heap s.heap
  loc : ∃ m, s.heap.Ns X.env.locals m ∧ ∀ (i : Nat) (x : Str) (v : V), X.N[i]? = some x → σ[i]? = some (some v) → Vis X.env.scope x → ∃ u, RelV v u ∧ Look X.env s.heap m x u
  cell : ∀ x c, X.env.cells.lookup x = some c → ∃ v, s.heap.IsCell c v
  free : H X.env.locals = none
  freeC : ∀ x c, X.env.cells.lookup x = some c → H c = none
  pin : ∀ p ∈ X.pn ++ pins, s.heap.get? p.1 = some p.2 ∧ H p.1 = none ∧ p.1 ≠ X.env.locals ∧ p.1 ∉ X.fs ∧ ∀ v, p.2.data ≠ .cell v
  hok : HOk X.prog X.w H s.heap
  len : σ.length = X.N.length
section
variable {X : Cx} {pins : List (Addr × Obj)} {σ : List (Option V)} {H H' : Hp} {s : Shared} {h' : Heap}
theorem Cx.Ok.nofr (ok : X.Ok) {b : Addr} {o : Obj} (e : X.base.get? b = some o) : b ∉ X.fs := fun hb => by
  have := (ok.funs.mem hb).1
  rw [e] at this; cases this
theorem Inv.bs (I : Inv X pins σ H s) : ∀ b o, X.base.get? b = some o → s.heap.get? b = some o ∧ H b = none := fun b o e =>
  ⟨I.base.keep b o (I.ok.bs b o e).1 (I.ok.bs b o e).2 (I.ok.nofr e) (I.ok.noex b o e), I.base.free b o (I.ok.bs b o e).1 (I.ok.bs b o e).2 (I.ok.noex b o e)⟩
theorem Inv.bk (I : Inv X pins σ H s) : ∀ b o, X.base.get? b = some o → s.heap.get? b = some o := fun b o e => (I.bs b o e).1
theorem Inv.mod (I : Inv X pins σ H s) : Mod X.K X.mg X.base := I.ok.mod
theorem Inv.kIn (I : Inv X pins σ H s) : X.K.In s.heap := I.ok.mod.kin.keeps I.bk
theorem Inv.nolimit (I : Inv X pins σ H s) : s.heap.NoLimit := I.ok.mod.nolimit.keeps I.bk
theorem Inv.lt (I : Inv X pins σ H s) : X.env.locals < s.heap.objs.size := let ⟨_, hn, _⟩ := I.loc; hn.lt
theorem Inv.sz (I : Inv X pins σ H s) : X.s_0.heap.objs.size ≤ s.heap.objs.size := Nat.le_trans I.ok.above (Nat.le_of_lt I.lt)
theorem Inv.nofs (I : Inv X pins σ H s) {a : Addr} (h : s.heap.objs.size ≤ a) : a ∉ X.fs := fun hb => by
  obtain ⟨_, o, ho, _⟩ := I.ok.funs.mem hb
  exact absurd (Nat.lt_of_lt_of_le (Heap.lt_size ho) (Nat.le_trans I.sz h)) (Nat.lt_irrefl _)
theorem Inv.cne (I : Inv X pins σ H s) : ∀ x c, X.env.cells.lookup x = some c → c ≠ X.env.locals := fun x c e z => by
  obtain ⟨v, o, ho, hd⟩ := I.cell x c e
  obtain ⟨m, ⟨o', es, ep, ho', hd', _⟩, _⟩ := I.loc
  rw [z, ho'] at ho; cases ho; rw [hd'] at hd; cases hd
theorem Inv.funs (I : Inv X pins σ H s) : s.heap.FunFrames X.base X.outer := by
  have all : ∀ (l : List Env), (∀ b ∈ frs l, b ∈ X.fs) → X.s_0.heap.FunFrames X.base l → s.heap.FunFrames X.base l := by
    intro l
    induction l with
    | nil => intro _ _; trivial
    | cons env r ih =>
      intro hs hl
      obtain ⟨hk, ⟨L, o, hf, hn, ho, hd⟩, hr⟩ := hl
      have hL : L ∈ X.fs := hs L (by unfold frs; rw [List.filterMap_cons, hf]; exact List.mem_cons_self)
      obtain ⟨sl, e⟩ := I.base.slot L o ho (I.ok.frf L hL) hL fun z => I.ok.exfs L z hL
      exact ⟨hk, ⟨L, _, hf, hn, e, hd⟩, ih (fun b hb => hs b (by unfold frs; rw [List.filterMap_cons, hf]; exact List.mem_cons_of_mem _ hb)) hr⟩
  exact all X.outer (fun _ hb => hb) I.ok.funs
theorem Inv.stack (I : Inv X pins σ H s) : s.heap.FunFrames X.base X.stack := by
  rcases I.ok.stk with e | ⟨e, hf⟩
  · rw [e]; exact I.funs
  · rw [e]
    obtain ⟨m, hn, _⟩ := I.loc
    refine .cons (by rw [I.ok.kind]; decide) hf hn ?_ I.funs
    exact Heap.get?_none_of_le (Nat.le_trans I.ok.bsz I.ok.above)
theorem Inv.stkSub (I : Inv X pins σ H s) : ∀ b ∈ frs X.stack, b ∈ X.env.locals :: X.fs := fun b hb => by
  rcases I.ok.stk with e | ⟨e, hf⟩
  · rw [e] at hb; exact List.mem_cons_of_mem _ hb
  · rw [e] at hb
    unfold frs at hb
    rw [List.filterMap_cons, hf] at hb
    exact hb
theorem Inv.stkFree (I : Inv X pins σ H s) : ∀ b ∈ frs X.stack, H b = none := fun b hb => by
  rcases List.mem_cons.mp (I.stkSub b hb) with e | hb
  · rw [e]; exact I.free
  · obtain ⟨_, o, ho, _⟩ := I.ok.funs.mem hb
    exact I.base.free b o ho (I.ok.frf b hb) fun z => I.ok.exfs b z hb
theorem Inv.step {g' : Array GenState} {t' : Nat} {d' : Drawn} {ch : List Addr} (I : Inv X pins σ H s)
    (hch : ∀ b ∈ ch, (b ∈ X.ex ∨ X.s_0.heap.objs.size ≤ b) ∧ b ≠ X.env.locals ∧ (∀ x c, X.env.cells.lookup x = some c → c ≠ b) ∧ ∀ p ∈ X.pn ++ pins, p.1 ≠ b)
    (keep : ∀ b o, b ≠ X.env.locals → b ∉ X.fs → b ∉ ch → s.heap.get? b = some o → H b = none → h'.get? b = some o)
    (slot : ∀ b o, b ≠ X.env.locals → b ∈ X.fs → b ∉ ch → s.heap.get? b = some o → H b = none → ∃ sl, h'.get? b = some { o with slots := sl }) (free : ∀ b o, b ∉ ch → s.heap.get? b = some o → H b = none → H' b = none)
    (there : ∀ b o, b ∉ ch → s.heap.get? b = some o → ∃ o', h'.get? b = some o')
    (tups : ∀ b xs, H b = some (.tup xs) → H' b = some (.tup xs)) (frzs : ∀ b o u, H b = some (.frz o u) → H' b = some (.frz o u)) (tbls : ∀ b ps, H b = some (.tbl ps) → ∃ more, H' b = some (.tbl (ps ++ more)))
    (ns : ∀ m, s.heap.Ns X.env.locals m → h'.Ns X.env.locals m) (hok : HOk X.prog X.w H' h') (hg : AllBare g') :
    Inv X pins σ H' { s with heap := h', gens := g', drawn := d', toks := t' } := by
  have neL : ∀ b o, X.s_0.heap.get? b = some o → b ≠ X.env.locals := fun b o e => Nat.ne_of_lt (Nat.lt_of_lt_of_le (Heap.lt_size e) I.ok.above)
  have neC : ∀ b o, X.s_0.heap.get? b = some o → b ∉ X.ex → b ∉ ch := fun b o e hx hb => by
    rcases (hch b hb).1 with z | z
    · exact hx z
    · exact absurd (Nat.lt_of_lt_of_le (Heap.lt_size e) z) (Nat.lt_irrefl _)
  have cellK : ∀ x c, X.env.cells.lookup x = some c → ∀ v, s.heap.IsCell c v → h'.IsCell c v := fun x c e v ⟨o, ho, hd⟩ => by
    have nch : c ∉ ch := fun z => (hch c z).2.2.1 x c e rfl
    by_cases hc : c ∈ X.fs
    · obtain ⟨sl, q⟩ := slot c o (I.cne x c e) hc nch ho (I.freeC x c e)
      exact ⟨_, q, hd⟩
    · exact ⟨o, keep c o (I.cne x c e) hc nch ho (I.freeC x c e), hd⟩
  refine ⟨I.ok, I.os, hg, ⟨fun b o e n hb hx => ?_, fun b o e n hb hx => ?_, fun b o e n hx => ?_, fun b o e hx => ?_, fun b xs e => tups b xs (I.base.tups b xs e), fun b o xs e => frzs b o xs (I.base.frzs b o xs e), fun b ps e => ?_⟩, ?_, fun x c e => ?_, ?_, fun x c e => ?_, fun p hp => ?_, hok, I.len⟩
  · exact keep b o (neL b o e) hb (neC b o e hx) (I.base.keep b o e n hb hx) (I.base.free b o e n hx)
  · obtain ⟨sl, e1⟩ := I.base.slot b o e n hb hx
    obtain ⟨sl', e2⟩ := slot b _ (neL b o e) hb (neC b o e hx) e1 (I.base.free b o e n hx)
    exact ⟨sl', e2⟩
  · obtain ⟨o', e1⟩ := I.base.there b o e hx
    exact free b o' (neC b o e hx) e1 (I.base.free b o e n hx)
  · obtain ⟨o', e1⟩ := I.base.there b o e hx
    exact there b o' (neC b o e hx) e1
  · obtain ⟨m1, e1⟩ := I.base.tbls b ps e
    obtain ⟨m2, e2⟩ := tbls b _ e1
    exact ⟨m1 ++ m2, by rw [e2, Array.append_assoc]⟩
  · obtain ⟨m, hn, hl⟩ := I.loc
    refine ⟨m, ns m hn, fun i x v e1 e2 e3 => ?_⟩
    obtain ⟨u, r, l⟩ := hl i x v e1 e2 e3
    refine ⟨u, r, ?_⟩
    rcases l with l | ⟨k, c, e, z⟩
    · exact .inl l
    · exact .inr ⟨k, c, e, cellK x c e _ z⟩
  · obtain ⟨v, z⟩ := I.cell x c e
    exact ⟨v, cellK x c e v z⟩
  · obtain ⟨m, ⟨o, _, _, ho, _⟩, _⟩ := I.loc
    exact free _ o (fun z => (hch _ z).2.1 rfl) ho I.free
  · obtain ⟨v, o, ho, hd⟩ := I.cell x c e
    exact free c o (fun z => (hch c z).2.2.1 x c e rfl) ho (I.freeC x c e)
  · obtain ⟨e, n, ne, nf, d⟩ := I.pin p hp
    have nch : p.1 ∉ ch := fun z => (hch p.1 z).2.2.2 p hp rfl
    exact ⟨keep p.1 p.2 ne nf nch e n, free p.1 p.2 nch e n, ne, nf, d⟩
theorem Inv.un {t' : Nat} (I : Inv X pins σ H s) (u : Un X.fs [] H H' s.heap h') (hok : HOk X.prog X.w H' h') : Inv X pins σ H' { s with heap := h', toks := t' } := by
  obtain ⟨m, ⟨o, es, ep, ho, r⟩, _⟩ := id I.loc
  obtain ⟨sl, hL⟩ := u.any ho I.free (by simp)
  exact I.step (g' := s.gens) (d' := s.drawn) (ch := []) (fun _ z => nomatch z) (fun b o _ hb _ e n => u.keep b o e n hb (by simp)) (fun b o _ hb _ e n => u.slot b o e n hb (by simp)) (fun b o _ e n => u.free b o e n (by simp)) (fun b o _ e => u.there b o e (by simp)) u.tups u.frzs u.tbls (fun m' hm => by
    obtain ⟨o', es', ep', ho', r'⟩ := hm
    rw [ho] at ho'; cases ho'
    exact ⟨_, es', ep', hL, r'⟩) hok I.bare
theorem Inv.call {g' : Array GenState} {t' : Nat} {d' : Drawn} {ch : List Addr} (I : Inv X pins σ H s) (u : Un (frs X.stack) ch H H' s.heap h') (hok : HOk X.prog X.w H' h') (hg : AllBare g')
    (hch : ∀ b ∈ ch, (b ∈ X.ex ∨ X.s_0.heap.objs.size ≤ b) ∧ b ≠ X.env.locals ∧ (∀ x c, X.env.cells.lookup x = some c → c ≠ b) ∧ ∀ p ∈ X.pn ++ pins, p.1 ≠ b) :
    Inv X pins σ H' { s with heap := h', gens := g', drawn := d', toks := t' } := by
  obtain ⟨m, ⟨o, es, ep, ho, r⟩, _⟩ := id I.loc
  obtain ⟨sl, hL⟩ := u.any ho I.free fun z => (hch _ z).2.1 rfl
  exact I.step (ch := ch) hch (fun b o hL hb hc e n => u.keep b o e n (fun z => (List.mem_cons.mp (I.stkSub b z)).elim hL hb) hc) (fun b o _ _ hc e n => u.any e n hc) (fun b o hc e n => u.free b o e n hc) (fun b o hc e => u.there b o e hc) u.tups u.frzs u.tbls (fun m' hm => by
    obtain ⟨o', es', ep', ho', r'⟩ := hm
    rw [ho] at ho'; cases ho'
    exact ⟨_, es', ep', hL, r'⟩) hok hg
theorem Inv.turned {t' : Nat} {it : Addr} (I : Inv X pins σ H s) (k : ∀ b o, b ≠ it → s.heap.get? b = some o → h'.get? b = some o) (hn : H it = none) (hL : it ≠ X.env.locals)
    (h1 : it ∈ X.ex ∨ X.s_0.heap.objs.size ≤ it) (h2 : ∀ x c, X.env.cells.lookup x = some c → c ≠ it) (h3 : ∀ p ∈ X.pn ++ pins, p.1 ≠ it) : Inv X pins σ H { s with heap := h', toks := t' } := by
  have nit : ∀ b u, H b = some u → b ≠ it := fun b u e z => by rw [z, hn] at e; cases e
  refine I.step (g' := s.gens) (d' := s.drawn) (ch := [it]) (fun b hb => ?_) (fun b o _ _ hc e _ => k b o (fun z => hc (by simp [z])) e) (fun b o _ _ hc e _ => ⟨o.slots, k b o (fun z => hc (by simp [z])) e⟩) (fun _ _ _ _ n => n)
    (fun b o hc e => ⟨o, k b o (fun z => hc (by simp [z])) e⟩) (fun _ _ e => e) (fun _ _ _ e => e) (fun b ps e => ⟨#[], by rw [e]; simp⟩) (fun m hm => ?_) (fun b u e => ?_) I.bare
  · have e : b = it := by simpa using hb
    subst e
    exact ⟨h1, hL, h2, h3⟩
  · obtain ⟨o, es, ep, ho, r⟩ := hm
    exact ⟨o, es, ep, k _ o (Ne.symm hL) ho, r⟩
  · refine (I.hok b u e).stay (fun c v hc q => k c v ?_ q) (fun _ q => q) fun _ _ q => q
    rcases hc with z | z
    · rw [z]; exact nit b u e
    · exact nit c _ z
theorem Inv.tok (I : Inv X pins σ H s) (t : Nat) : Inv X pins σ H { s with toks := t } := I.un (h' := s.heap) (t' := t) Un.refl I.hok
theorem Inv.kept {t' : Nat} (I : Inv X pins σ H s) (k : ∀ b u, s.heap.get? b = some u → h'.get? b = some u) : Inv X pins σ H { s with heap := h', toks := t' } := I.un (Un.kept k) (I.hok.kept k)
theorem Inv.laid {a : Addr} {o : HO} {t' : Nat} (I : Inv X pins σ H s) (k : ∀ b u, s.heap.get? b = some u → h'.get? b = some u) (hp : s.heap.objs.size ≤ a) (new : ObjOk X.prog X.w (upd H a o) h' a o) :
    Inv X pins σ (upd H a o) { s with heap := h', toks := t' } := I.un (Un.laid k hp (I.hok.fresh hp)) (I.hok.laid k hp new)
theorem Inv.write {x e : Addr} {o : HO} {t' : Nat} (I : Inv X pins σ H s) (mu : Mut (H x)) (he : e = x ∨ H e = some (.own x)) (k : ∀ b u, b ≠ e → s.heap.get? b = some u → h'.get? b = some u) (heo : ∃ u, h'.get? e = some u)
    (new : ObjOk X.prog X.w (upd H x o) h' x o) : Inv X pins σ (upd H x o) { s with heap := h', toks := t' } := I.un (Un.write mu he k heo) (I.hok.write mu he k heo new)
theorem Inv.weak {σ' : List (Option V)} (I : Inv X pins σ H s) (hl : σ'.length = σ.length) (w : ∀ (i : Nat) v, σ'[i]? = some (some v) → σ[i]? = some (some v)) : Inv X pins σ' H s :=
  ⟨I.ok, I.os, I.bare, I.base, let ⟨m, hn, hl'⟩ := I.loc; ⟨m, hn, fun i x v e1 e2 e3 => hl' i x v e1 (w i v e2) e3⟩, I.cell, I.free, I.freeC, I.pin, I.hok, hl.trans I.len⟩
theorem Inv.pins_of {pins' : List (Addr × Obj)} (I : Inv X pins σ H s) (h : ∀ p ∈ pins', s.heap.get? p.1 = some p.2 ∧ H p.1 = none ∧ p.1 ≠ X.env.locals ∧ p.1 ∉ X.fs ∧ ∀ v, p.2.data ≠ .cell v) : Inv X pins' σ H s :=
  ⟨I.ok, I.os, I.bare, I.base, I.loc, I.cell, I.free, I.freeC, fun p hp => (List.mem_append.mp hp).elim (fun z => I.pin p (List.mem_append_left _ z)) (h p), I.hok, I.len⟩
theorem nodup_ix {N : List Str} (hN : N.Nodup) {i j : Nat} {x : Str} (a : N[i]? = some x) (b : N[j]? = some x) : i = j := by
  obtain ⟨h1, e1⟩ := List.getElem?_eq_some_iff.mp a
  obtain ⟨h2, e2⟩ := List.getElem?_eq_some_iff.mp b
  exact (List.getElem_inj hN).mp (e1.trans e2.symm)
theorem store_ok2 {M : Model} {A : Around} {E : Value → Shared → Prop} {i : Nat} {x : Str} {v : V} {u : Value} {Q : Unit → Shared → Prop} (I : Inv X pins σ H s) (hN : X.N.Nodup) (hi : X.N[i]? = some x) (hx : Loc X.env.scope x) (r : RelV v u)
    (h : ∀ s', Inv X pins (σ.set i (some v)) H s' → (∃ a, Heap.SameBut a s.heap s'.heap ∧ (a = X.env.locals ∨ X.env.cells.lookup x = some a)) → Q () s') (hf : X.fn x = true ∨ X.env.scope.names.lookup x = some .local := by first | exact .inl rfl | exact .inr rfl | assumption) : wpAny M A (storeName X.env x u) Q E s := by
  obtain ⟨m, hn, hl⟩ := id I.loc
  have hcls : (X.env.scope.kind == .class || (X.env.scope.kind == .module && X.env.locals != X.env.globals)) = false := by rw [I.ok.kind]; rfl
  have hiσ : i < σ.length := by rw [I.len]; exact (List.getElem?_eq_some_iff.mp hi).1
  have cne := I.cne
  have tracked : ∀ {a : Addr} {h' : Heap}, (∃ o, s.heap.get? a = some o ∧ H a = none) → Heap.SameBut a s.heap h' → HOk X.prog X.w H h' := fun {a h'} ha hs b ob e => by
    obtain ⟨_, _, hfree⟩ := ha
    refine (I.hok b ob e).stay (fun c w' hc q => (hs.2 c ?_).trans q) (fun _ q => q) fun _ _ q => q
    rintro rfl
    rcases hc with rfl | hc
    · rw [hfree] at e; cases e
    · rw [hfree] at hc; cases hc
  rcases hx with hk | hk
  · refine wpAny_storeName_local hk hn (fun h' hn' hs => ?_) hcls
    obtain ⟨oL, _, _, hoL, _⟩ := id hn
    refine h _ ⟨I.ok, I.os, I.bare, ⟨fun b o e n hb hx => ?_, fun b o e n hb hx => ?_, I.base.free, fun b o e hx => ?_, I.base.tups, I.base.frzs, I.base.tbls⟩, ⟨_, hn', fun j y v' e1 e2 e3 => ?_⟩, fun y c e => ?_, I.free, I.freeC, fun p hp => ?_, tracked ⟨oL, hoL, I.free⟩ hs, by simpa using I.len⟩ ⟨_, hs, .inl rfl⟩
    · exact (hs.2 b (Nat.ne_of_lt (Nat.lt_of_lt_of_le (Heap.lt_size e) I.ok.above))).trans (I.base.keep b o e n hb hx)
    · obtain ⟨sl, e1⟩ := I.base.slot b o e n hb hx
      exact ⟨sl, (hs.2 b (Nat.ne_of_lt (Nat.lt_of_lt_of_le (Heap.lt_size e) I.ok.above))).trans e1⟩
    · obtain ⟨o', e1⟩ := I.base.there b o e hx
      exact ⟨o', (hs.2 b (Nat.ne_of_lt (Nat.lt_of_lt_of_le (Heap.lt_size e) I.ok.above))).trans e1⟩
    · by_cases hj : j = i
      · subst hj
        rw [hi] at e1; cases e1
        rw [List.getElem?_set_self hiσ] at e2
        cases e2
        exact ⟨u, r, .inl ⟨hk, by simp⟩⟩
      · rw [List.getElem?_set_ne (Ne.symm hj)] at e2
        obtain ⟨u', r', q⟩ := hl j y v' e1 e2 e3
        refine ⟨u', r', ?_⟩
        rcases q with ⟨k, e⟩ | ⟨k, c, e, z⟩
        · refine .inl ⟨k, ?_⟩
          have : y ≠ x := fun e => hj (nodup_ix hN e1 (e ▸ hi))
          simp [this, e]
        · exact .inr ⟨k, c, e, z.sameBut hs (cne y c e)⟩
    · obtain ⟨w', z⟩ := I.cell y c e
      exact ⟨w', z.sameBut hs (cne y c e)⟩
    · obtain ⟨e, n, ne, nf, d⟩ := I.pin p hp
      exact ⟨(hs.2 p.1 ne).trans e, n, ne, nf, d⟩
  · have hfn : X.fn x = true := by
      rcases hf with z | z
      · exact z
      · rw [z] at hk; cases hk
    obtain ⟨c, hc⟩ := I.ok.has x (.inl hk)
    obtain ⟨w', z⟩ := I.cell x c hc
    refine wpAny_storeName_cell I.ok.kind hk hc z (fun h' hc' hs => ?_)
    obtain ⟨oc, hoc, hocd⟩ := id z
    refine h { s with heap := h' } ⟨I.ok, I.os, I.bare, ⟨fun b o e n hb hx => ?_, fun b o e n hb hx => ?_, I.base.free, fun b o e hx => ?_, I.base.tups, I.base.frzs, I.base.tbls⟩, ⟨m, hn.sameBut hs (Ne.symm (cne x c hc)), fun j y v' e1 e2 e3 => ?_⟩, fun y c' e => ?_, I.free, I.freeC, fun p hp => ?_, tracked ⟨oc, hoc, I.freeC x c hc⟩ hs, by simpa using I.len⟩ ⟨c, hs, .inr hc⟩
    · exact (hs.2 b (Nat.ne_of_lt (Nat.lt_of_lt_of_le (Heap.lt_size e) (I.ok.cab x c hfn hc)))).trans (I.base.keep b o e n hb hx)
    · obtain ⟨sl, e1⟩ := I.base.slot b o e n hb hx
      exact ⟨sl, (hs.2 b (Nat.ne_of_lt (Nat.lt_of_lt_of_le (Heap.lt_size e) (I.ok.cab x c hfn hc)))).trans e1⟩
    · obtain ⟨o', e1⟩ := I.base.there b o e hx
      exact ⟨o', (hs.2 b (Nat.ne_of_lt (Nat.lt_of_lt_of_le (Heap.lt_size e) (I.ok.cab x c hfn hc)))).trans e1⟩
    · by_cases hj : j = i
      · subst hj
        rw [hi] at e1; cases e1
        rw [List.getElem?_set_self hiσ] at e2
        cases e2
        exact ⟨u, r, .inr ⟨.inl hk, c, hc, hc'⟩⟩
      · rw [List.getElem?_set_ne (Ne.symm hj)] at e2
        obtain ⟨u', r', q⟩ := hl j y v' e1 e2 e3
        refine ⟨u', r', ?_⟩
        rcases q with q | ⟨k, c', e, z'⟩
        · exact .inl q
        · refine .inr ⟨k, c', e, z'.sameBut hs ?_⟩
          rintro rfl
          exact hj (nodup_ix hN e1 (I.ok.inj _ _ _ e hc ▸ hi))
    · by_cases hcc : c' = c
      · subst hcc; exact ⟨_, hc'⟩
      · obtain ⟨w2, z2⟩ := I.cell y c' e
        exact ⟨w2, z2.sameBut hs hcc⟩
    · obtain ⟨e, n, ne, nf, d⟩ := I.pin p hp
      refine ⟨(hs.2 p.1 ?_).trans e, n, ne, nf, d⟩
      intro q
      rw [q, hoc] at e
      have q' : oc = p.2 := Option.some.inj e
      exact d w' (by rw [← q']; exact hocd)
theorem store_ok {M : Model} {A : Around} {E : Value → Shared → Prop} {i : Nat} {x : Str} {v : V} {u : Value} {Q : Unit → Shared → Prop} (I : Inv X pins σ H s) (hN : X.N.Nodup) (hi : X.N[i]? = some x) (hx : Loc X.env.scope x) (r : RelV v u)
    (h : ∀ s', Inv X pins (σ.set i (some v)) H s' → Q () s') (hf : X.fn x = true ∨ X.env.scope.names.lookup x = some .local := by first | exact .inl rfl | exact .inr rfl | assumption) : wpAny M A (storeName X.env x u) Q E s :=
  store_ok2 I hN hi hx r (fun s' I' _ => h s' I') hf
theorem Inv.call' {s' : Shared} {ch : List Addr} (I : Inv X pins σ H s) (ho : s'.os = s.os) (u : Un (frs X.stack) ch H H' s.heap s'.heap) (hok : HOk X.prog X.w H' s'.heap) (hg : AllBare s'.gens)
    (hch : ∀ b ∈ ch, (b ∈ X.ex ∨ X.s_0.heap.objs.size ≤ b) ∧ b ≠ X.env.locals ∧ (∀ x c, X.env.cells.lookup x = some c → c ≠ b) ∧ ∀ p ∈ X.pn ++ pins, p.1 ≠ b) : Inv X pins σ H' s' := by
  obtain ⟨h', g', d', t', o'⟩ := s'
  have e : o' = s.os := ho
  subst e
  exact I.call (g' := g') (t' := t') (d' := d') u hok hg hch
end
abbrev XK := Value → Option Addr → Hp → Prop
abbrev St := List (Option V)
abbrev VK := V → Hp → Prop
abbrev TE := St → Hp → VK → Prop
abbrev TT := St → Hp → (Bool → Hp → Prop) → Prop
abbrev TA := St → Hp → (List V → Hp → Prop) → Prop
structure Ends where
  nx : St → Hp → Prop
  rt : VK
  bk : St → Hp → Prop := fun _ _ => False
  ct : St → Hp → Prop := fun _ _ => False
abbrev TS := Ends → St → Hp → Prop
def EP (X : Cx) (pins : List (Addr × Obj)) (σ : St) (Q : VK) (u : Value) (s' : Shared) : Prop := ∃ v H', Inv X pins σ H' s' ∧ RelV v u ∧ Q v H'
def TP (X : Cx) (pins : List (Addr × Obj)) (σ : St) (Q : Bool → Hp → Prop) (b : Bool) (s' : Shared) : Prop := ∃ H', Inv X pins σ H' s' ∧ Q b H'
def AP (X : Cx) (pins : List (Addr × Obj)) (σ : St) (Q : List V → Hp → Prop) (us : List Value) (s' : Shared) : Prop := ∃ vs H', Inv X pins σ H' s' ∧ Vals vs us ∧ Q vs H'
def SP (X : Cx) (pins : List (Addr × Obj)) (D : Ends) (f : Flow) (s' : Shared) : Prop :=
  match f with
  | .next => ∃ σ' H', Inv X pins σ' H' s' ∧ D.nx σ' H'
  | .brk => ∃ σ' H', Inv X pins σ' H' s' ∧ D.bk σ' H'
  | .cont => ∃ σ' H', Inv X pins σ' H' s' ∧ D.ct σ' H'
  | .ret u => ∃ v σ' H', Inv X pins σ' H' s' ∧ RelV v u ∧ D.rt v H'
def PE (X : Cx) (e : Expr) (t : TE) : Prop :=
  ∀ (pins : List (Addr × Obj)) (s : Shared) (σ : St) (H : Hp) (Q : VK), Inv X pins σ H s → t σ H Q → wpAny (model X.prog X.w) X.A (eval e X.env) (EP X pins σ Q) X.xe s
def PT (X : Cx) (e : Expr) (t : TT) : Prop :=
  ∀ (pins : List (Addr × Obj)) (s : Shared) (σ : St) (H : Hp) (Q : Bool → Hp → Prop), Inv X pins σ H s → t σ H Q → wpAny (model X.prog X.w) X.A (isTrue e X.env (eval e X.env)) (TP X pins σ Q) X.xe s
def PW (X : Cx) (e : Expr) (t : TT) : Prop :=
  ∀ (whole : Sem Value) (pins : List (Addr × Obj)) (s : Shared) (σ : St) (H : Hp) (Q : Bool → Hp → Prop), Inv X pins σ H s → t σ H Q → wpAny (model X.prog X.w) X.A (isTrue e X.env whole) (TP X pins σ Q) X.xe s
theorem PW.pt {X : Cx} {e : Expr} {t : TT} (h : PW X e t) : PT X e t := h _
def PA (X : Cx) (es : List Expr) (t : TA) : Prop :=
  ∀ (pos : Pos) (pins : List (Addr × Obj)) (s : Shared) (σ : St) (H : Hp) (Q : List V → Hp → Prop), Inv X pins σ H s → t σ H Q → wpAny (model X.prog X.w) X.A (spliced (backTo pos (starEach es X.env))) (AP X pins σ Q) X.xe s
def PS (X : Cx) (st : Stmt) (t : TS) : Prop :=
  ∀ (pins : List (Addr × Obj)) (s : Shared) (σ : St) (H : Hp) (D : Ends), Inv X pins σ H s → t D σ H → wpAny (model X.prog X.w) X.A (exec st X.env) (SP X pins D) X.xe s
def PSs (X : Cx) (st : List Stmt) (t : TS) : Prop :=
  ∀ (pins : List (Addr × Obj)) (s : Shared) (σ : St) (H : Hp) (D : Ends), Inv X pins σ H s → t D σ H → wpAny (model X.prog X.w) X.A (execs st X.env) (SP X pins D) X.xe s
theorem thn {α : Type} {t : Sem α} {Q Q' : α → Shared → Prop} {M : Model} {A : Around} {E : Value → Shared → Prop} {s : Shared} (h : wpAny M A t Q E s) (hQ : ∀ a s, Q a s → Q' a s) : wpAny M A t Q' E s := wpAny_mono h hQ fun _ _ x => x
end L2
namespace L2
open PySem PySem.Spec PyProof.Rows
section
variable {X : Cx}
def tVar (i : Nat) : TE := fun σ H Q => ∃ v, σ[i]? = some (some v) ∧ Q v H
def tC (v : V) : TE := fun _ H Q => Q v H
theorem pe_var {i : Nat} {x : Str} {pos : Pos} (hN : X.N[i]? = some x) (hv : Vis X.env.scope x) (hd : (x == ("__debug__" : Str)) = false := by decide) (hcd : (x == ("__classdict__" : Str)) = false := by decide) : PE X (.Name x pos) (tVar i) := by
  intro pins s σ H Q I h
  obtain ⟨v, e, h⟩ := h
  obtain ⟨m, hn, hl⟩ := I.loc
  obtain ⟨u, r, l⟩ := hl i x v hN e hv
  have fin : EP X pins σ Q u s := ⟨v, H, I, r, h⟩
  rcases l with ⟨hk, hm⟩ | ⟨hk, c, hc, hcell⟩
  · exact wpAny_Name (wpAny_loadName_local I.ok.kind hk hn hm fin) hd
  · rcases hk with hk | hk
    · exact wpAny_Name (wpAny_loadName_cell I.ok.kind hk hc hcell fin) hd
    · exact wpAny_Name (wpAny_loadName_free I.ok.kind hk hc hcell fin hcd) hd
theorem pe_int {i j pos} : PE X (.Constant (.int i) j pos) (tC (.int i)) := fun _ _ _ H _ I h => wpAny_Constant_int ⟨.int i, H, I.tok _, ⟨_, rfl⟩, h⟩
theorem pe_bl {b j pos} : PE X (.Constant (.bool b) j pos) (tC (.bl b)) := fun _ _ _ H _ I h => Constant_bool ⟨.bl b, H, I, rfl, h⟩
theorem pe_non {j pos} : PE X (.Constant .none j pos) (tC .non) := fun _ _ _ H _ I h => Constant_none ⟨.non, H, I, rfl, h⟩
theorem pe_str {x j pos} : PE X (.Constant (.str x) j pos) (tC (.str x)) := fun _ _ _ H _ I h => Calls.Constant_str ⟨.str x, H, I.tok _, ⟨_, rfl⟩, h⟩
def Gl (X : Cx) (x : Str) : Prop := X.env.kindOf x = some .globalImplicit
theorem ld_glob {E : Value → Shared → Prop} {pins : List (Addr × Obj)} {s : Shared} {σ : St} {H : Hp} {x : Str} {u : Value} {pos : Pos} {Q : Value → Shared → Prop} (I : Inv X pins σ H s) (hg : Gl X x) (hm : X.mg x = some u) (h : Q u s)
    (hd : (x == ("__debug__" : Str)) = false := by decide) : wpAny (model X.prog X.w) X.A (eval (.Name x pos) X.env) Q E s :=
  Calls.Name_function_global I.ok.kind hg (Calls.loadGlobal_global (by rw [I.ok.glob]; exact I.mod.glob.keeps I.bk) hm h) hd
theorem ld_blt {E : Value → Shared → Prop} {pins : List (Addr × Obj)} {s : Shared} {σ : St} {H : Hp} {x : Str} {u : Value} {pos : Pos} {Q : Value → Shared → Prop} (I : Inv X pins σ H s) (hg : Gl X x) (hm : X.mg x = none) (hv : bootBuiltins x = some u) (h : Q u s)
    (hn : x ≠ "__name__" := by decide) (hd : (x == ("__debug__" : Str)) = false := by decide) : wpAny (model X.prog X.w) X.A (eval (.Name x pos) X.env) Q E s := by
  obtain ⟨mb, h1, h2⟩ := I.mod.blt
  exact Calls.Name_function_global I.ok.kind hg (Calls.loadGlobal_builtin (by rw [I.ok.glob]; exact I.mod.glob.keeps I.bk) hm (by rw [I.ok.blt]; exact h1.keeps I.bk) ((h2 x hn).trans hv) h) hd
theorem pe_glob {x : Str} {v : V} {u : Value} {pos : Pos} (hg : Gl X x) (hm : X.mg x = some u) (r : RelV v u) (hd : (x == ("__debug__" : Str)) = false := by decide) : PE X (.Name x pos) (tC v) :=
  fun _ _ _ H _ I h => ld_glob I hg hm ⟨v, H, I, r, h⟩ hd
variable {a b : Expr} {ta tb : TE} {pos : Pos}
def PC (X : Cx) (op : CmpOp) (a b : Expr) (t : TE) : Prop :=
  ∀ (pins : List (Addr × Obj)) (s : Shared) (σ : St) (H : Hp) (Q : VK), Inv X pins σ H s → t σ H Q →
    wpAny (model X.prog X.w) X.A (eval a X.env) (fun v s₁ => wpAny (model X.prog X.w) X.A (eval b X.env) (fun u s₂ => wpAny (model X.prog X.w) X.A (compareOp op v u) (EP X pins σ Q) X.xe s₂) X.xe s₁) X.xe s
def tB (t : TE) : TT := fun σ H Q => t σ H fun x H1 => ∃ c, x = .bl c ∧ Q c H1
theorem pt_cmp {op : CmpOp} {t : TE} (h : PC X op a b t) (h1 : behindInMarks op b = false := by first | exact nobehind _ (by decide) (by decide) | rfl) : PT X (.Compare a [op] [b] pos) (tB t) := by
  intro pins s σ H Q I hw
  refine wpAny_isTrue_Compare1 (thn (h pins s σ H _ I hw) fun v s1 h1 => thn h1 fun u s2 h2 => thn h2 fun c s3 ⟨x, H1, I1, r1, q1⟩ => ?_) h1
  obtain ⟨d, rfl, q⟩ := q1
  cases r1
  exact wpAny_truthy_bool ⟨H1, I1, q⟩
theorem pt_val {e : Expr} {t : TE} (h : PE X e t) (he : ∀ whole, isTrue e X.env whole = (do let v ← whole; standAt e.pos; holding [v] (truthy v)) := by intro _; rfl) : PT X e (tB t) := by
  intro pins s σ H Q I hw
  refine isTrue_plain (thn (h pins s σ H _ I hw) fun v s1 ⟨x, H1, I1, r1, q1⟩ => ?_) (he _)
  obtain ⟨d, rfl, q⟩ := q1
  cases r1
  exact wpAny_truthy_bool ⟨H1, I1, q⟩
variable {tA tB' : TT} {rest : List Expr}
def tAnd (t u : TT) : TT := fun σ H Q => t σ H fun c H1 => if c = true then u σ H1 Q else Q false H1
def tOr (t u : TT) : TT := fun σ H Q => t σ H fun c H1 => if c = true then Q true H1 else u σ H1 Q
def tNot (t : TT) : TT := fun σ H Q => t σ H fun c H1 => Q (!c) H1
theorem pw_and1 (ha : PT X a tA) : PW X (.BoolOp .And [a] pos) tA := by
  intro wh pins s σ H Q I h
  refine isTrue_and (thn (ha pins s σ H Q I h) fun c s1 e => ?_)
  cases c with
  | true => exact isTrue_and_nil e
  | false => exact e
theorem pw_or1 (ha : PT X a tA) : PW X (.BoolOp .Or [a] pos) tA := by
  intro wh pins s σ H Q I h
  refine isTrue_or (thn (ha pins s σ H Q I h) fun c s1 e => ?_)
  cases c with
  | false => exact isTrue_or_nil e
  | true => exact e
theorem pw_and (ha : PT X a tA) (hb : PW X (.BoolOp .And (b :: rest) pos) tB') : PW X (.BoolOp .And (a :: b :: rest) pos) (tAnd tA tB') := by
  intro wh pins s σ H Q I h
  refine isTrue_and (thn (ha pins s σ H _ I h) fun c s1 ⟨H1, I1, q1⟩ => ?_)
  cases c with
  | true => exact hb wh pins s1 σ H1 Q I1 q1
  | false => exact ⟨H1, I1, q1⟩
theorem pw_or (ha : PT X a tA) (hb : PW X (.BoolOp .Or (b :: rest) pos) tB') : PW X (.BoolOp .Or (a :: b :: rest) pos) (tOr tA tB') := by
  intro wh pins s σ H Q I h
  refine isTrue_or (thn (ha pins s σ H _ I h) fun c s1 ⟨H1, I1, q1⟩ => ?_)
  cases c with
  | true => exact ⟨H1, I1, q1⟩
  | false => exact hb wh pins s1 σ H1 Q I1 q1
theorem pt_not (ha : PT X a tA) : PT X (.UnaryOp .Not a pos) (tNot tA) := by
  intro pins s σ H Q I h
  exact isTrue_not (ha pins s σ H (fun c H1 => Q (!c) H1) I h)
def tIf (t : TT) (ta tb : TE) : TE := fun σ H Q => t σ H fun c H1 => if c = true then ta σ H1 Q else tb σ H1 Q
theorem pe_ifExp {c : Expr} (hc : PT X c tA) (ha : PE X a ta) (hb : PE X b tb) : PE X (.IfExp c a b pos) (tIf tA ta tb) := by
  intro pins s σ H Q I h
  refine wpAny_IfExp (thn (hc pins s σ H _ I h) fun d s1 ⟨H1, I1, q1⟩ => ?_)
  cases d with
  | true => exact ha pins s1 σ H1 Q I1 q1
  | false => exact hb pins s1 σ H1 Q I1 q1
end
end L2
namespace L2
open PySem PySem.Spec PyProof.Rows
def SqL (K : PySem.W.Frag) (H : Hp) (a : Addr) (xs : List V) : Prop :=
  Rd H a (.lst xs) ∨
    ∃ (o : Obj) (its : Array Value) (n : Nat), K.lookup a = some o ∧ o.cls = .type "list" ∧ o.dict = none ∧ o.data = .seq its n ∧ its.size ≤ sizeLine ∧ Vals xs its.toList
def SqT (K : PySem.W.Frag) (H : Hp) (a : Addr) (xs : List V) : Prop :=
  Rd H a (.tup xs) ∨
    ∃ (o : Obj) (its : Array Value) (n : Nat), K.lookup a = some o ∧ o.cls = .type "tuple" ∧ o.data = .seq its n ∧ its.size ≤ sizeLine ∧ Vals xs its.toList
def absV : Value → Option V
  | .none => some .non
  | .bool b => some (.bl b)
  | .int i _ => some (.int i)
  | .str x _ => some (.str x)
  | .bytes b _ => some (.byt b)
  | .float b _ => some (.flt b)
  | .ref a => some (.ref a)
  | .type n => some (.ty n)
  | _ => none
theorem RelV.abs {x : V} {u : Value} (r : RelV x u) : absV u = some x := by
  cases x with
  | non => cases r; rfl
  | bl _ => cases r; rfl
  | int _ => obtain ⟨t, rfl⟩ := r; rfl
  | str _ => obtain ⟨t, rfl⟩ := r; rfl
  | byt _ => obtain ⟨t, rfl⟩ := r; rfl
  | flt _ => obtain ⟨t, rfl⟩ := r; rfl
  | ref _ => cases r; rfl
  | ty _ => cases r; rfl
theorem RelV.inj {x y : V} {u : Value} (r : RelV x u) (q : RelV y u) : x = y := Option.some.inj (r.abs.symm.trans q.abs)
theorem Vals.inj : ∀ {xs ys : List V} {us : List Value}, Vals xs us → Vals ys us → xs = ys
  | _, _, _, .nil, .nil => rfl
  | _, _, _, .cons r t, .cons r' t' => by rw [r.inj r', Vals.inj t t']
section
variable {X : Cx} {pins : List (Addr × Obj)} {σ : St} {H : Hp} {s : Shared} {a : Addr} {xs ys : List V}
theorem SqL.of {K : PySem.W.Frag} (h : H a = some (.lst xs)) : SqL K H a xs := .inl (.inl h)
theorem SqT.of {K : PySem.W.Frag} (h : H a = some (.tup xs)) : SqT K H a xs := .inl (.inl h)
theorem Inv.list (I : Inv X pins σ H s) (h : SqL X.K H a xs) : ∃ its : List Value, Vals xs its ∧ PlainL s.heap a its.toArray ∧ xs.length ≤ sizeLine := by
  rcases h with h | ⟨o, its, n, hk, hc, hd, hs, hz, r⟩
  · obtain ⟨z, its, n, r, e⟩ := h.ok I.hok
    exact ⟨its, r, ⟨_, n, e, rfl, rfl, rfl⟩, z⟩
  · refine ⟨its.toList, r, ⟨o, n, I.kIn a o hk, hc, hd, by simpa using hs⟩, ?_⟩
    have e := r.length
    simp only [Array.length_toList] at e
    omega
theorem Inv.tuple (I : Inv X pins σ H s) (h : SqT X.K H a xs) : ∃ its : List Value, Vals xs its ∧ IsTup s.heap a its.toArray ∧ xs.length ≤ sizeLine := by
  rcases h with h | ⟨o, its, n, hk, hc, hs, hz, r⟩
  · obtain ⟨z, its, r, p⟩ := h.ok I.hok
    exact ⟨its, r, p, z⟩
  · refine ⟨its.toList, r, ⟨o, I.kIn a o hk, hc, n, by simpa using hs⟩, ?_⟩
    have e := r.length
    simp only [Array.length_toList] at e
    omega
theorem Inv.list_inj (I : Inv X pins σ H s) (h : SqL X.K H a xs) (h' : SqL X.K H a ys) : xs = ys := by
  obtain ⟨its, r, ⟨o, n, e, _, _, d⟩, _⟩ := I.list h
  obtain ⟨its', r', ⟨o', n', e', _, _, d'⟩, _⟩ := I.list h'
  rw [e] at e'; cases e'
  rw [d] at d'
  injection d' with d1 _
  have : its = its' := by simpa using congrArg Array.toList d1
  subst this
  exact r.inj r'
end
abbrev Cx.wish (X : Cx) (E : Value → Shared → Prop) : Cx := { X with xe := E }
abbrev Cx.nox (X : Cx) : Cx := X.wish fun _ _ => False
theorem Cx.Ok.wish {X : Cx} (ok : X.Ok) (E : Value → Shared → Prop) : (X.wish E).Ok :=
  ⟨ok.mod, ok.kind, ok.glob, ok.blt, ok.above, ok.inj, ok.has, ok.cab, ok.hd, ok.frames, ok.stk, ok.exf, ok.bs, ok.bsz, ok.noex, ok.exfs, ok.funs, ok.frf⟩
theorem Cx.Ok.unwish {X : Cx} {E : Value → Shared → Prop} (ok : (X.wish E).Ok) : X.Ok :=
  ⟨ok.mod, ok.kind, ok.glob, ok.blt, ok.above, ok.inj, ok.has, ok.cab, ok.hd, ok.frames, ok.stk, ok.exf, ok.bs, ok.bsz, ok.noex, ok.exfs, ok.funs, ok.frf⟩
section
variable {X : Cx} {pins : List (Addr × Obj)} {σ : St} {H : Hp} {s : Shared} {E : Value → Shared → Prop}
theorem Inv.wish (I : Inv X pins σ H s) (E : Value → Shared → Prop) : Inv (X.wish E) pins σ H s := ⟨I.ok.wish E, I.os, I.bare, I.base, I.loc, I.cell, I.free, I.freeC, I.pin, I.hok, I.len⟩
theorem Inv.unwish (I : Inv (X.wish E) pins σ H s) : Inv X pins σ H s := ⟨I.ok.unwish, I.os, I.bare, I.base, I.loc, I.cell, I.free, I.freeC, I.pin, I.hok, I.len⟩
theorem SP.unwish {D : Ends} {f : Flow} {s' : Shared} (h : SP (X.wish E) pins D f s') : SP X pins D f s' := by
  cases f with
  | next => obtain ⟨σ', H', I, q⟩ := h; exact ⟨σ', H', I.unwish, q⟩
  | brk => obtain ⟨σ', H', I, q⟩ := h; exact ⟨σ', H', I.unwish, q⟩
  | cont => obtain ⟨σ', H', I, q⟩ := h; exact ⟨σ', H', I.unwish, q⟩
  | ret u => obtain ⟨v, σ', H', I, r, q⟩ := h; exact ⟨v, σ', H', I.unwish, r, q⟩
theorem PSs.nox {st : List Stmt} {t : TS} (h : PSs X.nox st t) : PSs X st t := fun pins s σ H D I hw =>
  wpAny_mono (h pins s σ H D (I.wish _) hw) (fun _ _ q => q.unwish) fun _ _ z => False.elim z
end
section
variable {X : Cx} {st : Stmt} {rest : List Stmt} {t u : TS} {e : Expr} {te : TE} {pos : Pos}
def tNext : TS := fun D σ H => D.nx σ H
def tSeq (t u : TS) : TS := fun D σ H => t { D with nx := u D } σ H
theorem pss_nil : PSs X [] tNext := fun _ _ σ H _ I h => wpAny_execs_nil ⟨σ, H, I, h⟩
theorem pss_cons (h1 : PS X st t) (h2 : PSs X rest u) : PSs X (st :: rest) (tSeq t u) := by
  intro pins s σ H D I h
  refine wpAny_execs_cons (thn (h1 pins s σ H { D with nx := u D } I h) fun f s1 q => ?_)
  cases f with
  | next =>
    obtain ⟨σ', H', I', q⟩ := q
    exact h2 pins s1 σ' H' D I' q
  | ret v => exact q
  | brk => exact q
  | cont => exact q
theorem pss_one (h1 : PS X st t) : PSs X [st] t := by
  intro pins s σ H D I h
  refine wpAny_execs_cons (thn (h1 pins s σ H D I h) fun f s1 q => ?_)
  cases f with
  | next => exact wpAny_execs_nil q
  | ret v => exact q
  | brk => exact q
  | cont => exact q
def tCont : TS := fun D σ H => D.ct σ H
theorem ps_continue : PS X (.Continue pos) tCont := fun _ _ σ H _ I h => wpAny_Continue ⟨σ, H, I, h⟩
theorem Inv.quiet {pins : List (Addr × Obj)} {σ : St} {H : Hp} {s : Shared} (I : Inv X pins σ H s) : interactive X.env = false := by simp [interactive, I.ok.kind]
def tDrop (te : TE) : TS := fun D σ H => te σ H fun _ H1 => D.nx σ H1
theorem ps_expr (he : PE X e te) (hs : swapsWith e none pos.line X.env = pure false := by rfl) : PS X (.Expr e pos) (tDrop te) := by
  intro pins s σ H D I h
  exact wpAny_Expr_any (thn (he pins s σ H _ I h) fun v s1 ⟨x, H1, I1, r1, q1⟩ => ⟨σ, H1, I1, q1⟩) I.quiet hs
def tRet (te : TE) : TS := fun D σ H => te σ H D.rt
theorem ps_ret (he : PE X e te) : PS X (.Return (some e) pos) (tRet te) := by
  intro pins s σ H D I h
  exact wpAny_Return_some (thn (he pins s σ H _ I h) fun v s1 ⟨x, H1, I1, r1, q1⟩ => ⟨x, σ, H1, I1, r1, q1⟩)
def tIfS (c : TT) (t u : TS) : TS := fun D σ H => c σ H fun b H1 => if b = true then t D σ H1 else u D σ H1
theorem ps_if {c : Expr} {a b : List Stmt} {tc : TT} (hc : PT X c tc) (ha : PSs X a t) (hb : PSs X b u) : PS X (.If c a b pos) (tIfS tc t u) := by
  intro pins s σ H D I h
  refine wpAny_If (thn (hc pins s σ H _ I h) fun d s1 ⟨H1, I1, q1⟩ => ?_)
  cases d with
  | true => exact ha pins s1 σ H1 D I1 q1
  | false => exact hb pins s1 σ H1 D I1 q1
end
abbrev TG := V → St → Hp → (St → Hp → Prop) → Prop
abbrev TGs := List V → St → Hp → (St → Hp → Prop) → Prop
def PG (X : Cx) (target : Expr) (t : TG) : Prop :=
  ∀ (pins : List (Addr × Obj)) (s : Shared) (σ : St) (H : Hp) (v : V) (u : Value) (Q : St → Hp → Prop), Inv X pins σ H s → RelV v u → t v σ H Q →
    wpAny (model X.prog X.w) X.A (assign target X.env u) (fun _ s' => ∃ σ' H', Inv X pins σ' H' s' ∧ Q σ' H') X.xe s
def PGs (X : Cx) (ts : List Expr) (t : TGs) : Prop :=
  ∀ (pins : List (Addr × Obj)) (s : Shared) (σ : St) (H : Hp) (vs : List V) (us : List Value) (Q : St → Hp → Prop), Inv X pins σ H s → Vals vs us → t vs σ H Q →
    wpAny (model X.prog X.w) X.A (assignInOrder ((assignEach ts X.env).map (·.2)) us) (fun _ s' => ∃ σ' H', Inv X pins σ' H' s' ∧ Q σ' H') X.xe s
abbrev TSet := V → V → V → Hp → (Hp → Prop) → Prop
def PSet (X : Cx) (t : TSet) : Prop :=
  ∀ (pins : List (Addr × Obj)) (s : Shared) (σ : St) (H : Hp) (o i v : V) (ov iv u : Value) (Q : Hp → Prop), Inv X pins σ H s → RelV o ov → RelV i iv → RelV v u → t o i v H Q →
    wpAny (model X.prog X.w) X.A (setItem ov iv u) (fun _ s' => ∃ H', Inv X pins σ H' s' ∧ Q H') X.xe s
abbrev TIp := V → V → Hp → VK → Prop
def PIp (X : Cx) (op : Operator) (t : TIp) : Prop :=
  ∀ (pins : List (Addr × Obj)) (s : Shared) (σ : St) (H : Hp) (x y : V) (v u : Value) (Q : VK), Inv X pins σ H s → RelV x v → RelV y u → t x y H Q →
    wpAny (model X.prog X.w) X.A (inplaceOp op v u) (EP X pins σ Q) X.xe s
section
variable {X : Cx} {pos : Pos}
def gName (i : Nat) : TG := fun v σ H Q => Q (σ.set i (some v)) H
theorem pg_name {i : Nat} {x : Str} (hN : X.N.Nodup) (hi : X.N[i]? = some x) (hx : Loc X.env.scope x) (hf : X.fn x = true ∨ X.env.scope.names.lookup x = some .local := by first | exact .inl rfl | exact .inr rfl | assumption) : PG X (.Name x pos) (gName i) := by
  intro pins s σ H v u Q I r h
  exact wpAny_assign_Name (store_ok I hN hi hx r (fun s' I' => ⟨_, H, I', h⟩) hf)
def gNil : TGs := fun vs σ H Q => vs = [] ∧ Q σ H
def gCons (t : TG) (u : TGs) : TGs := fun vs σ H Q => ∃ v r, vs = v :: r ∧ t v σ H fun σ' H' => u r σ' H' Q
theorem pgs_nil : PGs X [] gNil := by
  intro pins s σ H vs us Q I r h
  obtain ⟨e, h⟩ := h
  subst e
  cases r
  exact assignInOrder_nil ⟨σ, H, I, h⟩
theorem pgs_cons {e : Expr} {es : List Expr} {t : TG} {u : TGs} (h1 : PG X e t) (h2 : PGs X es u)
    (hs : (assignEach (e :: es) X.env).map (·.2) = assign e X.env :: (assignEach es X.env).map (·.2) := by rfl) : PGs X (e :: es) (gCons t u) := by
  intro pins s σ H vs us Q I r h
  obtain ⟨v, vr, e1, h⟩ := h
  subst e1
  cases r with
  | cons r rr =>
    rw [hs]
    refine assignInOrder_cons (thn (h1 pins s σ H _ _ _ I r h) fun _ s1 ⟨σ1, H1, I1, q1⟩ => ?_)
    exact h2 pins s1 σ1 H1 _ _ Q I1 rr q1
def gTup (K : PySem.W.Frag) (n : Nat) (t : TGs) : TG := fun v σ H Q => ∃ a xs, v = .ref a ∧ SqT K H a xs ∧ xs.length = n ∧ t xs σ H Q
theorem pg_tup {es : List Expr} {k : Nat} {t : TGs} {n : Nat} (hc : X.calm = true) (h : PGs X es t)
    (hn : (assignEach es X.env).length = n := by rfl) (hst : (assignEach es X.env).findIdx? (·.1) = none := by rfl) : PG X (.Tuple es k pos) (gTup X.K n t) := by
  intro pins s σ H v u Q I r hw
  obtain ⟨a, xs, e1, hq, hl, hw⟩ := hw
  subst e1
  cases r
  obtain ⟨its, rv, ht, hz⟩ := I.tuple hq
  refine assign_Tuple_tuple (I.ok.hd hc) ht (by simp [hn, ← hl, rv.length]) hst fun h' hx => ?_
  have I1 : Inv X pins σ H { s with heap := h' } := I.kept (t' := s.toks) fun b o e => hx b o (Nat.ne_of_lt (Heap.lt_size e)) e
  exact h pins _ σ H xs _ Q I1 (by simpa using rv) hw
def gSub (to ti : TE) (t : TSet) : TG := fun v σ H Q => to σ H fun o H1 => ti σ H1 fun i H2 => t o i v H2 fun H3 => Q σ H3
theorem pg_sub {o i : Expr} {to ti : TE} {t : TSet} (ho : PE X o to) (hi : PE X i ti) (hs : PSet X t)
    (ha : ∀ v, assign (.Subscript o i pos) X.env v = (do
      let ov ← holding [v] (eval o X.env)
      let iv ← holding [v, ov] (eval i X.env)
      standAt pos
      holding [v, ov, iv] (setItem ov iv v)
      release [v, ov, iv] []) := by intro _; rfl) : PG X (.Subscript o i pos) (gSub to ti t) := by
  intro pins s σ H v u Q I r h
  rw [ha]
  refine wpAny_bind (wpAny_holding (thn (ho pins s σ H _ I h) fun ov s1 ⟨x, H1, I1, r1, q1⟩ => ?_))
  refine wpAny_bind (wpAny_holding (thn (hi pins s1 σ H1 _ I1 q1) fun iv s2 ⟨y, H2, I2, r2, q2⟩ => ?_))
  refine wpAny_bind (wpAny_standAt (wpAny_bind (wpAny_holding (thn (hs pins s2 σ H2 x y v ov iv u _ I2 r1 r2 r q2) fun _ s3 ⟨H3, I3, q3⟩ => ?_))))
  exact wpAny_release ⟨σ, H3, I3, q3⟩
def tAsg (te : TE) (g : TG) : TS := fun D σ H => te σ H fun x H1 => g x σ H1 D.nx
theorem ps_asg {tg e : Expr} {te : TE} {g : TG} (he : PE X e te) (hg : PG X tg g) (hs : swapsWithSole [tg] e pos.line X.env = pure false := by rfl) (hw : swappedStores [tg] e X.env = pure none := by rfl)
    (h1 : (assignEach [tg] X.env).map (·.2) = [assign tg X.env] := by rfl) : PS X (.Assign [tg] e pos) (tAsg te g) := by
  intro pins s σ H D I h
  refine wpAny_Assign_stores (thn (he pins s σ H _ I h) fun v s1 ⟨x, H1, I1, r1, q1⟩ => ?_) hs hw
  rw [h1]
  exact thn (hg pins s1 σ H1 x v _ I1 r1 q1) fun _ s2 q => q
theorem ps_set {i : Nat} {x : Str} {e : Expr} {te : TE} {pos' : Pos} (hN : X.N.Nodup) (hi : X.N[i]? = some x) (hx : Loc X.env.scope x) (he : PE X e te) (hs : swapsWith e (some (.Name x pos')) pos.line X.env = pure false := by rfl) (hf : X.fn x = true ∨ X.env.scope.names.lookup x = some .local := by first | exact .inl rfl | exact .inr rfl | assumption) :
    PS X (.Assign [.Name x pos'] e pos) (tAsg te (gName i)) := by
  intro pins s σ H D I h
  refine wpAny_Assign_Name (thn (he pins s σ H _ I h) fun v s1 ⟨y, H1, I1, r1, q1⟩ => ?_) hs
  exact store_ok I1 hN hi hx r1 (fun s2 I2 => ⟨_, H1, I2, q1⟩) hf
def tAug (i : Nat) (te : TE) (ti : TIp) : TS := fun D σ H => ∃ x, σ[i]? = some (some x) ∧ te σ H fun y H1 => ti x y H1 fun z H2 => D.nx (σ.set i (some z)) H2
theorem ps_aug {i : Nat} {x : Str} {e : Expr} {te : TE} {op : Operator} {ti : TIp} {pos' : Pos} (hN : X.N.Nodup) (hi : X.N[i]? = some x) (hx : Loc X.env.scope x) (he : PE X e te) (ho : PIp X op ti) (hf : X.fn x = true ∨ X.env.scope.names.lookup x = some .local := by first | exact .inl rfl | exact .inr rfl | assumption) :
    PS X (.AugAssign (.Name x pos') op e pos) (tAug i te ti) := by
  intro pins s σ H D I h
  obtain ⟨v, e1, h⟩ := h
  obtain ⟨m, hn, hl⟩ := I.loc
  have vis : Vis X.env.scope x := by rcases hx with k | k; exact .inl k; exact .inr (.inl k)
  obtain ⟨u, r, l⟩ := hl i x v hi e1 vis
  refine wpAny_AugAssign_Name ?_
  have go : wpAny (model X.prog X.w) X.A (eval e X.env) (fun w s₂ => wpAny (model X.prog X.w) X.A (inplaceOp op u w) (fun r s₃ => wpAny (model X.prog X.w) X.A (storeName X.env x r) (fun _ => SP X pins D .next) X.xe s₃) X.xe s₂) X.xe s := by
    refine thn (he pins s σ H _ I h) fun w s1 ⟨y, H1, I1, r1, q1⟩ => ?_
    refine thn (ho pins s1 σ H1 v y u w _ I1 r r1 q1) fun z s2 ⟨zv, H2, I2, r2, q2⟩ => ?_
    exact store_ok I2 hN hi hx r2 (fun s3 I3 => ⟨_, H2, I3, q2⟩) hf
  rcases l with ⟨hk, hm⟩ | ⟨hk, c, hc, hcell⟩
  · exact wpAny_loadName_local I.ok.kind hk hn hm go
  · rcases hk with hk | hk
    · exact wpAny_loadName_cell I.ok.kind hk hc hcell go
    · rcases hx with k | k
      · have : X.env.scope.names.lookup x = some .free := hk
        rw [k] at this; cases this
      · have : X.env.scope.names.lookup x = some .free := hk
        rw [k] at this; cases this
def ipI (f : Int → Int → Int) : TIp := fun x y H Q => ∃ i j, x = .int i ∧ y = .int j ∧ Q (.int (f i j)) H
theorem ip_add : PIp X .Add (ipI fun i j => i + j) := by
  intro pins s σ H x y v u Q I r1 r2 h
  obtain ⟨i, j, e1, e2, q⟩ := h
  subst e1; subst e2
  obtain ⟨t, rfl⟩ := r1
  obtain ⟨t', rfl⟩ := r2
  exact iadd_int ⟨.int _, H, I.tok _, ⟨_, rfl⟩, q⟩
end
section
variable {X : Cx} {pos : Pos}
def tWhile (c : TT) (tb : TS) : TS := fun D σ H => ∃ W : Nat → St → Hp → Prop, (∃ m, W m σ H) ∧ ∀ m σ H, W m σ H →
  c σ H fun b H1 => if b = true then ∃ N : St → Hp → Prop, (∀ σ' H', N σ' H' → ∃ m', m' < m ∧ W m' σ' H') ∧ tb { D with nx := N, ct := N, bk := D.nx } σ H1 else D.nx σ H1
theorem ps_while {c : Expr} {body : List Stmt} {tc : TT} {tb : TS} (hp : PassesOwn (model X.prog X.w) X.A X.env X.xe) (hc : PT X c tc) (hb : PSs X body tb) : PS X (.While c body [] pos) (tWhile tc tb) := by
  intro pins s σ H D I h
  obtain ⟨W, ⟨m0, w0⟩, turn⟩ := h
  refine wpAny_While (codeAny_whileLoop (fun n s' => ∃ σ' H', Inv X pins σ' H' s' ∧ W n σ' H') ?_ m0 ⟨σ, H, I, w0⟩)
  rintro n s1 ⟨σ1, H1, I1, w1⟩
  refine wpAny_passesOwn hp (thn (hc pins s1 σ1 H1 _ I1 (turn n σ1 H1 w1)) fun b s2 ⟨H2, I2, q2⟩ => ?_)
  cases b with
  | true =>
    obtain ⟨N, hN, q2⟩ := q2
    rw [if_pos rfl]
    refine wpAny_passesOwn hp (thn (hb pins s2 σ1 H2 _ I2 q2) fun f s3 q3 => ?_)
    cases f with
    | next =>
      obtain ⟨σ3, H3, I3, n3⟩ := q3
      obtain ⟨m', hm, w3⟩ := hN σ3 H3 n3
      exact ⟨m', hm, σ3, H3, I3, w3⟩
    | cont =>
      obtain ⟨σ3, H3, I3, n3⟩ := q3
      obtain ⟨m', hm, w3⟩ := hN σ3 H3 n3
      exact ⟨m', hm, σ3, H3, I3, w3⟩
    | brk => exact q3
    | ret v => exact q3
  | false =>
    rw [if_neg Bool.false_ne_true]
    exact wpAny_execs_nil ⟨σ1, H2, I2, q2⟩
end
structure It where
  go : Nat → Hp → Prop
  yld : Nat → Hp → V → Hp → Prop
  stop : Nat → Hp → Prop
def FpOk (X : Cx) (pins : List (Addr × Obj)) (H : Hp) (b : Addr) : Prop :=
  H b = none ∧ b ≠ X.env.locals ∧ b ∉ X.fs ∧ (b ∈ X.ex ∨ X.s_0.heap.objs.size ≤ b) ∧ (∀ x c, X.env.cells.lookup x = some c → c ≠ b) ∧ ∀ p ∈ X.pn ++ pins, p.1 ≠ b
theorem Inv.fpOk {X : Cx} {pins : List (Addr × Obj)} {σ : St} {H H' : Hp} {s : Shared} {b : Addr} (I : Inv X pins σ H s) (hb : s.heap.objs.size ≤ b) (hn : H' b = none) : FpOk X pins H' b := by
  refine ⟨hn, Nat.ne_of_gt (Nat.lt_of_lt_of_le I.lt hb), I.nofs hb, .inr (Nat.le_trans I.sz hb), fun x c e z => ?_, fun p hp z => ?_⟩
  · obtain ⟨v, q⟩ := I.cell x c e
    exact absurd (Nat.lt_of_lt_of_le q.lt (by rw [z]; exact hb)) (Nat.lt_irrefl _)
  · exact absurd (Nat.lt_of_lt_of_le (Heap.lt_size (I.pin p hp).1) (by rw [z]; exact hb)) (Nat.lt_irrefl _)
structure Turn (P : Program) (w : World) (K : PySem.W.Frag) (tg : Expr) (J : It) (fp : List Addr) (it : Addr) (tn : Nat → Heap → Prop) : Prop where
  mem : it ∈ fp
  obj : ∀ i h, tn i h → ∀ b ∈ fp, ∃ o, h.get? b = some o ∧ ∀ v, o.data ≠ .cell v
  keep : ∀ i h h', tn i h → (∀ b ∈ fp, ∀ o, h.get? b = some o → h'.get? b = some o) → tn i h'
  item : ∀ (X : Cx), X.prog = P → X.w = w → X.K = K → X.calm = true → ∀ (i : Nat) (pins : List (Addr × Obj)) (s : Shared) (σ : St) (H : Hp) (E : Value → Shared → Prop), Inv X pins σ H s → (∀ b ∈ fp, FpOk X pins H b) → tn i s.heap → J.go i H →
    wpAny (model P w) X.A (pyNext (.ref it)) (fun r s1 => ∃ u, r = some u ∧
      wpAny (model P w) X.A (letOwnedTupleGo tg (.ref it) u) (fun _ s2 => ∃ x H', Inv X pins σ H' s2 ∧ RelV x u ∧ J.yld i H x H' ∧ tn (i + 1) s2.heap ∧ ∀ b ∈ fp, H' b = none) E s1) E s
  done : ∀ (X : Cx), X.prog = P → X.w = w → X.K = K → X.calm = true → ∀ (i : Nat) (pins : List (Addr × Obj)) (s : Shared) (σ : St) (H : Hp) (E : Value → Shared → Prop), Inv X pins σ H s → (∀ b ∈ fp, FpOk X pins H b) → tn i s.heap → J.stop i H →
    wpAny (model P w) X.A (pyNext (.ref it)) (fun r s1 => r = none ∧ Inv X pins σ H s1) E s
  self : ∀ (A : Around) (i : Nat) (s : Shared) (Q : Value → Shared → Prop) (E : Value → Shared → Prop), tn i s.heap → Q (.ref it) s → wpAny (model P w) A (pyIter (.ref it)) Q E s
abbrev TI := St → Hp → (It → Hp → Prop) → Prop
def PIE (X : Cx) (pins : List (Addr × Obj)) (σ : St) (tg : Expr) (R : It → Hp → Prop) (itv : Value) (s2 : Shared) : Prop :=
  ∃ (it : Addr) (fp : List Addr) (tn : Nat → Heap → Prop) (J : It) (H' : Hp), itv = .ref it ∧ Inv X pins σ H' s2 ∧ Turn X.prog X.w X.K tg J fp it tn ∧ tn 0 s2.heap ∧ (∀ b ∈ fp, FpOk X pins H' b) ∧ R J H'
def PI (X : Cx) (tg iter : Expr) (wi : TI) : Prop :=
  ∀ (pins : List (Addr × Obj)) (s : Shared) (σ : St) (H : Hp) (R : It → Hp → Prop), Inv X pins σ H s → wi σ H R →
    wpAny (model X.prog X.w) X.A (eval iter X.env) (fun v s1 => wpAny (model X.prog X.w) X.A (pyIter v) (PIE X pins σ tg R) X.xe s1) X.xe s
theorem go_of {M : Model} {A : Around} {E : Value → Shared → Prop} {s : Shared} {tg : Expr} {it : Addr} {u : Value} {o : Obj} {n : String} {vs : Array Value} {Q : Unit → Shared → Prop} (ho : s.heap.get? it = some o) (hc : o.cls = .type n) (hd : o.data = .fields vs)
    (hn : ["enumerate", "zip", "dict_itemiterator", "dict_reverseitemiterator", "odict_iterator", "itertools.zip_longest", "itertools.pairwise"].contains n = false) (hQ : Q () s) : wpAny M A (letOwnedTupleGo tg (.ref it) u) Q E s := by
  unfold letOwnedTupleGo
  cases tg <;> first
    | exact wpAny_pure hQ
    | (cases u <;> first
        | exact wpAny_pure hQ
        | (refine wpAny_bind (wpAny_load ho ?_)
           rw [hc, hd]
           show wpAny M A (if (["enumerate", "zip", "dict_itemiterator", "dict_reverseitemiterator", "odict_iterator", "itertools.zip_longest", "itertools.pairwise"].contains n && vs[0]? == some (rawInt _)) = true then _ else _) Q E s
           rw [if_neg (by intro h; rw [hn, Bool.false_and] at h; cases h)]
           exact wpAny_pure hQ))
def Itl (K : PySem.W.Frag) (a : Addr) : It :=
  ⟨fun i H => ∃ xs x, SqL K H a xs ∧ xs[i]? = some x, fun i H x H' => H' = H ∧ ∀ xs, SqL K H a xs → xs[i]? = some x, fun i H => ∃ xs, SqL K H a xs ∧ xs.length ≤ i⟩
def Itr (lo : Int) (n : Nat) : It := ⟨fun i _ => i < n, fun i H x H' => H' = H ∧ x = .int (lo + i), fun i _ => n ≤ i⟩
theorem turn_list {P : Program} {w : World} {K : PySem.W.Frag} {tg : Expr} (a it : Addr) : Turn P w K tg (Itl K a) [it] it (fun i h => h.IsListIter it a i) where
  mem := by simp
  obj := fun i h st b hb => by
    have e : b = it := by simpa using hb
    subst e
    obtain ⟨o, e, c, d⟩ := st
    exact ⟨o, e, fun v z => by rw [d] at z; cases z⟩
  keep := fun i h h' st k => st.at fun o e => k it (by simp) o e
  item := by
    intro X hP hw hK hc i pins s σ H E I hf st hg
    subst hP hw hK
    obtain ⟨xs, x, hq, hx⟩ := hg
    obtain ⟨its, rv, p, hz⟩ := I.list hq
    obtain ⟨u, hu, ru⟩ := rv.get hx
    obtain ⟨f0, f1, f2, f3, f4, f5⟩ := hf it (by simp)
    refine wpAny_pyNext_list_item st p.isList (x := u) (by simpa using hu) fun h' st' sb => ?_
    have I1 : Inv X pins σ H { s with heap := h' } := I.turned (t' := s.toks) (fun b o hb e => (sb.2 b hb).trans e) f0 f1 f3 f4 f5
    obtain ⟨o, e, c, d⟩ := id st'
    exact ⟨u, rfl, go_of (s := { s with heap := h' }) e c d (by decide) ⟨x, H, I1, ru, ⟨rfl, fun ys hy => by rw [I.list_inj hy hq]; exact hx⟩, st', fun b hb => (hf b hb).1⟩⟩
  done := by
    intro X hP hw hK hc i pins s σ H E I hf st hg
    subst hP hw hK
    obtain ⟨xs, hq, hx⟩ := hg
    obtain ⟨its, rv, p, hz⟩ := I.list hq
    obtain ⟨f0, f1, f2, f3, f4, f5⟩ := hf it (by simp)
    have hl := rv.length
    exact wpAny_pyNext_list_end (I.ok.hd hc) st p.isList (by simp; omega) fun h' eb => ⟨rfl, I.turned (t' := s.toks) (fun b o hb e => eb b o hb e) f0 f1 f3 f4 f5⟩
  self := fun _ _ _ _ _ st h => wpAny_pyIter_listiter st h
theorem turn_range {P : Program} {w : World} {K : PySem.W.Frag} {tg : Expr} (it : Addr) (lo : Int) (n : Nat) : Turn P w K tg (Itr lo n) [it] it (fun i h => IsRangeIter h it (lo + (i : Nat) * 1) ((n : Int) - (i : Nat)) 1) where
  mem := by simp
  obj := fun i h st b hb => by
    have e : b = it := by simpa using hb
    subst e
    exact ⟨_, st, fun v z => by
      have z' : Data.fields _ = Data.cell v := z
      cases z'⟩
  keep := fun i h h' st k => k it (by simp) _ st
  item := by
    intro X hP hw hK hc i pins s σ H E I hf st hg
    subst hP hw hK
    obtain ⟨f0, f1, f2, f3, f4, f5⟩ := hf it (by simp)
    have W := Walks.range (prog := X.prog) (w := X.w) (I.ok.hd hc) it lo 1 n
    refine W.item i s _ _ hg st fun v h' tk hv st' kk => ?_
    obtain ⟨t, rfl⟩ := hv
    have I1 : Inv X pins σ H { s with heap := h', toks := tk } := I.turned (fun b o hb e => kk b o (by simpa using hb) e) f0 f1 f3 f4 f5
    refine ⟨_, rfl, go_of (s := { s with heap := h', toks := tk }) (n := "range_iterator") st' rfl rfl (by decide) ⟨.int (lo + i), H, I1, ⟨t, ?_⟩, ⟨rfl, rfl⟩, st', fun b hb => (hf b hb).1⟩⟩
    rw [Int.mul_one]
  done := by
    intro X hP hw hK hc i pins s σ H E I hf st hg
    subst hP hw hK
    obtain ⟨f0, f1, f2, f3, f4, f5⟩ := hf it (by simp)
    exact wpAny_pyNext_range_end (I.ok.hd hc) st (by have : n ≤ i := hg; omega) fun h' eb => ⟨rfl, I.turned (t' := s.toks) (fun b o hb e => eb b o hb e) f0 f1 f3 f4 f5⟩
  self := fun _ _ _ _ _ st h => wpAny_pyIter_rangeiter st h
end L2
namespace L2
open PySem PySem.Spec PyProof.Rows
section
variable {X : Cx} {tg : Expr}
def iList (K : PySem.W.Frag) (tl : TE) : TI := fun σ H R => tl σ H fun x H1 => ∃ a, x = .ref a ∧ (∃ xs, SqL K H1 a xs) ∧ R (Itl K a) H1
theorem pi_list {l : Expr} {tl : TE} (hl : PE X l tl) : PI X tg l (iList X.K tl) := by
  intro pins s σ H R I h
  refine thn (hl pins s σ H _ I h) fun v s1 ⟨x, H1, I1, r1, q1⟩ => ?_
  obtain ⟨a, e, ⟨xs, hq⟩, q⟩ := q1
  subst e
  cases r1
  obtain ⟨its, rv, p, hz⟩ := I1.list hq
  refine wpAny_pyIter_list p.isList ?_
  refine ⟨s1.heap.objs.size, [s1.heap.objs.size], _, _, H1, rfl, I1.kept (t' := s1.toks) fun b o e => Heap.get?_push_of_some _ e, turn_list a _, ⟨_, Heap.get?_push_size _ rfl, rfl, rfl⟩, fun b hb => ?_, q⟩
  have e : b = s1.heap.objs.size := by simpa using hb
  subst e
  exact I1.fpOk (Nat.le_refl _) (I1.hok.fresh (Nat.le_refl _))
theorem range_it {pins : List (Addr × Obj)} {σ : St} {H : Hp} {s : Shared} {R : It → Hp → Prop} {E : Value → Shared → Prop} {lo hi : Int} {t u v : Tok} {tk : Nat} (I : Inv X pins σ H s) (h1 : -(2 ^ 62) ≤ lo) (h2 : lo < 2 ^ 62) (h3 : -(2 ^ 62) ≤ hi) (h4 : hi < 2 ^ 62)
    (q : R (Itr lo (hi - lo).toNat) H) : wpAny (model X.prog X.w) X.A (pyIter (.ref s.heap.objs.size)) (PIE X pins σ tg R) E { s with heap := s.heap.push { cls := .type "range", data := .fields #[.int lo t, .int hi u, .int 1 v] }, toks := tk } := by
  refine wpAny_pyIter_range (IsRange.new ..) (small_one h1 h2 h3 h4) ?_
  have I1 : Inv X pins σ H { s with heap := s.heap.push { cls := .type "range", data := .fields #[.int lo t, .int hi u, .int 1 v] }, toks := tk } := I.kept fun b o e => Heap.get?_push_of_some _ e
  refine ⟨(s.heap.push { cls := .type "range", data := .fields #[.int lo t, .int hi u, .int 1 v] }).objs.size, [(s.heap.push { cls := .type "range", data := .fields #[.int lo t, .int hi u, .int 1 v] }).objs.size], _, _, H, rfl,
    I1.kept (t' := tk) fun b o e => Heap.get?_push_of_some _ e, turn_range _ lo (hi - lo).toNat, ?_, fun b hb => ?_, q⟩
  · have e1 : lo + ((0 : Nat) : Int) * 1 = lo := by simp
    have e2 : (((hi - lo).toNat : Nat) : Int) - ((0 : Nat) : Int) = Builtin.Range.rangeSize lo hi 1 := by rw [rangeSize_one]; split <;> omega
    show IsRangeIter _ _ (lo + ((0 : Nat) : Int) * 1) ((((hi - lo).toNat : Nat) : Int) - ((0 : Nat) : Int)) 1
    rw [e1, e2]
    exact Heap.get?_push_size _ rfl
  · have e : b = (s.heap.push { cls := .type "range", data := .fields #[.int lo t, .int hi u, .int 1 v] }).objs.size := by simpa using hb
    subst e
    exact I1.fpOk (Nat.le_refl _) (I1.hok.fresh (Nat.le_refl _))
def iRng1 (ta : TA) : TI := fun σ H R => ta σ H fun vs H1 => ∃ j : Int, vs = [.int j] ∧ -(2 ^ 62) ≤ j ∧ j < 2 ^ 62 ∧ R (Itr 0 j.toNat) H1
theorem pi_range1 {a : Expr} {ta : TA} {p pos : Pos} (hg : Gl X "range") (hm : X.mg "range" = none) (ha : PA X [a] ta) (hs : starEach [a] X.env = [(false, eval a X.env)] := by rfl) : PI X tg (.Call (.Name "range" p) [a] [] pos) (iRng1 ta) := by
  intro pins s σ H R I h
  refine Call_ (ld_blt I hg hm boot_range (PyProof.Rows.callWith_type1 (thn (ha pos pins s σ H _ I h) fun us s1 ⟨vs, H1, I1, r1, q1⟩ => ?_) hs rfl))
  obtain ⟨j, e, q1, q2, q⟩ := q1
  subst e
  cases r1 with
  | cons r rr =>
    cases rr
    obtain ⟨t, rfl⟩ := r
    exact call_range_1 (range_it I1 (by omega) (by omega) q1 q2 (by simpa using q))
def tFor (wi : TI) (g : TG) (tb : TS) : TS := fun D σ H => wi σ H fun J H1 => ∃ W : Nat → Nat → St → Hp → Prop, (∃ m, W 0 m σ H1) ∧ ∀ i m σ H, W i m σ H →
  (J.stop i H ∧ D.nx σ H) ∨ (J.go i H ∧ ∃ N : St → Hp → Prop, (∀ σ' H', N σ' H' → ∃ m', m' < m ∧ W (i + 1) m' σ' H') ∧ ∀ x H', J.yld i H x H' → g x σ H' fun σ2 H2 => tb { D with nx := N, ct := N, bk := D.nx } σ2 H2)
def pinsAt (fp : List Addr) (h : Heap) : List (Addr × Obj) := fp.filterMap fun b => (h.get? b).map fun o => (b, o)
theorem mem_pinsAt {fp : List Addr} {h : Heap} {b : Addr} {o : Obj} (hb : b ∈ fp) (e : h.get? b = some o) : (b, o) ∈ pinsAt fp h := List.mem_filterMap.mpr ⟨b, hb, by rw [e]; rfl⟩
theorem of_pinsAt {fp : List Addr} {h : Heap} {p : Addr × Obj} (hp : p ∈ pinsAt fp h) : p.1 ∈ fp ∧ h.get? p.1 = some p.2 := by
  obtain ⟨b, hb, e⟩ := List.mem_filterMap.mp hp
  cases q : h.get? b with
  | none => rw [q] at e; cases e
  | some o =>
    rw [q] at e
    have e' : (b, o) = p := Option.some.inj e
    subst e'
    exact ⟨hb, q⟩
theorem Inv.pinned {pins : List (Addr × Obj)} {σ : St} {H : Hp} {s : Shared} {fp : List Addr} (I : Inv X pins σ H s) (hf : ∀ b ∈ fp, FpOk X pins H b) (ho : ∀ b ∈ fp, ∃ o, s.heap.get? b = some o ∧ ∀ v, o.data ≠ .cell v) : Inv X (pins ++ pinsAt fp s.heap) σ H s :=
  I.pins_of fun p hp => (List.mem_append.mp hp).elim (fun z => I.pin p (List.mem_append_right _ z)) fun z => by
    obtain ⟨hb, e⟩ := of_pinsAt z
    obtain ⟨f0, f1, f2, _⟩ := hf p.1 hb
    obtain ⟨o, e', d⟩ := ho p.1 hb
    rw [e] at e'; cases e'
    exact ⟨e, f0, f1, f2, d⟩
theorem Inv.unpinned {pins pl : List (Addr × Obj)} {σ : St} {H : Hp} {s : Shared} (I : Inv X (pins ++ pl) σ H s) : Inv X pins σ H s := I.pins_of fun p hp => I.pin p (List.mem_append_right _ (List.mem_append_left _ hp))
theorem ps_for {iter : Expr} {body : List Stmt} {wi : TI} {g : TG} {tb : TS} {pos : Pos} (hp : PassesOwn (model X.prog X.w) X.A X.env X.xe) (hc : X.calm = true) (hi : PI X tg iter wi) (hg : PG X tg g) (hb : PSs X body tb)
    (hs : ∀ x, foldedSetIterable iter X.env x = pure x := by intro _; rfl) : PS X (.For tg iter body [] pos) (tFor wi g tb) := by
  intro pins s σ H D I h
  refine wpAny_For (thn (hi pins s σ H _ I h) fun v s1 h1 => thn h1 fun itv s2 h2 => ?_) hs
  obtain ⟨it, fp, tn, J, H2, e, I2, T, st2, f2, W, ⟨m0, w0⟩, turn⟩ := h2
  subst e
  have stat : ∀ {H' : Hp}, (∀ b ∈ fp, H' b = none) → ∀ b ∈ fp, FpOk X pins H' b := fun hn b hb => ⟨hn b hb, (f2 b hb).2⟩
  refine codeAny_forLoop_any (fun n s' => ∃ i σ' H', Inv X pins σ' H' s' ∧ tn i s'.heap ∧ (∀ b ∈ fp, H' b = none) ∧ W i n σ' H') ?_ m0 ⟨0, σ, H2, I2, st2, fun b hb => (f2 b hb).1, w0⟩
  rintro n s3 ⟨i, σ3, H3, I3, st3, fr3, w3⟩
  rcases turn i n σ3 H3 w3 with ⟨stop, qn⟩ | ⟨go, N, hN, step⟩
  · refine wpAny_passesOwn hp (thn (T.done X rfl rfl rfl hc i pins s3 σ3 H3 X.xe I3 (stat fr3) st3 stop) fun r s4 ⟨hr, I4⟩ => ?_)
    subst hr
    exact wpAny_execs_nil ⟨σ3, H3, I4, qn⟩
  · refine wpAny_passesOwn hp (thn (T.item X rfl rfl rfl hc i pins s3 σ3 H3 X.xe I3 (stat fr3) st3 go) fun r s4 ⟨u, hr, h4⟩ => ?_)
    subst hr
    refine wpAny_passesOwn hp (thn h4 fun _ s5 ⟨x, H5, I5, r5, y5, st5, fr5⟩ => ?_)
    have I5' := I5.pinned (stat fr5) (T.obj _ _ st5)
    refine wpAny_passesOwn hp (thn (hg _ s5 σ3 H5 x u _ I5' r5 (step x H5 y5)) fun _ s6 ⟨σ6, H6, I6, q6⟩ => ?_)
    refine wpAny_passesOwn hp (thn (hb _ s6 σ6 H6 _ I6 q6) fun f s7 q7 => ?_)
    have again : ∀ {σ7 : St} {H7 : Hp}, Inv X (pins ++ pinsAt fp s5.heap) σ7 H7 s7 → N σ7 H7 → ∃ m, m < n ∧ ∃ i σ' H', Inv X pins σ' H' s7 ∧ tn i s7.heap ∧ (∀ b ∈ fp, H' b = none) ∧ W i m σ' H' := fun {σ7 H7} I7 n7 => by
      obtain ⟨m', hm, w7⟩ := hN σ7 H7 n7
      refine ⟨m', hm, i + 1, σ7, H7, I7.unpinned, T.keep _ _ _ st5 fun b hb o e => (I7.pin (b, o) (List.mem_append_right _ (List.mem_append_right _ (mem_pinsAt hb e)))).1, fun b hb => ?_, w7⟩
      obtain ⟨o, e, d⟩ := T.obj _ _ st5 b hb
      exact (I7.pin (b, o) (List.mem_append_right _ (List.mem_append_right _ (mem_pinsAt hb e)))).2.1
    cases f with
    | next => obtain ⟨σ7, H7, I7, n7⟩ := q7; exact again I7 n7
    | cont => obtain ⟨σ7, H7, I7, n7⟩ := q7; exact again I7 n7
    | brk => obtain ⟨σ7, H7, I7, q7⟩ := q7; exact ⟨σ7, H7, I7.unpinned, q7⟩
    | ret v => obtain ⟨x7, σ7, H7, I7, r7, q7⟩ := q7; exact ⟨x7, σ7, H7, I7.unpinned, r7, q7⟩
end
theorem for_list {K : PySem.W.Frag} {a : Addr} {xs : List V} {g : TG} {tb : TS} {D : Ends} {σ : St} {H : Hp} (Pv : Nat → St → Hp → Prop) (h0 : Pv 0 σ H) (hl : ∀ i σ H, i ≤ xs.length → Pv i σ H → SqL K H a xs)
    (hs : ∀ i x σ H, xs[i]? = some x → Pv i σ H → g x σ H fun σ2 H2 => tb { D with nx := Pv (i + 1), ct := Pv (i + 1), bk := D.nx } σ2 H2) (hd : ∀ σ H, Pv xs.length σ H → D.nx σ H) :
    ∃ W : Nat → Nat → St → Hp → Prop, (∃ m, W 0 m σ H) ∧ ∀ i m σ H, W i m σ H →
      ((Itl K a).stop i H ∧ D.nx σ H) ∨ ((Itl K a).go i H ∧ ∃ N : St → Hp → Prop, (∀ σ' H', N σ' H' → ∃ m', m' < m ∧ W (i + 1) m' σ' H') ∧ ∀ x H', (Itl K a).yld i H x H' → g x σ H' fun σ2 H2 => tb { D with nx := N, ct := N, bk := D.nx } σ2 H2) := by
  refine ⟨fun i m σ H => m = xs.length - i ∧ i ≤ xs.length ∧ Pv i σ H, ⟨xs.length, by simp, Nat.zero_le _, h0⟩, ?_⟩
  rintro i m σ H ⟨rfl, hi, p⟩
  have q := hl i σ H hi p
  by_cases hlt : i < xs.length
  · refine .inr ⟨⟨xs, xs[i], q, by simp [hlt]⟩, Pv (i + 1), fun σ' H' p' => ⟨xs.length - (i + 1), by omega, rfl, hlt, p'⟩, fun x H' y => ?_⟩
    obtain ⟨e, y⟩ := y
    subst e
    exact hs i x σ _ (y xs q) p
  · have e : i = xs.length := by omega
    subst e
    exact .inl ⟨⟨xs, q, Nat.le_refl _⟩, hd σ H p⟩
theorem for_range {lo : Int} {n : Nat} {g : TG} {tb : TS} {D : Ends} {σ : St} {H : Hp} (Pv : Nat → St → Hp → Prop) (h0 : Pv 0 σ H)
    (hs : ∀ i σ H, i < n → Pv i σ H → g (.int (lo + i)) σ H fun σ2 H2 => tb { D with nx := Pv (i + 1), ct := Pv (i + 1), bk := D.nx } σ2 H2) (hd : ∀ σ H, Pv n σ H → D.nx σ H) :
    ∃ W : Nat → Nat → St → Hp → Prop, (∃ m, W 0 m σ H) ∧ ∀ i m σ H, W i m σ H →
      ((Itr lo n).stop i H ∧ D.nx σ H) ∨ ((Itr lo n).go i H ∧ ∃ N : St → Hp → Prop, (∀ σ' H', N σ' H' → ∃ m', m' < m ∧ W (i + 1) m' σ' H') ∧ ∀ x H', (Itr lo n).yld i H x H' → g x σ H' fun σ2 H2 => tb { D with nx := N, ct := N, bk := D.nx } σ2 H2) := by
  refine ⟨fun i m σ H => m = n - i ∧ i ≤ n ∧ Pv i σ H, ⟨n, by simp, Nat.zero_le _, h0⟩, ?_⟩
  rintro i m σ H ⟨rfl, hi, p⟩
  by_cases hlt : i < n
  · refine .inr ⟨hlt, Pv (i + 1), fun σ' H' p' => ⟨n - (i + 1), by omega, rfl, hlt, p'⟩, fun x H' y => ?_⟩
    obtain ⟨e, y⟩ := y
    subst e y
    exact hs i σ _ hlt p
  · have e : i = n := by omega
    subst e
    exact .inl ⟨Nat.le_refl _, hd σ H p⟩
theorem while_by {c : TT} {tb : TS} {D : Ends} {σ : St} {H : Hp} (Pv : St → Hp → Prop) (μ : St → Hp → Nat) (h0 : Pv σ H)
    (hs : ∀ σ H, Pv σ H → c σ H fun b H1 => if b = true then tb { D with nx := fun σ' H' => Pv σ' H' ∧ μ σ' H' < μ σ H, ct := fun σ' H' => Pv σ' H' ∧ μ σ' H' < μ σ H, bk := D.nx } σ H1 else D.nx σ H1)
    (mono : ∀ σ H Q Q', (∀ b H1, Q b H1 → Q' b H1) → c σ H Q → c σ H Q') : tWhile c tb D σ H := by
  refine ⟨fun m σ H => m = μ σ H ∧ Pv σ H, ⟨_, rfl, h0⟩, ?_⟩
  rintro m σ H ⟨rfl, p⟩
  refine mono σ H _ _ (fun b H1 q => ?_) (hs σ H p)
  cases b with
  | true => exact ⟨_, fun σ' H' ⟨p', l⟩ => ⟨_, l, rfl, p'⟩, q⟩
  | false => exact q
end L2
namespace L2
open PySem PySem.Spec PyProof.Rows
abbrev R2 := V → V → Hp → VK → Prop
def OpR (X : Cx) (f : Value → Value → Sem Value) (r : R2) : Prop :=
  ∀ (pins : List (Addr × Obj)) (s : Shared) (σ : St) (H : Hp) (x y : V) (v u : Value) (Q : VK), Inv X pins σ H s → RelV x v → RelV y u → r x y H Q →
    wpAny (model X.prog X.w) X.A (f v u) (EP X pins σ Q) X.xe s
def UnR (X : Cx) (f : Value → Sem Value) (r : V → Hp → VK → Prop) : Prop :=
  ∀ (pins : List (Addr × Obj)) (s : Shared) (σ : St) (H : Hp) (x : V) (v : Value) (Q : VK), Inv X pins σ H s → RelV x v → r x H Q →
    wpAny (model X.prog X.w) X.A (f v) (EP X pins σ Q) X.xe s
def CallR (X : Cx) (f : Value) (r : List V → Hp → VK → Prop) : Prop :=
  ∀ (pins : List (Addr × Obj)) (s : Shared) (σ : St) (H : Hp) (xs : List V) (us : List Value) (Q : VK), Inv X pins σ H s → Vals xs us → r xs H Q →
    wpAny (model X.prog X.w) X.A (call f us) (EP X pins σ Q) X.xe s
def TruR (X : Cx) (r : V → Hp → (Bool → Hp → Prop) → Prop) : Prop :=
  ∀ (pins : List (Addr × Obj)) (s : Shared) (σ : St) (H : Hp) (x : V) (v : Value) (Q : Bool → Hp → Prop), Inv X pins σ H s → RelV x v → r x H Q →
    wpAny (model X.prog X.w) X.A (truthy v) (TP X pins σ Q) X.xe s
def tOp (r : R2) (ta tb : TE) : TE := fun σ H Q => ta σ H fun x H1 => tb σ H1 fun y H2 => r x y H2 Q
def tUn (r : V → Hp → VK → Prop) (ta : TE) : TE := fun σ H Q => ta σ H fun x H1 => r x H1 Q
def rI (C : Int → Int → Prop) (g : Int → Int → V) : R2 := fun x y H Q => ∃ i j, x = .int i ∧ y = .int j ∧ C i j ∧ Q (g i j) H
def rI0 (g : Int → Int → V) : R2 := fun x y H Q => ∃ i j, x = .int i ∧ y = .int j ∧ Q (g i j) H
def rU (g : Int → V) : V → Hp → VK → Prop := fun x H Q => ∃ i, x = .int i ∧ Q (g i) H
section
variable {X : Cx} {a b c : Expr} {ta tb tc : TE} {pos : Pos}
theorem binT (ha : PE X a ta) (hb : PE X b tb) {pins : List (Addr × Obj)} {s : Shared} {σ : St} {H : Hp} {R : V → V → Hp → Prop} (I : Inv X pins σ H s)
    (h : ta σ H fun x H1 => tb σ H1 fun y H2 => R x y H2) {Q : Value → Shared → Prop} {f : Value → Value → Sem Value}
    (hf : ∀ v u s2 x y H2, Inv X pins σ H2 s2 → RelV x v → RelV y u → R x y H2 → wpAny (model X.prog X.w) X.A (f v u) Q X.xe s2) :
    wpAny (model X.prog X.w) X.A (eval a X.env) (fun v s₁ => wpAny (model X.prog X.w) X.A (eval b X.env) (fun u s₂ => wpAny (model X.prog X.w) X.A (f v u) Q X.xe s₂) X.xe s₁) X.xe s := by
  refine thn (ha pins s σ H _ I h) fun v s1 ⟨x, H1, I1, r1, q1⟩ => ?_
  refine thn (hb pins s1 σ H1 _ I1 q1) fun u s2 ⟨y, H2, I2, r2, q2⟩ => ?_
  exact hf v u s2 x y H2 I2 r1 r2 q2
theorem pe_op {op : Operator} {r : R2} (ho : OpR X (binaryOp op) r) (ha : PE X a ta) (hb : PE X b tb) : PE X (.BinOp a op b pos) (tOp r ta tb) := by
  intro pins s σ H Q I h
  exact wpAny_BinOp (binT ha hb I h fun v u s2 x y H2 I2 rx ry q => ho pins s2 σ H2 x y v u Q I2 rx ry q)
theorem pe_un {op : UnaryOp} {r : V → Hp → VK → Prop} (ho : UnR X (unaryOp op) r) (ha : PE X a ta) : PE X (.UnaryOp op a pos) (tUn r ta) := by
  intro pins s σ H Q I h
  exact UnaryOp_ (thn (ha pins s σ H _ I h) fun v s1 ⟨x, H1, I1, r1, q1⟩ => ho pins s1 σ H1 x v Q I1 r1 q1)
theorem opI {f : Value → Value → Sem Value} {C : Int → Int → Prop} {g : Int → Int → Int}
    (rule : ∀ (i j : Int) (t u : Tok) (s : Shared) (Q : Value → Shared → Prop) (E : Value → Shared → Prop), C i j → Q (.int (g i j) s.toks) { s with toks := s.toks + 1 } → wpAny (model X.prog X.w) X.A (f (.int i t) (.int j u)) Q E s) :
    OpR X f (rI C fun i j => .int (g i j)) := by
  intro pins s σ H x y v u Q I rx ry h
  obtain ⟨i, j, rfl, rfl, hc, q⟩ := h
  obtain ⟨t, rfl⟩ := rx
  obtain ⟨t', rfl⟩ := ry
  exact rule i j t t' s _ _ hc ⟨.int (g i j), H, I.tok _, ⟨_, rfl⟩, q⟩
theorem opI0 {f : Value → Value → Sem Value} {g : Int → Int → Int}
    (rule : ∀ (i j : Int) (t u : Tok) (s : Shared) (Q : Value → Shared → Prop) (E : Value → Shared → Prop), Q (.int (g i j) s.toks) { s with toks := s.toks + 1 } → wpAny (model X.prog X.w) X.A (f (.int i t) (.int j u)) Q E s) :
    OpR X f (rI0 fun i j => .int (g i j)) := by
  intro pins s σ H x y v u Q I rx ry h
  obtain ⟨i, j, rfl, rfl, q⟩ := h
  obtain ⟨t, rfl⟩ := rx
  obtain ⟨t', rfl⟩ := ry
  exact rule i j t t' s _ _ ⟨.int (g i j), H, I.tok _, ⟨_, rfl⟩, q⟩
theorem opB0 {f : Value → Value → Sem Value} {g : Int → Int → Bool}
    (rule : ∀ (i j : Int) (t u : Tok) (s : Shared) (Q : Value → Shared → Prop) (E : Value → Shared → Prop), Q (.bool (g i j)) s → wpAny (model X.prog X.w) X.A (f (.int i t) (.int j u)) Q E s) :
    OpR X f (rI0 fun i j => .bl (g i j)) := by
  intro pins s σ H x y v u Q I rx ry h
  obtain ⟨i, j, rfl, rfl, q⟩ := h
  obtain ⟨t, rfl⟩ := rx
  obtain ⟨t', rfl⟩ := ry
  exact rule i j t t' s _ _ ⟨.bl (g i j), H, I, rfl, q⟩
def CDiv (i j : Int) : Prop := 0 < j ∧ j < 1073741824
def CMul (i j : Int) : Prop := (-(2 ^ 64) < i ∧ i < 2 ^ 64) ∨ (-(2 ^ 64) < j ∧ j < 2 ^ 64)
theorem CMul.ok {i j : Int} (h : CMul i j) : IntMulOk i j := by
  rcases h with ⟨h1, h2⟩ | ⟨h1, h2⟩
  · exact .of_left (intBits_le_64 h1 h2)
  · exact .of_right (intBits_le_64 h1 h2)
theorem op_add : OpR X (binaryOp .Add) (rI0 fun i j => .int (i + j)) := opI0 fun _ _ _ _ _ _ _ q => add_int q
theorem op_sub : OpR X (binaryOp .Sub) (rI0 fun i j => .int (i - j)) := opI0 fun _ _ _ _ _ _ _ q => sub_int q
theorem op_mul : OpR X (binaryOp .Mult) (rI CMul fun i j => .int (i * j)) := opI fun _ _ _ _ _ _ _ hc q => mul_int q hc.ok
theorem op_fdiv : OpR X (binaryOp .FloorDiv) (rI CDiv fun i j => .int (i / j)) := opI fun i j _ _ _ _ _ hc q => by
  have h1 : (0 : Int) < j := hc.1
  have h2 : j < 1073741824 := hc.2
  exact floordiv_int (by omega) (by rw [Int.fdiv_eq_ediv_of_nonneg i (by omega)]; exact q) (.inl (PyProof.noPylong_small (by omega)))
theorem unI {f : Value → Sem Value} {g : Int → Int}
    (rule : ∀ (i : Int) (t : Tok) (s : Shared) (Q : Value → Shared → Prop) (E : Value → Shared → Prop), Q (.int (g i) s.toks) { s with toks := s.toks + 1 } → wpAny (model X.prog X.w) X.A (f (.int i t)) Q E s) :
    UnR X f (rU fun i => .int (g i)) := by
  intro pins s σ H x v Q I rx h
  obtain ⟨i, rfl, q⟩ := h
  obtain ⟨t, rfl⟩ := rx
  exact rule i t s _ _ ⟨.int (g i), H, I.tok _, ⟨_, rfl⟩, q⟩
theorem un_neg : UnR X (unaryOp .USub) (rU fun i => .int (-i)) := unI fun _ _ _ _ _ q => neg_int q
end
def scal : V → V → Bool
  | .non, .non => true | .non, .int _ => true | .int _, .non => true | .non, .bl _ => true | .bl _, .non => true | .non, .str _ => true | .str _, .non => true
  | .int _, .int _ => true | .bl _, .bl _ => true | .str _, .str _ => true | .byt _, .byt _ => true
  | .int _, .str _ => true | .str _, .int _ => true | .bl _, .str _ => true | .str _, .bl _ => true
  | _, _ => false
def rEq : R2 := fun x y H Q => scal x y = true ∧ Q (.bl (decide (x = y))) H
def rNe : R2 := fun x y H Q => scal x y = true ∧ Q (.bl (!decide (x = y))) H
theorem dec_int {i j : Int} : decide (V.int i = V.int j) = (i == j) := by
  rw [Bool.eq_iff_iff]
  simp
theorem dec_bl {i j : Bool} : decide (V.bl i = V.bl j) = (i == j) := by
  rw [Bool.eq_iff_iff]
  simp
theorem dec_str {i j : Str} : decide (V.str i = V.str j) = (i == j) := by
  rw [Bool.eq_iff_iff]
  simp
theorem dec_byt {i j : Array UInt8} : decide (V.byt i = V.byt j) = (i.toList == j.toList) := by
  rw [Bool.eq_iff_iff]
  cases i
  cases j
  simp
section
variable {X : Cx} {a b c : Expr} {ta tb tc : TE} {pos : Pos}
theorem fin_bl {pins : List (Addr × Obj)} {σ : St} {H : Hp} {s : Shared} {Q : VK} {k k' : Bool} (I : Inv X pins σ H s) (q : Q (.bl k) H) (e : k = k') : EP X pins σ Q (.bool k') s := by
  subst e
  exact ⟨.bl k, H, I, rfl, q⟩
theorem op_eq : OpR X (compareOp .Eq) rEq := by
  intro pins s σ H x y v u Q I rx ry h
  obtain ⟨hs, q⟩ := h
  cases x with
  | non =>
    cases rx
    cases y with
    | non => cases ry; exact PySem.EqNone.eq_none_none (fin_bl I q (by simp))
    | bl j => cases ry; exact PySem.EqNone.eq_none_bool (fin_bl I q (by simp))
    | int j => obtain ⟨t', rfl⟩ := ry; exact PySem.EqNone.eq_none_int (fin_bl I q (by simp))
    | str j => obtain ⟨t', rfl⟩ := ry; exact PySem.EqNone.eq_none_str (fin_bl I q (by simp))
    | _ => exact absurd (show false = true from hs) Bool.false_ne_true
  | bl i =>
    cases rx
    cases y with
    | non => cases ry; exact PySem.EqNone.eq_bool_none (fin_bl I q (by simp))
    | bl j => cases ry; exact eq_bool (fin_bl I q dec_bl)
    | str j => obtain ⟨t', rfl⟩ := ry; exact PySem.EqMixed.eq_bool_str (fin_bl I q (by simp))
    | _ => exact absurd (show false = true from hs) Bool.false_ne_true
  | int i =>
    obtain ⟨t, rfl⟩ := rx
    cases y with
    | non => cases ry; exact PySem.EqNone.eq_int_none (fin_bl I q (by simp))
    | int j => obtain ⟨t', rfl⟩ := ry; exact eq_int (fin_bl I q dec_int)
    | str j => obtain ⟨t', rfl⟩ := ry; exact PySem.EqMixed.eq_int_str (fin_bl I q (by simp))
    | _ => exact absurd (show false = true from hs) Bool.false_ne_true
  | str i =>
    obtain ⟨t, rfl⟩ := rx
    cases y with
    | non => cases ry; exact PySem.EqNone.eq_str_none (fin_bl I q (by simp))
    | bl j => cases ry; exact PySem.EqMixed.eq_str_bool (fin_bl I q (by simp))
    | int j => obtain ⟨t', rfl⟩ := ry; exact PySem.EqMixed.eq_str_int (fin_bl I q (by simp))
    | str j => obtain ⟨t', rfl⟩ := ry; exact eq_str (fin_bl I q dec_str)
    | _ => exact absurd (show false = true from hs) Bool.false_ne_true
  | byt i =>
    obtain ⟨t, rfl⟩ := rx
    cases y with
    | byt j => obtain ⟨t', rfl⟩ := ry; exact PySem.W.eq_bytes (fin_bl I q dec_byt)
    | _ => exact absurd (show false = true from hs) Bool.false_ne_true
  | _ => cases y <;> exact absurd (show false = true from hs) Bool.false_ne_true
theorem op_ne : OpR X (compareOp .NotEq) rNe := by
  intro pins s σ H x y v u Q I rx ry h
  obtain ⟨hs, q⟩ := h
  cases x with
  | non =>
    cases rx
    cases y with
    | non => cases ry; exact PySem.EqNone.ne_none_none (fin_bl I q (by simp))
    | bl j => cases ry; exact PySem.EqNone.ne_none_bool (fin_bl I q (by simp))
    | int j => obtain ⟨t', rfl⟩ := ry; exact PySem.EqNone.ne_none_int (fin_bl I q (by simp))
    | str j => obtain ⟨t', rfl⟩ := ry; exact PySem.EqNone.ne_none_str (fin_bl I q (by simp))
    | _ => exact absurd (show false = true from hs) Bool.false_ne_true
  | bl i =>
    cases rx
    cases y with
    | non => cases ry; exact PySem.EqNone.ne_bool_none (fin_bl I q (by simp))
    | bl j => cases ry; exact ne_bool (fin_bl I q (congrArg not dec_bl))
    | str j => obtain ⟨t', rfl⟩ := ry; exact PySem.EqMixed.ne_bool_str (fin_bl I q (by simp))
    | _ => exact absurd (show false = true from hs) Bool.false_ne_true
  | int i =>
    obtain ⟨t, rfl⟩ := rx
    cases y with
    | non => cases ry; exact PySem.EqNone.ne_int_none (fin_bl I q (by simp))
    | int j => obtain ⟨t', rfl⟩ := ry; exact ne_int (fin_bl I q (congrArg not dec_int))
    | str j => obtain ⟨t', rfl⟩ := ry; exact PySem.EqMixed.ne_int_str (fin_bl I q (by simp))
    | _ => exact absurd (show false = true from hs) Bool.false_ne_true
  | str i =>
    obtain ⟨t, rfl⟩ := rx
    cases y with
    | non => cases ry; exact PySem.EqNone.ne_str_none (fin_bl I q (by simp))
    | bl j => cases ry; exact PySem.EqMixed.ne_str_bool (fin_bl I q (by simp))
    | int j => obtain ⟨t', rfl⟩ := ry; exact PySem.EqMixed.ne_str_int (fin_bl I q (by simp))
    | str j => obtain ⟨t', rfl⟩ := ry; exact ne_str (fin_bl I q (congrArg not dec_str))
    | _ => exact absurd (show false = true from hs) Bool.false_ne_true
  | byt i =>
    obtain ⟨t, rfl⟩ := rx
    cases y with
    | byt j => obtain ⟨t', rfl⟩ := ry; exact PySem.W.ne_bytes (fin_bl I q (congrArg not dec_byt))
    | _ => exact absurd (show false = true from hs) Bool.false_ne_true
  | _ => cases y <;> exact absurd (show false = true from hs) Bool.false_ne_true
theorem op_lt : OpR X (compareOp .Lt) (rI0 fun i j => .bl (decide (i < j))) := opB0 fun _ _ _ _ _ _ _ q => lt_int q
theorem op_le : OpR X (compareOp .LtE) (rI0 fun i j => .bl (decide (i ≤ j))) := opB0 fun _ _ _ _ _ _ _ q => le_int q
theorem op_gt : OpR X (compareOp .Gt) (rI0 fun i j => .bl (decide (j < i))) := opB0 fun _ _ _ _ _ _ _ q => gt_int q
theorem op_ge : OpR X (compareOp .GtE) (rI0 fun i j => .bl (decide (j ≤ i))) := opB0 fun _ _ _ _ _ _ _ q => ge_int q
theorem op_isN : OpR X (compareOp .Is) (fun x y H Q => y = .non ∧ Q (.bl (decide (x = .non))) H) := by
  intro pins s σ H x y v u Q I rx ry h
  obtain ⟨rfl, q⟩ := h
  cases ry
  refine is_none_gen (fin_bl I q ?_)
  cases x <;> first
    | (cases rx; rfl)
    | (obtain ⟨t, rfl⟩ := rx; rfl)
theorem op_notN : OpR X (compareOp .IsNot) (fun x y H Q => y = .non ∧ Q (.bl (!decide (x = .non))) H) := by
  intro pins s σ H x y v u Q I rx ry h
  obtain ⟨rfl, q⟩ := h
  cases ry
  refine isnot_none_gen (fin_bl I q ?_)
  cases x <;> first
    | (cases rx; rfl)
    | (obtain ⟨t, rfl⟩ := rx; rfl)
theorem nomark (b : Expr) {op : CmpOp} (h : op ≠ .In := by decide) (h2 : op ≠ .NotIn := by decide) : behindInMarks op b = false := by
  have e1 : (op == CmpOp.In) = false := by cases op <;> first | rfl | exact absurd rfl h
  have e2 : (op == CmpOp.NotIn) = false := by cases op <;> first | rfl | exact absurd rfl h2
  cases b <;> simp [behindInMarks, e1, e2]
theorem pe_cmpR {op : CmpOp} {r : R2} (ho : OpR X (compareOp op) r) (ha : PE X a ta) (hb : PE X b tb) (hm : behindInMarks op b = false) : PE X (.Compare a [op] [b] pos) (tOp r ta tb) := by
  intro pins s σ H Q I h
  exact wpAny_Compare1 (binT ha hb I h fun v u s2 x y H2 I2 rx ry q => ho pins s2 σ H2 x y v u Q I2 rx ry q) hm
def tTest (t : TE) : TT := fun σ H Q => t σ H fun x H' => ∃ k, x = .bl k ∧ Q k H'
theorem pt_cmpR {op : CmpOp} {r : R2} (ho : OpR X (compareOp op) r) (ha : PE X a ta) (hb : PE X b tb) (hm : behindInMarks op b = false) : PT X (.Compare a [op] [b] pos) (tTest (tOp r ta tb)) := by
  intro pins s σ H Q I h
  refine wpAny_isTrue_Compare1 (thn (ha pins s σ H _ I h) fun v s1 ⟨x, H1, I1, r1, q1⟩ => thn (hb pins s1 σ H1 _ I1 q1) fun u s2 ⟨y, H2, I2, r2, q2⟩ =>
    thn (ho pins s2 σ H2 x y v u _ I2 r1 r2 q2) fun c s3 ⟨z, H3, I3, r3, k, e, q3⟩ => ?_) hm
  subst e
  cases r3
  exact wpAny_truthy_bool ⟨H3, I3, q3⟩
def tChain (r r' : R2) (ta tb tc : TE) : TE := fun σ H Q => ta σ H fun x H1 => tb σ H1 fun y H2 => r x y H2 fun z H3 => ∃ k, z = .bl k ∧
  (if k = true then tc σ H3 fun w' H4 => r' y w' H4 Q else Q (.bl false) H3)
theorem pe_chain {op op' : CmpOp} {r r' : R2} (ho : OpR X (compareOp op) r) (ho' : OpR X (compareOp op') r') (ha : PE X a ta) (hb : PE X b tb) (hc : PE X c tc)
    (hm : lastMarks [op, op'] [b, c] = false := by with_unfolding_all rfl) : PE X (.Compare a [op, op'] [b, c] pos) (tChain r r' ta tb tc) := by
  intro pins s σ H Q I h
  refine Compare_chain (thn (ha pins s σ H _ I h) fun v s1 ⟨x, H1, I1, r1, q1⟩ => chain_link (thn (hb pins s1 σ H1 _ I1 q1) fun u s2 ⟨y, H2, I2, r2, q2⟩ =>
    thn (ho pins s2 σ H2 x y v u _ I2 r1 r2 q2) fun d s3 ⟨z, H3, I3, r3, k, e, q3⟩ => ?_)) hm
  subst e
  cases r3
  refine wpAny_truthy_bool ?_
  cases k with
  | false => exact ite_ff ⟨.bl false, H3, I3, rfl, q3⟩
  | true => exact ite_tt (chain_last (thn (hc pins s3 σ H3 _ I3 q3) fun w' s4 ⟨z', H4, I4, r4, q4⟩ => ho' pins s4 σ H4 y z' u w' Q I4 r2 r4 q4))
theorem pt_chain {op op' : CmpOp} {r r' : R2} (ho : OpR X (compareOp op) r) (ho' : OpR X (compareOp op') r') (ha : PE X a ta) (hb : PE X b tb) (hc : PE X c tc)
    (hm : lastMarks [op, op'] [b, c] = false := by with_unfolding_all rfl) : PT X (.Compare a [op, op'] [b, c] pos) (tTest (tChain r r' ta tb tc)) := by
  intro pins s σ H Q I h
  refine isTrue_chain (thn (ha pins s σ H _ I h) fun v s1 ⟨x, H1, I1, r1, q1⟩ => test_link (thn (hb pins s1 σ H1 _ I1 q1) fun u s2 ⟨y, H2, I2, r2, q2⟩ =>
    thn (ho pins s2 σ H2 x y v u _ I2 r1 r2 q2) fun d s3 ⟨z, H3, I3, r3, k, e, q3⟩ => ?_)) hm
  subst e
  cases r3
  refine wpAny_truthy_bool ?_
  cases k with
  | false =>
    obtain ⟨k', e', q'⟩ := q3
    cases e'
    exact ite_ff ⟨H3, I3, q'⟩
  | true =>
    refine ite_tt (test_last (thn (hc pins s3 σ H3 _ I3 q3) fun w' s4 ⟨z', H4, I4, r4, q4⟩ => thn (ho' pins s4 σ H4 y z' u w' _ I4 r2 r4 q4) fun d' s5 ⟨z2, H5, I5, r5, k2, e2, q5⟩ => ?_))
    subst e2
    cases r5
    exact wpAny_truthy_bool ⟨H5, I5, q5⟩
def TruV (K : PySem.W.Frag) (x : V) (H : Hp) (k : Bool) : Prop :=
  match x with
  | .non => k = false
  | .bl b => k = b
  | .int i => k = (i != 0)
  | .str y => y.length ≤ sizeLine ∧ k = ((y.length : Int) != 0)
  | .byt y => y.size ≤ sizeLine ∧ k = ((y.size : Int) != 0)
  | .ref p => (∃ xs, SqL K H p xs ∧ k = !xs.isEmpty) ∨ (∃ xs, SqT K H p xs ∧ k = !xs.isEmpty) ∨ ∃ kvs, H p = some (.dK kvs) ∧ k = !kvs.isEmpty
  | _ => False
theorem isEmpty_kv {κ : Type} {kvs : List (κ × V)} {vs : List (κ × Value)} (r : KV kvs vs) : (!vs.isEmpty) = !kvs.isEmpty := by
  cases r <;> rfl
theorem isEmpty_of {xs : List V} {its : List Value} (r : Vals xs its) : (!its.toArray.isEmpty) = !xs.isEmpty := by
  cases r <;> simp
theorem line63 : (sizeLine : Nat) < 2 ^ 63 := by rw [sizeLine_eq]; decide
theorem tru_ok : TruR X (fun x H Q => ∃ k, TruV X.K x H k ∧ Q k H) := by
  intro pins s σ H x v Q I rx h
  obtain ⟨k, e, q⟩ := h
  have hl := line63
  have hs : sizeLine = 16777216 := sizeLine_eq
  cases x with
  | non =>
    cases rx
    have e' : k = false := e
    subst e'
    exact truthy_none ⟨H, I, q⟩
  | bl b =>
    cases rx
    have e' : k = b := e
    subst e'
    exact wpAny_truthy_bool ⟨H, I, q⟩
  | int i =>
    obtain ⟨t, rfl⟩ := rx
    have e' : k = (i != 0) := e
    subst e'
    exact PySem.P.truthy_int ⟨H, I, q⟩
  | str y =>
    obtain ⟨t, rfl⟩ := rx
    obtain ⟨hy, e'⟩ : y.length ≤ sizeLine ∧ k = ((y.length : Int) != 0) := e
    subst e'
    exact PySem.P.truthy_str (by omega) ⟨H, I.tok _, q⟩
  | byt y =>
    obtain ⟨t, rfl⟩ := rx
    obtain ⟨hy, e'⟩ : y.size ≤ sizeLine ∧ k = ((y.size : Int) != 0) := e
    subst e'
    exact PySem.W.truthy_bytes (by omega) ⟨H, I.tok _, q⟩
  | ref p =>
    cases rx
    have e' : (∃ xs, SqL X.K H p xs ∧ k = !xs.isEmpty) ∨ (∃ xs, SqT X.K H p xs ∧ k = !xs.isEmpty) ∨ ∃ kvs, H p = some (.dK kvs) ∧ k = !kvs.isEmpty := e
    rcases e' with ⟨xs, hx, e'⟩ | ⟨xs, hx, e'⟩ | ⟨kvs, hx, e'⟩
    · subst e'
      obtain ⟨its, r, pl, hz⟩ := I.list hx
      have hlen := r.length
      exact wpAny_truthy_list pl.isList (by simp only [List.size_toArray]; omega) ⟨H, I.tok _, by rw [isEmpty_of r]; exact q⟩
    · subst e'
      obtain ⟨its, r, pl, hz⟩ := I.tuple hx
      have hlen := r.length
      exact truthy_tuple pl (by simp only [List.size_toArray]; omega) ⟨H, I.tok _, by rw [isEmpty_of r]; exact q⟩
    · subst e'
      obtain ⟨hz, hS, vs, r, m⟩ : kvs.length ≤ sizeLine ∧ (p == sysModules) = false ∧ ∃ vs, KV kvs vs ∧ s.heap.DictOf (mixKind X.prog X.w) p vs := I.hok p _ hx
      have hlen : kvs.length = vs.length := Paired.length r
      exact wpAny_truthy_dict hS m (by omega) ⟨H, I.tok _, by rw [isEmpty_kv r]; exact q⟩
  | _ => exact (show False from e).elim
theorem pt_truth (ha : PE X a ta) (he : ∀ whole, isTrue a X.env whole = (do let v ← whole; standAt a.pos; holding [v] (truthy v))) :
    PT X a (fun σ H Q => ta σ H fun x H' => ∃ k, TruV X.K x H' k ∧ Q k H') := by
  intro pins s σ H Q I h
  exact isTrue_plain (thn (ha pins s σ H _ I h) fun v s1 ⟨x, H1, I1, r1, q1⟩ => tru_ok pins s1 σ H1 x v Q I1 r1 q1) (he _)
theorem vals1 {x : V} {us : List Value} (r : Vals [x] us) : ∃ u, us = [u] ∧ RelV x u := by
  cases r with
  | cons r1 r2 => cases r2; exact ⟨_, rfl, r1⟩
theorem vals2 {x y : V} {us : List Value} (r : Vals [x, y] us) : ∃ u w', us = [u, w'] ∧ RelV x u ∧ RelV y w' := by
  cases r with
  | cons r1 r2 =>
    cases r2 with
    | cons r3 r4 => cases r4; exact ⟨_, _, rfl, r1, r3⟩
theorem call_max2 (hc : X.calm = true) : CallR X (.builtin "max") (fun xs H Q => ∃ i j, xs = [.int i, .int j] ∧ Q (.int (if j > i then j else i)) H) := by
  intro pins s σ H xs us Q I r h
  obtain ⟨i, j, rfl, q⟩ := h
  obtain ⟨u, w', rfl, ⟨t, rfl⟩, ⟨t', rfl⟩⟩ := vals2 r
  refine max_two_ints (I.ok.hd hc) fun h' tk k => ⟨_, H, I.kept k, ?_, q⟩
  by_cases hj : j > i
  · rw [if_pos hj, if_pos hj]; exact ⟨_, rfl⟩
  · rw [if_neg hj, if_neg hj]; exact ⟨_, rfl⟩
theorem call_min2 (hc : X.calm = true) : CallR X (.builtin "min") (fun xs H Q => ∃ i j, xs = [.int i, .int j] ∧ Q (.int (if j < i then j else i)) H) := by
  intro pins s σ H xs us Q I r h
  obtain ⟨i, j, rfl, q⟩ := h
  obtain ⟨u, w', rfl, ⟨t, rfl⟩, ⟨t', rfl⟩⟩ := vals2 r
  refine min_two_ints (I.ok.hd hc) fun h' tk k => ⟨_, H, I.kept k, ?_, q⟩
  by_cases hj : j < i
  · rw [if_pos hj, if_pos hj]; exact ⟨_, rfl⟩
  · rw [if_neg hj, if_neg hj]; exact ⟨_, rfl⟩
end
end L2
namespace L2
open PySem PySem.Spec PyProof.Rows
structure ObjM (h : Heap) (x dx C : Addr) (mA : Str → Option Value) : Prop where
  obj : h.get? x = some (PySem.W.instObj C dx)
  ns : h.Ns1 dx mA
  ne : dx ≠ x
theorem lookIn_ns {h : Heap} {dx : Addr} {mA : Str → Option Value} (n : h.Ns1 dx mA) : ∃ od, h.get? dx = some od ∧ ∀ name, PySem.W.lookIn name od = some (mA name) := by
  obtain ⟨o, es, ep, ho, hd, hk, _, hm⟩ := n
  refine ⟨o, ho, fun name => ?_⟩
  have e := hm name
  unfold nsFind findBy at e
  rw [← Array.find?_toList] at e
  unfold PySem.W.lookIn
  rw [hd]
  dsimp only
  split
  · rename_i y q
    rw [q] at e
    exact congrArg some e
  · rename_i q
    rw [q] at e
    have a : es.toList.any (·.refKey) = false := by
      rw [List.any_eq_false]
      intro y hy
      obtain ⟨z, t, hkey⟩ := hk y (Array.mem_toList_iff.mp hy)
      simp [DictEntry.refKey, hkey]
    have a' : ¬ es.toList.any (·.refKey) = true := by rw [a]; exact Bool.false_ne_true
    rw [if_neg a']
    exact congrArg some e
theorem ObjM.look {h : Heap} {x dx C : Addr} {mA : Str → Option Value} (I : ObjM h x dx C mA) : ∃ od, PySem.W.InstAt h x (PySem.W.instObj C dx) C (some od) ∧ ∀ name, PySem.W.lookIn name od = some (mA name) :=
  let ⟨od, ho, hl⟩ := lookIn_ns I.ns
  ⟨od, ⟨I.obj, rfl, rfl, ho⟩, hl⟩
section
variable {prog : Program} {w : World} {A : Around} {E : Value → Shared → Prop} {s : Shared} {K : PySem.W.Frag} {x dx C f : Addr} {mA : Str → Option Value} {name : Str} {v : Value}
theorem get_map {expr : Bool} {Q : Value → Shared → Prop} (X : K.In s.heap) (I : ObjM s.heap x dx C mA) (hg : PySem.W.plainGet K C name = true) (hh : PySem.W.hasDictIn K C = true)
    (ha : PySem.W.findIn K (.ref C) name = some none) (hv : mA name = some v) (hv' : PySem.W.handedIn v = true) (h : Q v { s with toks := s.toks + 1 }) :
    wpAny (model prog w) A (getAttr (.ref x) name expr) Q E s := by
  obtain ⟨od, J, hl⟩ := I.look
  exact PySem.W.get_value X J (PySem.W.plainGet_of hg).1 (PySem.W.findObj_own hh ha rfl (by rw [hl, hv])) hv' h
theorem get_meth {pl : Sem Bool} {Q : Value × List Value → Shared → Prop} (X : K.In s.heap) (I : ObjM s.heap x dx C mA) (hg : PySem.W.plainGet K C name = true)
    (hf : PySem.W.findIn K (.ref C) name = some (some (.ref f))) (ht : PySem.W.isFn K (.ref f) = true) (hv : mA name = none) (h : Q (.ref f, [.ref x]) s) :
    wpAny (model prog w) A (getMethod (.ref x) name pl) Q E s := by
  obtain ⟨od, J, hl⟩ := I.look
  exact PySem.W.method_fn X J (PySem.W.plainGet_of hg).1 (PySem.W.plainGet_of hg).2 hf (beq_iff_eq.mp ht) (by show (PySem.W.lookIn name od).map (·.isSome) = some false; rw [hl, hv]; rfl) h
theorem set_map {ns : List Str} {Q : Unit → Shared → Prop} (X : K.In s.heap) (I : ObjM s.heap x dx C mA)
    (hs : PySem.W.findIn K (.ref C) "__setattr__" = some (some (.builtin "object.__setattr__"))) (hp : PySem.W.plainOver K C = true) (ht : PySem.W.takerIn K C name = some none) (hh : PySem.W.hasDictIn K C = true)
    (hw : PySem.Within mA ns) (hsz : ns.length ≤ sizeLine)
    (h : ∀ h', ObjM h' x dx C (fun y => if y = name then some v else mA y) → Heap.SameBut dx s.heap h' → Q () { s with heap := h', toks := s.toks + 2 }) :
    wpAny (model prog w) A (setAttr (.ref x) name v) Q E s := by
  obtain ⟨od, J, hl⟩ := I.look
  refine PySem.W.set_plain X J hs (PySem.W.osa_open (s := { s with toks := s.toks + 1 }) (r := none) X J hp ht fun b => ?_)
  obtain ⟨cd, hc, hd'⟩ := PySem.W.any_some hh
  have hx : s.heap.get? x = some ⟨.ref C, some dx, .plain, #[]⟩ := I.obj
  refine wpAny_bind (wpAny_pure (wpAny_bind (wpAny_bind (wpAny_loadPart hx (wpAny_bind (PySem.W.Looks.here (s := { s with toks := s.toks + 1 }) (PySem.W.looks_clsIn X hc) ?_))))))
  rw [hd']
  refine wpAny_pure (a := some dx) (wpAny_bind (wpAny_pure (wpAny_bind ?_)))
  refine wpAny_nsSet1 (s := { s with toks := s.toks + 1 }) I.ns fun h' hn2 hs2 => ?_
  obtain ⟨oD, esD, epD, hoD, hdD, hcD⟩ := hn2.count (PySem.Within.cons name v hw)
  refine wpAny_bind (wpAny_lookBehind hoD (by rw [hdD]; exact pastItsLine_dict (Nat.le_trans hcD (by rw [List.length_cons]; omega))) ?_)
  exact wpAny_pure (h _ ⟨(hs2.2 _ (Ne.symm I.ne)).trans I.obj, hn2, I.ne⟩ hs2)
theorem make_map {R : Result → Shared → Prop} {vs : List Value} {kw : List (Str × Value)} (X : K.In s.heap) (hm : PySem.W.makesIn K C = true)
    (hi : PySem.W.findIn K (.ref C) "__init__" = some (some (.ref f))) (hf : PySem.W.typeIn K (.ref f) = some (.type "function"))
    (h : codeAny (model prog w) (A.under (.builtin "type.__call__" ⟨.ref C :: vs, kw⟩)) (.call (.ref f) ⟨.ref (s.heap.objs.size + 1) :: vs, kw⟩) (PySem.W.InitBack (s.heap.objs.size + 1) R)
      { s with heap := (s.heap.push PySem.W.emptyDict).push (PySem.W.instObj C s.heap.objs.size) }) :
    codeAny (model prog w) A (.call (.ref C) ⟨vs, kw⟩) R s := by
  obtain ⟨hh, g, d, t, os⟩ := s
  exact PySem.W.make_core (PySem.W.makes_of X hm) (PySem.W.looks_findIn X hi) (fun self => PySem.W.bind_fn X self hf) (.inl rfl) h
end
def putF (f : Str) (v : V) : List (Str × V) → List (Str × V)
  | [] => [(f, v)]
  | (g, x) :: r => if g = f then (g, v) :: r else (g, x) :: putF f v r
theorem lookup_putF (f g : Str) (v : V) : ∀ fs : List (Str × V), (putF f v fs).lookup g = if g = f then some v else fs.lookup g
  | [] => by
    show List.lookup g [(f, v)] = _
    by_cases h : g = f
    · have hb : (g == f) = true := beq_iff_eq.mpr h
      simp only [List.lookup, hb, if_pos h]
    · have hb : (g == f) = false := beq_eq_false_iff_ne.mpr h
      simp only [List.lookup, hb, if_neg h]
  | (k, x) :: r => by
    have ih := lookup_putF f g v r
    rw [show putF f v ((k, x) :: r) = (if k = f then (k, v) :: r else (k, x) :: putF f v r) from rfl]
    by_cases hk : k = f
    · rw [if_pos hk]
      by_cases h : g = k
      · have hb : (g == k) = true := beq_iff_eq.mpr h
        simp only [List.lookup, hb, if_pos (h.trans hk)]
      · have hb : (g == k) = false := beq_eq_false_iff_ne.mpr h
        simp only [List.lookup, hb, if_neg (fun e : g = f => h (e.trans hk.symm))]
    · rw [if_neg hk]
      by_cases h : g = k
      · have hb : (g == k) = true := beq_iff_eq.mpr h
        simp only [List.lookup, hb, if_neg (fun e : g = f => hk (h.symm.trans e))]
      · have hb : (g == k) = false := beq_eq_false_iff_ne.mpr h
        simp only [List.lookup, hb]
        exact ih
theorem keys_putF (f : Str) (v : V) : ∀ fs : List (Str × V), f ∈ (putF f v fs).map (·.1) ∧ ∀ g, g ∈ fs.map (·.1) → g ∈ (putF f v fs).map (·.1)
  | [] => ⟨by simp [putF], fun g h => by simp at h⟩
  | (k, x) :: r => by
    obtain ⟨i1, i2⟩ := keys_putF f v r
    rw [show putF f v ((k, x) :: r) = (if k = f then (k, v) :: r else (k, x) :: putF f v r) from rfl]
    by_cases hk : k = f
    · rw [if_pos hk]
      subst hk
      exact ⟨by simp, fun g h => by simpa using h⟩
    · rw [if_neg hk]
      refine ⟨?_, fun g h => ?_⟩
      · rw [List.map_cons]
        exact List.mem_cons_of_mem _ i1
      · rw [List.map_cons] at h ⊢
        rcases List.mem_cons.mp h with e | e
        · exact List.mem_cons.mpr (.inl e)
        · exact List.mem_cons_of_mem _ (i2 g e)
theorem length_putF (f : Str) (v : V) : ∀ fs : List (Str × V), (putF f v fs).length ≤ fs.length + 1
  | [] => by simp [putF]
  | (k, x) :: r => by
    have ih := length_putF f v r
    rw [show putF f v ((k, x) :: r) = (if k = f then (k, v) :: r else (k, x) :: putF f v r) from rfl]
    by_cases hk : k = f
    · rw [if_pos hk, List.length_cons, List.length_cons]; omega
    · rw [if_neg hk, List.length_cons, List.length_cons]; omega
theorem RelO.some_of {v : V} {o : Option Value} (r : RelO (some v) o) : ∃ u, o = some u ∧ RelV v u := by
  cases o with
  | none => exact (show False from r).elim
  | some u => exact ⟨u, rfl, r⟩
theorem RelO.none_of {o : Option Value} (r : RelO none o) : o = none := by
  cases o with
  | none => rfl
  | some u => exact (show False from r).elim
theorem handed_of {v : V} {u : Value} (r : RelV v u) : PySem.W.handedIn u = true := by
  cases v with
  | non => cases (show u = Value.none from r); rfl
  | bl b => cases (show u = Value.bool b from r); rfl
  | int i => obtain ⟨t, e⟩ := (show ∃ t, u = Value.int i t from r); cases e; rfl
  | str x => obtain ⟨t, e⟩ := (show ∃ t, u = Value.str x t from r); cases e; rfl
  | byt b => obtain ⟨t, e⟩ := (show ∃ t, u = Value.bytes b t from r); cases e; rfl
  | flt b => obtain ⟨t, e⟩ := (show ∃ t, u = Value.float b t from r); cases e; rfl
  | ref a => cases (show u = Value.ref a from r); rfl
  | ty n => cases (show u = Value.type n from r); rfl
section
variable {P : Program} {w : World} {H H' : Hp} {h h' : Heap} {a C dx : Addr} {fs fs' : List (Str × V)}
theorem ins_get (hok : HOk P w H h) (e : H a = some (.ins C dx fs)) : ∃ mA, ObjM h a dx C mA ∧ (∀ f, RelO (fs.lookup f) (mA f)) ∧ PySem.Within mA (fs.map (·.1)) ∧ fs.length ≤ 1000 ∧ H dx = some (.own a) := by
  obtain ⟨d, z, ne, ob, mA, n, r, q⟩ := (show ObjOk P w H h a (.ins C dx fs) from hok a _ e)
  exact ⟨mA, ⟨ob, n, ne⟩, r, q, z, d⟩
end
structure Cls (K : PySem.W.Frag) (C : Addr) : Prop where
  pg : PySem.W.plainGet K C Str.empty = true
  hd : PySem.W.hasDictIn K C = true
  po : PySem.W.plainOver K C = true
  sa : PySem.W.findIn K (.ref C) "__setattr__" = some (some (.builtin "object.__setattr__"))
theorem Cls.get {K : PySem.W.Frag} {C : Addr} (c : Cls K C) (f : Str) : PySem.W.plainGet K C f = true := c.pg
def NoAttr (K : PySem.W.Frag) (C : Addr) (f : Str) : Prop := PySem.W.findIn K (.ref C) f = some none
theorem NoAttr.taker {K : PySem.W.Frag} {C : Addr} {f : Str} (n : NoAttr K C f) : PySem.W.takerIn K C f = some none := by
  unfold PySem.W.takerIn
  rw [show PySem.W.findIn K (.ref C) f = some none from n]
  rfl
structure Meth (K : PySem.W.Frag) (C : Addr) (m : Str) (f : Addr) : Prop where
  at_ : PySem.W.findIn K (.ref C) m = some (some (.ref f))
  fn : PySem.W.isFn K (.ref f) = true
  kp : PySem.W.keepIn K (.ref f) = true
section
variable {X : Cx} {pins : List (Addr × Obj)} {σ : St} {H : Hp} {s : Shared} {a C dx : Addr} {fs : List (Str × V)} {f : Str} {v : V} {A : Around} {E : Value → Shared → Prop}
theorem getattr_ok {b : Bool} {Q : Value → Shared → Prop} (I : Inv X pins σ H s) (e : H a = some (.ins C dx fs)) (c : Cls X.K C) (n : NoAttr X.K C f) (l : fs.lookup f = some v)
    (h : ∀ u s', Inv X pins σ H s' → RelV v u → Q u s') : wpAny (model X.prog X.w) A (getAttr (.ref a) f b) Q E s := by
  obtain ⟨mA, O, r, _, _, _⟩ := ins_get I.hok e
  obtain ⟨u, hu, ru⟩ := RelO.some_of (v := v) (o := mA f) (by rw [← l]; exact r f)
  exact get_map I.kIn O (c.get f) c.hd n hu (handed_of ru) (h u _ (I.tok _) ru)
theorem getmeth_ok {m : Str} {g : Addr} {pl : Sem Bool} {Q : Value × List Value → Shared → Prop} (I : Inv X pins σ H s) (e : H a = some (.ins C dx fs)) (c : Cls X.K C) (k : Meth X.K C m g) (l : fs.lookup m = none)
    (h : Q (.ref g, [.ref a]) s) : wpAny (model X.prog X.w) A (getMethod (.ref a) m pl) Q E s := by
  obtain ⟨mA, O, r, _, _, _⟩ := ins_get I.hok e
  have hn : mA m = none := RelO.none_of (by rw [← l]; exact r m)
  exact get_meth I.kIn O (c.get m) k.at_ k.fn hn h
theorem setattr_ok {y : V} {u : Value} {Q : Unit → Shared → Prop} (I : Inv X pins σ H s) (e : H a = some (.ins C dx fs)) (c : Cls X.K C) (n : NoAttr X.K C f) (hl : fs.length < 1000) (ry : RelV y u)
    (h : ∀ s', Inv X pins σ (upd H a (.ins C dx (putF f y fs))) s' → Q () s') : wpAny (model X.prog X.w) A (setAttr (.ref a) f u) Q E s := by
  obtain ⟨mA, O, r, wi, _, ho⟩ := ins_get I.hok e
  have hz : (fs.map (·.1)).length ≤ sizeLine := by rw [List.length_map, sizeLine_eq]; omega
  refine set_map I.kIn O c.sa c.po n.taker c.hd wi hz fun h' O' sb => h _ ?_
  have hd : ∃ o, h'.get? dx = some o := let ⟨o, _, _, e', _⟩ := O'.ns; ⟨o, e'⟩
  refine I.write (x := a) (e := dx) (by rw [e]; exact True.intro) (.inr ho) (fun b q hb z => (sb.2 b hb).trans z) hd ?_
  refine ⟨by rw [upd_ne O.ne]; exact ho, ?_, O.ne, O'.obj, _, O'.ns, fun g => ?_, fun g hg => ?_⟩
  · have := length_putF f y fs; omega
  · show RelO ((putF f y fs).lookup g) (if g = f then some u else mA g)
    rw [lookup_putF]
    by_cases q : g = f
    · rw [if_pos q, if_pos q]; exact ry
    · rw [if_neg q, if_neg q]; exact r g
  · by_cases q : g = f
    · rw [q]; exact (keys_putF f y fs).1
    · refine (keys_putF f y fs).2 g (wi g fun z => hg ?_)
      show (if g = f then some u else mA g) = none
      rw [if_neg q]; exact z
theorem Inv.made (I : Inv X pins σ H s) : Inv X pins σ (upd (upd H s.heap.objs.size (.own (s.heap.objs.size + 1))) (s.heap.objs.size + 1) (.ins C s.heap.objs.size []))
    { s with heap := (s.heap.push PySem.W.emptyDict).push (PySem.W.instObj C s.heap.objs.size) } := by
  have e1 : (s.heap.push PySem.W.emptyDict).get? s.heap.objs.size = some PySem.W.emptyDict := Heap.get?_push_size s.heap rfl
  have e2 : ((s.heap.push PySem.W.emptyDict).push (PySem.W.instObj C s.heap.objs.size)).get? (s.heap.objs.size + 1) = some (PySem.W.instObj C s.heap.objs.size) := by
    have := Heap.get?_push_size (s.heap.push PySem.W.emptyDict) (o := PySem.W.instObj C s.heap.objs.size) rfl
    rwa [Heap.size_push] at this
  have e3 : (s.heap.push PySem.W.emptyDict).Ns s.heap.objs.size (fun _ => none) := ⟨PySem.W.emptyDict, #[], _, e1, rfl, (fun e he => absurd he (by simp)), fun _ => rfl⟩
  have I1 := I.laid (a := s.heap.objs.size) (o := .own (s.heap.objs.size + 1)) (h' := s.heap.push PySem.W.emptyDict) (t' := s.toks) (fun b u q => Heap.get?_push_of_some _ q) (Nat.le_refl _) ⟨_, e1⟩
  refine I1.laid (a := s.heap.objs.size + 1) (o := .ins C s.heap.objs.size []) (t' := s.toks) (fun b u q => Heap.get?_push_of_some _ q) (Nat.le_of_eq (Heap.size_push _ _)) ?_
  have ne : s.heap.objs.size ≠ s.heap.objs.size + 1 := Nat.ne_of_lt (Nat.lt_succ_self _)
  refine ⟨by rw [upd_ne ne, upd_same], Nat.zero_le _, ne, e2, fun _ => none, (Heap.Ns1.of_empty e3).at fun o q => Heap.get?_push_of_some _ q, fun _ => True.intro, fun y hy => absurd rfl hy⟩
theorem attr_of {prog : Program} {w : World} {env : Env} {e : Expr} {f : Str} {pos : Pos} {s : Shared} {Q : Value → Shared → Prop} (hb : attributeBase e f env (eval e env) = eval e env)
    (h : wpAny (model prog w) A (eval e env) (fun o s₁ => wpAny (model prog w) A (getAttr o f true) Q E s₁) E s) : wpAny (model prog w) A (eval (.Attribute e f pos) env) Q E s :=
  Attribute_any_ h (by rw [arm_eval_Attribute, hb])
end
def tFld (K : PySem.W.Frag) (ta : TE) (f : Str) : TE := fun σ H Q => ta σ H fun x H1 => ∃ a C dx fs v, x = .ref a ∧ H1 a = some (.ins C dx fs) ∧ Cls K C ∧ NoAttr K C f ∧ fs.lookup f = some v ∧ Q v H1
def sFld (K : PySem.W.Frag) (ta tv : TE) (f : Str) : TS := fun D σ H => tv σ H fun y H1 => ta σ H1 fun x H2 => ∃ a C dx fs, x = .ref a ∧ H2 a = some (.ins C dx fs) ∧ Cls K C ∧ NoAttr K C f ∧ fs.length < 1000 ∧
  D.nx σ (upd H2 a (.ins C dx (putF f y fs)))
def InOp (X : Cx) (op : Operator) (rd : V → V → Hp → VK → Prop) : Prop :=
  ∀ (pins : List (Addr × Obj)) (s : Shared) (σ : St) (H : Hp) (x y : V) (u v : Value) (Q : VK), Inv X pins σ H s → RelV x u → RelV y v → rd x y H Q → wpAny (model X.prog X.w) X.A (inplaceOp op u v) (EP X pins σ Q) X.xe s
def sFldAug (K : PySem.W.Frag) (ta tv : TE) (rd : V → V → Hp → VK → Prop) (f : Str) : TS := fun D σ H => ta σ H fun x H1 => ∃ a C dx fs v, x = .ref a ∧ H1 a = some (.ins C dx fs) ∧ Cls K C ∧ NoAttr K C f ∧ fs.lookup f = some v ∧
  tv σ H1 fun y H2 => rd v y H2 fun z H3 => ∃ dx' fs', H3 a = some (.ins C dx' fs') ∧ fs'.length < 1000 ∧ D.nx σ (upd H3 a (.ins C dx' (putF f z fs')))
section
variable {X : Cx} {o e value : Expr} {f : Str} {pos pos' tpos : Pos} {ta tv : TE}
theorem pe_fld (he : PE X e ta) (hb : attributeBase e f X.env (eval e X.env) = eval e X.env) : PE X (.Attribute e f pos) (tFld X.K ta f) := by
  intro pins s σ H Q I h
  refine attr_of hb (thn (he pins s σ H _ I h) fun u s1 ⟨x, H1, I1, rx, a, C, dx, fs, v, ex, ea, c, n, l, q⟩ => ?_)
  subst ex
  obtain rfl : u = Value.ref a := rx
  exact getattr_ok I1 ea c n l fun u' s2 I2 ru => ⟨v, H1, I2, ru, q⟩
theorem ps_fld (ha : PE X o ta) (hv : PE X value tv) (hs : swapsWith value (some (.Attribute o f pos')) pos.line X.env = pure false) : PS X (.Assign [.Attribute o f pos'] value pos) (sFld X.K ta tv f) := by
  intro pins s σ H D I h
  refine plainObj_wpAny_Assign_Attribute (thn (hv pins s σ H _ I h) fun u s1 ⟨y, H1, I1, ry, q⟩ => thn (ha pins s1 σ H1 _ I1 q) fun ov s2 ⟨x, H2, I2, rx, a, C, dx, fs, ex, ea, c, n, l, q2⟩ => ?_) hs
  subst ex
  obtain rfl : ov = Value.ref a := rx
  exact setattr_ok I2 ea c n l ry fun s3 I3 => ⟨σ, _, I3, q2⟩
theorem ps_fldaug {op : Operator} {rd : V → V → Hp → VK → Prop} (ha : PE X o ta) (hv : PE X value tv) (hop : InOp X op rd) : PS X (.AugAssign (.Attribute o f tpos) op value pos) (sFldAug X.K ta tv rd f) := by
  intro pins s σ H D I h
  refine wpAny_AugAssign_AttributeAny (thn (ha pins s σ H _ I h) fun ov s1 ⟨x, H1, I1, rx, a, C, dx, fs, v, ex, ea, c, n, l, q⟩ => ?_)
  subst ex
  obtain rfl : ov = Value.ref a := rx
  refine getattr_ok I1 ea c n l fun u s2 I2 ru => thn (hv pins s2 σ H1 _ I2 q) fun w3 s3 ⟨y, H2, I3, ry, q3⟩ => thn (hop pins s3 σ H2 v y u w3 _ I3 ru ry q3) fun w4 s4 ⟨z, H3, I4, rz, dx', fs', ea', l', q4⟩ => ?_
  exact setattr_ok I4 ea' c n l' rz fun s5 I5 => ⟨σ, _, I5, q4⟩
def rAdd : V → V → Hp → VK → Prop := fun x y H Q => ∃ i j, x = .int i ∧ y = .int j ∧ Q (.int (i + j)) H
theorem in_add : InOp X .Add rAdd := by
  rintro pins s σ H x y u v Q I rx ry ⟨i, j, rfl, rfl, q⟩
  obtain ⟨t, rfl⟩ := (show ∃ t, u = Value.int i t from rx)
  obtain ⟨t', rfl⟩ := (show ∃ t', v = Value.int j t' from ry)
  exact PyProof.Rows.iadd_int ⟨.int (i + j), H, I.tok _, ⟨_, rfl⟩, q⟩
end
section
variable {X : Cx} {pins : List (Addr × Obj)} {σ : St} {H : Hp} {s : Shared} {A : Around} {E : Value → Shared → Prop} {Q : Value → Shared → Prop} {c : Value} {b : Bool}
end
end L2
namespace L2
open PySem PySem.Spec PyProof.Rows
structure Room (k : Nat) (A : Around) : Prop where
  hd : A.handled = none
  dp : A.depth + 3 * k + 5 < recursionLimit
  un : A.units + 16 * k + 200 < cLine
theorem Room.mono {j k : Nat} {A : Around} (r : Room k A) (h : j ≤ k) : Room j A := ⟨r.hd, by have := r.dp; omega, by have := r.un; omega⟩
theorem Room.deeper {k : Nat} {A : Around} (r : Room (k + 1) A) (env : Env) : Room k (A.deeper env) :=
  ⟨r.hd, by have := r.dp; show A.depth + 1 + 3 * k + 5 < _; omega, by have := r.un; show A.units + 3 + 16 * k + 200 < _; omega⟩
theorem make_depth {A : Around} {C : Addr} {us : List Value} {kw : List (Str × Value)} : (A.under (.builtin "type.__call__" ⟨.ref C :: us, kw⟩)).depth = A.depth + 1 := by
  first | rfl | simp [Around.under, Code.weight, Code.isCreation, Code.isGuard, Code.isCaller, Code.frames, Code.isFrame, guardIds]
theorem make_units {A : Around} {C : Addr} {us : List Value} {kw : List (Str × Value)} : (A.under (.builtin "type.__call__" ⟨.ref C :: us, kw⟩)).units = A.units + 1 := by
  first | rfl | simp [Around.under, Code.cUnits, Code.frames, Code.isFrame]
theorem Room.make {k : Nat} {A : Around} (r : Room (k + 1) A) (C : Addr) (us : List Value) (kw : List (Str × Value)) : Room k (A.under (.builtin "type.__call__" ⟨.ref C :: us, kw⟩)) :=
  ⟨r.hd, by have := r.dp; rw [make_depth]; omega, by have := r.un; rw [make_units]; omega⟩
theorem Room.depth {k : Nat} {A : Around} (r : Room k A) : A.depth < recursionLimit := by have := r.dp; omega
theorem Room.units {k : Nat} {A : Around} (r : Room k A) : A.units + 64 < cLine := by have := r.un; omega
def tNil : TA := fun _ H Q => Q [] H
def tCons (ta : TE) (tr : TA) : TA := fun σ H Q => ta σ H fun x H1 => tr σ H1 fun xs H2 => Q (x :: xs) H2
section
variable {X : Cx} {e : Expr} {es : List Expr} {te : TE} {t : TA} {pos : Pos}
theorem pa_nil : PA X [] tNil := fun _ _ _ _ H Q I h => Calls.spliced_nil ⟨[], H, I, .nil, h⟩
theorem pa_cons (ha : PE X e te) (hr : PA X es t) (hs : starEach (e :: es) X.env = (false, eval e X.env) :: starEach es X.env := by rfl) : PA X (e :: es) (tCons te t) := by
  intro pos pins s σ H Q I h
  rw [hs]
  show wpAny _ _ (spliced ((false, eval e X.env) :: backTo pos (starEach es X.env))) _ _ s
  refine Calls.spliced_cons (thn (ha pins s σ H _ I h) fun u s1 ⟨x, H1, I1, r1, q1⟩ => ?_)
  exact thn (hr pos pins s1 σ H1 _ I1 q1) fun us s2 ⟨xs, H2, I2, r2, q2⟩ => ⟨x :: xs, H2, I2, .cons r1 r2, q2⟩
def tTup (t : TA) : TE := fun σ H Q => t σ H fun xs H1 => xs.length ≤ sizeLine ∧ ∀ p, H1 p = none → Q (.ref p) (upd H1 p (.tup xs))
def tLst (t : TA) : TE := fun σ H Q => t σ H fun xs H1 => xs.length ≤ sizeLine ∧ ∀ p, H1 p = none → Q (.ref p) (upd H1 p (.lst xs))
theorem pe_tup {x1} (h : PA X es t) : PE X (.Tuple es x1 pos) (tTup t) := by
  intro pins s σ H Q I hq
  refine wpAny_Tuple_spliced (thn (h pos pins s σ H _ I hq) fun us s1 ⟨xs, H1, I1, r, z, q⟩ => ⟨by rw [← r.length]; exact z, ?_⟩)
  have hf : H1 s1.heap.objs.size = none := I1.hok.fresh (Nat.le_refl _)
  refine ⟨.ref s1.heap.objs.size, upd H1 s1.heap.objs.size (.tup xs), I1.laid (t' := s1.toks) (fun b u e => Heap.get?_push_of_some _ e) (Nat.le_refl _) ?_, rfl, q _ hf⟩
  exact ⟨z, us, r, ⟨_, Heap.get?_push_size _ rfl, rfl, _, rfl⟩⟩
theorem pe_lst (h : PA X es t) : PE X (.List es pos) (tLst t) := by
  intro pins s σ H Q I hq
  refine wpAny_List_spliced (thn (h pos pins s σ H _ I hq) fun us s1 ⟨xs, H1, I1, r, z, q⟩ => ⟨by rw [← r.length]; exact z, ?_⟩)
  have hf : H1 s1.heap.objs.size = none := I1.hok.fresh (Nat.le_refl _)
  refine ⟨.ref s1.heap.objs.size, upd H1 s1.heap.objs.size (.lst xs), I1.laid (t' := s1.toks) (fun b u e => Heap.get?_push_of_some _ e) (Nat.le_refl _) ?_, rfl, q _ hf⟩
  exact ⟨z, us, 0, r, Heap.get?_push_size _ rfl⟩
end
abbrev Sp := List V → Hp → VK → XK → Prop
abbrev CXT := List Env → Hp → Shared → XK → Value → Shared → Prop
structure Env0 (P : Program) (w : World) (K : PySem.W.Frag) (mg : Str → Option Value) (base : Heap) (A : Around) (outer : List Env) (s : Shared) (H : Hp) : Prop where
  frames : A.frames = some outer
  mod : Mod K mg base
  bs : ∀ b o, base.get? b = some o → s.heap.get? b = some o ∧ H b = none
  bsz : base.objs.size ≤ s.heap.objs.size
  funs : s.heap.FunFrames base outer
  frf : ∀ b ∈ frs outer, H b = none
  hok : HOk P w H s.heap
  bare : AllBare s.gens
def CE (outer : List Env) (P : Program) (w : World) (H : Hp) (s : Shared) (Q : VK) (u : Value) (s' : Shared) : Prop :=
  ∃ v H', s'.os = s.os ∧ AllBare s'.gens ∧ Un (frs outer) [] H H' s.heap s'.heap ∧ HOk P w H' s'.heap ∧ RelV v u ∧ Q v H'
def CR (CX : CXT) (outer : List Env) (P : Program) (w : World) (H : Hp) (s : Shared) (Q : VK) (E : XK) (r : Result) (s' : Shared) : Prop :=
  match r with
  | .ok (.ret u) => CE outer P w H s Q u s'
  | .ok _ => False
  | .error e => CX outer H s E e s'
structure FnOk (P : Program) (w : World) (K : PySem.W.Frag) (mg : Str → Option Value) (base : Heap) (CX : CXT) (k : Nat) (f : Addr) (fd : FuncData) (ps : List Str) (sp : Sp) : Prop where
  len : ∀ vs H Q E, sp vs H Q E → vs.length = ps.length
  run : ∀ (A : Around) (outer : List Env) (s : Shared) (H : Hp) (args : Args) (us : List Value) (vs : List V) (Q : VK) (E : XK), Room k A → Env0 P w K mg base A outer s H → BindsTo s fd args (ps.zip us) → Vals vs us → sp vs H Q E →
    codeAny (model P w) A (.call (.ref f) args) (CR CX outer P w H s Q E) s
theorem Env0.make {P : Program} {w : World} {K : PySem.W.Frag} {mg : Str → Option Value} {base : Heap} {A : Around} {outer : List Env} {s : Shared} {H : Hp} (e : Env0 P w K mg base A outer s H) (C : Addr) (us : List Value) (kw : List (Str × Value)) :
    Env0 P w K mg base (A.under (.builtin "type.__call__" ⟨.ref C :: us, kw⟩)) outer s H := ⟨by first | exact e.frames | (simpa [Around.under, Code.envs, Code.isFrame, pushEnvs] using e.frames), e.mod, e.bs, e.bsz, e.funs, e.frf, e.hok, e.bare⟩
section
variable {X : Cx} {pins : List (Addr × Obj)} {σ : St} {H : Hp} {s s' : Shared}
theorem Inv.env0 (I : Inv X pins σ H s) : Env0 X.prog X.w X.K X.mg X.base X.A X.stack s H :=
  ⟨I.ok.frames, I.ok.mod, I.bs, Nat.le_trans I.ok.bsz I.sz, I.stack, I.stkFree, I.hok, I.bare⟩
theorem Inv.after {Q : VK} {u : Value} (I : Inv X pins σ H s) (h : CE X.stack X.prog X.w H s Q u s') : EP X pins σ Q u s' := by
  obtain ⟨v, H', os, bare, un, hok, r, q⟩ := h
  obtain ⟨hh, g, d, t, os'⟩ := s'
  obtain rfl : os' = s.os := os
  exact ⟨v, H', I.call (h' := hh) (g' := g) (d' := d) (t' := t) (ch := []) un hok bare (fun b z => absurd z (by simp)), r, q⟩
end
def tCall (sp : Sp) (dvs : List V) (E : XK) (t : TA) : TE := fun σ H Q => t σ H fun vs H1 => sp (vs ++ dvs) H1 Q E
def tMeth (C : Addr) (m : Str) (sp : Sp) (dvs : List V) (E : XK) (ta : TE) (t : TA) : TE := fun σ H Q => ta σ H fun x H1 => ∃ a dx fs, x = .ref a ∧ H1 a = some (.ins C dx fs) ∧ fs.lookup m = none ∧
  t σ H1 fun vs H2 => sp (x :: (vs ++ dvs)) H2 Q E
def tMake (C : Addr) (sp : Sp) (dvs : List V) (E : XK) (t : TA) : TE := fun σ H Q => t σ H fun vs H1 => ∀ x dx, H1 x = none → H1 dx = none → dx ≠ x →
  sp (.ref x :: (vs ++ dvs)) (upd (upd H1 dx (.own x)) x (.ins C dx [])) (fun v H2 => v = .non ∧ Q (.ref x) H2) E
def Binds (K : PySem.W.Frag) (fd : FuncData) (ps : List Str) (ds : List Value) : Prop :=
  ∀ (s : Shared) (us : List Value), K.In s.heap → (us ++ ds).length = ps.length → BindsTo s fd ⟨us, []⟩ (ps.zip (us ++ ds))
theorem Binds.all {K : PySem.W.Frag} {fd : FuncData} {ps : List Str} (h : ∀ us : List Value, us.length = ps.length → bindArgs fd ⟨us, []⟩ = pure (ps.zip us)) : Binds K fd ps [] := fun s us _ hl => by
  rw [List.append_nil] at hl ⊢
  exact .of_eq (h us hl)
def Passes (CX : CXT) (X : Cx) (E : XK) : Prop := ∀ (pins : List (Addr × Obj)) (σ : St) (H : Hp) (s : Shared) (e : Value) (s' : Shared), Inv X pins σ H s → CX X.stack H s E e s' → X.xe e s'
section
variable {X : Cx} {CX : CXT} {k : Nat} {f C : Addr} {fd : FuncData} {ps : List Str} {sp : Sp} {dvs : List V} {ds : List Value} {E : XK} {x m : Str} {p pos apos : Pos} {e o : Expr} {es : List Expr} {ta : TE} {t : TA}
theorem run_fn {pins : List (Addr × Obj)} {σ : St} {H : Hp} {s : Shared} {Q : VK} {us : List Value} {vs : List V} (F : FnOk X.prog X.w X.K X.mg X.base CX k f fd ps sp) (hr : Room k X.A) (hb : Binds X.K fd ps ds) (hd : Vals dvs ds) (hx : Passes CX X E)
    (I : Inv X pins σ H s) (r : Vals vs us) (h : sp (vs ++ dvs) H Q E) : wpAny (model X.prog X.w) X.A (call (.ref f) us) (EP X pins σ Q) X.xe s := by
  have r2 : Vals (vs ++ dvs) (us ++ ds) := r.append hd
  have hl : (us ++ ds).length = ps.length := by rw [← r2.length]; exact F.len _ _ _ _ h
  refine wpAny_call (codeAny_mono (F.run X.A X.stack s H ⟨us, []⟩ (us ++ ds) (vs ++ dvs) Q E hr I.env0 (hb s us I.kIn hl) r2 h) fun r s' hq => ?_)
  cases r with
  | error e => exact hx pins σ H s e s' I hq
  | ok fl =>
    cases fl with
    | ret u => exact I.after hq
    | next => exact False.elim hq
    | brk => exact False.elim hq
    | cont => exact False.elim hq
theorem pe_call (F : FnOk X.prog X.w X.K X.mg X.base CX k f fd ps sp) (hr : Room k X.A) (hg : Gl X x) (hm : X.mg x = some (.ref f)) (hk : PySem.W.keepIn X.K (.ref f) = true) (hb : Binds X.K fd ps ds) (hd : Vals dvs ds) (hx : Passes CX X E)
    (ha : PA X (e :: es) t) (hdb : (x == ("__debug__" : Str)) = false := by decide) (he : starEach (e :: es) X.env = (false, eval e X.env) :: starEach es X.env := by rfl) (hpl : (backTo pos (starEach es X.env)).any (·.1) = false := by rfl) :
    PE X (.Call (.Name x p) (e :: es) [] pos) (tCall sp dvs E t) := by
  intro pins s σ H Q I h
  refine wpAny_Call_Name_kw (ld_glob I hg hm ?_ hdb)
  refine PySem.W.callWith_K (h₀ := X.base) I.ok.mod.kin hk (thn (ha pos pins s σ H _ I h) fun us s1 ⟨vs, H1, I1, r, q⟩ => ⟨I1.kIn, ?_⟩) he hpl
  exact run_fn F hr hb hd hx I1 r q
theorem pe_meth {pl : Sem Bool} (he : PE X o ta) (c : Cls X.K C) (hm : Meth X.K C m f) (F : FnOk X.prog X.w X.K X.mg X.base CX k f fd ps sp) (hr : Room k X.A) (hb : Binds X.K fd ps ds) (hd : Vals dvs ds) (hx : Passes CX X E) (ha : PA X (e :: es) t)
    (hst : starEach (e :: es) X.env = (false, eval e X.env) :: starEach es X.env := by rfl) (hpl : (backTo pos (starEach es X.env)).any (·.1) = false := by rfl)
    (ht : eval (.Call (.Attribute o m apos) (e :: es) [] pos) X.env = (do
      let ov ← eval o X.env
      standAt apos.atName
      let (f, first) ← holding [ov] (getMethod ov m pl)
      callWith pos f first (backTo pos (starEach (e :: es) X.env)) (backToKw pos (keywordEach [] X.env))) := by rfl) :
    PE X (.Call (.Attribute o m apos) (e :: es) [] pos) (tMeth C m sp dvs E ta t) := by
  intro pins s σ H Q I h
  refine PySem.W.methodCall_KW (pl := pl) (thn (he pins s σ H _ I h) fun u s1 ⟨x, H1, I1, rx, a, dx, fs, ex, ea, l, q⟩ => ?_) ht
  subst ex
  obtain rfl : u = Value.ref a := rx
  refine getmeth_ok I1 ea c hm l ?_
  refine PySem.W.callWith_K (first := [.ref a]) (h₀ := X.base) I.ok.mod.kin hm.kp (thn (ha pos pins s1 σ H1 _ I1 q) fun us s2 ⟨vs, H2, I2, r, q2⟩ => ⟨I2.kIn, ?_⟩) hst hpl
  exact run_fn (us := .ref a :: us) (vs := .ref a :: vs) F hr hb hd hx I2 (.cons rfl r) q2
theorem pe_meth0 {pl : Sem Bool} (he : PE X o ta) (c : Cls X.K C) (hm : Meth X.K C m f) (F : FnOk X.prog X.w X.K X.mg X.base CX k f fd ps sp) (hr : Room k X.A) (hb : Binds X.K fd ps ds) (hd : Vals dvs ds) (hx : Passes CX X E)
    (ht : eval (.Call (.Attribute o m apos) [] [] pos) X.env = (do
      let ov ← eval o X.env
      standAt apos.atName
      let (f, first) ← holding [ov] (getMethod ov m pl)
      callWith pos f first (backTo pos (starEach [] X.env)) (backToKw pos (keywordEach [] X.env))) := by rfl) :
    PE X (.Call (.Attribute o m apos) [] [] pos) (tMeth C m sp dvs E ta tNil) := by
  intro pins s σ H Q I h
  refine PySem.W.methodCall_KW (pl := pl) (thn (he pins s σ H _ I h) fun u s1 ⟨x, H1, I1, rx, a, dx, fs, ex, ea, l, q⟩ => ?_) ht
  subst ex
  obtain rfl : u = Value.ref a := rx
  refine getmeth_ok I1 ea c hm l ?_
  exact PySem.W.callWith_K0 (first := [.ref a]) I1.kIn hm.kp (run_fn (us := [.ref a]) (vs := [.ref a]) F hr hb hd hx I1 (.cons rfl .nil) q)
structure Mk (K : PySem.W.Frag) (C f : Addr) : Prop where
  makes : PySem.W.makesIn K C = true
  init : PySem.W.findIn K (.ref C) "__init__" = some (some (.ref f))
  fn : PySem.W.isFn K (.ref f) = true
  kp : PySem.W.keepIn K (.ref C) = true
theorem run_make {pins : List (Addr × Obj)} {σ : St} {H : Hp} {s : Shared} {Q : VK} {us : List Value} {vs : List V} (M : Mk X.K C f) (F : FnOk X.prog X.w X.K X.mg X.base CX k f fd ps sp) (hr : Room (k + 1) X.A) (hb : Binds X.K fd ps ds) (hd : Vals dvs ds)
    (hx : Passes CX X E) (I : Inv X pins σ H s) (r : Vals vs us)
    (h : ∀ x dx, H x = none → H dx = none → dx ≠ x → sp (.ref x :: (vs ++ dvs)) (upd (upd H dx (.own x)) x (.ins C dx [])) (fun v H2 => v = .non ∧ Q (.ref x) H2) E) :
    wpAny (model X.prog X.w) X.A (call (.ref C) us) (EP X pins σ Q) X.xe s := by
  have hq := h (s.heap.objs.size + 1) s.heap.objs.size (I.hok.fresh (Nat.le_succ _)) (I.hok.fresh (Nat.le_refl _)) (Nat.ne_of_lt (Nat.lt_succ_self _))
  have I2 := Inv.made (C := C) I
  have r2 : Vals (V.ref (s.heap.objs.size + 1) :: (vs ++ dvs)) (Value.ref (s.heap.objs.size + 1) :: (us ++ ds)) := .cons rfl (r.append hd)
  have hl : (Value.ref (s.heap.objs.size + 1) :: us ++ ds).length = ps.length := by
    have e := r2.length
    rw [F.len _ _ _ _ hq] at e
    exact e.symm
  refine wpAny_call (make_map (f := f) I.kIn M.makes M.init (beq_iff_eq.mp M.fn) (codeAny_mono (F.run _ X.stack _ _ ⟨Value.ref (s.heap.objs.size + 1) :: us, []⟩ (Value.ref (s.heap.objs.size + 1) :: (us ++ ds)) _ _ E (hr.make C us [])
    (I2.env0.make C us []) (hb _ (Value.ref (s.heap.objs.size + 1) :: us) I2.kIn hl) r2 hq) fun r s' hq' => ?_))
  cases r with
  | error e => exact hx pins σ _ _ e s' I2 hq'
  | ok fl =>
    cases fl with
    | ret u =>
      obtain ⟨v, H', I3, rv, ev, q3⟩ := I2.after hq'
      subst ev
      exact ⟨rv, ⟨V.ref (s.heap.objs.size + 1), H', I3, rfl, q3⟩⟩
    | next => exact False.elim hq'
    | brk => exact False.elim hq'
    | cont => exact False.elim hq'
theorem pe_make (M : Mk X.K C f) (F : FnOk X.prog X.w X.K X.mg X.base CX k f fd ps sp) (hr : Room (k + 1) X.A) (hg : Gl X x) (hm : X.mg x = some (.ref C)) (hb : Binds X.K fd ps ds) (hd : Vals dvs ds) (hx : Passes CX X E)
    (ha : PA X (e :: es) t) (hdb : (x == ("__debug__" : Str)) = false := by decide) (he : starEach (e :: es) X.env = (false, eval e X.env) :: starEach es X.env := by rfl) (hpl : (backTo pos (starEach es X.env)).any (·.1) = false := by rfl) :
    PE X (.Call (.Name x p) (e :: es) [] pos) (tMake C sp dvs E t) := by
  intro pins s σ H Q I h
  refine wpAny_Call_Name_kw (ld_glob I hg hm ?_ hdb)
  refine PySem.W.callWith_K (h₀ := X.base) I.ok.mod.kin M.kp (thn (ha pos pins s σ H _ I h) fun us s1 ⟨vs, H1, I1, r, q⟩ => ⟨I1.kIn, ?_⟩) he hpl
  exact run_make M F hr hb hd hx I1 r q
theorem pe_make0 (M : Mk X.K C f) (F : FnOk X.prog X.w X.K X.mg X.base CX k f fd ps sp) (hr : Room (k + 1) X.A) (hg : Gl X x) (hm : X.mg x = some (.ref C)) (hb : Binds X.K fd ps ds) (hd : Vals dvs ds) (hx : Passes CX X E)
    (hdb : (x == ("__debug__" : Str)) = false := by decide) : PE X (.Call (.Name x p) [] [] pos) (tMake C sp dvs E tNil) := by
  intro pins s σ H Q I h
  refine wpAny_Call_Name_kw (ld_glob I hg hm ?_ hdb)
  exact PySem.W.callWith_K0 I.kIn M.kp (run_make (us := []) M F hr hb hd hx I .nil h)
end
section
variable {X : Cx} {CX : CXT} {k : Nat} {f C : Addr} {fd : FuncData} {ps ks : List Str} {sp : Sp} {E : XK} {x m : Str} {p pos apos kpos : Pos} {e o : Expr} {es : List Expr} {kws : List Keyword} {te ta : TE} {t tk : TA} {nm : Option Str}
variable {g : List Value → List Value → List Value} {gV : List V → List V → List V}
end
structure FnScope (N P : List Str) (sc : Scope) : Prop where
  kind : sc.kind = .function
  co : sc.isCoroutine = false
  gen : sc.isGenerator = false
  nd : N.Nodup
  pre : N.take P.length = P
  par : ∀ x ∈ P, sc.names.lookup x = some .local ∨ sc.names.lookup x = some .cell
  nofree : ∀ y ∈ sc.names, y.2 ≠ .free
theorem bindL_out {kindOf : Str → Option NameKind} {x : Str} : ∀ {binds : List (Str × Value)} {m : Str → Option Value}, (∀ v, (x, v) ∉ binds) → bindL kindOf binds m x = m x
  | [], _, _ => rfl
  | (n, v) :: r, m, h => by
    unfold bindL
    rw [bindL_out fun w hw => h w (List.mem_cons_of_mem _ hw)]
    split
    · have : x ≠ n := by rintro rfl; exact h v List.mem_cons_self
      simp [this]
    · rfl
theorem bindC_out {kindOf : Str → Option NameKind} {x : Str} : ∀ {binds : List (Str × Value)} {m : Str → Option Value}, (∀ v, (x, v) ∉ binds) → bindC kindOf binds m x = m x
  | [], _, _ => rfl
  | (n, v) :: r, m, h => by
    unfold bindC
    rw [bindC_out fun w hw => h w (List.mem_cons_of_mem _ hw)]
    split
    · rfl
    · have : x ≠ n := by rintro rfl; exact h v List.mem_cons_self
      simp [this]
theorem bindL_get {kindOf : Str → Option NameKind} {x : Str} {v : Value} : ∀ {P : List Str} {vs : List Value} {i : Nat} {m : Str → Option Value}, P.Nodup → P[i]? = some x → vs[i]? = some v → kindOf x = some .local →
    bindL kindOf (P.zip vs) m x = some v
  | [], _, _, _, _, h, _, _ => by simp at h
  | _ :: _, [], _, _, _, _, h, _ => by simp at h
  | p :: P, w :: vs, 0, m, nd, h1, h2, hk => by
    simp at h1 h2; subst h1; subst h2
    show bindL kindOf ((p, w) :: P.zip vs) m p = _
    unfold bindL
    rw [bindL_out fun v hv => (List.nodup_cons.mp nd).1 (List.of_mem_zip hv).1, if_pos hk]
    simp
  | p :: P, w :: vs, i + 1, m, nd, h1, h2, hk => by
    show bindL kindOf ((p, w) :: P.zip vs) m x = _
    unfold bindL
    exact bindL_get (i := i) (List.nodup_cons.mp nd).2 (by simpa using h1) (by simpa using h2) hk
theorem bindC_get {kindOf : Str → Option NameKind} {x : Str} {v : Value} : ∀ {P : List Str} {vs : List Value} {i : Nat} {m : Str → Option Value}, P.Nodup → P[i]? = some x → vs[i]? = some v → kindOf x ≠ some .local →
    bindC kindOf (P.zip vs) m x = some v
  | [], _, _, _, _, h, _, _ => by simp at h
  | _ :: _, [], _, _, _, _, h, _ => by simp at h
  | p :: P, w :: vs, 0, m, nd, h1, h2, hk => by
    simp at h1 h2; subst h1; subst h2
    show bindC kindOf ((p, w) :: P.zip vs) m p = _
    unfold bindC
    rw [bindC_out fun v hv => (List.nodup_cons.mp nd).1 (List.of_mem_zip hv).1, if_neg hk]
    simp
  | p :: P, w :: vs, i + 1, m, nd, h1, h2, hk => by
    show bindC kindOf ((p, w) :: P.zip vs) m x = _
    unfold bindC
    exact bindC_get (i := i) (List.nodup_cons.mp nd).2 (by simpa using h1) (by simpa using h2) hk
def start (N : List Str) (vs : List V) : St := vs.map some ++ List.replicate (N.length - vs.length) none
def cxOf (CX : CXT) (P : Program) (w : World) (K : PySem.W.Frag) (mg : Str → Option Value) (base : Heap) (N : List Str) (qual : Str) (scope : Scope) (f : Addr) (cd : Value) (A : Around) (outer : List Env) (s : Shared) (H : Hp) (E : XK) : Cx where
  prog := P
  w := w
  K := K
  mg := mg
  base := base
  A := A.deeper (envOfC qual scope s.heap.objs.size f cd)
  N := N
  s_0 := s
  H_0 := H
  env := envOfC qual scope s.heap.objs.size f cd
  outer := outer
  stack := envOfC qual scope s.heap.objs.size f cd :: outer
  ex := []
  calm := true
  fn := fun _ => true
  pn := []
  xe := fun e s' => wpAny (model P w) (A.deeper (envOfC qual scope s.heap.objs.size f cd)) (leaving (envOfC qual scope s.heap.objs.size f cd) e) (fun _ s'' => CX outer H s E e s'') (fun e' s'' => CX outer H s E e' s'') s'
theorem cell_has {sc : Scope} {n : Nat} {x : Str} (h : sc.names.lookup x = some .cell) : ∃ c, (cellsFrom n sc.names []).lookup x = some c := by
  have q := PySem.W.cellsFrom_some sc.names n [] (.inl h)
  exact Option.isSome_iff_exists.mp q
theorem inv_start {CX : CXT} {P : Program} {w : World} {K : PySem.W.Frag} {mg : Str → Option Value} {base : Heap} {N ps : List Str} {qual : Str} {scope : Scope} {f : Addr} {cd : Value} {A : Around} {outer : List Env} {s s1 : Shared} {H : Hp} {E : XK} {us : List Value} {vs : List V}
    (S : FnScope N ps scope) (hd : A.handled = none) (e0 : Env0 P w K mg base A outer s H) (hl : vs.length = ps.length) (r : Vals vs us)
    (x : InCallC s s.heap.objs.size (bindL (envOfC qual scope s.heap.objs.size f cd).kindOf (ps.zip us) fun _ => none) (cellsFrom (s.heap.objs.size + 1) scope.names []) (bindC (envOfC qual scope s.heap.objs.size f cd).kindOf (ps.zip us) fun _ => none) s1) :
    Inv (cxOf CX P w K mg base N qual scope f cd A outer s H E) [] (start N vs) H s1 := by
  have hpl : ps.length ≤ N.length := by have := congrArg List.length S.pre; rw [List.length_take] at this; omega
  obtain ⟨h1, tk, rfl, hk⟩ := x.done
  have noA : ∀ b : Addr, b ∉ (cxOf CX P w K mg base N qual scope f cd A outer s H E).ex := fun b z => absurd (show b ∈ ([] : List Addr) from z) (by simp)
  refine ⟨⟨e0.mod, S.kind, rfl, rfl, Nat.le_refl _, fun y z c h1 h2 => ?_, fun y hy => ?_, fun y c _ h => ?_, fun _ => hd, Around.frames_deeper e0.frames, .inr ⟨rfl, rfl⟩, fun b z => absurd z (noA b), e0.bs, e0.bsz, fun b _ _ => noA b, fun b z => absurd z (noA b), e0.funs, e0.frf⟩,
    rfl, e0.bare, Un.kept hk, ⟨_, x.toInCall.ns, fun i y v h1 h2 h3 => ?_⟩, fun y c h => ⟨_, x.cell y c h⟩, e0.hok.fresh (Nat.le_refl _), fun y c h => ?_, fun p hp => absurd (show p ∈ ([] : List (Addr × Obj)) from hp) (by simp), e0.hok.kept hk, ?_⟩
  · exact name_of_addr x.apart (PySem.mem_of_lookup h1) (PySem.mem_of_lookup h2)
  · have hy : scope.names.lookup y = some .cell ∨ scope.names.lookup y = some .free := hy
    rcases hy with hy | hy
    · exact cell_has hy
    · exact absurd rfl (S.nofree _ (PySem.mem_of_lookup hy))
  · exact Nat.le_of_lt (x.above y c (PySem.mem_of_lookup h))
  · have hi : i < vs.length := by
      unfold start at h2
      by_cases hi : i < vs.length
      · exact hi
      · rw [List.getElem?_append_right (by simpa using hi)] at h2
        rw [List.getElem?_replicate] at h2
        split at h2 <;> cases h2
    have ha : vs[i]? = some v := by
      unfold start at h2
      rw [List.getElem?_append_left (by simpa using hi), List.getElem?_map] at h2
      cases e : vs[i]? with
      | none => rw [e] at h2; cases h2
      | some a => rw [e] at h2; cases h2; rfl
    obtain ⟨u, hu, rv⟩ := r.get ha
    have hp : ps[i]? = some y := by
      rw [← S.pre, List.getElem?_take_of_lt (by omega)]; exact h1
    have ndP : ps.Nodup := by rw [← S.pre]; exact S.nd.sublist (List.take_sublist _ _)
    refine ⟨u, rv, ?_⟩
    rcases S.par y (List.mem_of_getElem? hp) with k | k
    · exact .inl ⟨k, bindL_get ndP hp hu k⟩
    · obtain ⟨c, e⟩ := cell_has (n := s.heap.objs.size + 1) k
      refine .inr ⟨.inl k, c, e, ?_⟩
      have q := x.cell y c e
      rw [bindC_get ndP hp hu (by show scope.names.lookup y ≠ _; rw [k]; decide)] at q
      exact q
  · exact e0.hok.fresh (Nat.le_of_lt (x.above y c (PySem.mem_of_lookup h)))
  · unfold start
    show _ = N.length
    rw [List.length_append, List.length_map, List.length_replicate]
    omega
theorem fn_of {CX : CXT} {P : Program} {w : World} {K : PySem.W.Frag} {mg : Str → Option Value} {base : Heap} {k : Nat} {f : Addr} {name qual : Str} {params : Arguments} {body : List Stmt} {scope : Scope} {dV kV doc pm cdv ct oc : Value} {an od : Option Addr}
    {osl : Array (Option Value)} {N ps : List Str} {sp : Sp} (lk : K.lookup f = some ⟨oc, od, .func (PySem.W.fnOf name qual params body scope dV kV doc pm an cdv ct), osl⟩) (hcd : PySem.W.codeIn K cdv qual = true) (S : FnScope N ps scope)
    (len : ∀ vs H Q E, sp vs H Q E → vs.length = ps.length)
    (hbody : ∀ (A : Around) (outer : List Env) (s : Shared) (H : Hp) (vs : List V) (Q : VK) (E : XK), Room k (A.deeper (envOfC qual scope s.heap.objs.size f cdv)) → sp vs H Q E →
      ∃ t, PSs (cxOf CX P w K mg base N qual scope f cdv A outer s H E) body t ∧ t { nx := fun _ H' => Q .non H', rt := Q } (start N vs) H) :
    FnOk P w K mg base CX (k + 1) f (PySem.W.fnOf name qual params body scope dV kV doc pm an cdv ct) ps sp := by
  refine ⟨len, fun A outer s H args us vs Q E hr e0 hb r hsp => ?_⟩
  have hl := len _ _ _ _ hsp
  have KX : K.In s.heap := e0.mod.kin.keeps fun b o e => (e0.bs b o e).1
  have lim : s.heap.NoLimit := e0.mod.nolimit.keeps fun b o e => (e0.bs b o e).1
  have hkind : ∀ y ∈ ps.zip us, scope.names.lookup y.1 = some .local ∨ (scope.names.lookup y.1 = some .cell ∧ ((cellsFrom (s.heap.objs.size + 1) scope.names []).lookup y.1).isSome = true) := fun ⟨n, v⟩ hy => by
    rcases S.par n (List.of_mem_zip hy).1 with q | q
    · exact .inl q
    · exact .inr ⟨q, PySem.W.cellsFrom_some _ _ _ (.inl q)⟩
  refine codeAny_call_function hr.depth (KX _ _ lk) rfl S.co S.gen rfl (PySem.W.codeRec_of KX hcd) (hb _ _ _ _ ?_)
  refine wpAny_newFunctionEnv_cells S.kind hkind fun env he s1 x => ?_
  subst he
  refine ⟨lim.keeps x.toInCall.keep, codeAny_func ?_⟩
  obtain ⟨t, ht, hq⟩ := hbody A outer s H vs Q E (hr.deeper _) hsp
  have I : Inv (cxOf CX P w K mg base N qual scope f cdv A outer s H E) [] (start N vs) H s1 := inv_start S hr.hd e0 hl r x
  refine wpAny_mono (ht [] s1 (start N vs) H _ I hq) (fun fl s' hs => ?_) fun e s' hs => hs
  have fin : ∀ {σ' : St} {H' : Hp} {v : V} {u : Value}, Inv (cxOf CX P w K mg base N qual scope f cdv A outer s H E) [] σ' H' s' → RelV v u → Q v H' → CE outer P w H s Q u s' :=
    fun {σ' H' v u} J rv q => ⟨v, H', J.os, J.bare, J.base, J.hok, rv, q⟩
  cases fl with
  | ret u =>
    obtain ⟨v, σ', H', J, rv, q⟩ := hs
    exact fin J rv q
  | next =>
    obtain ⟨σ', H', J, q⟩ := hs
    exact fin (v := V.non) (u := Value.none) J rfl q
  | brk =>
    obtain ⟨_, _, _, q⟩ := hs
    exact False.elim q
  | cont =>
    obtain ⟨_, _, _, q⟩ := hs
    exact False.elim q
end L2
namespace L2
open PySem PySem.Spec PyProof.Rows
section
variable {X : Cx} {x : Str} {p pos : Pos} {e : Expr} {es : List Expr} {t : TA} {id T : String} {r : List V → Hp → VK → Prop}
def tCB (r : List V → Hp → VK → Prop) (t : TA) : TE := fun σ H Q => t σ H fun vs H1 => r vs H1 Q
theorem pe_callB (hc : CallR X (.builtin id) r) (hg : Gl X x) (hm : X.mg x = none) (hv : bootBuiltins x = some (.builtin id)) (ha : PA X (e :: es) t) (hn : x ≠ "__name__" := by decide) (hdb : (x == ("__debug__" : Str)) = false := by decide)
    (he : starEach (e :: es) X.env = (false, eval e X.env) :: starEach es X.env := by rfl) (hpl : (backTo pos (starEach es X.env)).any (·.1) = false := by rfl) : PE X (.Call (.Name x p) (e :: es) [] pos) (tCB r t) := by
  intro pins s σ H Q I h
  refine wpAny_Call_Name_kw (ld_blt I hg hm hv ?_ hn hdb)
  exact PyProof.Rows.callWith_builtin1 (thn (ha pos pins s σ H _ I h) fun us s1 ⟨vs, H1, I1, r1, q1⟩ => hc pins s1 σ H1 vs us Q I1 r1 q1) he hpl
theorem pe_callTy (hc : CallR X (.type T) r) (hg : Gl X x) (hm : X.mg x = none) (hv : bootBuiltins x = some (.type T)) (ha : PA X (e :: es) t) (hn : x ≠ "__name__" := by decide) (hdb : (x == ("__debug__" : Str)) = false := by decide)
    (he : starEach (e :: es) X.env = (false, eval e X.env) :: starEach es X.env := by rfl) (hpl : (backTo pos (starEach es X.env)).any (·.1) = false := by rfl) : PE X (.Call (.Name x p) (e :: es) [] pos) (tCB r t) := by
  intro pins s σ H Q I h
  refine wpAny_Call_Name_kw (ld_blt I hg hm hv ?_ hn hdb)
  exact PyProof.Rows.callWith_type1 (thn (ha pos pins s σ H _ I h) fun us s1 ⟨vs, H1, I1, r1, q1⟩ => hc pins s1 σ H1 vs us Q I1 r1 q1) he hpl
end
end L2
namespace HT
open PySem PyProof.Rows
section
open PySem.SeqAt
open PySem.AutoSeq1 (wpAny_loadPart')
open PySem.MeetsSeq PySem.MeetsSeq2 PySem.MeetsSeq3
end
section
variable {prog : Program} {w : World} {A : Around} {E : Value → Shared → Prop} {s : Shared}
def sIx (n d : Nat) : Option Int → Nat
  | none => d
  | some v => if v < 0 then (v + (n : Int)).toNat else min v.toNat n
theorem sIx_none (n d : Nat) : sIx n d none = d := rfl
theorem sIx_nat (n d k : Nat) : sIx n d (some (k : Int)) = min k n := by
  show (if (k : Int) < 0 then ((k : Int) + (n : Int)).toNat else min (k : Int).toNat n) = min k n
  rw [if_neg (by omega), Int.toNat_natCast]
end
end HT
namespace L2
open PySem PySem.Spec PyProof.Rows
abbrev TO := St → Hp → (Option Int → Hp → Prop) → Prop
def PO (X : Cx) (e : Option Expr) (t : TO) : Prop :=
  ∀ (pins : List (Addr × Obj)) (s : Shared) (σ : St) (H : Hp) (Q : Option Int → Hp → Prop), Inv X pins σ H s → t σ H Q →
    wpAny (model X.prog X.w) X.A (evalPart e X.env) (fun u s' => ∃ o H', Inv X pins σ H' s' ∧ IsPart u o ∧ Q o H') X.xe s
def tNoPart : TO := fun _ H Q => Q none H
def tPart (t : TE) : TO := fun σ H Q => t σ H fun x H1 => ∃ i, x = .int i ∧ Q (some i) H1
section
variable {X : Cx} {e : Expr} {te : TE} {lo hi : Option Expr} {tl th : TO} {pos p2 : Pos}
theorem po_none : PO X none tNoPart := by
  intro pins s σ H Q I h
  rw [evalPart_none]
  exact wpAny_pure ⟨none, H, I, .none, h⟩
theorem po_some (h : PE X e te) : PO X (some e) (tPart te) := by
  intro pins s σ H Q I hw
  rw [evalPart_some]
  refine thn (h pins s σ H _ I hw) fun u s1 ⟨x, H1, I1, r1, q1⟩ => ?_
  obtain ⟨i, rfl, q⟩ := q1
  obtain ⟨t, rfl⟩ := r1
  exact ⟨some i, H1, I1, .int i t, q⟩
def SlR (X : Cx) (r : V → Option Int → Option Int → Hp → VK → Prop) : Prop :=
  ∀ (pins : List (Addr × Obj)) (s : Shared) (σ : St) (H : Hp) (x : V) (v vl vu : Value) (lo hi : Option Int) (sl : Addr) (Q : VK), Inv X pins σ H s → RelV x v → s.heap.IsSliceOf sl vl vu .none → IsPart vl lo → IsPart vu hi → r x lo hi H Q →
    ∃ T id, typeLookup (.type T) "__getitem__" = pure (some (.builtin id)) ∧ s.TypeIs v T ∧ wpAny (model X.prog X.w) X.A (getItem v (.ref sl)) (EP X pins σ Q) X.xe s
def tSl (r : V → Option Int → Option Int → Hp → VK → Prop) (te : TE) (tl th : TO) : TE := fun σ H Q => te σ H fun x H1 => tl σ H1 fun l H2 => th σ H2 fun u H3 => r x l u H3 Q
theorem pe_slice {r : V → Option Int → Option Int → Hp → VK → Prop} (hr : SlR X r) (he : PE X e te) (hl : PO X lo tl) (hu : PO X hi th) : PE X (.Subscript e (.Slice lo hi none p2) pos) (tSl r te tl th) := by
  intro pins s σ H Q I h
  refine Subscript_ (thn (he pins s σ H _ I h) fun v s1 ⟨x, H1, I1, r1, q1⟩ => ?_)
  refine wpAny_Slice (thn (hl pins s1 σ H1 _ I1 q1) fun vl s2 ⟨l, H2, I2, pl, q2⟩ => thn (hu pins s2 σ H2 _ I2 q2) fun vu s3 ⟨u, H3, I3, pu, q3⟩ => ?_)
  rw [evalPart_none]
  refine wpAny_pure ?_
  have I4 : Inv X pins σ H3 { s3 with heap := s3.heap.push { cls := .type "slice", data := .fields #[vl, vu, .none] } } := I3.kept (t' := s3.toks) fun b ob q => Heap.get?_push_of_some _ q
  obtain ⟨T, id, hT, ht, hg⟩ := hr pins { s3 with heap := s3.heap.push { cls := .type "slice", data := .fields #[vl, vu, .none] } } σ H3 x v vl vu l u s3.heap.objs.size Q I4 r1 (Heap.IsSliceOf.new ..) pl pu q3
  show wpAny (model X.prog X.w) X.A (subscriptTail e (.Slice lo hi none p2) v (.ref s3.heap.objs.size)) (EP X pins σ Q) X.xe { s3 with heap := s3.heap.push { cls := .type "slice", data := .fields #[vl, vu, .none] } }
  exact tail_any (ops := [.ref s3.heap.objs.size, v]) ht hT hg (by with_unfolding_all rfl)
def cutV (xs : List V) (lo hi : Option Int) : List V := (xs.drop (HT.sIx xs.length 0 lo)).take (HT.sIx xs.length xs.length hi - HT.sIx xs.length 0 lo)
theorem cutV_length (xs : List V) (lo hi : Option Int) : (cutV xs lo hi).length ≤ xs.length := by
  unfold cutV
  rw [List.length_take, List.length_drop]
  omega
end
end L2
namespace L2
open PySem PySem.Spec PyProof.Rows
def ixN (n : Nat) (i : Int) : Option Nat := if 0 ≤ i then (if i < n then some i.toNat else none) else if -(n : Int) ≤ i then some (i + n).toNat else none
def atI {α : Type} (xs : List α) (i : Int) : Option α := (ixN xs.length i).bind fun j => xs[j]?
theorem ixN_seq {n : Nat} {i : Int} {j : Nat} (h : ixN n i = some j) : seqIndex? i n = some j ∧ j < n ∧ -(n : Int) ≤ i ∧ i < n := by
  unfold ixN at h
  by_cases h0 : 0 ≤ i
  · rw [if_pos h0] at h
    by_cases h1 : i < n
    · rw [if_pos h1] at h
      have e : i.toNat = j := Option.some.inj h
      exact ⟨by rw [seqIndex_of h0 h1, e], by omega, by omega, h1⟩
    · rw [if_neg h1] at h; cases h
  · rw [if_neg h0] at h
    by_cases h1 : -(n : Int) ≤ i
    · rw [if_pos h1] at h
      have e : (i + n).toNat = j := Option.some.inj h
      exact ⟨by rw [seqIndex_neg (by omega) h1, e], by omega, h1, by omega⟩
    · rw [if_neg h1] at h; cases h
theorem atI_get {α : Type} {xs : List α} {i : Int} {v : α} (h : atI xs i = some v) : ∃ j, seqIndex? i xs.length = some j ∧ xs[j]? = some v ∧ j < xs.length ∧ -(xs.length : Int) ≤ i ∧ i < xs.length := by
  unfold atI at h
  cases e : ixN xs.length i with
  | none => rw [e] at h; cases h
  | some j =>
    rw [e] at h
    obtain ⟨h1, h2, h3, h4⟩ := ixN_seq e
    exact ⟨j, h1, h, h2, h3, h4⟩
theorem atI_nat {α : Type} {xs : List α} {j : Nat} {v : α} (h : xs[j]? = some v) : atI xs (j : Int) = some v := by
  have hj : j < xs.length := (List.getElem?_eq_some_iff.mp h).1
  have e : ixN xs.length (j : Int) = some j := by
    unfold ixN
    rw [if_pos (by omega), if_pos (by omega)]; simp
  unfold atI; rw [e]; exact h
def PlainIx (b : Expr) : Prop := ∀ o i, subscripted b false o i = operate [o, i] (getItem o i)
def IxR (X : Cx) (r : R2) : Prop :=
  ∀ (value slice : Expr) (pins : List (Addr × Obj)) (s : Shared) (σ : St) (H : Hp) (x y : V) (v u : Value) (Q : VK), Inv X pins σ H s → RelV x v → RelV y u → r x y H Q →
    subscripted slice false v u = operate [v, u] (getItem v u) → wpAny (model X.prog X.w) X.A (subscriptTail value slice v u) (EP X pins σ Q) X.xe s
def MtR (X : Cx) (id : String) (r : V → List V → Hp → VK → Prop) : Prop :=
  ∀ (pins : List (Addr × Obj)) (s : Shared) (σ : St) (H : Hp) (x : V) (xs : List V) (v : Value) (us : List Value) (Q : VK), Inv X pins σ H s → RelV x v → Vals xs us → r x xs H Q →
    wpAny (model X.prog X.w) X.A (call (.builtin id) (v :: us)) (EP X pins σ Q) X.xe s
section
variable {X : Cx} {a b : Expr} {ta tb : TE} {pos : Pos}
theorem pe_ix {r : R2} (hr : IxR X r) (ha : PE X a ta) (hb : PE X b tb) (hs : PlainIx b) : PE X (.Subscript a b pos) (tOp r ta tb) := by
  intro pins s σ H Q I h
  exact Subscript_ (binT ha hb I h fun v u s2 x y H2 I2 rx ry q => hr a b pins s2 σ H2 x y v u Q I2 rx ry q (hs _ _))
def rIxL (K : PySem.W.Frag) : R2 := fun x y H Q => ∃ p xs i v, x = .ref p ∧ y = .int i ∧ SqL K H p xs ∧ atI xs i = some v ∧ Q v H
def rIxT (K : PySem.W.Frag) : R2 := fun x y H Q => ∃ p xs i v, x = .ref p ∧ y = .int i ∧ SqT K H p xs ∧ atI xs i = some v ∧ Q v H
theorem ix_list : IxR X (rIxL X.K) := by
  intro value slice pins s σ H x y v u Q I rx ry h hs
  obtain ⟨p, xs, i, z, rfl, rfl, hq, he, q⟩ := h
  cases rx
  obtain ⟨t, rfl⟩ := ry
  obtain ⟨its, r, pl, hz⟩ := I.list hq
  obtain ⟨j, h1, h2, h3, h4, h5⟩ := atI_get he
  obtain ⟨w, ew, rw'⟩ := r.get h2
  have hl := r.length
  have hn := line63
  have fin : EP X pins σ Q w s := ⟨z, H, I, rw', q⟩
  by_cases h0 : 0 ≤ i
  · have hj : i.toNat = j := by
      rw [seqIndex_of h0 h5] at h1
      exact Option.some.inj h1
    exact item_listR pl.isList h0 (by omega) (by rw [hj]; simpa using ew) fin hs
  · have hj : (i + (its.toArray.size : Int)).toNat = j := by
      rw [seqIndex_neg (by omega) h4] at h1
      rw [List.size_toArray, ← hl]
      exact Option.some.inj h1
    exact subscriptTail_builtinR (x := w) pl.isList.typeIs slot_list_getitem.lookup
      (wpAny_getItem_list_neg (Q := fun r s' => r = w ∧ EP X pins σ Q r s') pl.isList (by omega) (by rw [List.size_toArray] <;> omega) (by omega) (by rw [hj]; simpa using ew) ⟨rfl, fin⟩) hs
theorem ix_tup : IxR X (rIxT X.K) := by
  intro value slice pins s σ H x y v u Q I rx ry h hs
  obtain ⟨p, xs, i, z, rfl, rfl, hq, he, q⟩ := h
  cases rx
  obtain ⟨t, rfl⟩ := ry
  obtain ⟨its, r, pl, hz⟩ := I.tuple hq
  obtain ⟨j, h1, h2, h3, h4, h5⟩ := atI_get he
  obtain ⟨w, ew, rw'⟩ := r.get h2
  have hl := r.length
  have hn := line63
  have fin : EP X pins σ Q w s := ⟨z, H, I, rw', q⟩
  exact subscriptTail_builtinR (x := w) pl.typeIs slot_tuple_getitem.lookup
    (getItem_tuple (j := j) (Q := fun r s' => r = w ∧ EP X pins σ Q r s') pl (by omega) (by omega) (by rw [List.size_toArray, ← hl]; exact h1) (by simpa using ew) ⟨rfl, fin⟩) hs
theorem mapSeq_set (its : List Value) (n j : Nat) (u : Value) : Obj.mapSeq (·.setIfInBounds j u) { cls := .type "list", data := .seq its.toArray n } = { cls := .type "list", data := .seq (its.set j u).toArray n } := by
  simp [Obj.mapSeq]
theorem Inv.lst {pins : List (Addr × Obj)} {σ : St} {H : Hp} {s : Shared} {p : Addr} {xs : List V} (I : Inv X pins σ H s) (h : H p = some (.lst xs)) :
    ∃ (its : List Value) (n : Nat), Vals xs its ∧ s.heap.get? p = some { cls := .type "list", data := .seq its.toArray n } ∧ xs.length ≤ sizeLine := by
  obtain ⟨z, its, n, r, e⟩ := I.hok p _ h
  exact ⟨its, n, r, e, z⟩
theorem Inv.lstUpd {pins : List (Addr × Obj)} {σ : St} {H : Hp} {s : Shared} {p : Addr} {xs ys : List V} {its its' : List Value} {n n' : Nat} {f : Obj → Obj} (I : Inv X pins σ H s) (h : H p = some (.lst xs))
    (ho : s.heap.get? p = some { cls := .type "list", data := .seq its.toArray n }) (hf : f { cls := .type "list", data := .seq its.toArray n } = { cls := .type "list", data := .seq its'.toArray n' }) (r : Vals ys its') (hz : ys.length ≤ sizeLine) (t : Nat) :
    Inv X pins σ (upd H p (.lst ys)) { s with heap := s.heap.update p f, toks := t } := by
  have e : (s.heap.update p f).get? p = some { cls := .type "list", data := .seq its'.toArray n' } := by
    rw [Heap.get?_update_self f ho (by rw [hf] <;> rfl), hf]
  refine I.write (x := p) (e := p) (by rw [h]; trivial) (.inl rfl) (fun b u hb q => (Heap.get?_update_other _ _ (Ne.symm hb)).trans q) ⟨_, e⟩ ?_
  exact ⟨hz, its', n', r, e⟩
def rSetL : V → V → V → Hp → (Hp → Prop) → Prop := fun o i v H Q => ∃ p xs k j, o = .ref p ∧ i = .int k ∧ H p = some (.lst xs) ∧ ixN xs.length k = some j ∧ Q (upd H p (.lst (xs.set j v)))
theorem set_list : PSet X rSetL := by
  intro pins s σ H o i v ov iv u Q I ro ri rv h
  obtain ⟨p, xs, k, j, rfl, rfl, hp, hj, q⟩ := h
  cases ro
  obtain ⟨t, rfl⟩ := ri
  obtain ⟨its, n, r, ho, hz⟩ := I.lst hp
  obtain ⟨h1, h2, h3, h4⟩ := ixN_seq hj
  have hl := r.length
  have hn := line63
  have I' : Inv X pins σ (upd H p (.lst (xs.set j v))) { s with heap := s.heap.update p (Obj.mapSeq (·.setIfInBounds j u)) } :=
    I.lstUpd hp ho (mapSeq_set its n j u) (r.set rv j) (by rw [List.length_set]; exact hz) s.toks
  by_cases h0 : 0 ≤ k
  · have hk : k.toNat = j := by
      rw [seqIndex_of h0 h4] at h1
      exact Option.some.inj h1
    exact PySem.W.ki_setAt ho h0 (by omega) (by rw [List.size_toArray, ← hl]; exact h4) (by rw [hk]; exact ⟨_, I', q⟩)
  · have hk : (k + (its.toArray.size : Int)).toNat = j := by
      rw [seqIndex_neg (by omega) h3] at h1
      rw [List.size_toArray, ← hl]
      exact Option.some.inj h1
    exact PySem.W.ki_setBack ho (by omega) (by rw [List.size_toArray, ← hl]; exact h3) (by omega) (by rw [hk]; exact ⟨_, I', q⟩)
theorem slice_bounds (lo hi : Option Int) (n : Nat) : (sliceBounds lo hi none n).1 = ((HT.sIx n 0 lo : Nat) : Int) ∧ (sliceBounds lo hi none n).2.1 = ((HT.sIx n n hi : Nat) : Int) ∧ (sliceBounds lo hi none n).2.2 = 1 := by
  refine ⟨?_, ?_, rfl⟩
  · cases lo with
    | none => simp [sliceBounds, HT.sIx]
    | some i =>
      simp only [sliceBounds, HT.sIx, Option.getD_none, show (1 : Int) > 0 by decide, if_true]
      by_cases h : i < 0
      · simp only [h, if_true] <;> omega
      · simp only [h, if_false] <;> omega
  · cases hi with
    | none => simp [sliceBounds, HT.sIx]
    | some i =>
      simp only [sliceBounds, HT.sIx, Option.getD_none, show (1 : Int) > 0 by decide, if_true]
      by_cases h : i < 0
      · simp only [h, if_true] <;> omega
      · simp only [h, if_false] <;> omega
theorem slicePick_cut (its : List Value) (lo hi : Option Int) : slicePick its.toArray lo hi none = ((its.drop (HT.sIx its.length 0 lo)).take (HT.sIx its.length its.length hi - HT.sIx its.length 0 lo)).toArray := by
  obtain ⟨h1, h2, h3⟩ := slice_bounds lo hi its.toArray.size
  unfold slicePick
  rw [h1, h2, h3]
  simp only [sliceRange_one, pick_run, List.size_toArray] <;> rfl
def rSlL (K : PySem.W.Frag) : V → Option Int → Option Int → Hp → VK → Prop := fun x lo hi H Q => ∃ a xs, x = .ref a ∧ SqL K H a xs ∧ ∀ p, H p = none → Q (.ref p) (upd H p (.lst (cutV xs lo hi)))
theorem sl_list : SlR X (rSlL X.K) := by
  intro pins s σ H x v vl vu lo hi sl Q I rx hs pl pu h
  obtain ⟨a, xs, rfl, hx, q⟩ := h
  cases rx
  obtain ⟨its, r, ht, hz⟩ := I.list hx
  have hlen := r.length
  refine ⟨"list", _, slot_list_getitem.lookup, ht.isList.typeIs, ?_⟩
  refine wpAny_getItem_list_slice ht.isList hs pl pu .none (by simp) ?_ (by rw [List.size_toArray] <;> omega)
  rw [slicePick_cut, ← hlen]
  refine ⟨.ref s.heap.objs.size, _, I.laid (t' := s.toks) (o := .lst (cutV xs lo hi)) (fun b ob q => Heap.get?_push_of_some _ q) (Nat.le_refl _) ?_, rfl, q _ (I.hok.fresh (Nat.le_refl _))⟩
  exact ⟨Nat.le_trans (cutV_length xs lo hi) hz, _, 0, (r.drop (HT.sIx xs.length 0 lo)).take (HT.sIx xs.length xs.length hi - HT.sIx xs.length 0 lo), Heap.get?_push_size _ rfl⟩
def flatV : V → Bool
  | .non => true
  | .bl _ => true
  | .int _ => true
  | .str _ => true
  | _ => false
def eqV : V → V → Bool
  | .non, .non => true
  | .bl a, .bl b => a == b
  | .bl a, .int b => (if a then 1 else 0) == b
  | .int a, .bl b => a == (if b then 1 else 0)
  | .int a, .int b => a == b
  | .str a, .str b => a == b
  | _, _ => false
theorem eqAt_V {A : Around} {s : Shared} {y x : V} {u v : Value} (ry : RelV y u) (rx : RelV x v) (fy : flatV y = true) (fx : flatV x = true) : SeqAt.EqAt A s u v (eqV y x) := by
  cases y with
  | non =>
    cases ry
    cases x with
    | non => cases rx; exact SeqAt.EqAt.same _
    | bl b => cases rx; exact SeqAt.EqAt.none_bool b
    | int b => obtain ⟨t, rfl⟩ := rx; exact SeqAt.EqAt.none_int b t
    | str b => obtain ⟨t, rfl⟩ := rx; exact SeqAt.EqAt.none_str b t
    | _ => exact absurd (show false = true from fx) Bool.false_ne_true
  | bl a =>
    cases ry
    cases x with
    | non => cases rx; exact SeqAt.EqAt.bool_none a
    | bl b => cases rx; exact SeqAt.EqAt.bool_bool a b
    | int b => obtain ⟨t, rfl⟩ := rx; exact SeqAt.EqAt.bool_int a b t
    | str b => obtain ⟨t, rfl⟩ := rx; exact SeqAt.EqAt.bool_str a b t
    | _ => exact absurd (show false = true from fx) Bool.false_ne_true
  | int a =>
    obtain ⟨t', rfl⟩ := ry
    cases x with
    | non => cases rx; exact SeqAt.EqAt.int_none a t'
    | bl b => cases rx; exact SeqAt.EqAt.int_bool a t' b
    | int b => obtain ⟨t, rfl⟩ := rx; exact SeqAt.EqAt.int_int a t' b t
    | str b => obtain ⟨t, rfl⟩ := rx; exact SeqAt.EqAt.int_str a t' b t
    | _ => exact absurd (show false = true from fx) Bool.false_ne_true
  | str a =>
    obtain ⟨t', rfl⟩ := ry
    cases x with
    | non => cases rx; exact SeqAt.EqAt.str_none a t'
    | bl b => cases rx; exact SeqAt.EqAt.str_bool a t' b
    | int b => obtain ⟨t, rfl⟩ := rx; exact SeqAt.EqAt.str_int a t' b t
    | str b => obtain ⟨t, rfl⟩ := rx; exact SeqAt.EqAt.str_str a t' b t
    | _ => exact absurd (show false = true from fx) Bool.false_ne_true
  | _ => exact absurd (show false = true from fy) Bool.false_ne_true
def eqU (x : V) (u : Value) : Bool := match u with
  | .none => eqV .non x
  | .bool b => eqV (.bl b) x
  | .int i _ => eqV (.int i) x
  | .str z _ => eqV (.str z) x
  | _ => false
theorem eqU_of {x y : V} {u : Value} (r : RelV y u) (f : flatV y = true) : eqU x u = eqV y x := by
  cases y with
  | non => cases r; rfl
  | bl b => cases r; rfl
  | int i => obtain ⟨t, rfl⟩ := r; rfl
  | str z => obtain ⟨t, rfl⟩ := r; rfl
  | _ => exact absurd (show false = true from f) Bool.false_ne_true
theorem any_eqU {x : V} : ∀ {xs : List V} {us : List Value}, Vals xs us → xs.all flatV = true → us.any (eqU x) = xs.any fun y => eqV y x
  | _, _, .nil, _ => rfl
  | y :: xs, u :: us, .cons r t, f => by
    rw [List.all_cons, Bool.and_eq_true] at f
    rw [List.any_cons, List.any_cons, eqU_of r f.1, any_eqU t f.2]
theorem mem_eqAt {A : Around} {s : Shared} {x : V} {v : Value} (rx : RelV x v) (fx : flatV x = true) : ∀ {xs : List V} {us : List Value}, Vals xs us → xs.all flatV = true → ∀ u ∈ us, SeqAt.EqAt A s u v (eqU x u)
  | _, _, .nil, _ => fun u hu => by cases hu
  | y :: xs, u :: us, .cons r t, f => fun u' hu => by
    rw [List.all_cons, Bool.and_eq_true] at f
    rcases List.mem_cons.mp hu with rfl | hu
    · rw [eqU_of r f.1]; exact eqAt_V r rx f.1 fx
    · exact mem_eqAt rx fx t f.2 u' hu
def inV (x : V) (xs : List V) : Bool := xs.any fun y => eqV y x
def rIn (K : PySem.W.Frag) (neg : Bool) : R2 := fun x y H Q => ∃ p xs, y = .ref p ∧ (SqL K H p xs ∨ SqT K H p xs) ∧ flatV x = true ∧ xs.all flatV = true ∧ Q (.bl (if neg then !inV x xs else inV x xs)) H
theorem op_notIn_seq : OpR X (compareOp .NotIn) (rIn X.K true) := by
  intro pins s σ H x y v u Q I rx ry h
  obtain ⟨p, xs, rfl, hq, fx, fs, q⟩ := h
  cases ry
  rcases hq with hq | hq
  · obtain ⟨its, r, pl, hz⟩ := I.list hq
    refine SeqAt.notIn_listAt (eqU x) pl.isList (fun w hw => mem_eqAt rx fx r fs w (by simpa using hw)) ⟨.bl _, H, I, rfl, ?_⟩
    rw [show its.toArray.any (eqU x) = its.any (eqU x) by simp, any_eqU r fs]
    exact q
  · obtain ⟨its, r, pl, hz⟩ := I.tuple hq
    refine SeqAt.notIn_tupleAt (eqU x) pl (fun w hw => mem_eqAt rx fx r fs w (by simpa using hw)) ⟨.bl _, H, I, rfl, ?_⟩
    rw [show its.toArray.any (eqU x) = its.any (eqU x) by simp, any_eqU r fs]
    exact q
theorem call_len_seq : CallR X (.builtin "len") (fun xs H Q => ∃ p ys, xs = [.ref p] ∧ (SqL X.K H p ys ∨ SqT X.K H p ys) ∧ Q (.int ys.length) H) := by
  intro pins s σ H xs us Q I r h
  obtain ⟨p, ys, rfl, hq, q⟩ := h
  obtain ⟨u, rfl, rx⟩ := vals1 r
  cases rx
  have hn := line63
  rcases hq with hq | hq
  · obtain ⟨its, r', pl, hz⟩ := I.list hq
    have hlen := r'.length
    exact Calls.call_len_list pl.isList (by simp only [List.size_toArray] <;> omega) ⟨.int ys.length, H, I.tok _, ⟨s.toks + 1, by rw [List.size_toArray, hlen]⟩, q⟩
  · obtain ⟨its, r', pl, hz⟩ := I.tuple hq
    have hlen := r'.length
    exact len_tuple pl (by simp only [List.size_toArray] <;> omega) ⟨.int ys.length, H, I.tok _, ⟨s.toks + 1, by rw [List.size_toArray, hlen]⟩, q⟩
theorem call_list_of : CallR X (.type "list") (fun xs H Q => ∃ p ys, xs = [.ref p] ∧ (SqL X.K H p ys ∨ SqT X.K H p ys) ∧ ∀ l, H l = none → Q (.ref l) (upd H l (.lst ys))) := by
  intro pins s σ H xs us Q I r h
  obtain ⟨p, ys, rfl, hq, q⟩ := h
  obtain ⟨u, rfl, rx⟩ := vals1 r
  cases rx
  have fin : ∀ (its : List Value), Vals ys its → ys.length ≤ sizeLine → ∀ (h' : Heap) (c' : Nat), (∀ b o', s.heap.get? b = some o' → h'.get? b = some o') →
      h'.get? s.heap.objs.size = some { cls := .type "list", dict := none, data := .seq its.toArray c', slots := #[] } → EP X pins σ Q (.ref s.heap.objs.size) { s with heap := h' } := fun its r' hz h' c' kp e =>
    ⟨.ref s.heap.objs.size, _, I.laid (t' := s.toks) kp (Nat.le_refl _) (show ObjOk X.prog X.w _ h' _ (.lst ys) from ⟨hz, its, c', r', e⟩), rfl, q _ (I.hok.fresh (Nat.le_refl _))⟩
  rcases hq with hq | hq
  · obtain ⟨its, r', pl, hz⟩ := I.list hq
    have hlen := r'.length
    obtain ⟨o, ho, hc, n, hd⟩ := pl.isList
    exact call_list_seq p (.inl rfl) ho hc hd (fun h' c' kp e => fin its r' hz h' c' kp e) (by simp only [List.size_toArray] <;> omega)
  · obtain ⟨its, r', pl, hz⟩ := I.tuple hq
    have hlen := r'.length
    obtain ⟨o, ho, hc, n, hd⟩ := pl
    exact call_list_seq p (.inr rfl) ho hc hd (fun h' c' kp e => fin its r' hz h' c' kp e) (by simp only [List.size_toArray] <;> omega)
def tyV (K : PySem.W.Frag) (T : String) (x : V) (H : Hp) : Prop := match x with
  | .str _ => T = "str"
  | .int _ => T = "int"
  | .ref p => (T = "list" ∧ ∃ xs, SqL K H p xs) ∨ (T = "tuple" ∧ ∃ o, K.lookup p = some o ∧ o.cls = .type "tuple" ∧ o.dict = none) ∨
      (T = "dict" ∧ ((∃ kvs, H p = some (.dK kvs)) ∨ ∃ kvs, H p = some (.dT kvs))) ∨ (T = "set" ∧ ∃ S n, H p = some (.set S n))
  | _ => False
theorem tyV_is {pins : List (Addr × Obj)} {σ : St} {H : Hp} {s : Shared} {T : String} {x : V} {v : Value} (I : Inv X pins σ H s) (r : RelV x v) (ty : tyV X.K T x H) :
    s.TypeIs v T ∧ ∀ a, v = .ref a → ∃ ob, s.heap.get? a = some ob ∧ ob.dict = none := by
  cases x with
  | str z =>
    obtain ⟨t, rfl⟩ := r
    cases (show T = "str" from ty)
    exact ⟨typeIs_str s z t, fun _ e => nomatch e⟩
  | int i =>
    obtain ⟨t, rfl⟩ := r
    cases (show T = "int" from ty)
    exact ⟨typeIs_int s i t, fun _ e => nomatch e⟩
  | ref p =>
    cases r
    rcases ty with ⟨rfl, xs, hq⟩ | ⟨rfl, o, hk, hc, hd⟩ | ⟨rfl, hk⟩ | ⟨rfl, S, n, hk⟩
    · obtain ⟨its, _, pl, _⟩ := I.list hq
      refine ⟨pl.isList.typeIs, fun a e => ?_⟩
      cases e
      obtain ⟨o, n, e, c, hd, _⟩ := pl
      exact ⟨o, e, hd⟩
    · refine ⟨⟨o, I.kIn p o hk, hc⟩, fun a e => ?_⟩
      cases e
      exact ⟨o, I.kIn _ o hk, hd⟩
    · have z : ∃ o, s.heap.get? p = some o ∧ o.ExactDict := by
        rcases hk with ⟨kvs, hk⟩ | ⟨kvs, hk⟩
        · obtain ⟨_, _, _, _, o, _, _, e, ex, _⟩ := I.hok p _ hk
          exact ⟨o, e, ex⟩
        · obtain ⟨_, _, _, _, o, _, _, e, ex, _⟩ := I.hok p _ hk
          exact ⟨o, e, ex⟩
      obtain ⟨o, e, ex⟩ := z
      refine ⟨⟨o, e, ex.1⟩, fun a e2 => ?_⟩
      cases e2
      exact ⟨o, e, ex.2.1⟩
    · obtain ⟨o, _, _, _, e, ex, _⟩ := I.hok p _ hk
      refine ⟨⟨o, e, ex.1⟩, fun a e2 => ?_⟩
      cases e2
      exact ⟨o, e, ex.2.1⟩
  | _ => exact False.elim ty
def tBM0 (K : PySem.W.Frag) (T : String) (r : V → List V → Hp → VK → Prop) (to : TE) : TE := fun σ H Q => to σ H fun x H1 => tyV K T x H1 ∧ r x [] H1 Q
def tBM (K : PySem.W.Frag) (T : String) (r : V → List V → Hp → VK → Prop) (to : TE) (t : TA) : TE := fun σ H Q => to σ H fun x H1 => tyV K T x H1 ∧ t σ H1 fun xs H2 => r x xs H2 Q
variable {o e : Expr} {es : List Expr} {to : TE} {t : TA} {name : Str} {apos cpos : Pos} {T id : String} {r : V → List V → Hp → VK → Prop}
theorem pe_bm0 (pa : PlainAttrs T) (slot : Slot T name id) (hty : typeOf (.builtin id) = pure (.type "method_descriptor")) (hm : MtR X id r) (ho : PE X o to)
    (hbase : attributeBase o name X.env (eval o X.env) = eval o X.env := by rfl) (hline : (apos.endLine == cpos.line) = true := by rfl) : PE X (.Call (.Attribute o name apos) [] [] cpos) (tBM0 X.K T r to) := by
  intro pins s σ H Q I h
  refine wpAny_Call_method0_late hbase hline (thn (ho pins s σ H _ I h) fun v s1 ⟨x, H1, I1, r1, ty, q1⟩ => ?_)
  obtain ⟨h1, h2⟩ := tyV_is I1 r1 ty
  exact ⟨T, id, pa, slot, hty, h1, h2, Calls.callWith_builtin rfl (PySem.evalArgs_none (hm pins s1 σ H1 x [] v [] Q I1 r1 .nil q1))⟩
theorem pe_bm (pa : PlainAttrs T) (slot : Slot T name id) (hty : typeOf (.builtin id) = pure (.type "method_descriptor")) (hm : MtR X id r) (ho : PE X o to) (ha : PA X (e :: es) t)
    (hbase : attributeBase o name X.env (eval o X.env) = eval o X.env := by rfl)
    (hfew : ((backTo cpos (starEach (e :: es) X.env)).all (fun x => !x.1) && (backToKw cpos (keywordEach [] X.env)).all (fun x => x.1.isSome)
      && decide ((e :: es).length + ([] : List Keyword).length + (if ([] : List Keyword).isEmpty then 0 else 1) < 30)) = true := by rfl)
    (hline : (apos.endLine == cpos.line) = true := by rfl) (hs : starEach (e :: es) X.env = (false, eval e X.env) :: starEach es X.env := by rfl) (hplain : (backTo cpos (starEach es X.env)).any (·.1) = false := by rfl) :
    PE X (.Call (.Attribute o name apos) (e :: es) [] cpos) (tBM X.K T r to t) := by
  intro pins s σ H Q I h
  refine wpAny_Call_method_late hbase hfew hline rfl (thn (ho pins s σ H _ I h) fun v s1 ⟨x, H1, I1, r1, ty, q1⟩ => ?_)
  obtain ⟨h1, h2⟩ := tyV_is I1 r1 ty
  refine ⟨T, id, pa, slot, hty, h1, h2, ?_⟩
  have hA := ha cpos pins s1 σ H1 _ I1 q1
  rw [hs] at hA ⊢
  refine Calls.callWith_builtin (by show (false || (backTo cpos (starEach es X.env)).any (·.1)) = false; rw [hplain] <;> rfl) (Calls.evalArgs_plain ?_)
  exact thn hA fun us s2 ⟨vs, H2, I2, r2, q2⟩ => hm pins s2 σ H2 x vs v us Q I2 r1 r2 q2
/- xs.append(e), list.index on a module's tuple .. are MtR facts of 06m -/
end
end L2
namespace L2
open PySem PySem.Spec PyProof.Rows
def MtM (X : Cx) (id : String) (r : V → List V → Hp → VK → Prop) : Prop :=
  ∀ (pins : List (Addr × Obj)) (s : Shared) (σ : St) (H : Hp) (x : V) (xs : List V) (v : Value) (us : List Value) (Q : VK), Inv X pins σ H s → RelV x v → Vals xs us → r x xs H Q →
    wpAny (model X.prog X.w) X.A (call (.builtin id) (v :: us)) (EP X pins σ Q) X.xe s
theorem Vals.one : ∀ {x : V} {us : List Value}, Vals [x] us → ∃ u, us = [u] ∧ RelV x u
  | _, _, .cons r .nil => ⟨_, rfl, r⟩
theorem Vals.zero : ∀ {us : List Value}, Vals [] us → us = []
  | _, .nil => rfl
theorem Vals.dropLast {xs : List V} {us : List Value} (h : Vals xs us) : Vals xs.dropLast us.dropLast := by
  induction h with
  | nil => exact .nil
  | cons r t ih =>
    cases t with
    | nil => exact .nil
    | cons q t' => exact .cons r ih
theorem Vals.eraseIdx : ∀ {xs : List V} {us : List Value} (i : Nat), Vals xs us → Vals (xs.eraseIdx i) (us.eraseIdx i)
  | _, _, _, .nil => .nil
  | _, _, 0, .cons _ t => t
  | _, _, i + 1, .cons r t => .cons r (Vals.eraseIdx i t)
theorem erase_last {α : Type} (l : List α) : l.eraseIdx (l.length - 1) = l.dropLast := by
  induction l with
  | nil => rfl
  | cons a r ih =>
    cases r with
    | nil => rfl
    | cons b r =>
      have e : (a :: b :: r).length - 1 = ((b :: r).length - 1) + 1 := by
        have h1 : (a :: b :: r).length = r.length + 2 := rfl
        have h2 : (b :: r).length = r.length + 1 := rfl
        omega
      rw [e, List.eraseIdx_cons_succ, ih]
      all_goals rfl
theorem len_erase {α : Type} : ∀ (l : List α) (i : Nat), (l.eraseIdx i).length ≤ l.length
  | [], _ => Nat.le_refl _
  | _ :: _, 0 => Nat.le_succ _
  | _ :: r, i + 1 => Nat.succ_le_succ (len_erase r i)
section
variable {X : Cx} {pins : List (Addr × Obj)} {σ : St} {H : Hp} {s : Shared} {l b : Addr} {xs ys zs : List V}
theorem Inv.lset {its its' : List Value} {n : Nat} {f : Array Value → Array Value} {t' : Nat} (I : Inv X pins σ H s) (hH : H l = some (.lst xs))
    (e : s.heap.get? l = some { cls := .type "list", data := .seq its.toArray n }) (hf : f its.toArray = its'.toArray) (hv : Vals ys its') (hz : ys.length ≤ sizeLine) :
    Inv X pins σ (upd H l (.lst ys)) { s with heap := s.heap.update l (Obj.mapSeq f), toks := t' } := by
  have q := PySem.IsL.update e f
  rw [hf] at q
  refine I.write (x := l) (e := l) (by rw [hH]; exact trivial) (.inl rfl) (fun b' u hb hu => (Heap.get?_update_other s.heap (Obj.mapSeq f) (Ne.symm hb)).trans hu) ⟨_, q⟩ ?_
  exact ⟨hz, its', _, hv, q⟩
theorem Inv.lnew {its : List Value} {t' : Nat} (I : Inv X pins σ H s) (hv : Vals ys its) (hz : ys.length ≤ sizeLine) :
    Inv X pins σ (upd H s.heap.objs.size (.lst ys)) { s with heap := s.heap.push { cls := .type "list", data := .seq its.toArray }, toks := t' } :=
  I.laid (fun _ _ q => Heap.get?_push_of_some _ q) (Nat.le_refl _) ⟨hz, its, 0, hv, Heap.get?_push_size _ rfl⟩
theorem Inv.fresh (I : Inv X pins σ H s) : H s.heap.objs.size = none := I.hok.fresh (Nat.le_refl _)
theorem Inv.lstM (I : Inv X pins σ H s) (hH : H l = some (.lst xs)) : xs.length ≤ sizeLine ∧ ∃ (its : List Value) (n : Nat), Vals xs its ∧ xs.length = its.length ∧ s.heap.get? l = some { cls := .type "list", data := .seq its.toArray n } := by
  obtain ⟨z, its, n, r, e⟩ := I.hok l _ hH
  exact ⟨z, its, n, r, r.length, e⟩
theorem notLongL {n : Nat} (h : n ≤ sizeLine) : Builtin.List.listTooLong n = false := by
  unfold Builtin.List.listTooLong
  exact decide_eq_false (by omega)
end
section
variable {X : Cx}
def rAppend : V → List V → Hp → VK → Prop := fun x vs H Q => ∃ l xs y, x = .ref l ∧ vs = [y] ∧ H l = some (.lst xs) ∧ xs.length < sizeLine ∧ Q .non (upd H l (.lst (xs ++ [y])))
theorem mt_append : MtM X "list.append" rAppend := by
  intro pins s σ H x vs v us Q I rx rv h
  obtain ⟨l, xs, y, rfl, rfl, hH, hz, q⟩ := h
  cases rx
  obtain ⟨u, rfl, ru⟩ := rv.one
  obtain ⟨z, its, n, r, hl, e⟩ := I.lstM hH
  refine call_meets F.slot_list_append ⟨_, e, rfl⟩ F.entry_list_append (F.args_list_append_2 _ _) (PySem.list_append l its.toArray n u (by rw [List.size_toArray]; omega)) ⟨e, ?_⟩
  refine ⟨.non, _, I.lset (its' := its ++ [u]) hH e (by simp) (r.append (.cons ru .nil)) ?_, rfl, q⟩
  rw [List.length_append, List.length_singleton]
  omega
def rExtend : V → List V → Hp → VK → Prop := fun x vs H Q => ∃ l b xs zs, x = .ref l ∧ vs = [.ref b] ∧ H l = some (.lst xs) ∧ H b = some (.lst zs) ∧ xs.length + zs.length ≤ sizeLine ∧ Q .non (upd H l (.lst (xs ++ zs)))
theorem mt_extend : MtM X "list.extend" rExtend := by
  intro pins s σ H x vs v us Q I rx rv h
  obtain ⟨l, b, xs, zs, rfl, rfl, hH, hB, hz, q⟩ := h
  cases rx
  obtain ⟨u, rfl, ru⟩ := rv.one
  cases ru
  obtain ⟨z, its, n, r, hl, e⟩ := I.lstM hH
  obtain ⟨z2, its2, n2, r2, hl2, e2⟩ := I.lstM hB
  have hsz : its.toArray.size + its2.toArray.size ≤ sizeLine := by rw [List.size_toArray, List.size_toArray]; omega
  have hlong : ¬ (!its.toArray.isEmpty && Builtin.List.listTooLong (its.toArray.size + its2.toArray.size)) = true := by
    rw [notLongL hsz, Bool.and_false]
    exact Bool.false_ne_true
  refine call_meets F.slot_list_extend ⟨_, e, rfl⟩ F.entry_list_extend (F.args_list_extend_2 _ _)
    (AutoSeq1.list_extend_list_list_0 l its.toArray n b its2.toArray n2 hlong (by rw [List.size_toArray]; omega) (by omega)) ⟨e, e2, ?_⟩
  refine ⟨.non, _, I.lset (its' := its ++ its2) hH e (by simp) (r.append r2) ?_, rfl, q⟩
  rw [List.length_append]
  omega
def rPop : V → List V → Hp → VK → Prop := fun x vs H Q => ∃ l xs y, x = .ref l ∧ vs = [] ∧ H l = some (.lst xs) ∧ xs[xs.length - 1]? = some y ∧ Q y (upd H l (.lst xs.dropLast))
theorem mt_pop : MtM X "list.pop" rPop := by
  intro pins s σ H x vs v us Q I rx rv h
  obtain ⟨l, xs, y, rfl, rfl, hH, hy, q⟩ := h
  cases rx
  have hus := rv.zero
  subst hus
  obtain ⟨z, its, n, r, hl, e⟩ := I.lstM hH
  obtain ⟨u, hu, ru⟩ := r.get hy
  have hy' : its.toArray[its.toArray.size - 1]? = some u := by
    show its.toArray[its.length - 1]? = some u
    rw [← Array.getElem?_toList, ← hl]
    exact hu
  refine call_meets F.slot_list_pop ⟨_, e, rfl⟩ F.entry_list_pop (F.args_list_pop_1 _) (MeetsSeq.list_pop_last l its.toArray n u hy' (by rw [List.size_toArray]; omega)) ⟨e, ?_⟩
  refine ⟨y, _, I.lset (its' := its.dropLast) hH e ?_ r.dropLast ?_, ru, q⟩
  · show its.toArray.eraseIdxIfInBounds (its.toArray.size - 1) = its.dropLast.toArray
    rw [List.size_toArray, List.eraseIdxIfInBounds_toArray, erase_last]
  · rw [List.length_dropLast]
    omega
def rPopAt : V → List V → Hp → VK → Prop := fun x vs H Q => ∃ l xs i k y, x = .ref l ∧ vs = [.int i] ∧ H l = some (.lst xs) ∧ -(2 ^ 63) ≤ i ∧ i < 2 ^ 63 ∧ seqIndex? i xs.length = some k ∧ xs[k]? = some y ∧ Q y (upd H l (.lst (xs.eraseIdx k)))
theorem mt_popAt : MtM X "list.pop" rPopAt := by
  intro pins s σ H x vs v us Q I rx rv h
  obtain ⟨l, xs, i, k, y, rfl, rfl, hH, h1, h2, hk, hy, q⟩ := h
  cases rx
  obtain ⟨u, rfl, ru⟩ := rv.one
  obtain ⟨t, rfl⟩ := ru
  obtain ⟨z, its, n, r, hl, e⟩ := I.lstM hH
  obtain ⟨w, hw, rw'⟩ := r.get hy
  refine call_meets F.slot_list_pop ⟨_, e, rfl⟩ F.entry_list_pop (F.args_list_pop_2 _ _)
    (MeetsSeq.list_pop_at l its.toArray n i t k w (fitsIndex_both h1 h2) (by rw [List.size_toArray, ← hl]; exact hk) (by rw [← Array.getElem?_toList]; exact hw) (by rw [List.size_toArray]; omega)) ⟨e, ?_⟩
  refine ⟨y, _, I.lset (its' := its.eraseIdx k) hH e ?_ (r.eraseIdx k) ?_, rw', q⟩
  · show its.toArray.eraseIdxIfInBounds k = (its.eraseIdx k).toArray
    rw [List.eraseIdxIfInBounds_toArray]
  · have := len_erase xs k
    omega
def rCat : R2 := fun x y H Q => ∃ l b xs zs, x = .ref l ∧ y = .ref b ∧ H l = some (.lst xs) ∧ H b = some (.lst zs) ∧ xs.length + zs.length ≤ sizeLine ∧ ∀ p, H p = none → Q (.ref p) (upd H p (.lst (xs ++ zs)))
theorem op_cat : OpR X (binaryOp .Add) rCat := by
  intro pins s σ H x y v u Q I rx ry h
  obtain ⟨l, b, xs, zs, rfl, rfl, hH, hB, hz, q⟩ := h
  cases rx
  cases ry
  obtain ⟨z, its, n, r, hl, e⟩ := I.lstM hH
  obtain ⟨z2, its2, n2, r2, hl2, e2⟩ := I.lstM hB
  refine PySem.P.add_list e e2 ?_ (by rw [List.size_toArray, List.size_toArray]; omega)
  have ea : its.toArray ++ its2.toArray = (its ++ its2).toArray := by simp
  rw [ea]
  exact ⟨.ref _, _, I.lnew (t' := s.toks) (r.append r2) (by rw [List.length_append]; omega), rfl, q _ I.fresh⟩
end
section
variable {prog : Program} {w : World} {A : Around} {E : Value → Shared → Prop} {s : Shared}
end
section
variable {X : Cx}
end
end L2
namespace L2
open PySem PySem.Spec PyProof.Rows
theorem Vals.ints : ∀ {ns : List Int} {us : List Value}, Vals (ns.map V.int) us → IntsAre us ns
  | [], us, h => by
    rw [List.map_nil] at h
    cases h
    exact IntsAre.nil
  | n :: ns, us, h => by
    rw [List.map_cons] at h
    cases h with
    | cons r t =>
      obtain ⟨k, rfl⟩ := r
      exact IntsAre.cons n k (Vals.ints t)
theorem vals_of_ints : ∀ {us : List Value} {ns : List Int}, IntsAre us ns → Vals (ns.map V.int) us
  | _, _, .nil => by rw [List.map_nil]; exact Paired.nil
  | _, _, .cons n t h => by rw [List.map_cons]; exact Paired.cons (show RelV (V.int n) (Value.int n t) from ⟨t, rfl⟩) (vals_of_ints h)
theorem Vals.ref1 {a : Addr} {us : List Value} (r : Vals [V.ref a] us) : us = [Value.ref a] := by
  cases r with
  | cons r t =>
    cases t
    cases r
    rfl
section
variable {prog : Program} {w : World} {A : Around} {E : Value → Shared → Prop} {s : Shared} {l : Addr} {its : List Value} {ns : List Int} {Q : Value → Shared → Prop}
theorem max_raw (hh : A.handled = none) (hl : s.heap.IsList l its.toArray) (hi : IntsAre its ns) (hne : 0 < ns.length)
    (h : ∀ h' tk M t', (∀ b o, s.heap.get? b = some o → h'.get? b = some o) → M ∈ ns → (∀ a, a ∈ ns → a ≤ M) → Q (.int M t') { s with heap := h', toks := tk }) : wpAny (model prog w) A (call (.builtin "max") [.ref l]) Q E s := by
  obtain ⟨xs, e⟩ := hi.allInts.items
  have hn : numsOf (intItems xs).toList = ns := by rw [← e]; exact hi.numsOf
  rw [nums_intItems] at hn
  subst hn
  rw [e] at hl
  have hsz : 0 < xs.size := by simpa using hne
  refine PySem.max_intList hh hl hsz fun v h' tk hv hk => ?_
  obtain ⟨t, rfl⟩ := intItems_at hv
  obtain ⟨h1, h2⟩ := argBest_gt (numAt xs) (xs.size - 1)
  refine h h' tk _ t hk ?_ fun a ha => ?_
  · rw [numAt_eq]; exact PySem.getD_mem (by rw [List.length_map, Array.length_toList]; omega)
  · obtain ⟨j, hj, rfl⟩ := mem_getD ha
    rw [List.length_map, Array.length_toList] at hj
    rw [← numAt_eq]; exact h2 j (by omega)
end
section
variable {X : Cx}
def rMax (K : PySem.W.Frag) : List V → Hp → VK → Prop := fun vs H Q => ∃ (a : Addr) (ns : List Int), vs = [V.ref a] ∧ SqL K H a (ns.map V.int) ∧ 0 < ns.length ∧ ∀ m, m ∈ ns → (∀ y, y ∈ ns → y ≤ m) → Q (.int m) H
theorem cr_max (hc : X.calm = true) : CallR X (.builtin "max") (rMax X.K) := by
  intro pins s σ H vs us Q I r h
  obtain ⟨a, ns, rfl, hs, hne, q⟩ := h
  obtain ⟨its, rv, hl, _⟩ := I.list hs
  rw [Vals.ref1 r]
  exact max_raw (I.ok.hd hc) hl.isList rv.ints hne fun h' tk m t' hk h1 h2 => ⟨.int _, H, I.kept hk, ⟨_, rfl⟩, q m h1 h2⟩
end
section
variable {X : Cx}
def rIndex (K : PySem.W.Frag) : V → List V → Hp → VK → Prop := fun x xs H Q => ∃ (a : Addr) (ys : List V) (y : V) (j : Nat) (z : V), x = V.ref a ∧ xs = [y] ∧ SqL K H a ys ∧ flatV y = true ∧ ys.all flatV = true ∧ ys[j]? = some z ∧ eqV z y = true ∧
  (∀ (m : Nat) (z' : V), m < j → ys[m]? = some z' → eqV z' y = false) ∧ Q (.int (j : Nat)) H
theorem flat_at {ys : List V} (f : ys.all flatV = true) {j : Nat} {z : V} (h : ys[j]? = some z) : flatV z = true := List.all_eq_true.mp f z (List.mem_of_getElem? h)
theorem mt_index : MtR X "list.index" (rIndex X.K) := by
  intro pins s σ H x xs v us Q I rx rxs h
  obtain ⟨a, ys, y, j, z, rfl, rfl, hs, fy, fys, hz, hzj, hno, q⟩ := h
  cases rx
  cases rxs with
  | cons ry rt =>
    rename_i uy ut
    cases rt
    obtain ⟨its, rv, ⟨⟨cls, dd, data, sl⟩, n, ho, hc, hdn, hd⟩, hlen⟩ := I.list hs
    simp only at hc hd
    subst hc hd
    obtain ⟨u, hu, ru⟩ := rv.get hz
    obtain ⟨hjl, hje⟩ := List.getElem?_eq_some_iff.mp hu
    have hvl := rv.length
    have hj : j < its.toArray.size := by simpa using hjl
    have hsl := sizeLine_eq
    refine call_meets PySem.F.slot_list_index ⟨_, ho, rfl⟩ PySem.F.entry_list_index (PySem.F.args_list_index_2 _ _)
      (SeqAt.list_indexAt a its.toArray n dd sl uy (eqU y) j hj (by omega) ?_ ?_) ⟨ho, fun u' hu' => mem_eqAt ry fy rv fys u' (by simpa using hu'), ?_⟩
    · have e1 : its.toArray[j] = u := by simpa using hje
      rw [e1, eqU_of ru (flat_at fys hz)]
      exact hzj
    · intro m hm hmj
      have hml : m < its.length := by simpa using hm
      have hmy : m < ys.length := by omega
      have hy' : ys[m]? = some ys[m] := List.getElem?_eq_getElem hmy
      obtain ⟨u2, hu2, ru2⟩ := rv.get hy'
      obtain ⟨_, hme⟩ := List.getElem?_eq_some_iff.mp hu2
      have e1 : its.toArray[m] = u2 := by simpa using hme
      rw [e1, eqU_of ru2 (flat_at fys hy')]
      exact hno m _ hmj hy'
    · exact ⟨.int (j : Nat), H, I.tok _, ⟨_, rfl⟩, q⟩
end
section
variable {X : Cx}
end
section
variable {X : Cx}
end
mutual
inductive Dp (K : PySem.W.Frag) (H : Hp) : V → PyData → Prop
  | non : Dp K H .non .none
  | bl (b : Bool) : Dp K H (.bl b) (.bool b)
  | int (i : Int) : Dp K H (.int i) (.int i)
  | str (x : Str) : Dp K H (.str x) (.str x)
  | lst {a : Addr} {xs : List V} {ds : List PyData} : SqL K H a xs → DpAll K H xs ds → Dp K H (.ref a) (.list ds)
  | tup {a : Addr} {xs : List V} {ds : List PyData} : SqT K H a xs → DpAll K H xs ds → Dp K H (.ref a) (.tuple ds)
inductive DpAll (K : PySem.W.Frag) (H : Hp) : List V → List PyData → Prop
  | nil : DpAll K H [] []
  | cons {v : V} {vs : List V} {d : PyData} {ds : List PyData} : Dp K H v d → DpAll K H vs ds → DpAll K H (v :: vs) (d :: ds)
end
section
variable {X : Cx} {pins : List (Addr × Obj)} {σ : St} {H : Hp} {s : Shared}
mutual
theorem Dp.reads (I : Inv X pins σ H s) : ∀ (d : PyData) (v : V) (u : Value), Dp X.K H v d → RelV v u → ∃ as, Reads s.heap u d as
  | .none, _, _, h, r => by
    cases h
    cases r
    exact ⟨_, Reads.none⟩
  | .bool b, _, _, h, r => by
    cases h
    cases r
    exact ⟨_, Reads.bool b⟩
  | .int i, _, _, h, r => by
    cases h
    obtain ⟨t, rfl⟩ := r
    exact ⟨_, Reads.int i t⟩
  | .str x, _, _, h, r => by
    cases h
    obtain ⟨t, rfl⟩ := r
    exact ⟨_, Reads.str x t⟩
  | .list ds, _, _, h, r => by
    cases h with
    | lst hs ha =>
      cases r
      obtain ⟨its, rv, ⟨o, n, ho, hc, _, hd⟩, _⟩ := I.list hs
      obtain ⟨as, hr⟩ := Dp.readsAll I ds _ its ha rv
      exact ⟨_, Reads.list ho hc hd hr⟩
  | .tuple ds, _, _, h, r => by
    cases h with
    | tup hs ha =>
      cases r
      obtain ⟨its, rv, ⟨o, ho, hc, n, hd⟩, _⟩ := I.tuple hs
      obtain ⟨as, hr⟩ := Dp.readsAll I ds _ its ha rv
      exact ⟨_, Reads.tuple ho hc hd hr⟩
  | .dict _, _, _, h, _ => by cases h
theorem Dp.readsAll (I : Inv X pins σ H s) : ∀ (ds : List PyData) (vs : List V) (us : List Value), DpAll X.K H vs ds → Vals vs us → ∃ as, ReadsAll s.heap us ds as
  | [], _, _, h, r => by
    cases h
    cases r
    exact ⟨_, ReadsAll.nil⟩
  | d :: ds, _, _, h, r => by
    cases h with
    | cons h1 h2 =>
      cases r with
      | cons r1 r2 =>
        obtain ⟨as, q1⟩ := Dp.reads I d _ _ h1 r1
        obtain ⟨bs, q2⟩ := Dp.readsAll I ds _ _ h2 r2
        exact ⟨_, ReadsAll.cons q1 q2⟩
end
end
section
variable {X : Cx}
def rNeD (K : PySem.W.Frag) : R2 := fun x y H Q => ∃ d e, Dp K H x d ∧ Dp K H y e ∧ SeqAt.shaped d = true ∧ SeqAt.shaped e = true ∧ Q (.bl (!PyData.eqv d e)) H
theorem op_neD (hu : X.A.units + 64 < cLine) : OpR X (compareOp .NotEq) (rNeD X.K) := by
  intro pins s σ H x y v u Q I rx ry h
  obtain ⟨d, e, hd, he, sd, se, q⟩ := h
  obtain ⟨as, r1⟩ := Dp.reads I d x v hd rx
  obtain ⟨bs, r2⟩ := Dp.reads I e y u he ry
  exact SeqAt.compareNe_shaped r1 r2 sd se hu ⟨.bl _, H, I, rfl, q⟩
end
end L2
namespace L2
open PySem PySem.Spec PyProof.Rows
abbrev CellAt (h : Heap) (c : Addr) (v : Option Value) : Prop := h.IsCell c v
def relS (scope sc : Scope) : Scope :=
  { scope with names := scope.names.map fun (n, k) => if (k == .free && sc.kind == .function && sc.names.lookup n == some .cell) then (n, .cell) else (n, k) }
def cloFrom (cells : List (Str × Addr)) : List (Str × NameKind) → List (Str × Addr) → List (Str × Addr)
  | [], acc => acc
  | (n, k) :: r, acc => if k == .free then cloFrom cells r ((n, (cells.lookup n).getD 0) :: acc) else cloFrom cells r acc
theorem closure_loop (env : Env) (f : Str × NameKind → List (Str × Addr) → Sem (ForInStep (List (Str × Addr))))
    (hf : ∀ n k c, f (n, k) c = if k == .free then (do let a ← cellOf env n; pure (.yield ((n, a) :: c))) else pure (.yield c)) :
    ∀ (names : List (Str × NameKind)) (acc : List (Str × Addr)), (∀ y ∈ names, y.2 = .free → ∃ c, env.cells.lookup y.1 = some c) → forIn names acc f = pure (cloFrom env.cells names acc)
  | [], acc, _ => by rw [List.forIn_nil]; rfl
  | (n, k) :: r, acc, h => by
    rw [List.forIn_cons, hf]
    have ih := fun acc => closure_loop env f hf r acc fun y hy => h y (List.mem_cons_of_mem _ hy)
    unfold cloFrom
    by_cases hk : (k == NameKind.free) = true
    · rw [if_pos hk, if_pos hk]
      obtain ⟨c, hc⟩ := h (n, k) List.mem_cons_self (by simpa using hk)
      have e : cellOf env n = pure c := by unfold cellOf; rw [hc]
      rw [e]
      have e2 : (env.cells.lookup n).getD 0 = c := by rw [hc]; rfl
      rw [e2]
      exact ih _
    · rw [if_neg hk, if_neg hk]
      exact ih _
theorem closure_ok {scope : Scope} {env : Env} (h : ∀ y ∈ scope.names, y.2 = .free → ∃ c, env.cells.lookup y.1 = some c) : closureFor scope env = pure (cloFrom env.cells scope.names []) := by
  simp only [closureFor]
  rw [closure_loop env _ (fun n k c => rfl) scope.names [] h]
  rfl
theorem mem_lookup {α : Type} : ∀ {l : List (Str × α)} {n : Str} {c : α}, (n, c) ∈ l → ∃ c', l.lookup n = some c'
  | (k, v) :: r, n, c, h => by
    rw [List.lookup_cons]
    cases hb : n == k with
    | true => exact ⟨_, rfl⟩
    | false =>
      rcases List.mem_cons.mp h with e | h
      · cases e; simp at hb
      · exact mem_lookup h
theorem cloFrom_mem {cells : List (Str × Addr)} : ∀ {names : List (Str × NameKind)} {acc : List (Str × Addr)} {n : Str} {c : Addr}, (n, c) ∈ cloFrom cells names acc → (n, c) ∈ acc ∨ ((n, .free) ∈ names ∧ c = (cells.lookup n).getD 0)
  | [], _, _, _, h => .inl h
  | (m, k) :: r, acc, n, c, h => by
    unfold cloFrom at h
    split at h
    · rename_i hk
      have hk : k = .free := by simpa using hk
      rcases cloFrom_mem h with h | ⟨h1, h2⟩
      · rcases List.mem_cons.mp h with e | h
        · cases e; exact .inr ⟨hk ▸ List.mem_cons_self, rfl⟩
        · exact .inl h
      · exact .inr ⟨List.mem_cons_of_mem _ h1, h2⟩
    · rcases cloFrom_mem h with h | ⟨h1, h2⟩
      · exact .inl h
      · exact .inr ⟨List.mem_cons_of_mem _ h1, h2⟩
theorem cloFrom_acc {cells : List (Str × Addr)} : ∀ {names : List (Str × NameKind)} {acc : List (Str × Addr)} {p : Str × Addr}, p ∈ acc → p ∈ cloFrom cells names acc
  | [], _, _, h => h
  | (m, k) :: r, acc, p, h => by
    unfold cloFrom
    split
    · exact cloFrom_acc (List.mem_cons_of_mem _ h)
    · exact cloFrom_acc h
theorem cloFrom_has {cells : List (Str × Addr)} : ∀ {names : List (Str × NameKind)} {acc : List (Str × Addr)} {n : Str}, (n, .free) ∈ names → (n, (cells.lookup n).getD 0) ∈ cloFrom cells names acc
  | (m, k) :: r, acc, n, h => by
    unfold cloFrom
    rcases List.mem_cons.mp h with e | h
    · cases e
      exact cloFrom_acc List.mem_cons_self
    · split
      · exact cloFrom_has h
      · exact cloFrom_has h
theorem cells_mem : ∀ {names : List (Str × NameKind)} {h : Heap} {acc : List (Str × Addr)} {x : Str} {c : Addr}, (x, c) ∈ cellsFrom h.objs.size names acc →
    (x, c) ∈ acc ∨ ((x, .cell) ∈ names ∧ h.objs.size ≤ c ∧ CellAt (pushCells h names) c none)
  | [], _, _, _, _, h => .inl h
  | (n, k) :: r, h, acc, x, c, hm => by
    unfold cellsFrom at hm
    unfold pushCells
    split at hm
    · rename_i hk
      rw [if_pos hk]
      have hk : k = .cell := by simpa using hk
      rw [← Heap.size_push h { cls := .type "cell", data := .cell none }] at hm
      rcases cells_mem hm with hm | ⟨h1, h2, h3⟩
      · rcases List.mem_cons.mp hm with e | hm
        · cases e
          exact .inr ⟨hk ▸ List.mem_cons_self, Nat.le_refl _, _, pushCells_keeps r _ _ _ (Heap.get?_push_size _ rfl), rfl⟩
        · exact .inl hm
      · rw [Heap.size_push] at h2
        exact .inr ⟨List.mem_cons_of_mem _ h1, Nat.le_of_succ_le h2, h3⟩
    · rename_i hk
      rw [if_neg hk]
      rcases cells_mem hm with hm | ⟨h1, h2, h3⟩
      · exact .inl hm
      · exact .inr ⟨List.mem_cons_of_mem _ h1, h2, h3⟩
theorem cells_acc : ∀ {names : List (Str × NameKind)} {n : Nat} {acc : List (Str × Addr)} {p : Str × Addr}, p ∈ acc → p ∈ cellsFrom n names acc
  | [], _, _, _, h => h
  | (m, k) :: r, n, acc, p, h => by
    unfold cellsFrom
    split
    · exact cells_acc (List.mem_cons_of_mem _ h)
    · exact cells_acc h
theorem cells_has : ∀ {names : List (Str × NameKind)} {n : Nat} {acc : List (Str × Addr)} {x : Str}, (x, .cell) ∈ names → ∃ c, (x, c) ∈ cellsFrom n names acc
  | (m, k) :: r, n, acc, x, h => by
    unfold cellsFrom
    rcases List.mem_cons.mp h with e | h
    · cases e
      exact ⟨n, cells_acc List.mem_cons_self⟩
    · split
      · exact cells_has h
      · exact cells_has h
theorem cells_inj : ∀ {names : List (Str × NameKind)} {h : Heap} {acc : List (Str × Addr)} {x y : Str} {c : Addr}, (∀ p ∈ acc, p.2 < h.objs.size) → (∀ x y c, (x, c) ∈ acc → (y, c) ∈ acc → x = y) →
    (x, c) ∈ cellsFrom h.objs.size names acc → (y, c) ∈ cellsFrom h.objs.size names acc → x = y
  | [], _, _, _, _, _, _, hi, h1, h2 => hi _ _ _ h1 h2
  | (n, k) :: r, h, acc, x, y, c, hl, hi, h1, h2 => by
    unfold cellsFrom at h1 h2
    split at h1
    · rename_i hk
      rw [if_pos hk] at h2
      rw [← Heap.size_push h { cls := .type "cell", data := .cell none }] at h1 h2
      refine cells_inj (h := h.push _) (fun p hp => ?_) (fun x y c a b => ?_) h1 h2
      · rw [Heap.size_push]
        rcases List.mem_cons.mp hp with rfl | hp
        · exact Nat.lt_succ_self _
        · exact Nat.lt_succ_of_lt (hl p hp)
      · rcases List.mem_cons.mp a with e | a <;> rcases List.mem_cons.mp b with e' | b
        · cases e; cases e'; rfl
        · cases e; exact absurd (hl _ b) (Nat.lt_irrefl _)
        · cases e'; exact absurd (hl _ a) (Nat.lt_irrefl _)
        · exact hi _ _ _ a b
    · rename_i hk
      rw [if_neg hk] at h2
      exact cells_inj hl hi h1 h2
theorem newEnv_comp {M : Model} {A : Around} {E : Value → Shared → Prop} {s : Shared} {scope : Scope} {globals : Addr} {closure : List (Str × Addr)} {qual : Str} {func : Option Addr} {code : Value} {around : Env} {builtins : Addr} {Q : Env → Shared → Prop}
    (h : Q (newEnv scope s.heap.objs.size globals (cellsFrom (s.heap.objs.size + 1) scope.names closure) qual func code (some around) builtins)
      { s with heap := pushCells (s.heap.push { cls := .type "dict", data := .dict #[] }) scope.names }) :
    wpAny M A (newFunctionEnv scope globals closure [] qual func code (some around) builtins) Q E s := by
  simp only [newFunctionEnv, Option.isSome_some, if_true]
  refine wpAny_bind (wpAny_alloc ?_)
  refine wpAny_bind (wpAny_layCells _ (fun n k c => rfl) scope.names closure _ _ ?_)
  rw [show ({ s with heap := s.heap.push { cls := .type "dict", data := .dict #[] } } : Shared).heap.objs.size = s.heap.objs.size + 1 from Heap.size_push ..]
  rw [List.forIn_nil]
  exact wpAny_bind (wpAny_pure (wpAny_pure h))
theorem lookup_relS {sc : Scope} : ∀ {names : List (Str × NameKind)} {x : Str} {k : NameKind},
    (names.map fun (n, k) => if (k == NameKind.free && sc.kind == .function && sc.names.lookup n == some .cell) then (n, NameKind.cell) else (n, k)).lookup x = some k →
    ∃ k', names.lookup x = some k' ∧ (k = k' ∨ (k' = .free ∧ k = .cell))
  | [], _, _, h => by simp at h
  | (n, k₀) :: r, x, k, h => by
    have ih := @lookup_relS sc r x k
    have h' : List.lookup x ((if (k₀ == NameKind.free && sc.kind == .function && sc.names.lookup n == some .cell) = true then (n, NameKind.cell) else (n, k₀)) :: (r.map _)) = some k := h
    cases hx : x == n with
    | true =>
      simp only [List.lookup_cons, hx]
      by_cases hc : (k₀ == NameKind.free && sc.kind == .function && sc.names.lookup n == some .cell) = true
      · rw [if_pos hc] at h'
        simp only [List.lookup_cons, hx] at h'
        cases h'
        simp only [Bool.and_eq_true, beq_iff_eq] at hc
        exact ⟨k₀, rfl, .inr ⟨hc.1.1, rfl⟩⟩
      · rw [if_neg hc] at h'
        simp only [List.lookup_cons, hx] at h'
        cases h'
        exact ⟨_, rfl, .inl rfl⟩
    | false =>
      simp only [List.lookup_cons, hx]
      by_cases hc : (k₀ == NameKind.free && sc.kind == .function && sc.names.lookup n == some .cell) = true
      · rw [if_pos hc] at h'
        simp only [List.lookup_cons, hx] at h'
        exact ih h'
      · rw [if_neg hc] at h'
        simp only [List.lookup_cons, hx] at h'
        exact ih h'
structure BlkOk (N : List Str) (sc scope : Scope) (own : List (Str × Nat)) : Prop where
  kind : scope.kind = .function
  uniq : ∀ y ∈ scope.names, scope.names.lookup y.1 = some y.2
  ix : ∀ p ∈ own, N[p.2]? = some p.1
  free : ∀ y ∈ scope.names, y.2 = .free → sc.names.lookup y.1 = some .cell ∨ sc.names.lookup y.1 = some .free
  own : ∀ y ∈ scope.names, y.2 = .local ∨ y.2 = .cell → y.1 ∈ own.map (·.1) ∨ y.1 ∉ N
def wipe (σ : St) : List Nat → St
  | [] => σ
  | v :: vs => (wipe σ vs).set v none
theorem wipe_length (σ : St) : ∀ vs : List Nat, (wipe σ vs).length = σ.length
  | [] => rfl
  | v :: vs => by unfold wipe; rw [List.length_set, wipe_length σ vs]
theorem wipe_some {σ : St} {i : Nat} {x : V} : ∀ {vs : List Nat}, (wipe σ vs)[i]? = some (some x) → σ[i]? = some (some x) ∧ i ∉ vs
  | [], h => ⟨h, by simp⟩
  | v :: vs, h => by
    unfold wipe at h
    by_cases hi : v = i
    · subst hi
      by_cases hv : v < (wipe σ vs).length
      · rw [List.getElem?_set_self hv] at h; cases h
      · rw [List.getElem?_eq_none (by simpa using hv)] at h; cases h
    · rw [List.getElem?_set_ne hi] at h
      obtain ⟨h1, h2⟩ := wipe_some h
      exact ⟨h1, by simp only [List.mem_cons, not_or]; exact ⟨fun e => hi e.symm, h2⟩⟩
abbrev Cx.blk (X : Cx) (s : Shared) (H : Hp) (scope : Scope) (cenv : Env) (fp : List Addr) : Cx := { X with s_0 := s, H_0 := H, env := cenv, outer := X.stack, ex := fp, fn := fun x => scope.names.lookup x == some .cell, pn := [], xe := fun _ _ => False }
section
variable {X : Cx} {pins : List (Addr × Obj)} {σ : St} {H : Hp} {s : Shared}
theorem block_start {scope : Scope} {own : List (Str × Nat)} {fp : List Addr} (I : Inv X pins σ H s) (ok : BlkOk X.N X.env.scope scope own) (hN : X.N.Nodup) (hfp : ∀ b ∈ fp, FpOk X pins H b ∧ b < s.heap.objs.size) :
    Inv (X.blk s H scope (compEnvC scope (cellsFrom (s.heap.objs.size + 1) scope.names (cloFrom X.env.cells scope.names [])) s.heap.objs.size X.env) fp) [] (wipe σ (own.map (·.2))) H { s with heap := pushCells (s.heap.push { cls := .type "dict", data := .dict #[] }) scope.names } := by
  have hfree : ∀ y ∈ scope.names, y.2 = .free → ∃ c, X.env.cells.lookup y.1 = some c := fun y hy e => by
    rcases ok.free y hy e with k | k
    · exact I.ok.has _ (.inl k)
    · exact I.ok.has _ (.inr k)
  generalize hcenv : compEnvC scope (cellsFrom (s.heap.objs.size + 1) scope.names (cloFrom X.env.cells scope.names [])) s.heap.objs.size X.env = cenv
  have kp : ∀ b o, s.heap.get? b = some o → (pushCells (s.heap.push { cls := .type "dict", data := .dict #[] }) scope.names).get? b = some o := fun b o e => pushCells_keeps _ _ _ _ (Heap.get?_push_of_some _ e)
  have hL : cenv.locals = s.heap.objs.size := by rw [← hcenv]; rfl
  have hcl : cenv.cells = cellsFrom (s.heap.objs.size + 1) scope.names (cloFrom X.env.cells scope.names []) := by rw [← hcenv]; rfl
  have hsc : cenv.scope = relS scope X.env.scope := by rw [← hcenv]; rfl
  rw [← Heap.size_push s.heap { cls := .type "dict", data := .dict #[] }] at hcl
  have cm : ∀ {y c}, (y, c) ∈ cloFrom X.env.cells scope.names [] → X.env.cells.lookup y = some c ∧ c < s.heap.objs.size := fun {y c} hm => by
    rcases cloFrom_mem hm with hm | ⟨h1, rfl⟩
    · cases hm
    · obtain ⟨c, hc⟩ := hfree _ h1 rfl
      rw [hc]
      obtain ⟨w, z⟩ := I.cell _ _ hc
      exact ⟨rfl, z.lt⟩
  have mem : ∀ {y c}, cenv.cells.lookup y = some c → (X.env.cells.lookup y = some c ∧ c < s.heap.objs.size) ∨ (s.heap.objs.size + 1 ≤ c ∧ CellAt (pushCells (s.heap.push { cls := .type "dict", data := .dict #[] }) scope.names) c none) := fun {y c} e => by
    rw [hcl] at e
    rcases cells_mem (PySem.mem_of_lookup e) with hm | ⟨_, h2, h3⟩
    · exact .inl (cm hm)
    · rw [Heap.size_push] at h2; exact .inr ⟨h2, h3⟩
  have look : ∀ {y}, scope.names.lookup y = some .free → ∃ c, cenv.cells.lookup y = some c ∧ X.env.cells.lookup y = some c := fun {y} hl => by
    have hy : (y, NameKind.free) ∈ scope.names := PySem.mem_of_lookup hl
    obtain ⟨c', e'⟩ := mem_lookup (cells_acc (names := scope.names) (n := (s.heap.push { cls := .type "dict", data := .dict #[] }).objs.size) (cloFrom_has (cells := X.env.cells) (acc := []) hy))
    rw [← hcl] at e'
    refine ⟨c', e', ?_⟩
    rw [hcl] at e'
    rcases cells_mem (PySem.mem_of_lookup e') with hm | ⟨h1, _, _⟩
    · exact (cm hm).1
    · have := ok.uniq _ h1
      rw [hl] at this; cases this
  have okB : (X.blk s H scope cenv fp).Ok := by
    refine ⟨I.ok.mod, by show cenv.scope.kind = _; rw [hsc]; exact ok.kind, by show cenv.globals = _; rw [← hcenv]; exact I.ok.glob, by show cenv.builtins = _; rw [← hcenv]; exact I.ok.blt, by show s.heap.objs.size ≤ cenv.locals; rw [hL]; exact Nat.le_refl _,
      fun y z c e1 e2 => ?_, fun y hy => ?_, fun y c z e => ?_, I.ok.hd, I.ok.frames, .inl rfl, fun b hb => ⟨?_, fun y c e z => ?_⟩, I.bs, Nat.le_trans I.ok.bsz I.sz, fun b o e hb => ?_, fun b hb z => ?_, I.stack, I.stkFree⟩
    · have e1 : cenv.cells.lookup y = some c := e1
      have e2 : cenv.cells.lookup z = some c := e2
      rw [hcl] at e1 e2
      refine cells_inj (fun p hp => ?_) (fun y z c a b => I.ok.inj y z c (cm a).1 (cm b).1) (PySem.mem_of_lookup e1) (PySem.mem_of_lookup e2)
      rw [Heap.size_push]
      exact Nat.lt_succ_of_lt (cm (y := p.1) (c := p.2) hp).2
    · show ∃ c, cenv.cells.lookup y = some c
      have key : ∀ k, cenv.kindOf y = some k → (k = .cell ∨ k = .free) → ∃ c, cenv.cells.lookup y = some c := fun k hk hk' => by
        unfold Env.kindOf at hk
        rw [hsc] at hk
        obtain ⟨k', e, r⟩ := lookup_relS hk
        have : k' = .cell ∨ k' = .free := by
          rcases r with rfl | ⟨rfl, _⟩
          · exact hk'
          · exact .inr rfl
        rcases this with rfl | rfl
        · obtain ⟨c, hm⟩ := cells_has (n := (s.heap.push { cls := .type "dict", data := .dict #[] }).objs.size) (acc := cloFrom X.env.cells scope.names []) (PySem.mem_of_lookup e)
          obtain ⟨c', e'⟩ := mem_lookup hm
          exact ⟨c', by rw [hcl]; exact e'⟩
        · obtain ⟨c, h1, _⟩ := look e
          exact ⟨c, h1⟩
      rcases hy with hy | hy
      · exact key _ hy (.inl rfl)
      · exact key _ hy (.inr rfl)
    · have z : (scope.names.lookup y == some NameKind.cell) = true := z
      have z : scope.names.lookup y = some .cell := by simpa using z
      have e : cenv.cells.lookup y = some c := e
      rw [hcl] at e
      rcases cells_mem (PySem.mem_of_lookup e) with hm | ⟨_, h2, _⟩
      · rcases cloFrom_mem hm with hm | ⟨h1, _⟩
        · cases hm
        · have q := ok.uniq _ h1
          rw [z] at q; cases q
      · rw [Heap.size_push] at h2
        exact Nat.le_of_succ_le h2
    · show b ≠ cenv.locals
      rw [hL]; exact Nat.ne_of_lt (hfp b hb).2
    · have e : cenv.cells.lookup y = some c := e
      rcases mem e with ⟨h1, _⟩ | ⟨h1, _⟩
      · exact (hfp b hb).1.2.2.2.2.1 y c h1 z
      · have h2 : s.heap.objs.size + 1 ≤ b := by rw [← z]; exact h1
        exact absurd (Nat.lt_of_lt_of_le (hfp b hb).2 (Nat.le_of_succ_le h2)) (Nat.lt_irrefl _)
    · rcases (hfp b hb).1.2.2.2.1 with z | z
      · exact I.ok.noex b o e z
      · exact absurd (Nat.lt_of_lt_of_le (Heap.lt_size e) (Nat.le_trans I.ok.bsz z)) (Nat.lt_irrefl _)
    · rcases List.mem_cons.mp (I.stkSub b z) with z | z
      · exact (hfp b hb).1.2.1 z
      · exact (hfp b hb).1.2.2.1 z
  refine ⟨okB, rfl, I.bare, Un.kept kp, ⟨fun _ => none, ?_, fun i y av e1 e2 e3 => ?_⟩, fun y c e => ?_, ?_, fun y c e => ?_, fun p hp => ?_, I.hok.kept kp, by rw [wipe_length]; exact I.len⟩
  · show Heap.Ns _ cenv.locals _
    rw [hL]
    exact Heap.Ns.keeps (Heap.Ns.new ..) fun b o e => pushCells_keeps _ _ _ _ e
  · obtain ⟨e2, hne⟩ := wipe_some e2
    have hfr : scope.names.lookup y = some .free ∧ (cenv.kindOf y = some .cell ∨ cenv.kindOf y = some .free) := by
      have key : ∀ k, cenv.scope.names.lookup y = some k → k = .local ∨ k = .cell ∨ k = .free → scope.names.lookup y = some .free ∧ (cenv.kindOf y = some .cell ∨ cenv.kindOf y = some .free) := fun k hk hk' => by
        have hk0 := hk
        rw [hsc] at hk
        obtain ⟨k', e, r⟩ := lookup_relS hk
        have no : ¬ (k' = .local ∨ k' = .cell) := fun hh => by
          rcases ok.own _ (PySem.mem_of_lookup e) hh with e' | e'
          · obtain ⟨p, hp, hpy⟩ := List.mem_map.mp e'
            have e3 := ok.ix p hp
            have : p.1 = y := hpy
            rw [this] at e3
            exact hne (List.mem_map.mpr ⟨p, hp, nodup_ix hN e3 e1⟩)
          · exact e' (List.mem_of_getElem? e1)
        rcases r with rfl | ⟨rfl, rfl⟩
        · rcases hk' with rfl | rfl | rfl
          · exact absurd (.inl rfl) no
          · exact absurd (.inr rfl) no
          · exact ⟨e, .inr hk0⟩
        · exact ⟨e, .inl hk0⟩
      have e3 : Vis cenv.scope y := e3
      rcases e3 with e3 | e3 | e3
      · exact key _ e3 (.inl rfl)
      · exact key _ e3 (.inr (.inl rfl))
      · exact key _ e3 (.inr (.inr rfl))
    obtain ⟨m, hn, hl⟩ := I.loc
    have hvis : Vis X.env.scope y := (ok.free _ (PySem.mem_of_lookup hfr.1) rfl).elim (fun k => .inr (.inl k)) (fun k => .inr (.inr k))
    obtain ⟨w, r, q⟩ := hl i y av e1 e2 hvis
    refine ⟨w, r, .inr ⟨hfr.2, ?_⟩⟩
    obtain ⟨c, h1, h2⟩ := look hfr.1
    rcases q with ⟨k, _⟩ | ⟨_, c', e', z⟩
    · have k : X.env.scope.names.lookup y = some .local := k
      rcases ok.free _ (PySem.mem_of_lookup hfr.1) rfl with k' | k' <;> rw [show X.env.scope.names.lookup y = _ from k'] at k <;> cases k
    · rw [h2] at e'; cases e'
      exact ⟨c, h1, z.keeps kp⟩
  · have e : cenv.cells.lookup y = some c := e
    rcases mem e with ⟨h1, _⟩ | ⟨_, z⟩
    · obtain ⟨w, z⟩ := I.cell y c h1
      exact ⟨w, z.keeps kp⟩
    · exact ⟨_, z⟩
  · show H cenv.locals = none
    rw [hL]; exact I.hok.fresh (Nat.le_refl _)
  · have e : cenv.cells.lookup y = some c := e
    rcases mem e with ⟨h1, _⟩ | ⟨h1, _⟩
    · exact I.freeC y c h1
    · exact I.hok.fresh (Nat.le_of_succ_le h1)
  · exact absurd (show p ∈ ([] : List (Addr × Obj)) ++ [] from hp) (by simp)
theorem app_ok {E : Value → Shared → Prop} {D : Addr} {xs : List V} {y : V} {v : Value} {Q : Value → Shared → Prop} (I : Inv X pins σ H s) (hD : H D = some (.lst xs)) (hz : xs.length < sizeLine) (r : RelV y v)
    (h : ∀ s', Inv X pins σ (upd H D (.lst (xs ++ [y]))) s' → Q .none s') : wpAny (model X.prog X.w) X.A (call (.builtin "list.append") [.ref D, v]) Q E s := by
  obtain ⟨hz', its, n, ri, e⟩ := I.hok D _ hD
  have hl := ri.length
  refine append_at (hsz := by rw [List.size_toArray]; omega) e fun h' sb ho' => ?_
  refine h { s with heap := h' } (I.write (t' := s.toks) (by rw [hD]; trivial) (.inl rfl) (fun b u hb q => (sb.2 b hb).trans q) ⟨_, ho'⟩ ⟨by rw [List.length_append]; exact hz, its ++ [v], n + 1, ri.append (.cons r .nil), ?_⟩)
  rw [ho']
  simp
def PTs (X : Cx) (ifs : List Expr) (t : TT) : Prop :=
  ∀ (pins : List (Addr × Obj)) (s : Shared) (σ : St) (H : Hp) (Q : Bool → Hp → Prop), Inv X pins σ H s → t σ H Q →
    wpAny (model X.prog X.w) X.A (forIn ifs true fun c r => if r = true then do let ok ← isTrue c X.env (eval c X.env); pure (ForInStep.yield ok) else pure (ForInStep.yield r)) (TP X pins σ Q) X.xe s
def tYes : TT := fun _ H Q => Q true H
theorem pts_nil : PTs X [] tYes := fun _ _ _ H _ I h => wpAny_tests_nil ⟨H, I, h⟩
theorem pts_one {c : Expr} {t : TT} (h : PT X c t) : PTs X [c] t := fun pins s σ H Q I hw => wpAny_tests_one (h pins s σ H Q I hw)
end
theorem thnF {α : Type} {t : Sem α} {Q Q' : α → Shared → Prop} {M : Model} {A : Around} {E : Value → Shared → Prop} {s : Shared} (h : wpAny M A t Q (fun _ _ => False) s) (hQ : ∀ a s, Q a s → Q' a s) : wpAny M A t Q' E s := wpAny_mono h hQ fun _ _ z => False.elim z
theorem compLoop_any {prog : Program} {w : World} {A : Around} {R : Result → Shared → Prop} {s : Shared} {elt target iter : Expr} {ifs : List Expr} {scope : Scope} {pos : Pos} {it acc : Value} {env : Env} (I : Nat → Shared → Prop)
    (turn : ∀ n s, I n s → wpAny (model prog w) A (pyNext it) (fun r s₁ => match r with
      | none => R (.ok .next) s₁
      | some v => wpAny (model prog w) A (letOwnedTupleGo target it v) (fun _ s₁' => wpAny (model prog w) A (assign target env v) (fun _ s₂ =>
          wpAny (model prog w) A (forIn ifs true fun c r => if r = true then do let ok ← isTrue c env (eval c env); pure (ForInStep.yield ok) else pure (ForInStep.yield r)) (fun ok s₃ =>
            if ok = true then wpAny (model prog w) A (eval elt env) (fun x s₄ =>
              wpAny (model prog w) A (call (.builtin "list.append") [acc, x]) (fun _ s₅ => ∃ m, m < n ∧ I m s₅) (notedBy (model prog w) A env fun e s' => R (.error e) s') s₄) (notedBy (model prog w) A env fun e s' => R (.error e) s') s₃
            else ∃ m, m < n ∧ I m s₃) (notedBy (model prog w) A env fun e s' => R (.error e) s') s₂) (notedBy (model prog w) A env fun e s' => R (.error e) s') s₁') (notedBy (model prog w) A env fun e s' => R (.error e) s') s₁) (notedBy (model prog w) A env fun e s' => R (.error e) s') s)
    (n : Nat) (h : I n s) :
    codeAny (model prog w) A (.compLoop (.ListComp elt [⟨target, iter, ifs, 0⟩] scope pos) 0 it acc env) R s := by
  refine codeAny_loop rfl I (fun n s hI => ?_) n h
  show wpAny _ A ((compTurn (.ListComp elt [⟨target, iter, ifs, 0⟩] scope pos) 0 it acc env).onRaise (fun x => do noteFrame x env; theTreesLotGoes x)) _ _ s
  refine wpAny_noted ?_
  rw [compTurn_list]
  refine wpAny_bind (wpAny_standAt (wpAny_bind (wpAny_mono (turn n s hI) (fun r s₁ h₁ => ?_) fun _ _ h' => h')))
  cases r with
  | none => exact wpAny_pure h₁
  | some v =>
    refine wpAny_bind (wpAny_mono h₁ (fun _ s₁' h₁' => ?_) fun _ _ h' => h')
    refine wpAny_bind (wpAny_mono h₁' (fun _ s₂ h₂ => wpAny_bind (wpAny_mono h₂ (fun ok s₃ h₃ => ?_) fun _ _ h' => h')) fun _ _ h' => h')
    cases ok with
    | false => exact wpAny_pure ⟨rfl, h₃⟩
    | true =>
      exact wpAny_bind (wpAny_bind (wpAny_mono h₃ (fun x s₄ h₄ => wpAny_bind (wpAny_mono h₄ (fun _ s₅ h₅ => wpAny_pure (wpAny_pure ⟨rfl, h₅⟩)) fun _ _ h' => h')) fun _ _ h' => h'))
section
variable {X : Cx}
def tLc (wi : TI) (g : TG) (tt : TT) (te : TE) (vs : List Nat) : TE := fun σ H Q => wi σ H fun J H1 => ∀ D, H1 D = none → ∃ W : Nat → Nat → Hp → Prop, (∃ m, W 0 m (upd H1 D (.lst []))) ∧ ∀ i m H, W i m H →
  (J.stop i H ∧ Q (.ref D) H) ∨ (J.go i H ∧ ∃ Nx : Hp → Prop, (∀ H', Nx H' → ∃ m', m' < m ∧ W (i + 1) m' H') ∧ ∀ x H', J.yld i H x H' → g x (wipe σ vs) H' fun σ2 H2 => wipe σ2 vs = wipe σ vs ∧ tt σ2 H2 fun b H3 =>
    if b = true then te σ2 H3 fun y H4 => ∃ acc, H4 D = some (.lst acc) ∧ acc.length < sizeLine ∧ Nx (upd H4 D (.lst (acc ++ [y]))) else Nx H3)
theorem lc_core {pins : List (Addr × Obj)} {s : Shared} {σ : St} {H : Hp} {Q : VK} {elt tg iter : Expr} {ifs : List Expr} {scope : Scope} {own : List (Str × Nat)} {pos pos' : Pos} {wi : TI} {g : TG} {tt : TT} {te : TE} {use : Option (Value → Sem Unit)} {Qf : Value → Shared → Prop}
    (hc : X.calm = true) (hN : X.N.Nodup) (I : Inv X pins σ H s) (hi : PI X tg iter wi) (ok : BlkOk X.N X.env.scope scope own)
    (hg : ∀ (s : Shared) (H : Hp) (C : Addr) (cl : List (Str × Addr)) (fp : List Addr), PG (X.blk s H scope (compEnvC scope cl C X.env) fp) tg g) (ht : ∀ (s : Shared) (H : Hp) (C : Addr) (cl : List (Str × Addr)) (fp : List Addr), PTs (X.blk s H scope (compEnvC scope cl C X.env) fp) ifs tt)
    (he : ∀ (s : Shared) (H : Hp) (C : Addr) (cl : List (Str × Addr)) (fp : List Addr), PE (X.blk s H scope (compEnvC scope cl C X.env) fp) elt te) (hs : ∀ x, foldedSetIterable iter X.env x = pure x)
    (h : tLc wi g tt te (own.map (·.2)) σ H Q)
    (hRR : ∀ D C s' m H', Inv X pins σ H' s' → Q (.ref D) H' → s'.heap.Ns C m → FpOk X pins H' C → compPost (model X.prog X.w) X.A X.xe use Qf (.ref D) C (.ok .next) s') :
    wpAny (model X.prog X.w) X.A (comprehension (.ListComp elt [⟨tg, iter, ifs, 0⟩] scope pos) scope X.env pos' (newList []) false (eval iter X.env) use) Qf X.xe s := by
  have hfree : ∀ y ∈ scope.names, y.2 = .free → ∃ c, X.env.cells.lookup y.1 = some c := fun y hy e => by
    rcases ok.free y hy e with k | k
    · exact I.ok.has _ (.inl k)
    · exact I.ok.has _ (.inr k)
  refine wpAny_comprehension_free (use := use) rfl hs (closure_ok hfree) ok.kind (fun y hy e => by rw [ok.uniq y hy, e])
    (thn (hi pins s σ H _ I h) fun xv s1 hx => thn hx fun itv s2 h2 => ?_)
  obtain ⟨it, fp, tn, J, H2, e, I2, T, st2, f2, q⟩ := h2
  subst e
  refine wpAny_newObj_type (newEnv_comp ?_) (by show 0 ≤ sizeLine; decide)
  generalize hD : s2.heap.objs.size = D
  have hDn : H2 D = none := I2.hok.fresh (Nat.le_of_eq hD)
  obtain ⟨W, ⟨m0, w0⟩, turn⟩ := q D hDn
  generalize hs3 : ({ s2 with heap := s2.heap.push { cls := .type "list", data := .seq ([] : List Value).toArray } } : Shared) = s3
  have I3 : Inv X pins σ (upd H2 D (.lst [])) s3 := by
    rw [← hs3]
    refine I2.laid (t' := s2.toks) (fun b o e => Heap.get?_push_of_some _ e) (Nat.le_of_eq hD) ⟨Nat.zero_le _, [], 0, .nil, ?_⟩
    rw [← hD]
    exact Heap.get?_push_size _ rfl
  have h3 : s3.heap = s2.heap.push { cls := .type "list", data := .seq ([] : List Value).toArray } := by rw [← hs3]
  have sz : ∀ b ∈ fp, b < s2.heap.objs.size := fun b hb => by
    obtain ⟨o, e, _⟩ := T.obj _ _ st2 b hb
    exact Heap.lt_size e
  have f3 : ∀ b ∈ fp, FpOk X pins (upd H2 D (.lst [])) b ∧ b < s3.heap.objs.size := fun b hb => by
    have hlt := sz b hb
    refine ⟨⟨?_, (f2 b hb).2⟩, by rw [h3, Heap.size_push]; exact Nat.lt_succ_of_lt hlt⟩
    rw [upd_ne (by rw [← hD]; exact Nat.ne_of_lt hlt)]
    exact (f2 b hb).1
  have st3 : tn 0 s3.heap := T.keep _ _ _ st2 fun b _ o e => by rw [h3]; exact Heap.get?_push_of_some _ e
  have I4 := block_start I3 ok hN f3
  have pg := hg s3 (upd H2 D (.lst [])) s3.heap.objs.size (cellsFrom (s3.heap.objs.size + 1) scope.names (cloFrom X.env.cells scope.names [])) fp
  have pt := ht s3 (upd H2 D (.lst [])) s3.heap.objs.size (cellsFrom (s3.heap.objs.size + 1) scope.names (cloFrom X.env.cells scope.names [])) fp
  have pe := he s3 (upd H2 D (.lst [])) s3.heap.objs.size (cellsFrom (s3.heap.objs.size + 1) scope.names (cloFrom X.env.cells scope.names [])) fp
  show codeAny _ _ (.compStart (.ListComp elt [⟨tg, iter, ifs, 0⟩] scope pos) 0 (.ref it) (.ref D) (compEnvC scope (cellsFrom (s3.heap.objs.size + 1) scope.names (cloFrom X.env.cells scope.names [])) s3.heap.objs.size X.env)) (compPost (model X.prog X.w) X.A X.xe use Qf (.ref D) s3.heap.objs.size) { s3 with heap := pushCells (s3.heap.push { cls := .type "dict", data := .dict #[] }) scope.names }
  have nfp : ∀ b ∈ fp, (upd H2 D (.lst [])) b = none := fun b hb => (f3 b hb).1.1
  generalize hce : compEnvC scope (cellsFrom (s3.heap.objs.size + 1) scope.names (cloFrom X.env.cells scope.names [])) s3.heap.objs.size X.env = ce at I4 pg pt pe ⊢
  have cL : ce.locals = s3.heap.objs.size := by subst hce; rfl
  generalize hH3 : upd H2 D (.lst []) = H3 at I3 I4 pg pt pe w0 nfp f3
  generalize hs4 : ({ s3 with heap := pushCells (s3.heap.push { cls := .type "dict", data := .dict #[] }) scope.names } : Shared) = s4 at I4 ⊢
  have st4 : tn 0 s4.heap := T.keep _ _ _ st3 fun b _ o e => by rw [← hs4]; exact pushCells_keeps _ _ _ _ (Heap.get?_push_of_some _ e)
  have stat : ∀ {σ' : St} {H' : Hp} {s' : Shared}, Inv (X.blk s3 H3 scope ce fp) [] σ' H' s' → (∀ b ∈ fp, H' b = none) → ∀ b ∈ fp, FpOk (X.blk s3 H3 scope ce fp) [] H' b := fun {σ' H' s'} I' hn b hb =>
    ⟨hn b hb, (I'.ok.exf b hb).1, I'.ok.exfs b hb, .inl hb, fun x c e => (I'.ok.exf b hb).2 x c e, fun p hp => absurd (show p ∈ ([] : List (Addr × Obj)) ++ [] from hp) (by simp)⟩
  have loop : codeAny (model X.prog X.w) X.A (.compLoop (.ListComp elt [⟨tg, iter, ifs, 0⟩] scope pos) 0 (.ref it) (.ref D) ce) (compPost (model X.prog X.w) X.A X.xe use Qf (.ref D) s3.heap.objs.size) s4 := by
    refine compLoop_any (fun n s' => ∃ i H', Inv (X.blk s3 H3 scope ce fp) [] (wipe σ (own.map (·.2))) H' s' ∧ tn i s'.heap ∧ (∀ b ∈ fp, H' b = none) ∧ W i n H') ?_ m0 ⟨0, H3, I4, st4, nfp, w0⟩
    rintro n s5 ⟨i, H5, I5, st5, n5, w5⟩
    rcases turn i n H5 w5 with ⟨stop, qq⟩ | ⟨go, Nx, hNx, step⟩
    · have td := T.done (X.blk s3 H3 scope ce fp) rfl rfl rfl hc i [] s5 _ H5 (fun _ _ => False) I5 (stat I5 n5) st5 stop
      refine thnF td fun r s6 ⟨hr, I6⟩ => ?_
      subst hr
      have I7 : Inv X pins σ H5 s6 := I3.call' (ch := fp) I6.os I6.base I6.hok I6.bare fun b hb => ⟨(f3 b hb).1.2.2.2.1, (f3 b hb).1.2.1, (f3 b hb).1.2.2.2.2.1, (f3 b hb).1.2.2.2.2.2⟩
      have nC : H5 s3.heap.objs.size = none := by
        have z : H5 ce.locals = none := I6.free
        rw [cL] at z
        exact z
      obtain ⟨m, hn, _⟩ := I6.loc
      have hn : s6.heap.Ns ce.locals m := hn
      rw [cL] at hn
      exact hRR D s3.heap.objs.size s6 m H5 I7 qq hn (I3.fpOk (Nat.le_refl _) nC)
    · have ti := T.item (X.blk s3 H3 scope ce fp) rfl rfl rfl hc i [] s5 _ H5 (fun _ _ => False) I5 (stat I5 n5) st5 go
      refine thnF ti fun r s6 ⟨u, hr, h6⟩ => ?_
      subst hr
      refine thnF h6 fun _ s7 ⟨x, H7, I7, r7, y7, st7, n7⟩ => ?_
      have I7' := I7.pinned (stat I7 n7) (T.obj _ _ st7)
      refine thnF (pg _ s7 _ H7 x u _ I7' r7 (step x H7 y7)) fun _ s8 ⟨σ8, H8, I8, hw8, q8⟩ => ?_
      refine thnF (pt _ s8 σ8 H8 _ I8 q8) fun b s9 ⟨H9, I9, q9⟩ => ?_
      have fin : ∀ {s' : Shared} {H' : Hp}, Inv (X.blk s3 H3 scope ce fp) ([] ++ pinsAt fp s7.heap) σ8 H' s' → Nx H' → ∃ m, m < n ∧ ∃ i H', Inv (X.blk s3 H3 scope ce fp) [] (wipe σ (own.map (·.2))) H' s' ∧ tn i s'.heap ∧ (∀ b ∈ fp, H' b = none) ∧ W i m H' := fun {s' H'} I' nx => by
        obtain ⟨m', hm, w'⟩ := hNx H' nx
        have pin' : ∀ b ∈ fp, ∀ o, s7.heap.get? b = some o → s'.heap.get? b = some o ∧ H' b = none := fun b hb o e =>
          let z := I'.pin (b, o) (List.mem_append_right _ (List.mem_append_right _ (mem_pinsAt hb e)))
          ⟨z.1, z.2.1⟩
        have hl : (wipe σ (own.map (·.2))).length = σ8.length := by rw [← hw8, wipe_length]
        refine ⟨m', hm, i + 1, H', (I'.unpinned (pins := [])).weak hl (fun j v e => ?_), T.keep _ _ _ st7 fun b hb o e => (pin' b hb o e).1, fun b hb => ?_, w'⟩
        · rw [← hw8] at e
          exact (wipe_some e).1
        · obtain ⟨o, e, _⟩ := T.obj _ _ st7 b hb
          exact (pin' b hb o e).2
      cases b with
      | false =>
        simp only [Bool.false_eq_true, if_false] at q9 ⊢
        exact fin I9 q9
      | true =>
        simp only [if_true] at q9 ⊢
        refine thnF (pe _ s9 σ8 H9 _ I9 q9) fun z s10 ⟨yv, H10, I10, r10, acc, hD10, hz10, nx⟩ => ?_
        exact app_ok (X := X.blk s3 H3 scope ce fp) I10 hD10 hz10 r10 fun s11 I11 => fin I11 nx
  exact codeAny_compStart_list loop (T.self X.A 0 _ _ _ st4 loop)
theorem pe_lc {elt tg iter : Expr} {ifs : List Expr} {scope : Scope} {own : List (Str × Nat)} {pos : Pos} {wi : TI} {g : TG} {tt : TT} {te : TE} (hc : X.calm = true) (hN : X.N.Nodup) (hi : PI X tg iter wi) (ok : BlkOk X.N X.env.scope scope own)
    (hg : ∀ (s : Shared) (H : Hp) (C : Addr) (cl : List (Str × Addr)) (fp : List Addr), PG (X.blk s H scope (compEnvC scope cl C X.env) fp) tg g) (ht : ∀ (s : Shared) (H : Hp) (C : Addr) (cl : List (Str × Addr)) (fp : List Addr), PTs (X.blk s H scope (compEnvC scope cl C X.env) fp) ifs tt)
    (he : ∀ (s : Shared) (H : Hp) (C : Addr) (cl : List (Str × Addr)) (fp : List Addr), PE (X.blk s H scope (compEnvC scope cl C X.env) fp) elt te) (hs : ∀ x, foldedSetIterable iter X.env x = pure x := by intro _; rfl) :
    PE X (.ListComp elt [⟨tg, iter, ifs, 0⟩] scope pos) (tLc wi g tt te (own.map (·.2))) := by
  intro pins s σ H Q I h
  rw [eval_ListComp]
  refine lc_core hc hN I hi ok hg ht he hs h fun D C s' m H' I' q hn f => ⟨m, hn, fun h'' sb => ?_⟩
  obtain ⟨f0, f1, f2, f3, f4, f5⟩ := f
  exact ⟨.ref D, H', I'.turned (t' := s'.toks) (fun b o hb e => (sb.2 b hb).trans e) f0 f1 f3 f4 f5, rfl, q⟩
theorem ps_setLc {i : Nat} {y : Str} {py : Pos} {elt tg iter : Expr} {ifs : List Expr} {scope : Scope} {own : List (Str × Nat)} {pos spos : Pos} {wi : TI} {g : TG} {tt : TT} {te : TE} (hc : X.calm = true) (hN : X.N.Nodup) (hy : X.N[i]? = some y) (hyl : X.env.scope.names.lookup y = some .local)
    (hsw : swapsWith (.ListComp elt [⟨tg, iter, ifs, 0⟩] scope pos) (some (.Name y py)) spos.line X.env = pure true) (hi : PI X tg iter wi) (ok : BlkOk X.N X.env.scope scope own)
    (hg : ∀ (s : Shared) (H : Hp) (C : Addr) (cl : List (Str × Addr)) (fp : List Addr), PG (X.blk s H scope (compEnvC scope cl C X.env) fp) tg g) (ht : ∀ (s : Shared) (H : Hp) (C : Addr) (cl : List (Str × Addr)) (fp : List Addr), PTs (X.blk s H scope (compEnvC scope cl C X.env) fp) ifs tt)
    (he : ∀ (s : Shared) (H : Hp) (C : Addr) (cl : List (Str × Addr)) (fp : List Addr), PE (X.blk s H scope (compEnvC scope cl C X.env) fp) elt te) (hs : ∀ x, foldedSetIterable iter X.env x = pure x := by intro _; rfl) :
    PS X (.Assign [.Name y py] (.ListComp elt [⟨tg, iter, ifs, 0⟩] scope pos) spos) (tAsg (tLc wi g tt te (own.map (·.2))) (gName i)) := by
  intro pins s σ H D I h
  rw [exec_Assign_Name_used _ _ _ _ hsw]
  refine wpAny_bind (wpAny_standAt (wpAny_bind ?_))
  show wpAny _ X.A (do let _ ← comprehension (.ListComp elt [⟨tg, iter, ifs, 0⟩] scope pos) scope X.env (firstIterPos [⟨tg, iter, ifs, 0⟩] pos) (newList []) false (eval iter X.env) (some (assign (.Name y py) X.env))) _ _ s
  have h : tLc wi g tt te (own.map (·.2)) σ H (fun x H1 => gName i x σ H1 D.nx) := h
  refine wpAny_bind (thn (lc_core (Qf := fun _ s' => SP X pins D .next s') hc hN I hi ok hg ht he hs h fun L C s' m H' I' q hn f => ?_) fun _ s' hq => wpAny_pure (wpAny_pure hq))
  show wpAny _ _ (assign (.Name y py) X.env (.ref L)) _ _ _
  refine wpAny_assign_Name (store_ok2 (v := V.ref L) I' hN hy (.inl hyl) rfl (fun s2 I2 ⟨a, sb, ha⟩ => ?_) (.inr hyl))
  obtain ⟨f0, f1, f2, f3, f4, f5⟩ := f
  have haC : C ≠ a := by
    rcases ha with z | z
    · rw [z]; exact f1
    · exact fun e => f4 y a z e.symm
  refine ⟨m, hn.sameBut sb haC, fun h3 sb3 => ?_⟩
  exact ⟨_, H', I2.turned (t' := s2.toks) (fun b o hb e => (sb3.2 b hb).trans e) f0 f1 f3 f4 f5, q⟩
theorem sw_true {elt : Expr} {gs : List Comprehension} {scope : Scope} {pos py : Pos} {y : Str} {l : Nat} {env : Env} (hk : env.scope.kind = .function) (hy : env.scope.names.lookup y = some .local) (hl : (py.line == pos.line) = true)
    (ha : (scope.names.any fun (n, k) => n == y && (k == .local || k == .cell)) = false) : swapsWith (.ListComp elt gs scope pos) (some (.Name y py)) l env = pure true := by
  have ky : env.kindOf y = some .local := hy
  have hb : env.blockKind = .function := by unfold Env.blockKind; rw [hk]; rfl
  unfold swapsWith
  simp only [hb, ky, ha, Expr.pos, hl]
  rfl
end
theorem lc_list {K : PySem.W.Frag} {a : Addr} {xs : List V} {g : TG} {tt : TT} {te : TE} {vs : List Nat} {σ : St} {H1 : Hp} {D : Addr} {Qd : Hp → Prop} (Pv : Nat → Hp → Prop) (h0 : Pv 0 (upd H1 D (.lst []))) (hl : ∀ i H, i ≤ xs.length → Pv i H → SqL K H a xs)
    (hs : ∀ i x H, xs[i]? = some x → Pv i H → g x (wipe σ vs) H fun σ2 H2 => wipe σ2 vs = wipe σ vs ∧ tt σ2 H2 fun b H3 =>
      if b = true then te σ2 H3 fun y H4 => ∃ acc, H4 D = some (.lst acc) ∧ acc.length < sizeLine ∧ Pv (i + 1) (upd H4 D (.lst (acc ++ [y]))) else Pv (i + 1) H3) (hd : ∀ H, Pv xs.length H → Qd H) :
    ∃ W : Nat → Nat → Hp → Prop, (∃ m, W 0 m (upd H1 D (.lst []))) ∧ ∀ i m H, W i m H →
      ((Itl K a).stop i H ∧ Qd H) ∨ ((Itl K a).go i H ∧ ∃ Nx : Hp → Prop, (∀ H', Nx H' → ∃ m', m' < m ∧ W (i + 1) m' H') ∧ ∀ x H', (Itl K a).yld i H x H' → g x (wipe σ vs) H' fun σ2 H2 => wipe σ2 vs = wipe σ vs ∧ tt σ2 H2 fun b H3 =>
        if b = true then te σ2 H3 fun y H4 => ∃ acc, H4 D = some (.lst acc) ∧ acc.length < sizeLine ∧ Nx (upd H4 D (.lst (acc ++ [y]))) else Nx H3) := by
  refine ⟨fun i m H => m = xs.length - i ∧ i ≤ xs.length ∧ Pv i H, ⟨xs.length, by simp, Nat.zero_le _, h0⟩, ?_⟩
  rintro i m H ⟨rfl, hi, p⟩
  have q := hl i H hi p
  by_cases hlt : i < xs.length
  · refine .inr ⟨⟨xs, xs[i], q, by simp [hlt]⟩, Pv (i + 1), fun H' p' => ⟨xs.length - (i + 1), by omega, rfl, hlt, p'⟩, fun x H' y => ?_⟩
    obtain ⟨e, y⟩ := y
    subst e
    exact hs i x _ (y xs q) p
  · have e : i = xs.length := by omega
    subst e
    exact .inl ⟨⟨xs, q, Nat.le_refl _⟩, hd H p⟩
def blkC (N : List Str) (sc scope : Scope) (own : List (Str × Nat)) : Bool :=
  (match scope.kind with | .function => true | _ => false) && (scope.names.all fun y => decide (scope.names.lookup y.1 = some y.2)) && (own.all fun p => decide (N[p.2]? = some p.1)) &&
    (scope.names.all fun y => match y.2 with
      | .free => (match sc.names.lookup y.1 with | some .cell => true | some .free => true | _ => false)
      | .local => decide (y.1 ∈ own.map (·.1)) || decide (y.1 ∉ N)
      | .cell => decide (y.1 ∈ own.map (·.1)) || decide (y.1 ∉ N)
      | _ => true)
theorem blkOk_by {N : List Str} {sc scope : Scope} {own : List (Str × Nat)} (h : blkC N sc scope own = true) : BlkOk N sc scope own := by
  unfold blkC at h
  simp only [Bool.and_eq_true, List.all_eq_true, decide_eq_true_eq] at h
  obtain ⟨⟨⟨h1, h2⟩, h3⟩, h4⟩ := h
  refine ⟨?_, h2, h3, fun y hy e => ?_, fun y hy e => ?_⟩
  · split at h1
    · assumption
    · cases h1
  · have q := h4 y hy
    simp only [e] at q
    split at q <;> first | exact .inl (by assumption) | exact .inr (by assumption) | cases q
  · have q := h4 y hy
    rcases e with e | e <;> (simp only [e, Bool.or_eq_true, decide_eq_true_eq] at q; exact q)
end L2
namespace L2
open PySem PySem.Spec PyProof.Rows
section
variable {prog : Program} {w : World} {A : Around} {R : Result → Shared → Prop} {s : Shared} {elt t0 i0 t1 i1 : Expr} {ifs0 ifs1 : List Expr} {scope : Scope} {pos : Pos} {it acc : Value} {env : Env}
end
section
variable {X : Cx}
end
end L2
namespace L2
open PySem PySem.Spec PyProof.Rows
section
variable {κ : Type} [DecidableEq κ]
def valV (kvs : List (κ × V)) (k : κ) : Option V := (kvs.find? fun kv => decide (kv.1 = k)).map (·.2)
def putK (kvs : List (κ × V)) (k : κ) (v : V) : List (κ × V) :=
  if (kvs.any fun kv => decide (kv.1 = k)) = true then kvs.map (fun kv => if kv.1 = k then (kv.1, v) else kv) else kvs ++ [(k, v)]
theorem valV_pos {p : κ × V} {r : List (κ × V)} {k : κ} (e : p.1 = k) : valV (p :: r) k = some p.2 := by simp [valV, List.find?_cons, e]
theorem valV_neg {p : κ × V} {r : List (κ × V)} {k : κ} (e : ¬ p.1 = k) : valV (p :: r) k = valV r k := by simp [valV, List.find?_cons, e]
theorem valV_any (k : κ) : ∀ kvs : List (κ × V), (kvs.any fun kv => decide (kv.1 = k)) = (valV kvs k).isSome
  | [] => rfl
  | p :: r => by
    rw [List.any_cons]
    by_cases e : p.1 = k
    · simp only [valV_pos e, decide_eq_true e, Bool.true_or, Option.isSome_some]
    · rw [valV_neg e, decide_eq_false e, Bool.false_or]; exact valV_any k r
theorem length_putK (kvs : List (κ × V)) (k : κ) (v : V) : (putK kvs k v).length ≤ kvs.length + 1 := by
  unfold putK
  split
  · rw [List.length_map]; omega
  · rw [List.length_append, List.length_cons, List.length_nil]; omega
theorem RelO.isSome_eq {o : Option V} {u : Option Value} (r : RelO o u) : o.isSome = u.isSome := by
  cases o with
  | none => cases u with
    | none => rfl
    | some _ => exact (show False from r).elim
  | some _ => cases u with
    | none => exact (show False from r).elim
    | some _ => rfl
theorem KV.val {kvs : List (κ × V)} {vs : List (κ × Value)} (r : KV kvs vs) (k : κ) : RelO (valV kvs k) (valueAt vs k) := by
  unfold KV at r
  induction r with
  | nil => exact True.intro
  | @cons p q ps qs h t ih =>
    obtain ⟨h1, h2⟩ := h
    by_cases e : p.1 = k
    · have e' : q.1 = k := h1.symm.trans e
      have b : valueAt (q :: qs) k = some q.2 := by simp [valueAt, List.find?_cons, e']
      rw [valV_pos e, b]; exact h2
    · have e' : ¬ q.1 = k := fun z => e (h1.trans z)
      have b : valueAt (q :: qs) k = valueAt qs k := by simp [valueAt, List.find?_cons, e']
      rw [valV_neg e, b]; exact ih
theorem KV.any {kvs : List (κ × V)} {vs : List (κ × Value)} (r : KV kvs vs) (k : κ) : (kvs.any fun kv => decide (kv.1 = k)) = vs.any fun kv => decide (kv.1 = k) := by
  unfold KV at r
  induction r with
  | nil => rfl
  | cons h t ih => rw [List.any_cons, List.any_cons, ih, h.1]
theorem KV.repl {kvs : List (κ × V)} {vs : List (κ × Value)} (r : KV kvs vs) (k : κ) {y : V} {u : Value} (ry : RelV y u) :
    KV (kvs.map fun kv => if kv.1 = k then (kv.1, y) else kv) (vs.map fun kv => if kv.1 = k then (kv.1, u) else kv) := by
  unfold KV at r ⊢
  induction r with
  | nil => exact .nil
  | @cons p q ps qs h t ih =>
    rw [List.map_cons, List.map_cons]
    refine .cons ?_ ih
    obtain ⟨h1, h2⟩ := h
    by_cases e : p.1 = k
    · rw [if_pos e, if_pos (h1.symm.trans e)]; exact ⟨h1, ry⟩
    · rw [if_neg e, if_neg (fun z => e (h1.trans z))]; exact ⟨h1, h2⟩
theorem KV.put {kvs : List (κ × V)} {vs : List (κ × Value)} (r : KV kvs vs) (k : κ) {y : V} {u : Value} (ry : RelV y u) : KV (putK kvs k y) (stored vs k u) := by
  unfold putK stored
  rw [r.any k]
  by_cases e : (vs.any fun kv => decide (kv.1 = k)) = true
  · rw [if_pos e, if_pos e]; exact r.repl k ry
  · rw [if_neg e, if_neg e]; exact Paired.snoc r ⟨rfl, ry⟩
theorem KV.length {kvs : List (κ × V)} {vs : List (κ × Value)} (r : KV kvs vs) : kvs.length = vs.length := Paired.length r
end
theorem kV_is {P : Program} {w : World} {k : Key} {u : Value} (r : RelV (kV k) u) : (mixKind P w).is k u = true := by
  cases k with
  | inl i => obtain ⟨t, e⟩ := (show ∃ t, u = Value.int i t from r); subst e; exact mixKind_int P w i t
  | inr x => obtain ⟨t, e⟩ := (show ∃ t, u = Value.str x t from r); subst e; exact mixKind_str P w x t
theorem items_are {P : Program} {w : World} : ∀ {ks : List Key} {us : List Value}, Vals (ks.map kV) us → ItemsAre (mixKind P w) ks us
  | [], _, r => by rw [List.map_nil] at r; cases r; exact .nil
  | k :: ks, _, r => by
    rw [List.map_cons] at r
    cases r with
    | cons h t => exact .cons (kV_is h) (items_are t)
abbrev KT (H : Hp) : List (List Key × V) → List (List Key × Addr × Value) → Prop := Paired fun p q => p.1 = q.1 ∧ H q.2.1 = some (.tup (p.1.map kV)) ∧ RelV p.2 q.2.2
theorem KT.val {H : Hp} {kvs : List (List Key × V)} {xs : List (List Key × Addr × Value)} (r : KT H kvs xs) (k : List Key) : RelO (valV kvs k) ((atKey xs k).map (·.2)) := by
  induction r with
  | nil => exact True.intro
  | @cons p q ps qs h t ih =>
    obtain ⟨h1, _, h2⟩ := h
    by_cases e : p.1 = k
    · have e' : q.1 = k := h1.symm.trans e
      have b : atKey (q :: qs) k = some q.2 := by simp [atKey, List.find?_cons, e']
      rw [valV_pos e, b]; exact h2
    · have e' : ¬ q.1 = k := fun z => e (h1.trans z)
      have b : atKey (q :: qs) k = atKey qs k := by simp [atKey, List.find?_cons, e']
      rw [valV_neg e, b]; exact ih
theorem KT.repl {H : Hp} {kvs : List (List Key × V)} {xs : List (List Key × Addr × Value)} (r : KT H kvs xs) (k : List Key) {y : V} {u : Value} (ry : RelV y u) :
    KT H (kvs.map fun kv => if kv.1 = k then (kv.1, y) else kv) (xs.map (putAt k u)) := by
  induction r with
  | nil => exact .nil
  | @cons p q ps qs h t ih =>
    rw [List.map_cons, List.map_cons]
    refine .cons ?_ ih
    obtain ⟨h1, h2, h3⟩ := h
    unfold putAt
    by_cases e : p.1 = k
    · rw [if_pos e, if_pos (h1.symm.trans e)]; exact ⟨h1, h2, ry⟩
    · rw [if_neg e, if_neg (fun z => e (h1.trans z))]; exact ⟨h1, h2, h3⟩
theorem KT.put {H : Hp} {kvs : List (List Key × V)} {xs : List (List Key × Addr × Value)} (r : KT H kvs xs) (k : List Key) {b : Addr} {y : V} {u : Value} (hb : H b = some (.tup (k.map kV))) (ry : RelV y u) :
    KT H (putK kvs k y) (storedH xs k b u) := by
  have e : (kvs.any fun kv => decide (kv.1 = k)) = (atKey xs k).isSome := by
    rw [valV_any, (r.val k).isSome_eq, Option.isSome_map]
  unfold putK storedH
  rw [e]
  by_cases q : (atKey xs k).isSome = true
  · rw [if_pos q, if_pos q]; exact r.repl k ry
  · rw [if_neg q, if_neg q]; exact Paired.snoc r ⟨rfl, hb, ry⟩
theorem KT.keeps {H H' : Hp} {kvs : List (List Key × V)} {xs : List (List Key × Addr × Value)} (r : KT H kvs xs) (ht : ∀ b ys, H b = some (.tup ys) → H' b = some (.tup ys)) : KT H' kvs xs :=
  Paired.mapP r fun _ _ z => ⟨z.1, ht _ _ z.2.1, z.2.2⟩
section
variable {P : Program} {w : World} {H : Hp} {h : Heap} {a : Addr}
theorem rd_of {u : HO} (ok : HOk P w H h) (e : Rd H a u) : ObjOk P w H h a u := e.ok ok
theorem dk_rd {kvs : List (Key × V)} (ok : HOk P w H h) (e : Rd H a (.dK kvs)) : kvs.length ≤ sizeLine ∧ (a == sysModules) = false ∧ ∃ vs, KV kvs vs ∧ h.DictOf (mixKind P w) a vs :=
  show ObjOk P w H h a (.dK kvs) from rd_of ok e
theorem dk_of {kvs : List (Key × V)} (ok : HOk P w H h) (e : H a = some (.dK kvs)) : kvs.length ≤ sizeLine ∧ (a == sysModules) = false ∧ ∃ vs, KV kvs vs ∧ h.DictOf (mixKind P w) a vs := dk_rd ok (.inl e)
theorem key_of {ks : List Key} (ok : HOk P w H h) (e : H a = some (.tup (ks.map kV))) : (tupleKind (mixKind P w)).is h ks a := by
  obtain ⟨_, its, r, o, h1, h2, n, h3⟩ := (show ObjOk P w H h a (.tup (ks.map kV)) from ok a _ e)
  exact ⟨o, its.toArray, n, h1, h2, h3, by simpa using items_are r⟩
theorem dt_rd {kvs : List (List Key × V)} (ok : HOk P w H h) (e : Rd H a (.dT kvs)) : kvs.length ≤ sizeLine ∧ (a == sysModules) = false ∧
    ∃ xs, KT H kvs xs ∧ h.DictOfH (tupleKind (mixKind P w)) a xs := by
  obtain ⟨z, y, xs, r, o, es, ep, h1, h2, h3, h4, h5⟩ := (show ObjOk P w H h a (.dT kvs) from rd_of ok e)
  refine ⟨z, y, xs, r, o, es, ep, h1, h2, h3, h4, fun x hx => ?_, h5⟩
  have all : ∀ {l : List (List Key × V)} {m : List (List Key × Addr × Value)}, KT H l m → ∀ x ∈ m, (tupleKind (mixKind P w)).is h x.1 x.2.1 := by
    intro l m q
    induction q with
    | nil => intro x hx; exact nomatch hx
    | @cons p q ps qs hq t ih =>
      intro x hx
      rcases List.mem_cons.mp hx with e | hx
      · subst e
        exact key_of ok (by rw [← hq.1]; exact hq.2.1)
      · exact ih x hx
  exact all r x hx
theorem dt_of {kvs : List (List Key × V)} (ok : HOk P w H h) (e : H a = some (.dT kvs)) : kvs.length ≤ sizeLine ∧ (a == sysModules) = false ∧
    ∃ xs, KT H kvs xs ∧ h.DictOfH (tupleKind (mixKind P w)) a xs := dt_rd ok (.inl e)
end
def DGet (H : Hp) (a : Addr) (y : V) (r : Option V) : Prop :=
  (∃ kvs k, Rd H a (.dK kvs) ∧ y = kV k ∧ r = valV kvs k) ∨ ∃ kvs k b, Rd H a (.dT kvs) ∧ y = .ref b ∧ H b = some (.tup (k.map kV)) ∧ r = valV kvs k
def DPut (H : Hp) (a : Addr) (y v : V) (H' : Hp) : Prop :=
  (∃ kvs k, H a = some (.dK kvs) ∧ y = kV k ∧ kvs.length < sizeLine ∧ H' = upd H a (.dK (putK kvs k v))) ∨
  ∃ kvs k b, H a = some (.dT kvs) ∧ y = .ref b ∧ H b = some (.tup (k.map kV)) ∧ kvs.length < sizeLine ∧ H' = upd H a (.dT (putK kvs k v))
theorem DGet.k {H : Hp} {a : Addr} {kvs : List (Key × V)} {k : Key} (e : H a = some (.dK kvs)) : DGet H a (kV k) (valV kvs k) := .inl ⟨kvs, k, .inl e, rfl, rfl⟩
theorem DPut.k {H : Hp} {a : Addr} {kvs : List (Key × V)} {k : Key} {v : V} (e : H a = some (.dK kvs)) (hl : kvs.length < sizeLine) : DPut H a (kV k) v (upd H a (.dK (putK kvs k v))) := .inl ⟨kvs, k, e, rfl, hl, rfl⟩
section
variable {X : Cx} {pins : List (Addr × Obj)} {σ : St} {H : Hp} {s : Shared} {a : Addr} {y v : V} {u r : Value} {o : Option V} {A : Around} {E : Value → Shared → Prop}
theorem Inv.big (I : Inv X pins σ H s) : sysModules < s.heap.objs.size := by
  have h : mainGlobals < s.heap.objs.size := (I.mod.glob.keeps I.bk).lt
  exact Nat.lt_trans (by decide) h
theorem d_in {Q : Value → Shared → Prop} (hu : A.units + 1 < cLine) (I : Inv X pins σ H s) (g : DGet H a y o) (ry : RelV y u) (h : ∀ s', Inv X pins σ H s' → Q (.bool o.isSome) s') :
    wpAny (model X.prog X.w) A (compareOp .In u (.ref a)) Q E s := by
  rcases g with ⟨kvs, k, e, ey, l⟩ | ⟨kvs, k, b, e, ey, eb, l⟩
  · subst ey
    obtain ⟨z, hd, vs, rel, dd⟩ := dk_rd I.hok e
    refine wpAny_in_of (kV_is ry) hd dd.mapOf ?_
    rw [← (rel.val k).isSome_eq, ← l]
    exact h _ (I.tok _)
  · subst ey
    cases (show u = Value.ref b from ry)
    obtain ⟨z, hd, xs, rel, dd⟩ := dt_rd I.hok e
    refine wpAny_in_heap (tupleKind_room_in1 hu) (key_of I.hok eb) hd dd ?_
    have q := (rel.val k).isSome_eq
    rw [Option.isSome_map] at q
    rw [← q, ← l]
    exact h _ (I.tok _)
theorem d_write {h' : Heap} {t' : Nat} {ob : HO} (I : Inv X pins σ H s) (mu : Mut (H a)) (hs : Heap.SameBut a s.heap h') (he : ∃ q, h'.get? a = some q) (new : ObjOk X.prog X.w (upd H a ob) h' a ob) :
    Inv X pins σ (upd H a ob) { s with heap := h', toks := t' } :=
  I.write (x := a) (e := a) mu (.inl rfl) (fun b q hb z => (hs.2 b hb).trans z) he new
theorem dk_new {P : Program} {w : World} {H' : Hp} {h' : Heap} {kvs : List (Key × V)} {vs : List (Key × Value)} (z : kvs.length ≤ sizeLine) (hd : (a == sysModules) = false) (rel : KV kvs vs) (dd : h'.DictOf (mixKind P w) a vs) :
    ObjOk P w H' h' a (.dK kvs) := ⟨z, hd, vs, rel, dd⟩
theorem d_setItem {H' : Hp} {Q : Unit → Shared → Prop} (hu : A.units + 1 < cLine) (I : Inv X pins σ H s) (g : DPut H a y v H') (ry : RelV y u) (rv : RelV v r) (h : ∀ s', Inv X pins σ H' s' → Q () s') :
    wpAny (model X.prog X.w) A (setItem (.ref a) u r) Q E s := by
  rcases g with ⟨kvs, k, e, ey, l, eH⟩ | ⟨kvs, k, b, e, ey, eb, l, eH⟩
  · subst ey eH
    obtain ⟨z, hd, vs, rel, dd⟩ := dk_of I.hok e
    have hz : vs.length ≤ sizeLine := by rw [← rel.length]; exact z
    have hl : (putK kvs k v).length ≤ sizeLine := by have := length_putK kvs k v; omega
    refine wpAny_setItem_pairs (hsz := hz) (kV_is ry) dd fun h' dd' hs => h _ ?_
    have he : ∃ q, h'.get? a = some q := let ⟨q, _, _, hq, _⟩ := dd'; ⟨q, hq⟩
    exact d_write I (by rw [e]; exact True.intro) hs he (dk_new hl hd (rel.put k rv) dd')
  · subst ey eH
    cases (show u = Value.ref b from ry)
    obtain ⟨z, hd, xs, rel, dd⟩ := dt_of I.hok e
    have hz : xs.length ≤ sizeLine := by rw [← Paired.length rel]; exact z
    have hl : (putK kvs k v).length ≤ sizeLine := by have := length_putK kvs k v; omega
    refine wpAny_setItem_heap (hsz := hz) (tupleKind_room_in1 hu) (key_of I.hok eb) dd fun h' dd' hs => h _ ?_
    obtain ⟨q, es, ep, hq, h2, h3, h4, _, h5⟩ := dd'
    refine d_write I (by rw [e]; exact True.intro) hs ⟨q, hq⟩ ⟨hl, hd, _, (rel.put k eb rv).keeps fun c ys ec => ?_, q, es, ep, hq, h2, h3, h4, h5⟩
    rw [upd_ne (ne_of ec e (fun z => nomatch z))]
    exact ec
end
section
variable {X : Cx} {pins : List (Addr × Obj)} {σ : St} {H : Hp} {s : Shared} {a : Addr} {kvs : List (Key × V)} {k : Key} {u : Value} {A : Around} {E : Value → Shared → Prop}
end
def tDIn (ty td : TE) : TE := fun σ H Q => ty σ H fun y H1 => td σ H1 fun x H2 => ∃ a o, x = .ref a ∧ DGet H2 a y o ∧ Q (.bl o.isSome) H2
def sDPut (td ty tv : TE) : TS := fun D σ H => tv σ H fun v H1 => td σ H1 fun x H2 => ty σ H2 fun y H3 => ∃ a H4, x = .ref a ∧ DPut H3 a y v H4 ∧ D.nx σ H4
section
variable {X : Cx} {o i e value : Expr} {pos pos' tpos : Pos} {td ty tv : TE}
theorem pc_din (hu : X.A.units + 1 < cLine) (hi : PE X i ty) (ho : PE X o td) : PC X .In i o (tDIn ty td) := by
  intro pins s σ H Q I h
  refine thn (hi pins s σ H _ I h) fun iv s1 ⟨y, H1, I1, ry, q1⟩ => thn (ho pins s1 σ H1 _ I1 q1) fun u s2 ⟨x, H2, I2, rx, a, ov, ex, g, q2⟩ => ?_
  subst ex
  obtain rfl : u = Value.ref a := rx
  exact d_in hu I2 g ry fun s3 I3 => ⟨.bl ov.isSome, H2, I3, rfl, q2⟩
theorem ps_dput (hu : X.A.units + 1 < cLine) (ho : PE X o td) (hi : PE X i ty) (hv : PE X value tv) (hs : swapsWith value (some (.Subscript o i pos')) pos.line X.env = pure false) :
    PS X (.Assign [.Subscript o i pos'] value pos) (sDPut td ty tv) := by
  intro pins s σ H D I h
  refine wpAny_Assign_Subscript (thn (hv pins s σ H _ I h) fun r s1 ⟨v, H1, I1, rv, q1⟩ => thn (ho pins s1 σ H1 _ I1 q1) fun u s2 ⟨x, H2, I2, rx, q2⟩ => thn (hi pins s2 σ H2 _ I2 q2) fun iv s3 ⟨y, H3, I3, ry, a, H4, ex, g, q3⟩ => ?_) hs
  subst ex
  obtain rfl : u = Value.ref a := rx
  exact d_setItem hu I3 g ry rv fun s4 I4 => ⟨σ, H4, I4, q3⟩
end
theorem dk_empty {P : Program} {w : World} {H : Hp} (h : Heap) (hb : sysModules < h.objs.size) : ObjOk P w H (h.push { cls := .type "dict", data := .dict #[] }) h.objs.size (.dK []) :=
  ⟨Nat.zero_le _, beq_eq_false_iff_ne.mpr (Ne.symm (Nat.ne_of_lt hb)), [], .nil, Heap.DictOf.new h⟩
def tDNewK : TE := fun _ H Q => ∀ p, H p = none → Q (.ref p) (upd H p (.dK []))
section
variable {X : Cx} {pos : Pos}
theorem pe_dnewK : PE X (.Dict [] [] pos) tDNewK := fun pins s σ H Q I h =>
  wpAny_Dict_empty ⟨.ref s.heap.objs.size, _, I.laid (a := s.heap.objs.size) (o := .dK []) (t' := s.toks) (fun _ _ q => Heap.get?_push_of_some _ q) (Nat.le_refl _) (dk_empty s.heap I.big), rfl, h _ (I.hok.fresh (Nat.le_refl _))⟩
end
section
variable {X : Cx} {pins : List (Addr × Obj)} {σ : St} {H : Hp} {s : Shared} {a : Addr} {y d : V} {u r : Value} {o : Option V} {A : Around} {E : Value → Shared → Prop}
end
section
variable {X : Cx} {o e f : Expr} {apos cpos : Pos} {td ty tx : TE}
end
section
variable {X : Cx} {pins : List (Addr × Obj)} {σ : St} {H : Hp} {s : Shared} {a : Addr} {kvs : List (Key × V)} {A : Around} {E : Value → Shared → Prop}
end
section
variable {X : Cx} {pins : List (Addr × Obj)} {σ : St} {H : Hp} {s : Shared} {a : Addr} {y : V} {u : Value} {A : Around} {E : Value → Shared → Prop}
end
end L2
namespace L2
open PySem PySem.Spec PyProof.Rows
section
variable {prog : Program} {w : World} {A : Around} {E : Value → Shared → Prop}
end
section
variable {X : Cx}
end
end L2
namespace L2
open PySem PySem.Spec PyProof.Rows
section
variable {X : Cx} {pins : List (Addr × Obj)} {σ : St} {H : Hp} {s : Shared} {h' : Heap}
theorem Inv.turnedNew {t' : Nat} {ch : List Addr} {T : Addr} {ob : HO} (I : Inv X pins σ H s) (k : ∀ b o, b ∉ ch → s.heap.get? b = some o → h'.get? b = some o) (hf : ∀ b ∈ ch, FpOk X pins H b) (hT : s.heap.objs.size ≤ T)
    (new : ObjOk X.prog X.w (upd H T ob) h' T ob) : Inv X pins σ (upd H T ob) { s with heap := h', toks := t' } := by
  have hn : H T = none := I.hok.fresh hT
  have nit : ∀ b u, H b = some u → b ∉ ch := fun b u e z => by
    have q := (hf b z).1
    rw [q] at e; cases e
  refine I.step (g' := s.gens) (d' := s.drawn) (ch := ch) (fun b hb => ⟨(hf b hb).2.2.2.1, (hf b hb).2.1, (hf b hb).2.2.2.2.1, (hf b hb).2.2.2.2.2⟩) (fun b o _ _ hc e _ => k b o hc e) (fun b o _ _ hc e _ => ⟨o.slots, k b o hc e⟩)
    (fun b o _ e n => ?_) (fun b o hc e => ⟨o, k b o hc e⟩) (fun b xs e => ?_) (fun b o u e => ?_) (fun b ps e => ⟨#[], ?_⟩) (fun m hm => ?_) (fun b u e => ?_) I.bare
  · rw [upd_ne (Nat.ne_of_lt (Nat.lt_of_lt_of_le (Heap.lt_size e) hT))]; exact n
  · rw [upd_ne (ne_of_none e hn)]; exact e
  · rw [upd_ne (ne_of_none e hn)]; exact e
  · rw [upd_ne (ne_of_none e hn), e]; simp
  · obtain ⟨o, es, ep, ho, r⟩ := hm
    exact ⟨o, es, ep, k _ o (fun z => (hf _ z).2.1 rfl) ho, r⟩
  · by_cases hb : b = T
    · subst hb
      rw [upd_same] at e
      cases e
      exact new
    · rw [upd_ne hb] at e
      refine (I.hok b u e).stay (fun c v hc q => k c v ?_ q) (fun c q => by rw [upd_ne (ne_of_none q hn)]; exact q) fun c xs q => by rw [upd_ne (ne_of_none q hn)]; exact q
      rcases hc with z | z
      · rw [z]; exact nit b u e
      · exact nit c _ z
end
section
variable {X : Cx}
theorem pi_one {tg : Expr} {pins : List (Addr × Obj)} {σ : St} {H : Hp} {s : Shared} {R : It → Hp → Prop} {J : It} {tn : Nat → Heap → Prop} {tk : Nat} (I : Inv X pins σ H s) (o : Obj)
    (T : Turn X.prog X.w X.K tg J [s.heap.objs.size] s.heap.objs.size tn) (st : tn 0 (s.heap.push o)) (q : R J H) : PIE X pins σ tg R (.ref s.heap.objs.size) { s with heap := s.heap.push o, toks := tk } := by
  refine ⟨s.heap.objs.size, [s.heap.objs.size], tn, J, H, rfl, I.kept fun b ob e => Heap.get?_push_of_some _ e, T, st, fun b hb => ?_, q⟩
  have e : b = s.heap.objs.size := by simpa using hb
  subst e
  exact I.fpOk (Nat.le_refl _) (I.hok.fresh (Nat.le_refl _))
end
def Itc (lo c : Int) (n : Nat) : It := ⟨fun i _ => i < n, fun i H x H' => H' = H ∧ x = .int (lo + (i : Nat) * c), fun i _ => n ≤ i⟩
theorem turn_rangeC {P : Program} {w : World} {K : PySem.W.Frag} {tg : Expr} (it : Addr) (lo c : Int) (n : Nat) : Turn P w K tg (Itc lo c n) [it] it (fun i h => IsRangeIter h it (lo + (i : Nat) * c) ((n : Int) - (i : Nat)) c) where
  mem := by simp
  obj := fun i h st b hb => by
    have e : b = it := by simpa using hb
    subst e
    exact ⟨_, st, fun v z => nomatch z⟩
  keep := fun i h h' st k => k it (by simp) _ st
  item := by
    intro X hP hw hK hc i pins s σ H E I hf st hg
    subst hP hw hK
    obtain ⟨f0, f1, f2, f3, f4, f5⟩ := hf it (by simp)
    have W := Walks.range (prog := X.prog) (w := X.w) (I.ok.hd hc) it lo c n
    refine W.item i s _ _ hg st fun v h' tk hv st' kk => ?_
    obtain ⟨t, rfl⟩ := hv
    have I1 : Inv X pins σ H { s with heap := h', toks := tk } := I.turned (fun b o hb e => kk b o (by simpa using hb) e) f0 f1 f3 f4 f5
    exact ⟨_, rfl, go_of (s := { s with heap := h', toks := tk }) (n := "range_iterator") st' rfl rfl (by decide) ⟨.int (lo + (i : Nat) * c), H, I1, ⟨t, rfl⟩, ⟨rfl, rfl⟩, st', fun b hb => (hf b hb).1⟩⟩
  done := by
    intro X hP hw hK hc i pins s σ H E I hf st hg
    subst hP hw hK
    obtain ⟨f0, f1, f2, f3, f4, f5⟩ := hf it (by simp)
    exact wpAny_pyNext_range_end (I.ok.hd hc) st (by have : n ≤ i := hg; omega) fun h' eb => ⟨rfl, I.turned (t' := s.toks) (fun b o hb e => eb b o hb e) f0 f1 f3 f4 f5⟩
  self := fun A i s Q E st h => wpAny_pyIter_rangeiter st h
def RgC (i j c : Int) (n : Nat) : Prop := c ≠ 0 ∧ c.natAbs < 1073741824 ∧ Builtin.Range.small i j c = true ∧ Builtin.Range.rangeSize i j c = n
theorem RgC.neg {i j : Int} (ha : -(2 ^ 62) ≤ i) (ha' : i < 2 ^ 62) (hb : -(2 ^ 62) ≤ j) (hb' : j < 2 ^ 62) : RgC i j (-1) (i - j).toNat :=
  ⟨by decide, by decide, PySem.W.small_down ha ha' hb hb', PySem.W.rangeSize_downNat i j⟩
def iRng3 (ta : TA) : TI := fun σ H R => ta σ H fun vs H1 => ∃ (i j c : Int) (n : Nat), vs = [.int i, .int j, .int c] ∧ RgC i j c n ∧ R (Itc i c n) H1
section
variable {X : Cx} {tg : Expr}
theorem pi_range3 {a b c : Expr} {ta : TA} {p pos : Pos} (hg : Gl X "range") (hm : X.mg "range" = none) (ha : PA X [a, b, c] ta)
    (hs : starEach [a, b, c] X.env = (false, eval a X.env) :: starEach [b, c] X.env := by rfl) (hpl : (backTo pos (starEach [b, c] X.env)).any (·.1) = false := by rfl) :
    PI X tg (.Call (.Name "range" p) [a, b, c] [] pos) (iRng3 ta) := by
  intro pins s σ H R I h
  refine Call_ (ld_blt I hg hm boot_range (PyProof.Rows.callWith_type1 (thn (ha pos pins s σ H _ I h) fun us s1 ⟨vs, H1, I1, r1, q1⟩ => ?_) hs hpl))
  obtain ⟨i, j, k, n, e, ⟨c0, c1, c2, c3⟩, q⟩ := q1
  subst e
  cases r1 with
  | cons r rr =>
    cases rr with
    | cons r' rr =>
      cases rr with
      | cons r'' rr =>
        cases rr
        obtain ⟨t, rfl⟩ := r
        obtain ⟨t', rfl⟩ := r'
        obtain ⟨t'', rfl⟩ := r''
        refine call_range_3 c0 ?_ (.inl (PyProof.noPylong_small c1))
        refine wpAny_pyIter_range (IsRange.new ..) c2 ?_
        have I2 : Inv X pins σ H1 { s1 with heap := s1.heap.push { cls := .type "range", data := .fields #[.int i t, .int j t', .int k t''] } } := I1.kept (t' := s1.toks) fun b o e => Heap.get?_push_of_some _ e
        refine pi_one (tk := s1.toks) I2 _ (turn_rangeC _ i k n) ?_ q
        have e1 : i + ((0 : Nat) : Int) * k = i := by simp
        have e2 : (n : Int) - ((0 : Nat) : Int) = Builtin.Range.rangeSize i j k := by rw [c3]; simp
        show IsRangeIter _ _ (i + ((0 : Nat) : Int) * k) ((n : Int) - ((0 : Nat) : Int)) k
        rw [e1, e2]
        exact Heap.get?_push_size _ rfl
end
theorem for_rangeC {lo c : Int} {n : Nat} {g : TG} {tb : TS} {D : Ends} {σ : St} {H : Hp} (Pv : Nat → St → Hp → Prop) (h0 : Pv 0 σ H)
    (hs : ∀ i σ H, i < n → Pv i σ H → g (.int (lo + (i : Nat) * c)) σ H fun σ2 H2 => tb { D with nx := Pv (i + 1), ct := Pv (i + 1), bk := D.nx } σ2 H2) (hd : ∀ σ H, Pv n σ H → D.nx σ H) :
    ∃ W : Nat → Nat → St → Hp → Prop, (∃ m, W 0 m σ H) ∧ ∀ i m σ H, W i m σ H →
      ((Itc lo c n).stop i H ∧ D.nx σ H) ∨ ((Itc lo c n).go i H ∧ ∃ N : St → Hp → Prop, (∀ σ' H', N σ' H' → ∃ m', m' < m ∧ W (i + 1) m' σ' H') ∧ ∀ x H', (Itc lo c n).yld i H x H' → g x σ H' fun σ2 H2 => tb { D with nx := N, ct := N, bk := D.nx } σ2 H2) := by
  refine ⟨fun i m σ H => m = n - i ∧ i ≤ n ∧ Pv i σ H, ⟨n, by simp, Nat.zero_le _, h0⟩, ?_⟩
  rintro i m σ H ⟨rfl, hi, p⟩
  by_cases hlt : i < n
  · refine .inr ⟨hlt, Pv (i + 1), fun σ' H' p' => ⟨n - (i + 1), by omega, rfl, hlt, p'⟩, fun x H' y => ?_⟩
    obtain ⟨e, y⟩ := y
    subst e y
    exact hs i σ _ hlt p
  · have e : i = n := by omega
    subst e
    exact .inl ⟨Nat.le_refl _, hd σ H p⟩
section
variable {X : Cx} {tg : Expr}
end
section
variable {prog : Program} {w : World} {A : Around} {E : Value → Shared → Prop} {s : Shared}
end
section
variable {X : Cx} {pins : List (Addr × Obj)} {σ : St} {H : Hp} {s : Shared} {d : Addr} {o : Obj}
end
section
variable {P : Program} {w : World} {K : PySem.W.Frag} {tg : Expr} {d : Addr} {o : Obj} {es : Array DictEntry} {ep : Nat}
end
section
variable {X : Cx} {tg e : Expr} {td : TE} {apos cpos : Pos}
end
def Ite (K : PySem.W.Frag) (a : Addr) : It :=
  ⟨fun i H => ∃ (xs : List V) (x : V), SqL K H a xs ∧ xs[i]? = some x, fun i H v H' => ∃ T x, v = .ref T ∧ H T = none ∧ H' = upd H T (.tup [.int (i : Nat), x]) ∧ ∀ xs, SqL K H a xs → xs[i]? = some x, fun i H => ∃ xs : List V, SqL K H a xs ∧ xs.length ≤ i⟩
theorem turn_enum {P : Program} {w : World} {K : PySem.W.Frag} {elts : List Expr} {kk : Nat} {tpos : Pos} (a e it : Addr) :
    Turn P w K (.Tuple elts kk tpos) (Ite K a) [e, it] e (fun i h => (∃ old, IsEnum h e it ((i : Nat) : Int) old) ∧ h.IsListIter it a i ∧ e ≠ it) where
  mem := by simp
  obj := fun i h st b hb => by
    obtain ⟨⟨old, he⟩, ⟨o, ho, hc, hd⟩, _⟩ := st
    have e' : b = e ∨ b = it := by simpa using hb
    rcases e' with z | z
    · rw [z]; exact ⟨_, he, fun v q => nomatch q⟩
    · rw [z]; exact ⟨o, ho, fun v q => by rw [hd] at q; cases q⟩
  keep := fun i h h' st k => let ⟨⟨old, he⟩, hi, hne⟩ := st; ⟨⟨old, k e (by simp) _ he⟩, hi.at fun o q => k it (by simp) o q, hne⟩
  item := by
    intro X hP hw hK hc i pins s σ H E I hf st hg
    subst hP hw hK
    obtain ⟨⟨old, he⟩, hit, hne⟩ := st
    obtain ⟨xs, x, hq, hx⟩ := hg
    obtain ⟨its, rv, p, hz⟩ := I.list hq
    obtain ⟨u, hu, ru⟩ := rv.get hx
    have hel : e < s.heap.objs.size := Heap.lt_size he
    have hil : it < s.heap.objs.size := by obtain ⟨_, q, _⟩ := hit; exact Heap.lt_size q
    refine wpAny_pyNext_enum_item he hit p.isList (x := u) (by simpa using hu) hne fun h' ho hit' hT hsz hk => ?_
    refine ⟨_, rfl, wpAny_letOwnedTupleGo_enum (s := { s with heap := h', toks := s.toks + 1 }) ho fun h'' he' sb => ?_⟩
    have hT2 : h''.get? s.heap.objs.size = some { cls := .type "tuple", data := .seq #[.int i s.toks, u] } := (sb.2 _ (Nat.ne_of_gt hel)).trans hT
    have new : ObjOk X.prog X.w (upd H s.heap.objs.size (.tup [.int (i : Nat), x])) h'' s.heap.objs.size (.tup [.int (i : Nat), x]) :=
      ⟨by show 2 ≤ sizeLine; decide, [.int i s.toks, u], .cons ⟨_, rfl⟩ (.cons ru .nil), ⟨_, hT2, rfl, _, rfl⟩⟩
    have I1 : Inv X pins σ (upd H s.heap.objs.size (.tup [.int (i : Nat), x])) { s with heap := h'', toks := s.toks + 1 } :=
      I.turnedNew (ch := [e, it]) (fun b ob hb q => (sb.2 b (fun z => hb (by simp [z]))).trans (hk b ob (fun z => hb (by simp [z])) (fun z => hb (by simp [z])) q)) hf (Nat.le_refl _) new
    refine ⟨.ref s.heap.objs.size, _, I1, rfl, ⟨_, x, rfl, I.hok.fresh (Nat.le_refl _), rfl, fun ys hy => by rw [I.list_inj hy hq]; exact hx⟩, ⟨⟨u, ?_⟩, hit'.at fun o q => (sb.2 it (Ne.symm hne)).trans q, hne⟩, fun b hb => ?_⟩
    · have e1 : ((i + 1 : Nat) : Int) = (i : Int) + 1 := by omega
      rw [e1]; exact he'
    · have hb' : b < s.heap.objs.size := by
        have e' : b = e ∨ b = it := by simpa using hb
        rcases e' with z | z
        · rw [z]; exact hel
        · rw [z]; exact hil
      rw [upd_ne (Nat.ne_of_lt hb')]
      exact (hf b hb).1
  done := by
    intro X hP hw hK hc i pins s σ H E I hf st hg
    subst hP hw hK
    obtain ⟨⟨old, he⟩, hit, hne⟩ := st
    obtain ⟨xs, hq, hx⟩ := hg
    obtain ⟨its, rv, p, hz⟩ := I.list hq
    obtain ⟨f0, f1, f2, f3, f4, f5⟩ := hf it (by simp)
    have hl := rv.length
    exact wpAny_pyNext_enum_end (I.ok.hd hc) he hit p.isList (by simp; omega) fun h' eb => ⟨rfl, I.turned (t' := s.toks) (fun b o hb q => eb b o hb q) f0 f1 f3 f4 f5⟩
  self := fun A i s Q E st h => let ⟨⟨_, he⟩, _⟩ := st; wpAny_pyIter_enum he h
def iEnum (K : PySem.W.Frag) (ta : TA) : TI := fun σ H R => ta σ H fun vs H1 => ∃ a xs, vs = [.ref a] ∧ SqL K H1 a xs ∧ R (Ite K a) H1
theorem pi_enum {X : Cx} {e : Expr} {ta : TA} {p pos tpos : Pos} {elts : List Expr} {kk : Nat} (hg : Gl X "enumerate") (hm : X.mg "enumerate" = none) (ha : PA X [e] ta) (hs : starEach [e] X.env = [(false, eval e X.env)] := by rfl) :
    PI X (.Tuple elts kk tpos) (.Call (.Name "enumerate" p) [e] [] pos) (iEnum X.K ta) := by
  intro pins s σ H R I h
  refine Call_ (ld_blt I hg hm boot_enumerate (PyProof.Rows.callWith_type1 (thn (ha pos pins s σ H _ I h) fun us s1 ⟨vs, H1, I1, r1, q1⟩ => ?_) hs rfl))
  obtain ⟨a, xs, ex, hq, q⟩ := q1
  subst ex
  cases r1 with
  | cons r rr =>
    cases rr
    cases r
    obtain ⟨its, rv, p', hz⟩ := I1.list hq
    refine call_enumerate_list p'.isList fun h' he hit hsz hk => wpAny_pyIter_enum he ?_
    have I2 : Inv X pins σ H1 { s1 with heap := h' } := I1.kept (t' := s1.toks) hk
    refine ⟨s1.heap.objs.size + 1, [s1.heap.objs.size + 1, s1.heap.objs.size], _, _, H1, rfl, I2, turn_enum a (s1.heap.objs.size + 1) s1.heap.objs.size, ⟨⟨.none, he⟩, hit, Nat.succ_ne_self _⟩, fun b hb => ?_, q⟩
    have e' : b = s1.heap.objs.size + 1 ∨ b = s1.heap.objs.size := by simpa using hb
    have hle : s1.heap.objs.size ≤ b := by
      rcases e' with z | z
      · rw [z]; exact Nat.le_add_right _ _
      · rw [z]; exact Nat.le_refl _
    exact I1.fpOk hle (I1.hok.fresh hle)
end L2
section
namespace Bits
open PySem PyProof.Rows
end Bits
end
section
namespace TL
open PySem PySem.Builtin PySem.Builtin.Str PySem.StrLaws
end TL
end
namespace L2
open PySem PySem.Spec PyProof.Rows
section
variable {X : Cx} {pins : List (Addr × Obj)} {σ : St} {H : Hp} {s : Shared} {Q : VK}
end
section
variable {X : Cx}
end
section
variable {X : Cx} {o e : Expr} {to te : TE}
end
end L2
namespace L2
open PySem PySem.Spec PyProof.Rows
section
variable {X : Cx}
end
end L2
namespace Att
open PySem PySem.W PySem.Calls PyProof.Rows
section
variable {prog : Program} {w : World} {A : Around} {E : Value → Shared → Prop} {s : Shared} {K : Frag}
end
end Att
namespace L2
open PySem PySem.Spec PyProof.Rows
end L2
namespace L2
open PySem PySem.Spec PyProof.Rows
end L2
/- THE LAST THEOREM (shape; LID, My.* are yours):
   My.Adr: a structure of the addresses that your layer names (classes, functions); My.Txt K t: a structure (Prop) of the equations over K;
   My.txt_mk : {K} {implicit addresses ..} (e1 : nsIn K mainGlobals "law" = some (some (.ref f))) (e2 : K.lookup f = some ⟨oc, od, .func (fnOf "law" "law" params body scope dV kV doc pm an cdv ct), sl⟩) (e3 : codeIn K cdv "law" = true) .. : ∃ t, My.Txt K t
set_option maxHeartbeats 0 in
theorem PySem.Challenge.cw_LID_holds : PySem.Challenge.rw_LID.Holds := by
  w_on; o_law; k_head; (case hw => w_witness2)
  k_fill
  refine L2.walk_of (l := PySem.Challenge.rw_LID) (n := 63) (k := 40) (x := "script") (CX := fun w => ..) (sp := fun _ => My.sp_law) rfl (by decide) rfl ⟨rfl, by decide, by decide⟩ (fun w h Y => PySem.W.kIn_of Y) ?F ?S ?C
  case F =>
    intro w mg fa h KX G hmg
    have T : ∃ t, My.Txt (L2.KOf KX) t := by
      dsimp only [L2.KOf]                          -- K must stand as «<heap const> w.params» for k_is
      refine' My.txt_mk ?e1 ?e2 ?e3 ..
      (case e1 => PySem.W.k_is)                    -- in the order: a name -> its address -> its object -> its parts
      (case e2 => PySem.W.k_is)
      ..
    obtain ⟨t, T⟩ := T
    have e0 := hmg.symm.trans (PySem.W.mg_of KX G T.law)
    cases e0                                       -- fa is the law's own address
    exact ⟨_, fun s u => .of_eq rfl, fun base kb nb => My.law_fn T kb nb⟩     -- if «.of_eq rfl» comes too early: refine' ⟨_, ?b, fun base kb nb => My.law_fn T kb nb⟩; exact fun s u => .of_eq rfl
  case S => exact fun w H a ns hl hO hS => ..
  case C => exact ..
(the tactic k_is has no namespace: write k_is) -/
namespace L2
open PySem PySem.Spec PyProof.Rows
def inClass (s : Stmt) (j : Nat) : Stmt := match s with
  | .ClassDef _ _ _ body _ _ _ _ _ _ _ => body.getD j (.Pass ⟨0, 0, 0, 0⟩)
  | _ => .Pass ⟨0, 0, 0, 0⟩
def defArgs (s : Stmt) : Arguments := match s with
  | .FunctionDef _ a _ _ _ _ _ _ _ _ => a
  | _ => { posonlyargs := [], args := [], vararg := none, kwonlyargs := [], kw_defaults := [], kwarg := none, defaults := [] }
def defBody (s : Stmt) : List Stmt := match s with
  | .FunctionDef _ _ b _ _ _ _ _ _ _ => b
  | _ => []
def defScope (s : Stmt) : Scope := match s with
  | .FunctionDef _ _ _ _ _ _ sc _ _ _ => sc
  | _ => { kind := .function, names := [], isGenerator := false, isCoroutine := false }
abbrev CX0 : CXT := fun _ _ _ _ _ _ => False
abbrev E0 : XK := fun _ _ _ => False
theorem pass0 {X : Cx} : Passes CX0 X E0 := fun _ _ _ _ _ _ _ h => h.elim
structure Fun (K : PySem.W.Frag) (x qual : Str) (st : Stmt) (f : Addr) (fd : FuncData) : Prop where
  ex : ∃ (oc : Value) (od : Option Addr) (kV doc pm : Value) (an : Option Addr) (cdv ct : Value) (osl : Array (Option Value)),
    fd = PySem.W.fnOf x qual (defArgs st) (defBody st) (defScope st) .none kV doc pm an cdv ct ∧ K.lookup f = some ⟨oc, od, .func fd, osl⟩ ∧ PySem.W.codeIn K cdv qual = true
  kp : PySem.W.keepIn K (.ref f) = true
section
variable {P : Program} {w : World} {K : PySem.W.Frag} {mg : Str → Option Value} {base : Heap}
theorem Fun.ok {x qual : Str} {st : Stmt} {f : Addr} {fd : FuncData} {N ps : List Str} {k : Nat} {sp : Sp} (F : Fun K x qual st f fd) (S : FnScope N ps (defScope st)) (len : ∀ vs H Q E, sp vs H Q E → vs.length = ps.length)
    (hbody : ∀ (cdv : Value) (A : Around) (outer : List Env) (s : Shared) (H : Hp) (vs : List V) (Q : VK) (E : XK), Room k (A.deeper (envOfC qual (defScope st) s.heap.objs.size f cdv)) → sp vs H Q E →
      ∃ t, PSs (cxOf CX0 P w K mg base N qual (defScope st) f cdv A outer s H E).nox (defBody st) t ∧ t { nx := fun _ H' => Q .non H', rt := Q } (start N vs) H) : FnOk P w K mg base CX0 (k + 1) f fd ps sp := by
  obtain ⟨oc, od, kV, doc, pm, an, cdv, ct, osl, rfl, lk, hcd⟩ := F.ex
  refine fn_of lk hcd S len fun A outer s H vs Q E hr hsp => ?_
  obtain ⟨t, h, q⟩ := hbody cdv A outer s H vs Q E hr hsp
  exact ⟨t, h.nox, q⟩
theorem Fun.binds {x qual : Str} {st : Stmt} {f : Addr} {fd : FuncData} {ps : List Str} (F : Fun K x qual st f fd)
    (h : ∀ (kV doc pm : Value) (an : Option Addr) (cdv ct : Value) (us : List Value), us.length = ps.length → bindArgs (PySem.W.fnOf x qual (defArgs st) (defBody st) (defScope st) .none kV doc pm an cdv ct) ⟨us, []⟩ = pure (ps.zip us)) : Binds K fd ps [] := by
  obtain ⟨oc, od, kV, doc, pm, an, cdv, ct, osl, rfl, lk, hcd⟩ := F.ex
  exact .all (h kV doc pm an cdv ct)
theorem fun_mk {x qual : Str} {st : Stmt} {f : Addr} {oc : Value} {od an : Option Addr} {osl : Array (Option Value)} {kV doc pm cdv ct : Value} (l : K.lookup f = some ⟨oc, od, .func (PySem.W.fnOf x qual (defArgs st) (defBody st) (defScope st) .none kV doc pm an cdv ct), osl⟩)
    (c : PySem.W.codeIn K cdv qual = true) (k : PySem.W.keepIn K (.ref f) = true) : Fun K x qual st f (PySem.W.fnOf x qual (defArgs st) (defBody st) (defScope st) .none kV doc pm an cdv ct) := ⟨⟨oc, od, kV, doc, pm, an, cdv, ct, osl, rfl, l, c⟩, k⟩
end
theorem hu_of {A : Around} {k : Nat} (hr : Room k A) : A.units + 1 < cLine := Nat.lt_of_le_of_lt (Nat.add_le_add_left (by decide : 1 ≤ 64) _) hr.units
section
variable {X : Cx}
theorem pv (i : Nat) {x : Str} {pos : Pos} (hN : X.N[i]? = some x := by rfl) (hv : Vis X.env.scope x := by first | exact Or.inl rfl | exact Or.inr (Or.inl rfl) | exact Or.inr (Or.inr rfl)) (hd : (x == ("__debug__" : Str)) = false := by decide)
    (hcd : (x == ("__classdict__" : Str)) = false := by decide) : PE X (.Name x pos) (tVar i) := pe_var hN hv hd hcd
end
theorem iteF {A B : Prop} (h : B) : if false = true then A else B := by
  rw [if_neg Bool.false_ne_true]
  exact h
theorem iteT {A B : Prop} (h : A) : if true = true then A else B := by
  rw [if_pos rfl]
  exact h
def Same (H H' : Hp) : Prop := ∀ b o, H b = some o → H' b = some o
theorem Same.refl (H : Hp) : Same H H := fun _ _ h => h
theorem Same.trans {H H1 H2 : Hp} (a : Same H H1) (b : Same H1 H2) : Same H H2 := fun c o h => b c o (a c o h)
theorem Same.free {H H' : Hp} (e : Same H H') {l : Addr} (h : H' l = Option.none) : H l = Option.none := by
  cases q : H l with
  | none => rfl
  | some o =>
    rw [e l o q] at h
    cases h
theorem Same.seq {K : PySem.W.Frag} {H H' : Hp} {a : Addr} {xs : List V} (e : Same H H') (h : SqL K H a xs) : SqL K H' a xs := by
  rcases h with (h | ⟨o, h⟩) | h
  · exact .inl (.inl (e _ _ h))
  · exact .inl (.inr ⟨o, e _ _ h⟩)
  · exact .inr h
section
variable {κ : Type} [DecidableEq κ]
end
theorem at_of {xs : List V} {z : Int} {j : Nat} {v : V} (e : z = (j : Int)) (h : xs[j]? = some v) : atI xs z = some v := by
  rw [e]
  exact atI_nat h
theorem Same.made {H H1 : Hp} {x dx C : Addr} (nx : H x = Option.none) (nd : H dx = Option.none) (k : ∀ b o, (upd (upd H dx (.own x)) x (.ins C dx [])) b = some o → b ≠ x → H1 b = some o) : Same H H1 := fun b o e =>
  k b o (by rw [upd_ne (ne_of_none e nx), upd_ne (ne_of_none e nd)]; exact e) (ne_of_none e nx)
end L2
section
set_option maxHeartbeats 2000000
namespace L2
open PySem PySem.Spec PyProof.Rows
open PySem.W (WData Codec OpenSpec Well WellAll ReadsW ReadsAllW)
mutual
inductive Dw (K : PySem.W.Frag) (H : Hp) : V → WData → Prop
  | non : Dw K H .non .none
  | bl (b : Bool) : Dw K H (.bl b) (.bool b)
  | int (i : Int) : Dw K H (.int i) (.int i)
  | str (x : Str) : Dw K H (.str x) (.str x)
  | byt (b : Array UInt8) : Dw K H (.byt b) (.bytes b.toList)
  | lst {a : Addr} {xs : List V} {ds : List WData} : SqL K H a xs → DwAll K H xs ds → Dw K H (.ref a) (.list ds)
  | tup {a : Addr} {xs : List V} {ds : List WData} : SqT K H a xs → DwAll K H xs ds → Dw K H (.ref a) (.tuple ds)
inductive DwAll (K : PySem.W.Frag) (H : Hp) : List V → List WData → Prop
  | nil : DwAll K H [] []
  | cons {v : V} {vs : List V} {d : WData} {ds : List WData} : Dw K H v d → DwAll K H vs ds → DwAll K H (v :: vs) (d :: ds)
end
theorem dw_ints {K : PySem.W.Frag} {H : Hp} : ∀ ns : List Int, DwAll K H (ns.map V.int) (ns.map WData.int)
  | [] => .nil
  | n :: r => .cons (.int n) (dw_ints r)
theorem ints_dw {K : PySem.W.Frag} {H : Hp} : ∀ (ns : List Int) (xs : List V), DwAll K H xs (ns.map WData.int) → xs = ns.map V.int
  | [], xs, h => by
    cases h
    rfl
  | n :: r, xs, h => by
    cases h with
    | cons h1 h2 =>
      cases h1
      rw [ints_dw r _ h2] <;> rfl
section
variable {P : Program} {w : World} {K : PySem.W.Frag} {H : Hp} {h : Heap} {R : PySem.W.WRecords} {cl : Str → Option Addr}
theorem sqL_at {a : Addr} {xs : List V} (hok : HOk P w H h) (KX : K.In h) (q : SqL K H a xs) : ∃ (its : List Value) (o : Obj) (n : Nat), Vals xs its ∧ h.get? a = some o ∧ o.cls = .type "list" ∧ o.data = .seq its.toArray n := by
  rcases q with q | ⟨o, its, n, e, hc, _, hd, _, hv⟩
  · obtain ⟨_, its, n, hv, e⟩ := (show ObjOk P w H h a (.lst xs) from q.ok hok)
    exact ⟨its, _, n, hv, e, rfl, rfl⟩
  · exact ⟨its.toList, o, n, hv, KX _ _ e, hc, by simp [hd]⟩
theorem sqT_at {a : Addr} {xs : List V} (hok : HOk P w H h) (KX : K.In h) (q : SqT K H a xs) : ∃ (its : List Value) (o : Obj) (n : Nat), Vals xs its ∧ h.get? a = some o ∧ o.cls = .type "tuple" ∧ o.data = .seq its.toArray n := by
  rcases q with q | ⟨o, its, n, e, hc, hd, _, hv⟩
  · obtain ⟨_, its, hv, o, e, hc, n, hd⟩ := (show ObjOk P w H h a (.tup xs) from q.ok hok)
    exact ⟨its, o, n, hv, e, hc, hd⟩
  · exact ⟨its.toList, o, n, hv, KX _ _ e, hc, by simp [hd]⟩
mutual
theorem Dw.reads (hok : HOk P w H h) (KX : K.In h) : ∀ (d : WData) (v : V) (u : Value), Dw K H v d → RelV v u → ∃ as, ReadsW R cl h u d as
  | .none, _, _, x, r => by
    cases x
    cases r
    exact ⟨_, ReadsW.none⟩
  | .bool b, _, _, x, r => by
    cases x
    cases r
    exact ⟨_, ReadsW.bool b⟩
  | .int i, _, _, x, r => by
    cases x
    obtain ⟨t, rfl⟩ := r
    exact ⟨_, ReadsW.int i t⟩
  | .str s, _, _, x, r => by
    cases x
    obtain ⟨t, rfl⟩ := r
    exact ⟨_, ReadsW.str s t⟩
  | .bytes b, _, _, x, r => by
    cases x
    obtain ⟨t, rfl⟩ := r
    exact ⟨_, ReadsW.bytes _ t⟩
  | .list ds, _, _, x, r => by
    cases x with
    | lst hs ha =>
      cases r
      obtain ⟨its, o, n, rv, ho, hc, hd⟩ := sqL_at hok KX hs
      obtain ⟨as, hr⟩ := Dw.readsAll hok KX ds _ its ha rv
      exact ⟨_, ReadsW.list ho hc hd hr⟩
  | .tuple ds, _, _, x, r => by
    cases x with
    | tup hs ha =>
      cases r
      obtain ⟨its, o, n, rv, ho, hc, hd⟩ := sqT_at hok KX hs
      obtain ⟨as, hr⟩ := Dw.readsAll hok KX ds _ its ha rv
      exact ⟨_, ReadsW.tuple ho hc hd hr⟩
  | .float _, _, _, x, _ => by cases x
  | .dict _, _, _, x, _ => by cases x
  | .bytearray _, _, _, x, _ => by cases x
  | .set _, _, _, x, _ => by cases x
  | .frozenset _, _, _, x, _ => by cases x
  | .obj _ _, _, _, x, _ => by cases x
theorem Dw.readsAll (hok : HOk P w H h) (KX : K.In h) : ∀ (ds : List WData) (vs : List V) (us : List Value), DwAll K H vs ds → Vals vs us → ∃ as, ReadsAllW R cl h us ds as
  | [], _, _, x, r => by
    cases x
    cases r
    exact ⟨_, ReadsAllW.nil⟩
  | d :: ds, _, _, x, r => by
    cases x with
    | cons h1 h2 =>
      cases r with
      | cons r1 r2 =>
        obtain ⟨as, q1⟩ := Dw.reads hok KX d _ _ h1 r1
        obtain ⟨bs, q2⟩ := Dw.readsAll hok KX ds _ _ h2 r2
        exact ⟨_, ReadsAllW.cons q1 q2⟩
end
end
mutual
def plW : WData → Bool
  | .none => true
  | .bool _ => true
  | .int _ => true
  | .str _ => true
  | .bytes _ => true
  | .list xs => plWs xs
  | .tuple xs => plWs xs
  | _ => false
def plWs : List WData → Bool
  | [] => true
  | x :: r => plW x && plWs r
end
theorem plWs_map {α : Type} {f : α → WData} (h : ∀ a, plW (f a) = true) : ∀ l : List α, plWs (l.map f) = true
  | [] => rfl
  | x :: r => by
    show (plW (f x) && plWs (r.map f)) = true
    rw [h x, plWs_map h r] <;> rfl
theorem pl_enc : ∀ (c : Codec) (a : c.denote), plW (c.enc a) = true
  | .unit, _ => rfl
  | .bool, _ => rfl
  | .int _ _, _ => rfl
  | .nat _ _, _ => rfl
  | .u8, _ => rfl
  | .bytes _ _, _ => rfl
  | .text _ _ _ _, _ => rfl
  | .list _ _ c, a => plWs_map (fun x => pl_enc c x) a
  | .pair c d, a => by
    show (plW (c.enc a.1) && (plW (d.enc a.2) && true)) = true
    rw [pl_enc c a.1, pl_enc d a.2] <;> rfl
  | .triple c d e, a => by
    show (plW (c.enc a.1) && (plW (d.enc a.2.1) && (plW (e.enc a.2.2) && true))) = true
    rw [pl_enc c a.1, pl_enc d a.2.1, pl_enc e a.2.2] <;> rfl
  | .option c, none => rfl
  | .option c, some x => pl_enc c x
theorem pl_encAll : ∀ (cs : List Codec) (a : Codec.denoteAll cs), plWs (Codec.encAll cs a) = true
  | [], _ => rfl
  | c :: cs, a => by
    show (plW (c.enc a.1) && plWs (Codec.encAll cs a.2)) = true
    rw [pl_enc c a.1, pl_encAll cs a.2] <;> rfl
theorem weight_mem : ∀ {xs : List WData} {d : WData}, d ∈ xs → d.weight ≤ WData.weightAll xs
  | [], d, h => absurd h (by simp)
  | x :: r, d, h => by
    show d.weight ≤ x.weight + 1 + WData.weightAll r
    rcases List.mem_cons.mp h with e | m
    · rw [e]
      omega
    · have z := weight_mem m
      omega
def toV : Value → V
  | .none => .non
  | .bool b => .bl b
  | .int i _ => .int i
  | .str x _ => .str x
  | .bytes b _ => .byt b
  | .ref a => .ref a
  | _ => .non
def OkU (A : List Addr) : Value → Prop
  | .none => True
  | .bool _ => True
  | .int _ _ => True
  | .str _ _ => True
  | .bytes _ _ => True
  | .ref a => a ∈ A
  | _ => False
theorem OkU.mono {A B : List Addr} (h : ∀ a ∈ A, a ∈ B) : ∀ {u : Value}, OkU A u → OkU B u := fun {u} x => by
  cases u with
  | ref a => exact h a x
  | none => trivial
  | bool b => trivial
  | int i t => trivial
  | str s t => trivial
  | bytes b t => trivial
  | _ => exact False.elim x
theorem relV_toV {A : List Addr} {u : Value} (x : OkU A u) : RelV (toV u) u := by
  cases u with
  | ref a => rfl
  | none => rfl
  | bool b => rfl
  | int i t => exact ⟨t, rfl⟩
  | str s t => exact ⟨t, rfl⟩
  | bytes b t => exact ⟨t, rfl⟩
  | _ => exact False.elim x
theorem vals_toV {A : List Addr} : ∀ {vs : List Value}, (∀ u ∈ vs, OkU A u) → Vals (vs.map toV) vs
  | [], _ => .nil
  | u :: r, h => .cons (relV_toV (h u (List.mem_cons_self ..))) (vals_toV fun x hx => h x (List.mem_cons_of_mem _ hx))
def ArgOb (h : Heap) (A : List Addr) (a : Addr) : Prop := ∃ vs : List Value, vs.length ≤ sizeLine ∧ (∀ u ∈ vs, OkU A u) ∧
  (h.get? a = some { cls := .type "list", data := .seq vs.toArray } ∨ h.get? a = some { cls := .type "tuple", data := .seq vs.toArray })
theorem ArgOb.mono {h : Heap} {A B : List Addr} {a : Addr} (k : ∀ a ∈ A, a ∈ B) (x : ArgOb h A a) : ArgOb h B a := by
  obtain ⟨vs, h1, h2, h3⟩ := x
  exact ⟨vs, h1, fun u hu => (h2 u hu).mono k, h3⟩
theorem wellAll_len {P : Params} {h : Heap} : ∀ {vs : List Value} {ds : List WData}, WellAll P h vs ds → vs.length = ds.length
  | _, _, .nil => rfl
  | _, _, .cons _ b => by
    show _ + 1 = _ + 1
    rw [wellAll_len b]
theorem well_list {P : Params} {h : Heap} {v : Value} {ds : List WData} (x : Well P h v (.list ds)) : ∃ (a : Addr) (vs : List Value), v = .ref a ∧ h.get? a = some { cls := .type "list", data := .seq vs.toArray } ∧ WellAll P h vs ds := by
  cases x with
  | list ho hall => exact ⟨_, _, rfl, ho, hall⟩
theorem well_tuple {P : Params} {h : Heap} {v : Value} {ds : List WData} (x : Well P h v (.tuple ds)) : ∃ (a : Addr) (vs : List Value), v = .ref a ∧ h.get? a = some { cls := .type "tuple", data := .seq vs.toArray } ∧ WellAll P h vs ds := by
  cases x with
  | tuple ho hall => exact ⟨_, _, rfl, ho, hall⟩
theorem well_cons {P : Params} {h : Heap} {us : List Value} {d : WData} {ds : List WData} (x : WellAll P h us (d :: ds)) : ∃ (v : Value) (vs : List Value), us = v :: vs ∧ Well P h v d ∧ WellAll P h vs ds := by
  cases x with
  | cons a b => exact ⟨_, _, rfl, a, b⟩
theorem line_of {n : Nat} (h : n ≤ 1048576) : n ≤ sizeLine := Nat.le_trans h (by decide)
section
variable {P : Params} {h : Heap}
mutual
theorem area_one : ∀ (d : WData) (v : Value), Well P h v d → plW d = true → d.weight ≤ 1048576 → ∃ A : List Addr, OkU A v ∧ ∀ a ∈ A, ArgOb h A a
  | .none, _, x, _, _ => by
    cases x
    exact ⟨[], trivial, fun a m => absurd m (by simp)⟩
  | .bool b, _, x, _, _ => by
    cases x
    exact ⟨[], trivial, fun a m => absurd m (by simp)⟩
  | .int i, _, x, _, _ => by
    cases x
    exact ⟨[], trivial, fun a m => absurd m (by simp)⟩
  | .str s, _, x, _, _ => by
    cases x
    exact ⟨[], trivial, fun a m => absurd m (by simp)⟩
  | .bytes b, _, x, _, _ => by
    cases x
    exact ⟨[], trivial, fun a m => absurd m (by simp)⟩
  | .list ds, _, x, p, z => by
    obtain ⟨a, vs, rfl, ho, hall⟩ := well_list x
    have z2 : WData.weightAll ds ≤ 1048576 := z
    obtain ⟨A, h1, h2⟩ := area_all ds _ hall p fun d hd => Nat.le_trans (weight_mem hd) z2
    have k : ∀ b ∈ A, b ∈ a :: A := fun b hb => List.mem_cons_of_mem _ hb
    refine ⟨a :: A, List.mem_cons_self .., fun b hb => ?_⟩
    rcases List.mem_cons.mp hb with e | m
    · rw [e]
      exact ⟨vs, line_of (by rw [wellAll_len hall]; exact Nat.le_trans (PySem.W.length_le_weightAllW ds) z2), fun u hu => (h1 u hu).mono k, .inl ho⟩
    · exact (h2 b m).mono k
  | .tuple ds, _, x, p, z => by
    obtain ⟨a, vs, rfl, ho, hall⟩ := well_tuple x
    have z2 : WData.weightAll ds ≤ 1048576 := z
    obtain ⟨A, h1, h2⟩ := area_all ds _ hall p fun d hd => Nat.le_trans (weight_mem hd) z2
    have k : ∀ b ∈ A, b ∈ a :: A := fun b hb => List.mem_cons_of_mem _ hb
    refine ⟨a :: A, List.mem_cons_self .., fun b hb => ?_⟩
    rcases List.mem_cons.mp hb with e | m
    · rw [e]
      exact ⟨vs, line_of (by rw [wellAll_len hall]; exact Nat.le_trans (PySem.W.length_le_weightAllW ds) z2), fun u hu => (h1 u hu).mono k, .inr ho⟩
    · exact (h2 b m).mono k
  | .float _, _, _, p, _ => Bool.noConfusion (show false = true from p)
  | .dict _, _, _, p, _ => Bool.noConfusion (show false = true from p)
  | .bytearray _, _, _, p, _ => Bool.noConfusion (show false = true from p)
  | .set _, _, _, p, _ => Bool.noConfusion (show false = true from p)
  | .frozenset _, _, _, p, _ => Bool.noConfusion (show false = true from p)
  | .obj _ _, _, _, p, _ => Bool.noConfusion (show false = true from p)
theorem area_all : ∀ (ds : List WData) (vs : List Value), WellAll P h vs ds → plWs ds = true → (∀ d ∈ ds, d.weight ≤ 1048576) → ∃ A : List Addr, (∀ u ∈ vs, OkU A u) ∧ ∀ a ∈ A, ArgOb h A a
  | [], _, x, _, _ => by
    cases x
    exact ⟨[], fun u m => absurd m (by simp), fun a m => absurd m (by simp)⟩
  | d :: ds, _, x, p, z => by
    obtain ⟨v, vs, rfl, x1, x2⟩ := well_cons x
    have q : plW d = true ∧ plWs ds = true := Bool.and_eq_true_iff.mp p
    obtain ⟨A, a1, a2⟩ := area_one d v x1 q.1 (z d (List.mem_cons_self ..))
    obtain ⟨B, b1, b2⟩ := area_all ds vs x2 q.2 fun e he => z e (List.mem_cons_of_mem _ he)
    have kA : ∀ b ∈ A, b ∈ A ++ B := fun b hb => List.mem_append.mpr (.inl hb)
    have kB : ∀ b ∈ B, b ∈ A ++ B := fun b hb => List.mem_append.mpr (.inr hb)
    refine ⟨A ++ B, fun u hu => ?_, fun b hb => ?_⟩
    · rcases List.mem_cons.mp hu with e | m
      · rw [e]
        exact a1.mono kA
      · exact (b1 u m).mono kB
    · rcases List.mem_append.mp hb with m | m
      · exact (a2 b m).mono kA
      · exact (b2 b m).mono kB
end
end
def hoOf (o : Obj) : Option HO := match o.data with
  | .seq vs _ => if (o.cls == Value.type "list") = true then some (.frz o (.lst (vs.toList.map toV))) else some (.frz o (.tup (vs.toList.map toV)))
  | _ => none
def argH (K : PySem.W.Frag) (h : Heap) (A : List Addr) : Hp := fun b => if b ∈ A then (if (K.lookup b).isNone = true then (h.get? b).bind hoOf else none) else none
def OnlyF (H : Hp) : Prop := ∀ b, H b = none ∨ ∃ o u, H b = some (.frz o u)
theorem hoOf_lst (vs : List Value) : hoOf { cls := .type "list", data := .seq vs.toArray } = some (.frz { cls := .type "list", data := .seq vs.toArray } (.lst (vs.map toV))) := by
  show (if (Value.type "list" == Value.type "list") = true then some (HO.frz { cls := .type "list", data := .seq vs.toArray } (.lst (vs.toArray.toList.map toV))) else some (HO.frz { cls := .type "list", data := .seq vs.toArray } (.tup (vs.toArray.toList.map toV)))) = _
  rw [if_pos (beq_self_eq_true _)]
theorem hoOf_tup (vs : List Value) : hoOf { cls := .type "tuple", data := .seq vs.toArray } = some (.frz { cls := .type "tuple", data := .seq vs.toArray } (.tup (vs.map toV))) := by
  show (if (Value.type "tuple" == Value.type "list") = true then some (HO.frz { cls := .type "tuple", data := .seq vs.toArray } (.lst (vs.toArray.toList.map toV))) else some (HO.frz { cls := .type "tuple", data := .seq vs.toArray } (.tup (vs.toArray.toList.map toV)))) = _
  rw [if_neg (by decide)]
section
variable {P : Program} {w : World} {K : PySem.W.Frag} {h : Heap} {A : List Addr}
theorem argH_at {b : Addr} {o : Obj} (hb : b ∈ A) (hk : K.lookup b = none) (e : h.get? b = some o) : argH K h A b = hoOf o := by
  unfold argH
  rw [if_pos hb, hk, if_pos (show (none : Option Obj).isNone = true from rfl), e] <;> rfl
theorem of_argH {b : Addr} {u : HO} (q : argH K h A b = some u) : b ∈ A ∧ K.lookup b = none := by
  unfold argH at q
  by_cases hb : b ∈ A
  · rw [if_pos hb] at q
    cases hk : K.lookup b with
    | none => exact ⟨hb, rfl⟩
    | some o =>
      rw [hk, if_neg (by simp)] at q
      cases q
  · rw [if_neg hb] at q
    cases q
theorem argH_is (ar : ∀ a ∈ A, ArgOb h A a) {b : Addr} {u : HO} (q : argH K h A b = some u) : K.lookup b = none ∧ ∃ vs : List Value, vs.length ≤ sizeLine ∧ (∀ u ∈ vs, OkU A u) ∧
    ((h.get? b = some { cls := .type "list", data := .seq vs.toArray } ∧ u = .frz { cls := .type "list", data := .seq vs.toArray } (.lst (vs.map toV))) ∨
     (h.get? b = some { cls := .type "tuple", data := .seq vs.toArray } ∧ u = .frz { cls := .type "tuple", data := .seq vs.toArray } (.tup (vs.map toV)))) := by
  obtain ⟨hb, hk⟩ := of_argH q
  obtain ⟨vs, h1, h2, h3⟩ := ar b hb
  refine ⟨hk, vs, h1, h2, ?_⟩
  rcases h3 with e | e
  · rw [argH_at hb hk e, hoOf_lst] at q
    exact .inl ⟨e, (Option.some.inj q).symm⟩
  · rw [argH_at hb hk e, hoOf_tup] at q
    exact .inr ⟨e, (Option.some.inj q).symm⟩
theorem argH_only (ar : ∀ a ∈ A, ArgOb h A a) : OnlyF (argH K h A) := fun b => by
  cases q : argH K h A b with
  | none => exact .inl rfl
  | some u =>
    obtain ⟨_, vs, _, _, ⟨_, e⟩ | ⟨_, e⟩⟩ := argH_is ar q
    · exact .inr ⟨_, _, by rw [e]⟩
    · exact .inr ⟨_, _, by rw [e]⟩
theorem argH_ok (ar : ∀ a ∈ A, ArgOb h A a) : HOk P w (argH K h A) h := fun b u q => by
  obtain ⟨_, vs, h1, h2, ⟨e, rfl⟩ | ⟨e, rfl⟩⟩ := argH_is ar q
  · exact ⟨e, by rw [List.length_map]; exact h1, vs, _, vals_toV h2, e⟩
  · exact ⟨e, by rw [List.length_map]; exact h1, vs, vals_toV h2, _, e, rfl, _, rfl⟩
theorem seq_inj {c c' : Value} {vs us : List Value} (e : (some { cls := c, data := .seq vs.toArray } : Option Obj) = some { cls := c', data := .seq us.toArray }) : c = c' ∧ vs = us := by
  have e1 := Option.some.inj e
  have e2 : c = c' := congrArg Obj.cls e1
  have e3 : Data.seq vs.toArray = Data.seq us.toArray := congrArg Obj.data e1
  injection e3 with e4
  refine ⟨e2, ?_⟩
  have e5 := congrArg Array.toList e4
  simpa using e5
theorem argL (KX : K.In h) (ar : ∀ a ∈ A, ArgOb h A a) {a : Addr} {vs : List Value} (ha : a ∈ A) (e : h.get? a = some { cls := .type "list", data := .seq vs.toArray }) : (∀ u ∈ vs, OkU A u) ∧ SqL K (argH K h A) a (vs.map toV) := by
  obtain ⟨us, h1, h2, h3⟩ := ar a ha
  have hu : us = vs := by
    rcases h3 with q | q
    · rw [e] at q
      exact (seq_inj q).2.symm
    · rw [e] at q
      exact absurd (Value.type.inj (seq_inj q).1) (by decide)
  subst hu
  refine ⟨h2, ?_⟩
  cases hk : K.lookup a with
  | none => exact .inl (.inr ⟨_, by rw [argH_at ha hk e, hoOf_lst]⟩)
  | some o =>
    have e2 := KX a o hk
    rw [e] at e2
    obtain rfl := Option.some.inj e2
    exact .inr ⟨_, us.toArray, _, hk, rfl, rfl, rfl, by rw [List.size_toArray]; exact h1, by simpa using vals_toV h2⟩
theorem argT (KX : K.In h) (ar : ∀ a ∈ A, ArgOb h A a) {a : Addr} {vs : List Value} (ha : a ∈ A) (e : h.get? a = some { cls := .type "tuple", data := .seq vs.toArray }) : (∀ u ∈ vs, OkU A u) ∧ SqT K (argH K h A) a (vs.map toV) := by
  obtain ⟨us, h1, h2, h3⟩ := ar a ha
  have hu : us = vs := by
    rcases h3 with q | q
    · rw [e] at q
      exact absurd (Value.type.inj (seq_inj q).1) (by decide)
    · rw [e] at q
      exact (seq_inj q).2.symm
  subst hu
  refine ⟨h2, ?_⟩
  cases hk : K.lookup a with
  | none => exact .inl (.inr ⟨_, by rw [argH_at ha hk e, hoOf_tup]⟩)
  | some o =>
    have e2 := KX a o hk
    rw [e] at e2
    obtain rfl := Option.some.inj e2
    exact .inr ⟨_, us.toArray, _, hk, rfl, rfl, by rw [List.size_toArray]; exact h1, by simpa using vals_toV h2⟩
mutual
theorem dw_one {Pm : Params} (KX : K.In h) (ar : ∀ a ∈ A, ArgOb h A a) : ∀ (d : WData) (v : Value), Well Pm h v d → plW d = true → OkU A v → Dw K (argH K h A) (toV v) d
  | .none, _, x, _, _ => by
    cases x
    exact .non
  | .bool b, _, x, _, _ => by
    cases x
    exact .bl b
  | .int i, _, x, _, _ => by
    cases x
    exact .int i
  | .str s, _, x, _, _ => by
    cases x
    exact .str s
  | .bytes b, _, x, _, _ => by
    cases x
    have z := Dw.byt (K := K) (H := argH K h A) b.toArray
    exact z
  | .list ds, _, x, p, hu => by
    obtain ⟨a, vs, rfl, ho, hall⟩ := well_list x
    obtain ⟨h2, hs⟩ := argL KX ar hu ho
    exact .lst hs (dw_all KX ar ds _ hall p h2)
  | .tuple ds, _, x, p, hu => by
    obtain ⟨a, vs, rfl, ho, hall⟩ := well_tuple x
    obtain ⟨h2, hs⟩ := argT KX ar hu ho
    exact .tup hs (dw_all KX ar ds _ hall p h2)
  | .float _, _, _, p, _ => Bool.noConfusion (show false = true from p)
  | .dict _, _, _, p, _ => Bool.noConfusion (show false = true from p)
  | .bytearray _, _, _, p, _ => Bool.noConfusion (show false = true from p)
  | .set _, _, _, p, _ => Bool.noConfusion (show false = true from p)
  | .frozenset _, _, _, p, _ => Bool.noConfusion (show false = true from p)
  | .obj _ _, _, _, p, _ => Bool.noConfusion (show false = true from p)
theorem dw_all {Pm : Params} (KX : K.In h) (ar : ∀ a ∈ A, ArgOb h A a) : ∀ (ds : List WData) (vs : List Value), WellAll Pm h vs ds → plWs ds = true → (∀ u ∈ vs, OkU A u) → DwAll K (argH K h A) (vs.map toV) ds
  | [], _, x, _, _ => by
    cases x
    exact .nil
  | d :: ds, _, x, p, hu => by
    obtain ⟨v, vs, rfl, x1, x2⟩ := well_cons x
    have q : plW d = true ∧ plWs ds = true := Bool.and_eq_true_iff.mp p
    exact .cons (dw_one KX ar d v x1 q.1 (hu _ (List.mem_cons_self ..))) (dw_all KX ar ds vs x2 q.2 fun u m => hu u (List.mem_cons_of_mem _ m))
end
end
theorem layable_weight {ds : List WData} (h : WData.layableAll ds = true) : ∀ d ∈ ds, d.weight ≤ 1048576 := fun d hd =>
  (PySem.W.layableW_iff.mp (List.all_eq_true.mp h d hd)).2.2
theorem encAll_len : ∀ (cs : List Codec) (a : Codec.denoteAll cs), (Codec.encAll cs a).length = cs.length
  | [], _ => rfl
  | c :: cs, a => by
    show (Codec.encAll cs a.2).length + 1 = cs.length + 1
    rw [encAll_len cs a.2]
end L2
end
namespace My
open Vawctg
def linesFit (ls : List Int) : Bool := ls.all (fun x => decide (0 ≤ x) && decide (x ≤ 31)) && decide ls.Nodup
def readLines (ns : List Int) (a : Nat) : Option (List Int) := match ns[a]? with
  | none => none
  | some c => if 0 ≤ c ∧ c ≤ (ns.length : Int) - a - 1 then
      (if linesFit ((ns.drop (a + 1)).take c.toNat) then some ((ns.drop (a + 1)).take c.toNat) else none) else none
def timesFit (ts : List Int) : Bool := match ts with
  | [p, d, c, o] => decide (1 ≤ p ∧ p ≤ 500 ∧ 1 ≤ d ∧ d ≤ p ∧ 1 ≤ c ∧ c ≤ d ∧ 0 ≤ o ∧ o ≤ 500)
  | _ => false
structure PT where
  times : List Int
  useful : List Int
  used : List Int
def readTaskP (ns : List Int) : Option PT :=
  if timesFit (ns.take 4) then match readLines ns 4 with
    | none => none
    | some u => match readLines ns (5 + u.length) with
      | none => none
      | some v => if 5 + u.length + 1 + v.length = ns.length then some ⟨ns.take 4, u, v⟩ else none
  else none
def taskOf (t : PT) : Task := ⟨(t.times.getD 0 0).toNat, (t.times.getD 1 0).toNat, (t.times.getD 2 0).toNat, (t.times.getD 3 0).toNat, toNats t.useful, toNats t.used⟩
theorem unlike_iff : ∀ l : List Nat, unlike l = true ↔ l.Nodup
  | [] => by simp [unlike]
  | a :: r => by
    rw [unlike, Bool.and_eq_true, unlike_iff r, List.nodup_cons]
    simp
theorem nodup_toNats : ∀ {l : List Int}, (∀ x ∈ l, 0 ≤ x) → ((toNats l).Nodup ↔ l.Nodup)
  | [], _ => by simp [toNats]
  | a :: r, h => by
    have ha := h a List.mem_cons_self
    have hr : ∀ x ∈ r, 0 ≤ x := fun x hx => h x (List.mem_cons_of_mem _ hx)
    have ih := nodup_toNats hr
    unfold toNats at ih ⊢
    rw [List.map_cons, List.nodup_cons, List.nodup_cons, ih]
    refine and_congr_left fun _ => not_congr ?_
    rw [List.mem_map]
    constructor
    · rintro ⟨y, hy, e⟩
      have := hr y hy
      have : y = a := by omega
      subst this; exact hy
    · intro hm; exact ⟨a, hm, rfl⟩
theorem toNats_length (l : List Int) : (toNats l).length = l.length := by simp [toNats]
theorem all_lines : ∀ {l : List Int}, (∀ x ∈ l, 0 ≤ x) → ((toNats l).all (fun x => decide (x < LINES)) = l.all (fun x => decide (0 ≤ x) && decide (x ≤ 31)))
  | [], _ => rfl
  | a :: r, h => by
    have ha := h a List.mem_cons_self
    have ih := all_lines (l := r) fun x hx => h x (List.mem_cons_of_mem _ hx)
    unfold toNats at ih ⊢
    rw [List.map_cons, List.all_cons, List.all_cons, ih]
    congr 1
    rw [Bool.eq_iff_iff]
    simp [LINES]
    omega
theorem linesFit_spec {l : List Int} (h : ∀ x ∈ l, 0 ≤ x) : linesFit l = (unlike (toNats l) && (toNats l).all (fun x => decide (x < LINES))) := by
  unfold linesFit
  rw [all_lines h, Bool.and_comm]
  congr 1
  rw [Bool.eq_iff_iff, unlike_iff, nodup_toNats h]
  simp
theorem linesFit_nn {l : List Int} (h : linesFit l = true) : ∀ x ∈ l, 0 ≤ x := fun x hx => by
  unfold linesFit at h
  rw [Bool.and_eq_true, List.all_eq_true] at h
  have := h.1 x hx
  simp at this
  exact this.1
theorem timesFit_iff {ts : List Int} : timesFit ts = true ↔ ∃ p d c o, ts = [p, d, c, o] ∧ 1 ≤ p ∧ p ≤ 500 ∧ 1 ≤ d ∧ d ≤ p ∧ 1 ≤ c ∧ c ≤ d ∧ 0 ≤ o ∧ o ≤ 500 := by
  constructor
  · intro h
    match ts, h with
    | [p, d, c, o], h =>
      have := of_decide_eq_true (show decide _ = true from h)
      exact ⟨p, d, c, o, rfl, this⟩
  · rintro ⟨p, d, c, o, rfl, h⟩
    exact decide_eq_true h
theorem any_neg_false {l : List Int} (h : ∀ x ∈ l, 0 ≤ x) : l.any (fun n => decide (n < 0)) = false := by
  rw [List.any_eq_false]
  intro x hx
  have := h x hx
  simp; omega
theorem readTask_some {ns : List Int} {t : PT} (h : readTaskP ns = some t) : reading ns = some (taskOf t) := by
  unfold readTaskP at h
  split at h
  · rename_i ht
    obtain ⟨p, d, c, o, e4, b1, b2, b3, b4, b5, b6, b7, b8⟩ := timesFit_iff.mp ht
    match ns, e4 with
    | q0 :: q1 :: q2 :: q3 :: rest, e4 =>
      simp only [List.take_succ_cons, List.take_zero, List.cons.injEq, and_true] at e4
      obtain ⟨rfl, rfl, rfl, rfl⟩ := e4
      cases hu : readLines (q0 :: q1 :: q2 :: q3 :: rest) 4 with
      | none => rw [hu] at h; cases h
      | some u =>
        rw [hu] at h
        simp only at h
        cases hv : readLines (q0 :: q1 :: q2 :: q3 :: rest) (5 + u.length) with
        | none => rw [hv] at h; cases h
        | some v =>
          rw [hv] at h
          simp only at h
          split at h
          · rename_i hl
            cases h
            match rest, hu with
            | [], hu => simp [readLines] at hu
            | n :: r, hu =>
              unfold readLines at hu
              simp only [List.getElem?_cons_succ, List.getElem?_cons_zero, List.drop_succ_cons, List.drop_zero, List.length_cons] at hu
              split at hu
              · rename_i hn
                split at hu
                · rename_i hf
                  have eu : r.take n.toNat = u := Option.some.inj hu
                  have lu : u.length = n.toNat := by rw [← eu, List.length_take]; omega
                  unfold readLines at hv
                  have e5 : 5 + u.length = n.toNat + 5 := by omega
                  rw [e5] at hv
                  simp only [List.getElem?_cons_succ, List.drop_succ_cons, List.length_cons] at hv
                  cases hm : r[n.toNat]? with
                  | none => rw [hm] at hv; cases hv
                  | some m =>
                    rw [hm] at hv
                    simp only at hv
                    split at hv
                    · rename_i hmb
                      split at hv
                      · rename_i hf2
                        have ev : (r.drop (n.toNat + 1)).take m.toNat = v := Option.some.inj hv
                        have hlt : n.toNat < r.length := (List.getElem?_eq_some_iff.mp hm).1
                        have ed : r.drop n.toNat = m :: r.drop (n.toNat + 1) := by
                          rw [List.drop_eq_getElem_cons hlt]
                          congr 1
                          exact (List.getElem?_eq_some_iff.mp hm).2
                        have lv : v.length = m.toNat := by rw [← ev, List.length_take, List.length_drop]; omega
                        simp only [List.length_cons] at hl
                        have lr : (r.drop (n.toNat + 1)).length = m.toNat := by rw [List.length_drop]; omega
                        have ev2 : r.drop (n.toNat + 1) = v := by
                          rw [← ev, List.take_of_length_le (by omega)]
                        rw [ev2] at ed
                        have er : r = u ++ m :: v := by rw [← eu, ← ed, List.take_append_drop]
                        have nu := linesFit_nn hf
                        have nv := linesFit_nn hf2
                        rw [eu] at nu hf
                        rw [ev] at nv hf2
                        have nn : ∀ x ∈ q0 :: q1 :: q2 :: q3 :: n :: r, 0 ≤ x := by
                          intro x hx
                          simp only [List.mem_cons] at hx
                          rcases hx with rfl | rfl | rfl | rfl | rfl | hx
                          · omega
                          · omega
                          · omega
                          · omega
                          · omega
                          · rw [er, List.mem_append, List.mem_cons] at hx
                            rcases hx with hx | rfl | hx
                            · exact nu x hx
                            · omega
                            · exact nv x hx
                        unfold reading
                        rw [any_neg_false nn]
                        simp only [Bool.false_eq_true, if_false]
                        have et : toNats (q0 :: q1 :: q2 :: q3 :: n :: r) = q0.toNat :: q1.toNat :: q2.toNat :: q3.toNat :: n.toNat :: (toNats u ++ m.toNat :: toNats v) := by
                          rw [er]; simp [toNats]
                        rw [et]
                        unfold readTask
                        have etk : (toNats u ++ m.toNat :: toNats v).take n.toNat = toNats u := by
                          rw [List.take_append_of_le_length (by rw [toNats_length]; omega), List.take_of_length_le (by rw [toNats_length]; omega)]
                        have edr : (toNats u ++ m.toNat :: toNats v).drop n.toNat = m.toNat :: toNats v := by
                          rw [List.drop_append_of_le_length (by rw [toNats_length]; omega), List.drop_of_length_le (by rw [toNats_length]; omega), List.nil_append]
                        simp only [etk, edr]
                        rw [if_pos]
                        · rfl
                        · rw [linesFit_spec nu, Bool.and_eq_true] at hf
                          rw [linesFit_spec nv, Bool.and_eq_true] at hf2
                          simp only [goodTask, Bool.and_eq_true, decide_eq_true_eq, beq_iff_eq, toNats_length, hf.1, hf2.1, hf.2, hf2.2, PERIOD]
                          refine ⟨⟨lu, lv⟩, ?_⟩
                          and_intros <;> first | omega | trivial | (refine decide_eq_true ?_; omega)
                      · cases hv
                    · cases hv
                · cases hu
              · cases hu
          · cases h
    | [], e4 => simp at e4
    | [_], e4 => simp at e4
    | [_, _], e4 => simp at e4
    | [_, _, _], e4 => simp at e4
  · cases h
theorem nn_of_any {l : List Int} (h : l.any (fun n => decide (n < 0)) = false) : ∀ x ∈ l, 0 ≤ x := fun x hx => by
  rw [List.any_eq_false] at h
  have := h x hx
  simp at this; exact this
theorem readTask_none {ns : List Int} (h : readTaskP ns = none) : reading ns = none := by
  cases hr : reading ns with
  | none => rfl
  | some t =>
    exfalso
    unfold reading at hr
    cases ha : ns.any (fun n => decide (n < 0)) with
    | true => rw [ha] at hr; simp at hr
    | false =>
      rw [ha] at hr
      simp only [Bool.false_eq_true, if_false] at hr
      have nn := nn_of_any ha
      match ns, hr, h, nn with
      | [], hr, _, _ => simp [toNats, readTask] at hr
      | [_], hr, _, _ => simp [toNats, readTask] at hr
      | [_, _], hr, _, _ => simp [toNats, readTask] at hr
      | [_, _, _], hr, _, _ => simp [toNats, readTask] at hr
      | [_, _, _, _], hr, _, _ => simp [toNats, readTask] at hr
      | p :: d :: c :: o :: n :: r, hr, h, nn =>
        have hp := nn p (by simp)
        have hd := nn d (by simp)
        have hc := nn c (by simp)
        have ho := nn o (by simp)
        have hn := nn n (by simp)
        have hrr : ∀ x ∈ r, 0 ≤ x := fun x hx => nn x (by simp [hx])
        have et : toNats (p :: d :: c :: o :: n :: r) = p.toNat :: d.toNat :: c.toNat :: o.toNat :: n.toNat :: toNats r := rfl
        rw [et] at hr
        unfold readTask at hr
        simp only at hr
        have ed : (toNats r).drop n.toNat = toNats (r.drop n.toNat) := by simp [toNats, List.map_drop]
        have ek : (toNats r).take n.toNat = toNats (r.take n.toNat) := by simp [toNats, List.map_take]
        rw [ed, ek] at hr
        cases hq : r.drop n.toNat with
        | nil => rw [hq] at hr; simp [toNats] at hr
        | cons m q =>
          rw [hq] at hr
          have et2 : toNats (m :: q) = m.toNat :: toNats q := rfl
          rw [et2] at hr
          simp only at hr
          split at hr
          · rename_i hg
            simp only [goodTask, Bool.and_eq_true, decide_eq_true_eq, beq_iff_eq, toNats_length, PERIOD] at hg
            obtain ⟨⟨hlu, hlq⟩, ⟨⟨⟨⟨⟨⟨⟨g1, g2⟩, g3⟩, g4⟩, g5⟩, g6⟩, g7⟩, g8⟩, g9⟩ := hg
            have g4' : p.toNat ≤ 500 := by simpa using g4
            have g5' : o.toNat ≤ 500 := by simpa using g5
            have er : r = r.take n.toNat ++ m :: q := by rw [← hq, List.take_append_drop]
            have hm : 0 ≤ m := hrr m (by rw [er]; simp)
            have nu : ∀ x ∈ r.take n.toNat, 0 ≤ x := fun x hx => hrr x (List.mem_of_mem_take hx)
            have nq : ∀ x ∈ q, 0 ≤ x := fun x hx => hrr x (by rw [er]; simp [hx])
            have f1 : linesFit (r.take n.toNat) = true := by rw [linesFit_spec nu, g6, g8]; rfl
            have f2 : linesFit q = true := by rw [linesFit_spec nq, g7, g9]; rfl
            have lr : r.length = n.toNat + 1 + m.toNat := by
              have := congrArg List.length er
              rw [List.length_append, List.length_cons, hlu, hlq] at this
              omega
            have hm2 : r[n.toNat]? = some m := by
              have e : (r.drop n.toNat)[0]? = some m := by rw [hq]; rfl
              rw [List.getElem?_drop] at e
              simpa using e
            have eq2 : r.drop (n.toNat + 1) = q := by
              rw [← List.drop_drop, hq]; rfl
            unfold readTaskP at h
            have ht : timesFit ((p :: d :: c :: o :: n :: r).take 4) = true := by
              refine timesFit_iff.mpr ⟨p, d, c, o, rfl, ?_⟩
              omega
            have hu : readLines (p :: d :: c :: o :: n :: r) 4 = some (r.take n.toNat) := by
              unfold readLines
              simp only [List.getElem?_cons_succ, List.getElem?_cons_zero, List.drop_succ_cons, List.drop_zero, List.length_cons]
              rw [if_pos (by omega), f1]
              rfl
            have hv : readLines (p :: d :: c :: o :: n :: r) (5 + (r.take n.toNat).length) = some q := by
              unfold readLines
              have e5 : 5 + (r.take n.toNat).length = n.toNat + 5 := by omega
              rw [e5]
              simp only [List.getElem?_cons_succ, List.drop_succ_cons, List.length_cons]
              rw [hm2]
              simp only
              rw [if_pos (by omega), eq2, List.take_of_length_le (by omega), f2]
              rfl
            rw [ht, hu] at h
            simp only [if_true] at h
            rw [hv] at h
            simp only at h
            rw [if_pos (by simp only [List.length_cons]; omega)] at h
            cases h
          · cases hr
theorem reading_eq (ns : List Int) : reading ns = (readTaskP ns).map taskOf := by
  cases h : readTaskP ns with
  | none => exact readTask_none h
  | some t => exact readTask_some h
theorem readLines_some {ns : List Int} {a : Nat} {ls : List Int} (h : readLines ns a = some ls) : linesFit ls = true := by
  unfold readLines at h
  split at h
  · cases h
  · split at h
    · split at h
      · rename_i hf
        cases h; exact hf
      · cases h
    · cases h
theorem readLines_nn {ns : List Int} {a : Nat} {ls : List Int} (h : readLines ns a = some ls) : ∀ x ∈ ls, 0 ≤ x := linesFit_nn (readLines_some h)
theorem four {α : Type} {l : List α} (h : l.length = 4) : ∃ p d c o, l = [p, d, c, o] := by
  match l, h with
  | [p, d, c, o], _ => exact ⟨p, d, c, o, rfl⟩
theorem timesFit_len {ns : List Int} (h : ¬ ns.length = 4) : timesFit ns = false := by
  match ns, h with
  | [], _ => rfl
  | [_], _ => rfl
  | [_, _], _ => rfl
  | [_, _, _], _ => rfl
  | [_, _, _, _], h => exact absurd rfl h
  | _ :: _ :: _ :: _ :: _ :: _, _ => rfl
theorem take_snoc {α : Type} {l : List α} {i : Nat} {x : α} (h : l[i]? = some x) : l.take (i + 1) = l.take i ++ [x] := by
  rw [List.take_add_one, h]; rfl
end My
namespace My
open Vawctg
theorem nodup_le : ∀ (n : Nat) (l : List Nat), l.Nodup → (∀ x ∈ l, x < n) → l.length ≤ n
  | 0, l, _, h => by
    cases l with
    | nil => simp
    | cons a r => exact absurd (h a List.mem_cons_self) (by omega)
  | n + 1, l, hn, h => by
    by_cases hm : n ∈ l
    · have hp : l.Perm (n :: l.erase n) := List.perm_cons_erase hm
      have hn' : (n :: l.erase n).Nodup := hp.nodup_iff.mp hn
      rw [List.nodup_cons] at hn'
      have := nodup_le n (l.erase n) hn'.2 fun x hx => by
        have h1 := h x (List.mem_of_mem_erase hx)
        have h2 : x ≠ n := fun e => hn'.1 (e ▸ hx)
        omega
      have hl := hp.length_eq
      rw [List.length_cons] at hl
      omega
    · have := nodup_le n l hn fun x hx => by
        have h1 := h x hx
        have h2 : x ≠ n := fun e => hm (e ▸ hx)
        omega
      omega
theorem perm_range : ∀ (n : Nat) (l : List Nat), l.Nodup → l.length = n → (∀ x ∈ l, x < n) → l.Perm (List.range n)
  | 0, l, _, hl, _ => by
    have : l = [] := List.length_eq_zero_iff.mp hl
    subst this; exact List.Perm.refl _
  | n + 1, l, hn, hl, h => by
    by_cases hm : n ∈ l
    · have hp : l.Perm (n :: l.erase n) := List.perm_cons_erase hm
      have hn' : (n :: l.erase n).Nodup := hp.nodup_iff.mp hn
      rw [List.nodup_cons] at hn'
      have hle := hp.length_eq
      rw [List.length_cons] at hle
      have ih := perm_range n (l.erase n) hn'.2 (by omega) fun x hx => by
        have h1 := h x (List.mem_of_mem_erase hx)
        have h2 : x ≠ n := fun e => hn'.1 (e ▸ hx)
        omega
      rw [List.range_succ]
      exact hp.trans ((ih.cons n).trans (List.perm_append_comm (l₁ := [n])))
    · have := nodup_le n l hn fun x hx => by
        have h1 := h x hx
        have h2 : x ≠ n := fun e => hm (e ▸ hx)
        omega
      omega
theorem perm_range_iff {l : List Nat} {n : Nat} : l.Perm (List.range n) ↔ l.Nodup ∧ l.length = n ∧ ∀ x ∈ l, x < n := by
  constructor
  · intro h
    refine ⟨h.nodup_iff.mpr List.nodup_range, by simpa using h.length_eq, fun x hx => ?_⟩
    simpa using h.mem_iff.mp hx
  · rintro ⟨h1, h2, h3⟩
    exact perm_range n l h1 h2 h3
theorem isOrder_iff {s : State} {l : List Nat} : isOrder s l = true ↔ l.Perm (List.range s.tasks.length) := by
  rw [perm_range_iff]
  unfold isOrder
  rw [Bool.and_eq_true, Bool.and_eq_true, unlike_iff, List.all_eq_true]
  simp only [beq_iff_eq, decide_eq_true_eq]
  constructor
  · rintro ⟨⟨a, b⟩, c⟩; exact ⟨b, a, c⟩
  · rintro ⟨b, a, c⟩; exact ⟨⟨a, b⟩, c⟩
structure WF (s : State) : Prop where
  n6 : s.tasks.length ≤ 6
  good : ∀ t ∈ s.tasks, goodTask t = true
  ord : s.order.Perm (List.range s.tasks.length)
  rel : s.reload ≤ 20
theorem WF.start : WF Vawctg.start := ⟨by decide, by simp [Vawctg.start], by simp [Vawctg.start], by decide⟩
theorem readTask_good {l : List Nat} {t : Task} (h : readTask l = some t) : goodTask t = true := by
  unfold readTask at h
  split at h
  · simp only at h
    split at h
    · split at h
      · rename_i hg
        cases h
        rw [Bool.and_eq_true] at hg
        exact hg.2
      · cases h
    · cases h
  · cases h
theorem reading_good {x : List Int} {t : Task} (h : reading x = some t) : goodTask t = true := by
  unfold reading at h
  split at h
  · cases h
  · exact readTask_good h
theorem goodTask_iff {t : Task} : goodTask t = true ↔ 1 ≤ t.cycles ∧ t.cycles ≤ t.deadline ∧ t.deadline ≤ t.period ∧ t.period ≤ 500 ∧ t.offset ≤ 500 ∧ t.useful.Nodup ∧ t.used.Nodup ∧ (∀ x ∈ t.useful, x < 32) ∧ ∀ x ∈ t.used, x < 32 := by
  have e1 : PERIOD = 500 := rfl
  have e2 : LINES = 32 := rfl
  unfold goodTask
  rw [e1, e2]
  simp only [Bool.and_eq_true, decide_eq_true_eq, unlike_iff, List.all_eq_true, and_assoc]
theorem good_len {t : Task} (h : goodTask t = true) : t.useful.length ≤ 32 ∧ t.used.length ≤ 32 := by
  obtain ⟨_, _, _, _, _, h1, h2, h3, h4⟩ := goodTask_iff.mp h
  exact ⟨nodup_le 32 _ h1 h3, nodup_le 32 _ h2 h4⟩
theorem rows_len : ∀ {ts : List Task}, (∀ t ∈ ts, goodTask t = true) → (ts.flatMap taskRow).length ≤ 70 * ts.length
  | [], _ => by simp
  | t :: ts, h => by
    have ih := rows_len (ts := ts) fun u hu => h u (List.mem_cons_of_mem _ hu)
    have hl := good_len (h t List.mem_cons_self)
    rw [List.flatMap_cons, List.length_append, List.length_cons]
    have : (taskRow t).length = 6 + t.useful.length + t.used.length := by simp [taskRow]; omega
    omega
theorem order_iff {ns ns' : List Int} {n : Nat} (hp : ns'.Perm ns) (hs : ns'.Pairwise (· ≤ ·)) :
    ns' = (List.range n).map (fun (i : Nat) => (0 : Int) + i) ↔ (∀ x ∈ ns, 0 ≤ x) ∧ (toNats ns).Perm (List.range n) := by
  constructor
  · intro e
    have hm : ∀ x ∈ ns, 0 ≤ x := fun x hx => by
      have : x ∈ ns' := hp.mem_iff.mpr hx
      rw [e] at this
      obtain ⟨i, _, rfl⟩ := List.mem_map.mp this
      omega
    refine ⟨hm, ?_⟩
    have h1 : (toNats ns').Perm (toNats ns) := hp.map _
    have h2 : toNats ns' = List.range n := by
      rw [e]
      unfold toNats
      rw [List.map_map]
      have : (Int.toNat ∘ fun (i : Nat) => (0 : Int) + i) = id := by funext i; simp
      rw [this, List.map_id]
    rw [← h2]; exact h1.symm
  · rintro ⟨hm, hq⟩
    have hm' : ∀ x ∈ ns', 0 ≤ x := fun x hx => hm x (hp.mem_iff.mp hx)
    have h1 : (toNats ns').Perm (List.range n) := (hp.map _).trans hq
    have h2 : (toNats ns').Pairwise (· ≤ ·) := by
      unfold toNats
      rw [List.pairwise_map]
      exact hs.imp fun {a b} h => by omega
    have h3 : (List.range n).Pairwise (· ≤ ·) := List.pairwise_le_range
    have h4 : toNats ns' = List.range n := List.Perm.eq_of_pairwise (fun a b _ _ h1 h2 => Nat.le_antisymm h1 h2) h2 h3 h1
    rw [← h4]
    unfold toNats
    rw [List.map_map]
    have : ∀ l : List Int, (∀ x ∈ l, 0 ≤ x) → l = l.map ((fun (i : Nat) => (0 : Int) + i) ∘ Int.toNat) := by
      intro l hl
      induction l with
      | nil => rfl
      | cons a r ih =>
        rw [List.map_cons, ← ih fun x hx => hl x (List.mem_cons_of_mem _ hx)]
        congr 1
        have := hl a List.mem_cons_self
        simp; omega
    exact this ns' hm'
theorem without_ord {n i : Nat} {l : List Nat} (h : l.Perm (List.range n)) (hi : i < n) : ((l.filter fun k => k != i).map fun k => if i < k then k - 1 else k).Perm (List.range (n - 1)) := by
  rw [perm_range_iff] at h
  obtain ⟨hn, hl, hb⟩ := h
  have hmem : i ∈ l := (perm_range_iff.mpr ⟨hn, hl, hb⟩).mem_iff.mpr (by simpa using hi)
  have hf : (l.filter fun k => k != i) = l.erase i := by
    rw [List.Nodup.erase_eq_filter hn]
  rw [hf, perm_range_iff]
  have hne := List.Nodup.erase i hn
  refine ⟨?_, ?_, ?_⟩
  · refine List.Pairwise.map (R := fun a b => a ≠ b ∧ a ≠ i ∧ b ≠ i) _ (fun a b h => ?_) ?_
    · split <;> split <;> omega
    · have hni : ∀ x ∈ l.erase i, x ≠ i := fun x hx e => by
        have := (List.Nodup.mem_erase_iff hn).mp hx
        exact this.1 e
      have : (l.erase i).Pairwise (fun a b => a ≠ b) := hne
      exact List.Pairwise.imp_of_mem (fun {a b} ha hb h => ⟨h, hni a ha, hni b hb⟩) this
  · rw [List.length_map, List.length_erase_of_mem hmem, hl]
  · intro x hx
    obtain ⟨k, hk, rfl⟩ := List.mem_map.mp hx
    have h1 := hb k (List.mem_of_mem_erase hk)
    have h2 : k ≠ i := ((List.Nodup.mem_erase_iff hn).mp hk).1
    split <;> omega
theorem putBy_perm (key : Nat → Nat) (i : Nat) : ∀ l : List Nat, (putBy key i l).Perm (i :: l)
  | [] => List.Perm.refl _
  | k :: r => by
    unfold putBy
    split
    · exact List.Perm.refl _
    · exact ((putBy_perm key i r).cons k).trans (List.Perm.swap i k r)
theorem foldl_putBy_perm (key : Nat → Nat) : ∀ (l acc : List Nat), (l.foldl (fun a i => putBy key i a) acc).Perm (l ++ acc)
  | [], acc => List.Perm.refl _
  | a :: r, acc => by
    rw [List.foldl_cons]
    refine (foldl_putBy_perm key r _).trans ?_
    have h1 := (putBy_perm key a acc).append_left r
    exact h1.trans (List.perm_middle)
theorem orderBy_perm (s : State) (key : Task → Nat) : (orderBy s key).Perm (List.range s.tasks.length) := by
  unfold orderBy
  have := foldl_putBy_perm (fun k => key (taskAt s k)) (numbers s) []
  rw [List.append_nil] at this
  exact this
theorem WF.step {s : State} (h : WF s) (c : Call) : WF (step s c).1 := by
  cases c with
  | reload n =>
    unfold Vawctg.step
    simp only
    split
    · exact h
    · rename_i hn
      refine ⟨h.n6, h.good, h.ord, ?_⟩
      have : (RELOAD : Int) = 20 := rfl
      simp only
      omega
  | task x =>
    unfold Vawctg.step
    simp only
    split
    · exact h
    · rename_i t ht
      split
      · exact h
      · rename_i hl
        have h6 : TASKS = 6 := rfl
        refine ⟨by simp; omega, fun u hu => ?_, ?_, h.rel⟩
        · simp only [List.mem_append, List.mem_singleton] at hu
          rcases hu with hu | rfl
          · exact h.good u hu
          · exact reading_good ht
        · simp only [List.length_append, List.length_singleton]
          rw [List.range_succ]
          exact h.ord.append_right _
  | retask i x =>
    unfold Vawctg.step
    simp only
    split
    · exact h
    · split
      · exact h
      · rename_i t ht
        refine ⟨by simpa using h.n6, fun u hu => ?_, by simpa using h.ord, h.rel⟩
        rcases List.mem_or_eq_of_mem_set hu with hu | rfl
        · exact h.good u hu
        · exact reading_good ht
  | untask i =>
    unfold Vawctg.step
    simp only
    split
    · exact h
    · rename_i hi
      have hi : isTask s i = true := by simpa using hi
      unfold isTask at hi
      rw [Bool.and_eq_true, decide_eq_true_eq, decide_eq_true_eq] at hi
      have hlt : i.toNat < s.tasks.length := by omega
      refine ⟨?_, fun u hu => h.good u (List.mem_of_mem_eraseIdx hu), ?_, h.rel⟩
      · simp only [without, List.length_eraseIdx, hlt, if_true]
        have := h.n6
        omega
      · simp only [without, List.length_eraseIdx, hlt, if_true]
        exact without_ord h.ord hlt
  | order x =>
    unfold Vawctg.step
    simp only
    split
    · exact h
    · rename_i hi
      rw [Bool.or_eq_true, not_or] at hi
      exact ⟨h.n6, h.good, (isOrder_iff (s := s)).mp (by simpa using hi.2), h.rel⟩
  | sorted k =>
    unfold Vawctg.step
    simp only
    split
    · exact h
    · exact ⟨h.n6, h.good, (show (orderBy s fun t => if (k == 0) = true then t.period else t.deadline).Perm _ from orderBy_perm s _), h.rel⟩
  | _ => exact h
def byK (key : Nat → Nat) (a b : Nat) : Prop := key a < key b ∨ (key a = key b ∧ a ≤ b)
theorem putBy_sorted (key : Nat → Nat) (i : Nat) : ∀ l : List Nat, l.Pairwise (byK key) → (∀ x ∈ l, x < i) → (putBy key i l).Pairwise (byK key)
  | [], _, _ => by simp [putBy]
  | k :: r, hs, hb => by
    rw [List.pairwise_cons] at hs
    unfold putBy
    split
    · rename_i hlt
      rw [List.pairwise_cons]
      refine ⟨fun x hx => .inl ?_, List.pairwise_cons.mpr hs⟩
      rcases List.mem_cons.mp hx with rfl | hx
      · exact hlt
      · rcases hs.1 x hx with h | h <;> omega
    · rename_i hlt
      rw [List.pairwise_cons]
      refine ⟨fun x hx => ?_, putBy_sorted key i r hs.2 fun x hx => hb x (List.mem_cons_of_mem _ hx)⟩
      have := (putBy_perm key i r).mem_iff.mp hx
      rcases List.mem_cons.mp this with rfl | hx
      · have hk := hb k List.mem_cons_self
        unfold byK
        omega
      · exact hs.1 x hx
theorem fold_sorted (key : Nat → Nat) : ∀ n : Nat, ((List.range n).foldl (fun a i => putBy key i a) []).Pairwise (byK key)
  | 0 => by simp
  | n + 1 => by
    rw [List.range_succ, List.foldl_append]
    refine putBy_sorted key n _ (fold_sorted key n) fun x hx => ?_
    have hp := foldl_putBy_perm key (List.range n) []
    rw [List.append_nil] at hp
    simpa using hp.mem_iff.mp hx
theorem orderBy_eq {s : State} {key : Task → Nat} {out : List Nat} {kf : Nat → Int} (hk : ∀ j, j < s.tasks.length → kf j = (key (taskAt s j) : Nat)) (hp : out.Perm (List.range s.tasks.length)) (hs : out.Pairwise fun a b => kf a < kf b ∨ (kf a = kf b ∧ a ≤ b)) : out = orderBy s key := by
  have h1 := orderBy_perm s key
  have h2 : (orderBy s key).Pairwise (byK fun k => key (taskAt s k)) := by
    unfold orderBy numbers
    exact fold_sorted _ _
  have h3 : out.Pairwise (byK fun k => key (taskAt s k)) := by
    refine List.Pairwise.imp_of_mem (fun {a b} ha hb h => ?_) hs
    have la : a < s.tasks.length := by simpa using hp.mem_iff.mp ha
    have lb : b < s.tasks.length := by simpa using hp.mem_iff.mp hb
    have ea := hk a la
    have eb := hk b lb
    show key (taskAt s a) < key (taskAt s b) ∨ (key (taskAt s a) = key (taskAt s b) ∧ a ≤ b)
    omega
  refine List.Perm.eq_of_pairwise (fun a b _ _ q1 q2 => ?_) h3 h2 (hp.trans h1.symm)
  have q1 : key (taskAt s a) < key (taskAt s b) ∨ (key (taskAt s a) = key (taskAt s b) ∧ a ≤ b) := q1
  have q2 : key (taskAt s b) < key (taskAt s a) ∨ (key (taskAt s b) = key (taskAt s a) ∧ b ≤ a) := q2
  omega
end My
namespace My
open Vawctg
def tbl : List (String × Nat × Bool) := [("reload", 1, false), ("task", 0, true), ("retask", 1, true), ("untask", 1, false), ("order", 0, true), ("sorted", 1, false), ("tasks", 0, false), ("ranks", 0, false),
  ("cost", 2, false), ("response", 1, false), ("all", 0, false), ("best", 0, false), ("course", 1, false), ("trace", 2, false), ("late", 1, false)]
theorem shape_tbl {p : Int} {n k : Nat} (h : PyVawctg.shape p = some (n, k)) : ∃ (i : Nat) (name : String) (b : Bool), p = (i : Int) ∧ tbl[i]? = some (name, n, b) ∧ k = if b then 1 else 0 := by
  by_cases h0 : p = 0
  · subst h0
    have e : PyVawctg.shape 0 = some (1, 0) := rfl
    rw [e] at h
    cases h
    exact ⟨0, _, _, rfl, rfl, rfl⟩
  by_cases h1 : p = 1
  · subst h1
    have e : PyVawctg.shape 1 = some (0, 1) := rfl
    rw [e] at h
    cases h
    exact ⟨1, _, _, rfl, rfl, rfl⟩
  by_cases h2 : p = 2
  · subst h2
    have e : PyVawctg.shape 2 = some (1, 1) := rfl
    rw [e] at h
    cases h
    exact ⟨2, _, _, rfl, rfl, rfl⟩
  by_cases h3 : p = 3
  · subst h3
    have e : PyVawctg.shape 3 = some (1, 0) := rfl
    rw [e] at h
    cases h
    exact ⟨3, _, _, rfl, rfl, rfl⟩
  by_cases h4 : p = 4
  · subst h4
    have e : PyVawctg.shape 4 = some (0, 1) := rfl
    rw [e] at h
    cases h
    exact ⟨4, _, _, rfl, rfl, rfl⟩
  by_cases h5 : p = 5
  · subst h5
    have e : PyVawctg.shape 5 = some (1, 0) := rfl
    rw [e] at h
    cases h
    exact ⟨5, _, _, rfl, rfl, rfl⟩
  by_cases h6 : p = 6
  · subst h6
    have e : PyVawctg.shape 6 = some (0, 0) := rfl
    rw [e] at h
    cases h
    exact ⟨6, _, _, rfl, rfl, rfl⟩
  by_cases h7 : p = 7
  · subst h7
    have e : PyVawctg.shape 7 = some (0, 0) := rfl
    rw [e] at h
    cases h
    exact ⟨7, _, _, rfl, rfl, rfl⟩
  by_cases h8 : p = 8
  · subst h8
    have e : PyVawctg.shape 8 = some (2, 0) := rfl
    rw [e] at h
    cases h
    exact ⟨8, _, _, rfl, rfl, rfl⟩
  by_cases h9 : p = 9
  · subst h9
    have e : PyVawctg.shape 9 = some (1, 0) := rfl
    rw [e] at h
    cases h
    exact ⟨9, _, _, rfl, rfl, rfl⟩
  by_cases h10 : p = 10
  · subst h10
    have e : PyVawctg.shape 10 = some (0, 0) := rfl
    rw [e] at h
    cases h
    exact ⟨10, _, _, rfl, rfl, rfl⟩
  by_cases h11 : p = 11
  · subst h11
    have e : PyVawctg.shape 11 = some (0, 0) := rfl
    rw [e] at h
    cases h
    exact ⟨11, _, _, rfl, rfl, rfl⟩
  by_cases h12 : p = 12
  · subst h12
    have e : PyVawctg.shape 12 = some (1, 0) := rfl
    rw [e] at h
    cases h
    exact ⟨12, _, _, rfl, rfl, rfl⟩
  by_cases h13 : p = 13
  · subst h13
    have e : PyVawctg.shape 13 = some (2, 0) := rfl
    rw [e] at h
    cases h
    exact ⟨13, _, _, rfl, rfl, rfl⟩
  by_cases h14 : p = 14
  · subst h14
    have e : PyVawctg.shape 14 = some (1, 0) := rfl
    rw [e] at h
    cases h
    exact ⟨14, _, _, rfl, rfl, rfl⟩
  exfalso
  unfold PyVawctg.shape at h
  rw [if_neg h0, if_neg h1, if_neg h2, if_neg h3, if_neg h4, if_neg h5, if_neg h6, if_neg h7, if_neg h8, if_neg h9, if_neg h10, if_neg h11, if_neg h12, if_neg h13, if_neg h14] at h
  cases h
theorem call_step {l : List Int} {n f : Nat} {rest : List (List (List Int))} (h : PyFlat.calls PyVawctg.shape f (l.drop n) = some rest) (hn : n < l.length) :
    ∃ (p : Nat) (name : String) (k : Nat) (b : Bool) (f' : Nat) (c : List (List Int)) (rest' : List (List (List Int))), tbl[p]? = some (name, k, b) ∧ l[n]? = some (p : Int) ∧ n + 1 + k ≤ l.length ∧ rest = c :: rest' ∧
      (b = false → c = [(p : Int) :: (l.drop (n + 1)).take k] ∧ PyFlat.calls PyVawctg.shape f' (l.drop (n + 1 + k)) = some rest') ∧
      (b = true → ∃ m : Nat, l[n + 1 + k]? = some (m : Int) ∧ n + 1 + k + 1 + m ≤ l.length ∧ c = [(p : Int) :: (l.drop (n + 1)).take k, (l.drop (n + 1 + k + 1)).take m] ∧ PyFlat.calls PyVawctg.shape f' (l.drop (n + 1 + k + 1 + m)) = some rest') := by
  have ed : l.drop n = l[n] :: l.drop (n + 1) := List.drop_eq_getElem_cons hn
  rw [ed] at h
  cases f with
  | zero => simp [PyFlat.calls] at h
  | succ f =>
    unfold PyFlat.calls at h
    cases hc : PyFlat.call PyVawctg.shape (l[n] :: l.drop (n + 1)) with
    | none => rw [hc] at h; cases h
    | some ct =>
      obtain ⟨c, t⟩ := ct
      rw [hc] at h
      simp only at h
      cases hr : PyFlat.calls PyVawctg.shape f t with
      | none => rw [hr] at h; cases h
      | some rest' =>
        rw [hr] at h
        simp only [Option.some.injEq] at h
        unfold PyFlat.call at hc
        dsimp only at hc
        cases hs : PyVawctg.shape l[n] with
        | none => rw [hs] at hc; cases hc
        | some nk =>
          obtain ⟨k, r⟩ := nk
          rw [hs] at hc
          simp only at hc
          obtain ⟨p, name, b, e1, e2, e3⟩ := shape_tbl hs
          split at hc
          · cases hc
          · rename_i hlen
            have hlen : k ≤ l.length - (n + 1) := by
              rw [List.length_drop] at hlen; omega
            refine ⟨p, name, k, b, f, c, rest', e2, by rw [List.getElem?_eq_getElem hn, e1], by omega, h.symm, fun hb => ?_, fun hb => ?_⟩
            · subst hb
              have e3 : r = 0 := by simpa using e3
              subst e3
              unfold PyFlat.rows at hc
              simp only [Option.some.injEq, Prod.mk.injEq] at hc
              refine ⟨by rw [← hc.1, e1], ?_⟩
              rw [← hc.2, List.drop_drop] at hr
              exact hr
            · subst hb
              have e3 : r = 1 := by simpa using e3
              subst e3
              unfold PyFlat.rows at hc
              rw [List.drop_drop] at hc
              cases hrow : PyFlat.row (l.drop (n + 1 + k)) with
              | none => rw [hrow] at hc; cases hc
              | some xs =>
                obtain ⟨x, s⟩ := xs
                rw [hrow] at hc
                unfold PyFlat.rows at hc
                simp only [Option.some.injEq, Prod.mk.injEq] at hc
                cases hd : l.drop (n + 1 + k) with
                | nil => rw [hd] at hrow; simp [PyFlat.row] at hrow
                | cons m r =>
                  rw [hd] at hrow
                  unfold PyFlat.row at hrow
                  dsimp only at hrow
                  split at hrow
                  · rename_i hm
                    simp only [Option.some.injEq, Prod.mk.injEq] at hrow
                    have hlt : n + 1 + k < l.length := by
                      have := congrArg List.length hd
                      rw [List.length_drop, List.length_cons] at this
                      omega
                    have er : r = l.drop (n + 1 + k + 1) := by
                      have := List.drop_eq_getElem_cons hlt
                      rw [hd] at this
                      exact (List.cons.inj this).2
                    have em : l[n + 1 + k]? = some m := by
                      have := List.drop_eq_getElem_cons hlt
                      rw [hd] at this
                      rw [List.getElem?_eq_getElem hlt, ← (List.cons.inj this).1]
                    have hl2 : m.toNat ≤ l.length - (n + 1 + k + 1) := by
                      have := hm.2
                      rw [er, List.length_drop] at this
                      exact this
                    refine ⟨m.toNat, by rw [em]; congr 1; omega, by omega, ?_, ?_⟩
                    · rw [← hc.1, ← hrow.1, er, e1]
                    · rw [← hc.2, ← hrow.2, er, List.drop_drop] at hr
                      exact hr
                  · cases hrow
end My
namespace My
open Vawctg
abbrev nstep := VawctgNeutral.step
def after (s : State) (cs : List (List (List Int))) : State := cs.foldl (fun s c => (nstep s c).1) s
theorem played_append (s : State) : ∀ (a b : List (List (List Int))), PyFlat.played nstep s (a ++ b) = PyFlat.played nstep s a ++ PyFlat.played nstep (after s a) b := by
  intro a
  induction a generalizing s with
  | nil => intro b; rfl
  | cons c r ih =>
    intro b
    show (nstep s c).2 :: PyFlat.played nstep (nstep s c).1 (r ++ b) = (nstep s c).2 :: (PyFlat.played nstep (nstep s c).1 r ++ PyFlat.played nstep (after (nstep s c).1 r) b)
    rw [ih]
theorem told_append (a b : List (List Int)) : PyFlat.told (a ++ b) = PyFlat.told a ++ PyFlat.told b := by
  unfold PyFlat.told
  rw [List.flatMap_append]
theorem after_snoc (s : State) (a : List (List (List Int))) (c : List (List Int)) : after s (a ++ [c]) = (nstep (after s a) c).1 := by
  unfold after
  rw [List.foldl_append]
  rfl
theorem told_snoc (s : State) (a : List (List (List Int))) (c : List (List Int)) : PyFlat.told (PyFlat.played nstep s (a ++ [c])) = PyFlat.told (PyFlat.played nstep s a) ++ ((((nstep (after s a) c).2.length : Nat) : Int) :: (nstep (after s a) c).2) := by
  rw [played_append, told_append]
  congr 1
  show PyFlat.told [(nstep (after s a) c).2] = _
  unfold PyFlat.told
  simp
theorem told_le (s : State) (a b : List (List (List Int))) : (PyFlat.told (PyFlat.played nstep s a)).length ≤ (PyFlat.told (PyFlat.played nstep s (a ++ b))).length := by
  rw [played_append, told_append, List.length_append]
  omega
theorem WF.nstep {s : State} (h : WF s) (c : List (List Int)) : WF (nstep s c).1 := by
  show WF (VawctgNeutral.step s c).1
  unfold VawctgNeutral.step
  split
  · exact h.step _
  · exact h
theorem WF.after {s : State} (h : WF s) : ∀ cs, WF (after s cs) := by
  intro cs
  induction cs generalizing s with
  | nil => exact h
  | cons c r ih => exact ih (h.nstep c)
theorem asked_raw {l : List Int} (h : PyVawctg.answers_asked l = true) : ∃ raw, PyFlat.calls PyVawctg.shape l.length l = some raw ∧ (∀ c ∈ raw, VawctgNeutral.asked1 (PyVawctg.whole c) = true) ∧ PyVawctg.answers l = PyFlat.told (PyFlat.played nstep Vawctg.start (raw.map PyVawctg.whole)) ∧
    (PyFlat.told (PyFlat.played nstep Vawctg.start (raw.map PyVawctg.whole))).length ≤ 10000000 := by
  unfold PyVawctg.answers_asked at h
  cases hr : PyFlat.calls PyVawctg.shape l.length l with
  | none => rw [hr] at h; cases h
  | some raw =>
    rw [hr] at h
    simp only [Bool.and_eq_true] at h
    obtain ⟨⟨⟨⟨_, _⟩, _⟩, h1⟩, h2⟩ := h
    have e : PyVawctg.answers l = PyFlat.told (PyFlat.played nstep Vawctg.start (raw.map PyVawctg.whole)) := by
      unfold PyVawctg.answers PyVawctg.calls
      rw [hr]
      rfl
    refine ⟨raw, rfl, fun c hc => ?_, e, ?_⟩
    · unfold VawctgNeutral.asked at h1
      rw [Bool.and_eq_true, List.all_eq_true] at h1
      exact h1.1 _ (List.mem_map_of_mem hc)
    · rw [← e]
      unfold PyFlat.short at h2
      exact of_decide_eq_true h2
end My
namespace My
open Vawctg
theorem foldl_add (l : List Nat) : ∀ a : Nat, l.foldl (fun a b => a + b) a = a + Vawctg.sum l := by
  unfold Vawctg.sum
  induction l with
  | nil => intro a; simp
  | cons x r ih => intro a; rw [List.foldl_cons, List.foldl_cons, ih, ih (0 + x)]; omega
theorem sum_cons (x : Nat) (l : List Nat) : Vawctg.sum (x :: l) = x + Vawctg.sum l := by
  show (x :: l).foldl (fun a b => a + b) 0 = _
  rw [List.foldl_cons, foldl_add]; omega
theorem sum_nil : Vawctg.sum [] = 0 := rfl
theorem sum_append (a b : List Nat) : Vawctg.sum (a ++ b) = Vawctg.sum a + Vawctg.sum b := by
  induction a with
  | nil => rw [List.nil_append, sum_nil]; omega
  | cons x r ih => rw [List.cons_append, sum_cons, sum_cons, ih]; omega
theorem sum_map_le {α} (f g : α → Nat) : ∀ l : List α, (∀ x ∈ l, f x ≤ g x) → Vawctg.sum (l.map f) ≤ Vawctg.sum (l.map g)
  | [], _ => Nat.le_refl _
  | a :: r, h => by
    rw [List.map_cons, List.map_cons, sum_cons, sum_cons]
    have h1 := h a List.mem_cons_self
    have h2 := sum_map_le f g r fun x hx => h x (List.mem_cons_of_mem _ hx)
    omega
theorem foldl_max (l : List Nat) : ∀ a : Nat, l.foldl max a = max a (greatest l) := by
  unfold greatest
  induction l with
  | nil => intro a; simp
  | cons x r ih => intro a; rw [List.foldl_cons, List.foldl_cons, ih, ih (max 0 x)]; omega
theorem greatest_cons (x : Nat) (l : List Nat) : greatest (x :: l) = max x (greatest l) := by
  show (x :: l).foldl max 0 = _
  rw [List.foldl_cons, foldl_max]; omega
theorem greatest_nil : greatest [] = 0 := rfl
theorem greatest_le {l : List Nat} {m : Nat} (h : ∀ x ∈ l, x ≤ m) : greatest l ≤ m := by
  induction l with
  | nil => rw [greatest_nil]; omega
  | cons x r ih =>
    rw [greatest_cons]
    have h1 := h x List.mem_cons_self
    have h2 := ih fun y hy => h y (List.mem_cons_of_mem _ hy)
    omega
theorem rounded_mono {a b : Nat} (p : Nat) (h : a ≤ b) : rounded a p ≤ rounded b p := Nat.div_le_div_right (by omega)
theorem demand_mono (s : Set_) (i : Nat) {a b : Nat} (h : a ≤ b) : demand s i a ≤ demand s i b := by
  unfold demand
  have := sum_map_le (fun j => rounded a (taskAt s j).period * ((taskAt s j).cycles + gamma s i j)) (fun j => rounded b (taskAt s j).period * ((taskAt s j).cycles + gamma s i j)) (above s i)
    fun j _ => Nat.mul_le_mul_right _ (rounded_mono _ h)
  omega
theorem cycles_le_demand (s : Set_) (i r : Nat) : (taskAt s i).cycles ≤ demand s i r := by unfold demand; omega
theorem rounds_fuel {s : Set_} {i : Nat} : ∀ (k k' r n : Nat), r ≤ demand s i r → (taskAt s i).deadline - r < k → (taskAt s i).deadline - r < k' → rounds s i k r n = rounds s i k' r n
  | 0, _, _, _, _, h, _ => absurd h (by omega)
  | _ + 1, 0, _, _, _, _, h => absurd h (by omega)
  | k + 1, k' + 1, r, n, hd, h1, h2 => by
    unfold rounds
    dsimp only
    by_cases hc : (demand s i r == r || decide ((taskAt s i).deadline < demand s i r)) = true
    · rw [if_pos hc, if_pos hc]
    · rw [if_neg hc, if_neg hc]
      rw [Bool.or_eq_true, not_or, beq_iff_eq, decide_eq_true_eq] at hc
      exact rounds_fuel k k' _ _ (demand_mono s i hd) (by omega) (by omega)
def roundsFrom (s : Set_) (i r n : Nat) : Nat × Nat := rounds s i (PERIOD + 1) r n
theorem roundsFrom_end {s : Set_} {i r n : Nat} (h : demand s i r = r ∨ (taskAt s i).deadline < demand s i r) : roundsFrom s i r n = (demand s i r, n + 1) := by
  unfold roundsFrom rounds
  dsimp only
  rw [if_pos]
  rw [Bool.or_eq_true, beq_iff_eq, decide_eq_true_eq]; exact h
theorem roundsFrom_step {s : Set_} {i r n : Nat} (hd : r ≤ demand s i r) (hp : (taskAt s i).deadline ≤ 500) (h1 : demand s i r ≠ r) (h2 : demand s i r ≤ (taskAt s i).deadline) : roundsFrom s i r n = roundsFrom s i (demand s i r) (n + 1) := by
  have e : roundsFrom s i r n = rounds s i PERIOD (demand s i r) (n + 1) := by
    unfold roundsFrom
    show rounds s i (PERIOD + 1) r n = _
    rw [rounds]
    rw [if_neg]
    rw [Bool.or_eq_true, not_or, beq_iff_eq, decide_eq_true_eq]
    exact ⟨h1, by omega⟩
  rw [e]
  have e5 : PERIOD = 500 := rfl
  exact rounds_fuel _ _ _ _ (demand_mono s i hd) (by omega) (by omega)
theorem findIdx?_getD (i : Nat) : ∀ l : List Nat, (l.findIdx? fun k => k == i).getD l.length = l.idxOf i
  | [] => rfl
  | a :: r => by
    rw [List.findIdx?_cons, List.idxOf_cons]
    by_cases h : (a == i) = true
    · rw [if_pos h, h]; rfl
    · have hf : (a == i) = false := by simpa using h
      rw [if_neg h, hf]
      have ih := findIdx?_getD i r
      cases hq : r.findIdx? fun k => k == i with
      | none => rw [hq] at ih; simp at ih ⊢; omega
      | some q => rw [hq] at ih; simp at ih ⊢; omega
theorem rankOf_eq (s : Set_) (i : Nat) : rankOf s i = s.order.idxOf i := findIdx?_getD i s.order
theorem above_eq (s : Set_) (i : Nat) : above s i = s.order.take (s.order.idxOf i) := by unfold above; rw [rankOf_eq]
theorem idxOf_split (i : Nat) : ∀ (p r : List Nat), i ∉ p → (p ++ i :: r).idxOf i = p.length
  | [], r, _ => by simp
  | a :: p, r, h => by
    have h1 : a ≠ i := fun e => h (e ▸ List.mem_cons_self)
    have h2 : i ∉ p := fun e => h (List.mem_cons_of_mem _ e)
    have hf : (a == i) = false := by simpa using h1
    rw [List.cons_append, List.idxOf_cons, hf, idxOf_split i p r h2]
    rfl
theorem idxOf_prefix (k : Nat) : ∀ (p r : List Nat), k ∈ p → (p ++ r).idxOf k = p.idxOf k
  | [], _, h => by cases h
  | a :: p, r, h => by
    rw [List.cons_append, List.idxOf_cons, List.idxOf_cons]
    by_cases e : (a == k) = true
    · rw [e]; rfl
    · have hf : (a == k) = false := by simpa using e
      rw [hf]
      have hne : a ≠ k := by simpa using e
      rcases List.mem_cons.mp h with e | hm
      · exact absurd e.symm hne
      · rw [idxOf_prefix k p r hm]
theorem order_split {o : List Nat} {i : Nat} (hi : i ∈ o) : ∃ p r, o = p ++ i :: r ∧ i ∉ p ∧ o.idxOf i = p.length := by
  induction o with
  | nil => cases hi
  | cons a o ih =>
    by_cases e : a = i
    · subst e; exact ⟨[], o, rfl, by simp, by simp⟩
    · have hm : i ∈ o := by
        rcases List.mem_cons.mp hi with h | h
        · exact absurd h.symm e
        · exact h
      obtain ⟨p, r, e1, e2, e3⟩ := ih hm
      have hf : (a == i) = false := by simpa using e
      refine ⟨a :: p, r, by rw [e1]; rfl, ?_, ?_⟩
      · intro h
        rcases List.mem_cons.mp h with h | h
        · exact e h.symm
        · exact e2 h
      · rw [List.idxOf_cons, hf, e3]; rfl
theorem above_split {s : Set_} {p r : List Nat} {i : Nat} (e : s.order = p ++ i :: r) (h : i ∉ p) : above s i = p := by
  rw [above_eq, e, idxOf_split i p r h]
  simp
theorem rank_split {s : Set_} {p r : List Nat} {i : Nat} (e : s.order = p ++ i :: r) (h : i ∉ p) : rankOf s i = p.length := by
  rw [rankOf_eq, e, idxOf_split i p r h]
theorem between_eq {s : Set_} {a b r : List Nat} {i j : Nat} (e : s.order = a ++ j :: (b ++ i :: r)) (hn : s.order.Nodup) : ((above s i ++ [i]).filter fun k => decide (rankOf s j < rankOf s k)) = b ++ [i] := by
  have ej : j ∉ a := by
    intro h
    rw [e, List.nodup_append] at hn
    exact hn.2.2 j h j List.mem_cons_self rfl
  have e2 : s.order = (a ++ j :: b) ++ i :: r := by rw [e]; simp
  have ei : i ∉ a ++ j :: b := by
    intro h
    rw [e2, List.nodup_append] at hn
    exact hn.2.2 i h i List.mem_cons_self rfl
  rw [above_split e2 ei, rank_split e ej]
  have h1 : ∀ k ∈ a ++ [j], decide (a.length < rankOf s k) = false := by
    intro k hk
    have : s.order = (a ++ [j]) ++ (b ++ i :: r) := by rw [e]; simp
    have h2 : rankOf s k = (a ++ [j]).idxOf k := by rw [rankOf_eq, this, idxOf_prefix k _ _ hk]
    have h3 := List.idxOf_lt_length_of_mem hk
    rw [List.length_append, List.length_singleton] at h3
    rw [h2]
    exact decide_eq_false (by omega)
  have h4 : ∀ k ∈ b ++ [i], decide (a.length < rankOf s k) = true := by
    intro k hk
    obtain ⟨p, q, e5, e6, e7⟩ := order_split hk
    have e8 : s.order = (a ++ j :: p) ++ k :: (q ++ r) := by
      rw [e]
      have : b ++ i :: r = (b ++ [i]) ++ r := by simp
      rw [this, e5]; simp
    have e9 : k ∉ a ++ j :: p := by
      intro h
      rw [e8, List.nodup_append] at hn
      exact hn.2.2 k h k List.mem_cons_self rfl
    rw [rank_split e8 e9]
    refine decide_eq_true ?_
    rw [List.length_append, List.length_cons]; omega
  have e10 : a ++ j :: b ++ [i] = (a ++ [j]) ++ (b ++ [i]) := by simp
  rw [e10, List.filter_append, List.filter_eq_nil_iff.mpr (fun k hk => by rw [h1 k hk]; simp), List.nil_append, List.filter_eq_self.mpr h4]
theorem usedFrom_split {s : Set_} {a r : List Nat} {j : Nat} (e : s.order = a ++ j :: r) (h : j ∉ a) : usedFrom s j = (a ++ [j]).flatMap fun h => (taskAt s h).used := by
  unfold usedFrom
  rw [above_split e h]
theorem gamma_split {s : Set_} {a b r : List Nat} {i j : Nat} (e : s.order = a ++ j :: (b ++ i :: r)) (hn : s.order.Nodup) :
    gamma s i j = s.reload * greatest ((b ++ [i]).map fun k => hurt s k ((a ++ [j]).flatMap fun h => (taskAt s h).used)) := by
  have ej : j ∉ a := by
    intro h
    rw [e, List.nodup_append] at hn
    exact hn.2.2 j h j List.mem_cons_self rfl
  unfold gamma
  dsimp only
  rw [between_eq e hn, usedFrom_split e ej]
theorem gamma_prefix {s s' : Set_} {p r r' : List Nat} {i j : Nat} (et : s.tasks = s'.tasks) (er : s.reload = s'.reload) (e : s.order = p ++ i :: r) (e' : s'.order = p ++ i :: r') (hn : s.order.Nodup) (hn' : s'.order.Nodup) (hj : j ∈ p) : gamma s i j = gamma s' i j := by
  obtain ⟨a, b, e1, e2, _⟩ := order_split hj
  have h1 : s.order = a ++ j :: (b ++ i :: r) := by rw [e, e1]; simp
  have h2 : s'.order = a ++ j :: (b ++ i :: r') := by rw [e', e1]; simp
  rw [gamma_split h1 hn, gamma_split h2 hn', er]
  have hta : taskAt s = taskAt s' := by funext k; unfold taskAt; rw [et]
  unfold hurt
  rw [hta]
theorem demand_prefix {s s' : Set_} {p r r' : List Nat} {i : Nat} (et : s.tasks = s'.tasks) (er : s.reload = s'.reload) (e : s.order = p ++ i :: r) (e' : s'.order = p ++ i :: r') (hn : s.order.Nodup) (hn' : s'.order.Nodup) (x : Nat) : demand s i x = demand s' i x := by
  have hi : i ∉ p := by
    intro h
    rw [e, List.nodup_append] at hn
    exact hn.2.2 i h i List.mem_cons_self rfl
  have hta : taskAt s = taskAt s' := by funext k; unfold taskAt; rw [et]
  unfold demand
  rw [above_split e hi, above_split e' hi, hta]
  congr 2
  refine List.map_congr_left fun j hj => ?_
  rw [gamma_prefix et er e e' hn hn' hj]
theorem rounds_congr {s s' : Set_} {i : Nat} (ht : taskAt s i = taskAt s' i) (hd : ∀ x, demand s i x = demand s' i x) : ∀ k r n, rounds s i k r n = rounds s' i k r n
  | 0, _, _ => rfl
  | k + 1, r, n => by
    unfold rounds
    dsimp only
    rw [hd, ht, rounds_congr ht hd k]
theorem responseOf_prefix {s s' : Set_} {p r r' : List Nat} {i : Nat} (et : s.tasks = s'.tasks) (er : s.reload = s'.reload) (e : s.order = p ++ i :: r) (e' : s'.order = p ++ i :: r') (hn : s.order.Nodup) (hn' : s'.order.Nodup) : responseOf s i = responseOf s' i := by
  have ht : taskAt s i = taskAt s' i := by unfold taskAt; rw [et]
  unfold responseOf
  rw [rounds_congr ht (demand_prefix et er e e' hn hn'), ht]
theorem inTime_prefix {s s' : Set_} {p r r' : List Nat} {i : Nat} (et : s.tasks = s'.tasks) (er : s.reload = s'.reload) (e : s.order = p ++ i :: r) (e' : s'.order = p ++ i :: r') (hn : s.order.Nodup) (hn' : s'.order.Nodup) : inTime s i = inTime s' i := by
  have ht : taskAt s i = taskAt s' i := by unfold taskAt; rw [et]
  unfold inTime
  rw [responseOf_prefix et er e e' hn hn', ht]
end My
namespace My
open Vawctg
theorem filter_ne_perm {l : List Nat} {a : Nat} (hn : l.Nodup) (ha : a ∈ l) : l.Perm (a :: l.filter fun b => b != a) := by
  have h1 : l.Perm (a :: l.erase a) := List.perm_cons_erase ha
  have h2 : l.erase a = l.filter fun b => b != a := hn.erase_eq_filter a
  rw [← h2]; exact h1
theorem ordersOf_mem : ∀ (n : Nat) (l : List Nat), l.length ≤ n → l.Nodup → ∀ o, o ∈ ordersOf n l ↔ o.Perm l
  | n, [], _, _, o => by
    cases n <;> simp [ordersOf]
  | 0, a :: l, h, _, _ => by simp at h
  | n + 1, a :: l, hl, hn, o => by
    rw [ordersOf, List.mem_flatMap]
    constructor
    · rintro ⟨x, hx, ho⟩
      obtain ⟨r, hr, rfl⟩ := List.mem_map.mp ho
      have hp := filter_ne_perm hn hx
      have hlen := hp.length_eq
      rw [List.length_cons (a := x)] at hlen
      have := (ordersOf_mem n _ (by omega) (hn.filter _) r).mp hr
      exact (this.cons x).trans hp.symm
    · intro ho
      cases o with
      | nil => exact absurd ho.length_eq (by simp)
      | cons x r =>
        have hx : x ∈ a :: l := ho.mem_iff.mp List.mem_cons_self
        refine ⟨x, hx, List.mem_map.mpr ⟨r, ?_, rfl⟩⟩
        have hp := filter_ne_perm hn hx
        have hlen := hp.length_eq
        rw [List.length_cons (a := x)] at hlen
        exact (ordersOf_mem n _ (by omega) (hn.filter _) r).mpr ((ho.trans hp).cons_inv)
    · simp
end My
namespace My
open Vawctg
theorem getD_zipIdx_map {α β} (f : α × Nat → β) (l : List α) (i : Nat) (d : β) (d' : α) (h : i < l.length) : (l.zipIdx.map f).getD i d = f (l.getD i d', i) := by
  rw [List.getD_eq_getElem?_getD, List.getD_eq_getElem?_getD, List.getElem?_map, List.getElem?_zipIdx, List.getElem?_eq_getElem h]
  simp
def freshJob (s : Set_) (i now : Nat) : Job := { came := now, left := (taskAt s i).cycles, begun := false, lost := [] }
def lateAt (s : Set_) (i now : Nat) (q : List Job) : Nat := (q.filter fun j => j.came + (taskAt s i).deadline == now).length
theorem arrived_now (s : Set_) (c : Course) : (arrived s c).now = c.now := rfl
theorem arrived_jobs_len (s : Set_) (c : Course) : (arrived s c).jobs.length = c.jobs.length := by simp [arrived]
theorem arrived_tallies_len (s : Set_) (c : Course) : (arrived s c).tallies.length = c.tallies.length := by simp [arrived]
theorem jobsAt_arrived {s : Set_} {c : Course} {i : Nat} (h : i < c.jobs.length) : jobsAt (arrived s c) i = if comes (taskAt s i) c.now then jobsAt c i ++ [freshJob s i c.now] else jobsAt c i := by
  unfold jobsAt
  show (List.map _ c.jobs.zipIdx).getD i [] = _
  rw [getD_zipIdx_map _ _ _ _ [] h]
  rfl
theorem tallyAt_arrived {s : Set_} {c : Course} {i : Nat} (h : i < c.tallies.length) : tallyAt (arrived s c) i = { tallyAt c i with came := (tallyAt c i).came + (if comes (taskAt s i) c.now then 1 else 0), late := (tallyAt c i).late + lateAt s i c.now (jobsAt c i) } := by
  unfold tallyAt
  show (List.map _ c.tallies.zipIdx).getD i noTally = _
  rw [getD_zipIdx_map _ _ _ _ noTally h]
  rfl
def ranJob (s : Set_) (i : Nat) (j : Job) : Job := { j with left := j.left + reloadOf s i j - 1, begun := true, lost := [] }
def ranRow (s : Set_) (i : Nat) (q : List Job) : List Job := match q with
  | [] => []
  | j :: r => if j.left + reloadOf s i j - 1 = 0 then r else ranJob s i j :: r
theorem ranOn_now {s : Set_} {c : Course} {i : Nat} {j : Job} {r : List Job} (e : jobsAt c i = j :: r) : (ranOn s c i).now = c.now + 1 := by
  unfold ranOn; rw [e]
theorem ranOn_idle {s : Set_} {c : Course} {i : Nat} : (ranOn s c i).idle = c.idle := by
  unfold ranOn; split <;> rfl
theorem ranOn_jobs_len {s : Set_} {c : Course} {i : Nat} : (ranOn s c i).jobs.length = c.jobs.length := by
  unfold ranOn; split
  · rfl
  · simp
theorem ranOn_tallies_len {s : Set_} {c : Course} {i : Nat} : (ranOn s c i).tallies.length = c.tallies.length := by
  unfold ranOn; split
  · rfl
  · simp
theorem jobsAt_ranOn {s : Set_} {c : Course} {i : Nat} {j : Job} {r : List Job} (e : jobsAt c i = j :: r) {k : Nat} (h : k < c.jobs.length) : jobsAt (ranOn s c i) k = if k = i then ranRow s i (jobsAt c i) else firstJob (loses s i) (jobsAt c k) := by
  rw [e]
  unfold ranOn
  rw [e]
  dsimp only
  unfold jobsAt
  show (List.map _ c.jobs.zipIdx).getD k [] = _
  rw [getD_zipIdx_map _ _ _ _ [] h]
  dsimp only [ranRow]
  by_cases hk : k = i
  · subst hk
    simp only [beq_self_eq_true, if_true, beq_iff_eq]
    rfl
  · have hf : (k == i) = false := by simpa using hk
    rw [hf, if_neg hk]
    rfl
def ranTally (s : Set_) (i now : Nat) (j : Job) (t : Tally) : Tally :=
  if j.left + reloadOf s i j - 1 = 0 then { t with reloads := t.reloads + reloadOf s i j, done := t.done + 1, most := max t.most (now + 1 - j.came), least := if t.done = 0 ∨ now + 1 - j.came < t.least then now + 1 - j.came else t.least }
  else { t with reloads := t.reloads + reloadOf s i j }
theorem tallyAt_ranOn {s : Set_} {c : Course} {i : Nat} {j : Job} {r : List Job} (e : jobsAt c i = j :: r) {k : Nat} (h : i < c.tallies.length) : tallyAt (ranOn s c i) k = if k = i then ranTally s i c.now j (tallyAt c i) else tallyAt c k := by
  unfold ranOn
  rw [e]
  dsimp only
  unfold tallyAt
  dsimp only
  rw [List.getD_eq_getElem?_getD, List.getElem?_set]
  by_cases hk : k = i
  · subst hk
    simp only [if_true, h, Option.getD_some]
    unfold ranTally
    by_cases hd : j.left + reloadOf s k j - 1 = 0
    · simp [hd]
    · simp [hd]
  · rw [if_neg (fun e => hk e.symm), if_neg hk, List.getD_eq_getElem?_getD]
structure RowOk (s : Set_) (i now : Nat) (q : List Job) (t : Tally) : Prop where
  left : ∀ j ∈ q, 1 ≤ j.left
  fresh : ∀ j ∈ q, j.begun = false → j.left = (taskAt s i).cycles ∧ j.lost = []
  tail : ∀ j ∈ q.tail, j.begun = false
  came : q.map Job.came = (List.range' t.done q.length).map fun k => (taskAt s i).offset + k * (taskAt s i).period
  cnt : t.came = t.done + q.length
  upto : ∀ k, k < t.came ↔ (taskAt s i).offset + k * (taskAt s i).period < now
  lost : ∀ j ∈ q, ∀ x ∈ j.lost, ∃ h, h ≠ i ∧ x ∈ (taskAt s h).used
  most : t.done = 0 → t.most = 0 ∧ t.least = 0
structure CInv (s : Set_) (c : Course) : Prop where
  jn : c.jobs.length = s.tasks.length
  tn : c.tallies.length = s.tasks.length
  row : ∀ i, i < s.tasks.length → RowOk s i c.now (jobsAt c i) (tallyAt c i)
theorem comes_iff {t : Task} {now n : Nat} (hp : 1 ≤ t.period) (hu : ∀ k, k < n ↔ t.offset + k * t.period < now) : comes t now = true ↔ now = t.offset + n * t.period := by
  unfold comes
  rw [Bool.and_eq_true, decide_eq_true_eq, beq_iff_eq]
  constructor
  · rintro ⟨h1, h2⟩
    have e := Nat.div_add_mod (now - t.offset) t.period
    rw [h2, Nat.add_zero, Nat.mul_comm] at e
    have e2 : now = t.offset + (now - t.offset) / t.period * t.period := by omega
    generalize (now - t.offset) / t.period = m at e2
    have h3 : ¬ m < n := fun h => by
      have := (hu m).mp h; omega
    have h4 : ¬ n < m := fun h => by
      have h5 : ¬ n < n := Nat.lt_irrefl n
      have h6 : ¬ t.offset + n * t.period < now := fun h => h5 ((hu n).mpr h)
      have h7 : (n + 1) * t.period ≤ m * t.period := Nat.mul_le_mul_right _ h
      rw [Nat.add_mul] at h7
      omega
    have : m = n := by omega
    subst this; exact e2
  · intro e
    refine ⟨by omega, ?_⟩
    have : now - t.offset = n * t.period := by omega
    rw [this, Nat.mul_mod_left]
theorem upto_next {t : Task} {now n : Nat} (hp : 1 ≤ t.period) (hu : ∀ k, k < n ↔ t.offset + k * t.period < now) : ∀ k, k < (n + if comes t now then 1 else 0) ↔ t.offset + k * t.period < now + 1 := by
  intro k
  by_cases hc : comes t now = true
  · rw [if_pos hc]
    have e := (comes_iff hp hu).mp hc
    constructor
    · intro h
      have : k * t.period ≤ n * t.period := Nat.mul_le_mul_right _ (by omega)
      omega
    · intro h
      by_cases hk : k ≤ n
      · omega
      · have h7 : (n + 1) * t.period ≤ k * t.period := Nat.mul_le_mul_right _ (by omega)
        rw [Nat.add_mul] at h7
        omega
  · rw [if_neg hc, Nat.add_zero, hu k]
    have hn : ∀ m, now ≠ t.offset + m * t.period := by
      intro m e
      apply hc
      unfold comes
      rw [Bool.and_eq_true, decide_eq_true_eq, beq_iff_eq]
      refine ⟨by omega, ?_⟩
      have : now - t.offset = m * t.period := by omega
      rw [this, Nat.mul_mod_left]
    have := hn k
    omega
theorem WF.task {s : Set_} (h : WF s) {i : Nat} (hi : i < s.tasks.length) : goodTask (taskAt s i) = true := by
  unfold taskAt
  rw [List.getD_eq_getElem?_getD, List.getElem?_eq_getElem hi]
  exact h.good _ (List.getElem_mem hi)
theorem CInv.start (s : Set_) (h : WF s) : CInv s (startCourse s) := by
  refine ⟨by simp [startCourse], by simp [startCourse], fun i hi => ?_⟩
  have e1 : jobsAt (startCourse s) i = [] := by
    unfold jobsAt startCourse
    rw [List.getD_eq_getElem?_getD, List.getElem?_map, List.getElem?_eq_getElem hi]
    rfl
  have e2 : tallyAt (startCourse s) i = noTally := by
    unfold tallyAt startCourse
    rw [List.getD_eq_getElem?_getD, List.getElem?_map, List.getElem?_eq_getElem hi]
    rfl
  rw [e1, e2]
  refine ⟨by simp, by simp, by simp, by simp, by simp [noTally], ?_, by simp, fun _ => ⟨rfl, rfl⟩⟩
  intro k
  show k < 0 ↔ _ < 0
  omega
theorem RowOk.arrived {s : Set_} {i now : Nat} {q : List Job} {t : Tally} (h : RowOk s i now q t) (hp : 1 ≤ (taskAt s i).period) (hc1 : 1 ≤ (taskAt s i).cycles) (l : Nat) :
    RowOk s i (now + 1) (if comes (taskAt s i) now then q ++ [freshJob s i now] else q) { t with came := t.came + (if comes (taskAt s i) now then 1 else 0), late := l } := by
  have hu := upto_next hp h.upto
  by_cases hc : comes (taskAt s i) now = true
  · rw [if_pos hc] at hu
    rw [if_pos hc, if_pos hc]
    have en := (comes_iff hp h.upto).mp hc
    refine ⟨?_, ?_, ?_, ?_, ?_, hu, ?_, h.most⟩
    · intro j hj
      rcases List.mem_append.mp hj with hj | hj
      · exact h.left j hj
      · rw [List.mem_singleton.mp hj]; exact hc1
    · intro j hj hb
      rcases List.mem_append.mp hj with hj | hj
      · exact h.fresh j hj hb
      · rw [List.mem_singleton.mp hj]; exact ⟨rfl, rfl⟩
    · intro j hj
      cases q with
      | nil => simp at hj
      | cons a r =>
        rw [List.cons_append, List.tail_cons] at hj
        rcases List.mem_append.mp hj with hj | hj
        · exact h.tail j hj
        · rw [List.mem_singleton.mp hj]; rfl
    · rw [List.map_append, h.came, List.length_append, List.length_singleton, List.range'_concat, List.map_append]
      congr 1
      show [now] = [_]
      have := h.cnt
      rw [en, this, Nat.one_mul]
    · show t.came + 1 = t.done + _
      rw [List.length_append, List.length_singleton, h.cnt]; omega
    · intro j hj x hx
      rcases List.mem_append.mp hj with hj | hj
      · exact h.lost j hj x hx
      · rw [List.mem_singleton.mp hj] at hx; cases hx
  · rw [if_neg hc, Nat.add_zero] at hu
    rw [if_neg hc, if_neg hc]
    exact ⟨h.left, h.fresh, h.tail, h.came, h.cnt, hu, h.lost, h.most⟩
theorem mem_put {l : List Nat} {n x : Nat} : x ∈ put l n ↔ x ∈ l ∨ x = n := by
  unfold put
  split
  · rename_i h
    have : n ∈ l := by simpa using h
    constructor
    · exact .inl
    · rintro (h | rfl)
      · exact h
      · exact this
  · simp
theorem mem_foldl_put {x : Nat} : ∀ (u l : List Nat), x ∈ u.foldl put l ↔ x ∈ l ∨ x ∈ u
  | [], l => by simp
  | a :: u, l => by
    rw [List.foldl_cons, mem_foldl_put u, mem_put, List.mem_cons]
    constructor
    · rintro ((h | h) | h)
      · exact .inl h
      · exact .inr (.inl h)
      · exact .inr (.inr h)
    · rintro (h | h | h)
      · exact .inl (.inl h)
      · exact .inl (.inr h)
      · exact .inr h
theorem loses_came (s : Set_) (i : Nat) (j : Job) : (loses s i j).came = j.came := by unfold loses; split <;> rfl
theorem loses_left (s : Set_) (i : Nat) (j : Job) : (loses s i j).left = j.left := by unfold loses; split <;> rfl
theorem loses_begun (s : Set_) (i : Nat) (j : Job) : (loses s i j).begun = j.begun := by unfold loses; split <;> rfl
theorem loses_fresh {s : Set_} {i : Nat} {j : Job} (h : j.begun = false) : loses s i j = j := by unfold loses; rw [h]; simp
theorem mem_loses {s : Set_} {i : Nat} {j : Job} {x : Nat} (h : j.begun = true) : x ∈ (loses s i j).lost ↔ x ∈ j.lost ∨ x ∈ (taskAt s i).used := by
  unfold loses
  rw [if_pos h]
  exact mem_foldl_put _ _
theorem RowOk.other {s : Set_} {i k now : Nat} {q : List Job} {t : Tally} (h : RowOk s k now q t) (hk : i ≠ k) : RowOk s k now (firstJob (loses s i) q) t := by
  cases q with
  | nil => exact h
  | cons j r =>
    show RowOk s k now (loses s i j :: r) t
    refine ⟨?_, ?_, h.tail, ?_, h.cnt, h.upto, ?_, h.most⟩
    · intro a ha
      rcases List.mem_cons.mp ha with rfl | ha
      · rw [loses_left]; exact h.left j List.mem_cons_self
      · exact h.left a (List.mem_cons_of_mem _ ha)
    · intro a ha hb
      rcases List.mem_cons.mp ha with rfl | ha
      · rw [loses_begun] at hb
        rw [loses_fresh hb]
        exact h.fresh j List.mem_cons_self hb
      · exact h.fresh a (List.mem_cons_of_mem _ ha) hb
    · have := h.came
      rw [List.map_cons] at this ⊢
      rw [loses_came]
      exact this
    · intro a ha x hx
      rcases List.mem_cons.mp ha with rfl | ha
      · by_cases hb : j.begun = true
        · rcases (mem_loses hb).mp hx with hx | hx
          · exact h.lost j List.mem_cons_self x hx
          · exact ⟨i, hk, hx⟩
        · rw [loses_fresh (by simpa using hb)] at hx
          exact h.lost j List.mem_cons_self x hx
      · exact h.lost a (List.mem_cons_of_mem _ ha) x hx
theorem RowOk.ran {s : Set_} {i n now : Nat} {j : Job} {r : List Job} {t : Tally} (h : RowOk s i now (j :: r) t) : RowOk s i now (ranRow s i (j :: r)) (ranTally s i n j t) := by
  unfold ranRow ranTally
  dsimp only
  have hl := h.left j List.mem_cons_self
  by_cases hd : j.left + reloadOf s i j - 1 = 0
  · rw [if_pos hd, if_pos hd]
    have ht : ∀ a ∈ r, a.begun = false := fun a ha => h.tail a ha
    refine ⟨fun a ha => h.left a (List.mem_cons_of_mem _ ha), fun a ha => h.fresh a (List.mem_cons_of_mem _ ha), fun a ha => ht a (List.mem_of_mem_tail ha), ?_, ?_, h.upto, fun a ha => h.lost a (List.mem_cons_of_mem _ ha), fun e => ?_⟩
    · have := h.came
      rw [List.map_cons, List.length_cons, List.range'_succ, List.map_cons] at this
      exact (List.cons.inj this).2
    · have := h.cnt
      rw [List.length_cons] at this
      show t.came = t.done + 1 + r.length
      omega
    · exact absurd (show t.done + 1 = 0 from e) (by omega)
  · rw [if_neg hd, if_neg hd]
    refine ⟨?_, ?_, h.tail, ?_, h.cnt, h.upto, ?_, h.most⟩
    · intro a ha
      rcases List.mem_cons.mp ha with rfl | ha
      · show 1 ≤ j.left + reloadOf s i j - 1
        omega
      · exact h.left a (List.mem_cons_of_mem _ ha)
    · intro a ha hb
      rcases List.mem_cons.mp ha with rfl | ha
      · exact absurd (show true = false from hb) (by simp)
      · exact h.fresh a (List.mem_cons_of_mem _ ha) hb
    · have := h.came
      rw [List.map_cons] at this ⊢
      exact this
    · intro a ha x hx
      rcases List.mem_cons.mp ha with rfl | ha
      · exact absurd (show x ∈ ([] : List Nat) from hx) (by simp)
      · exact h.lost a (List.mem_cons_of_mem _ ha) x hx
theorem chosen_some {s : Set_} {c : Course} {i : Nat} (h : chosen s c = some i) : i ∈ s.order ∧ ∃ j r, jobsAt c i = j :: r := by
  have h1 := List.mem_of_find?_eq_some h
  have h2 := List.find?_some h
  refine ⟨h1, ?_⟩
  cases e : jobsAt c i with
  | nil => rw [e] at h2; simp at h2
  | cons j r => exact ⟨j, r, rfl⟩
theorem CInv.cycle {s : Set_} {c : Course} (hw : WF s) (h : CInv s c) : CInv s (cycleOf s c).1 ∧ (cycleOf s c).1.now = c.now + 1 := by
  have hg : ∀ i, i < s.tasks.length → RowOk s i (c.now + 1) (jobsAt (arrived s c) i) (tallyAt (arrived s c) i) := fun i hi => by
    rw [jobsAt_arrived (by rw [h.jn]; exact hi), tallyAt_arrived (by rw [h.tn]; exact hi)]
    have g := goodTask_iff.mp (hw.task hi)
    exact (h.row i hi).arrived (by omega) g.1 _
  unfold cycleOf
  dsimp only
  cases hc : chosen s (arrived s c) with
  | none => exact ⟨⟨by rw [← h.jn]; exact arrived_jobs_len s c, by rw [← h.tn]; exact arrived_tallies_len s c, hg⟩, rfl⟩
  | some i =>
    obtain ⟨hi, j, r, e⟩ := chosen_some hc
    have hi : i < s.tasks.length := by simpa using hw.ord.mem_iff.mp hi
    refine ⟨⟨?_, ?_, fun k hk => ?_⟩, ranOn_now e⟩
    · dsimp only; rw [ranOn_jobs_len, arrived_jobs_len]; exact h.jn
    · dsimp only; rw [ranOn_tallies_len, arrived_tallies_len]; exact h.tn
    · dsimp only
      rw [ranOn_now e, arrived_now, jobsAt_ranOn e (by rw [arrived_jobs_len, h.jn]; exact hk), tallyAt_ranOn e (by rw [arrived_tallies_len, h.tn]; exact hi)]
      by_cases hki : k = i
      · subst hki
        rw [if_pos rfl, if_pos rfl]
        have := hg k hk
        rw [e] at this ⊢
        exact this.ran
      · rw [if_neg hki, if_neg hki]
        exact (hg k hk).other fun e => hki e.symm
theorem courseFor_snoc (s : Set_) : ∀ (n : Nat) (c : Course), courseFor s (n + 1) c = (cycleOf s (courseFor s n c)).1
  | 0, _ => rfl
  | n + 1, c => by
    show courseFor s (n + 1) (cycleOf s c).1 = (cycleOf s (courseFor s n (cycleOf s c).1)).1
    exact courseFor_snoc s n _
theorem CInv.course {s : Set_} (hw : WF s) : ∀ (n : Nat) {c : Course}, CInv s c → CInv s (courseFor s n c) ∧ (courseFor s n c).now = c.now + n
  | 0, _, h => ⟨h, rfl⟩
  | n + 1, c, h => by
    obtain ⟨h1, h2⟩ := h.cycle hw
    obtain ⟨h3, h4⟩ := CInv.course hw n h1
    exact ⟨h3, by rw [show courseFor s (n + 1) c = courseFor s n (cycleOf s c).1 from rfl, h4, h2]; omega⟩
end My
namespace My
open Vawctg
def lastOk (s : Set_) : Bool := match s.order.getLast? with
  | none => true
  | some i => inTime s i
theorem lastOk_nil {s : Set_} (e : s.order = []) : lastOk s = true := by unfold lastOk; rw [e]; rfl
theorem lastOk_snoc {s : Set_} {p : List Nat} {i : Nat} (e : s.order = p ++ [i]) : lastOk s = inTime s i := by unfold lastOk; rw [e, List.getLast?_concat]
theorem snoc_or {α : Type} (l : List α) : l = [] ∨ ∃ p x, l = p ++ [x] := by
  rcases List.eq_nil_or_concat l with h | ⟨p, x, h⟩
  · exact .inl h
  · exact .inr ⟨p, x, by rw [h, List.concat_eq_append]⟩
theorem sub_len : ∀ (l m : List Nat), l.Nodup → (∀ x ∈ l, x ∈ m) → l.length ≤ m.length
  | [], _, _, _ => Nat.zero_le _
  | a :: l, m, hn, hs => by
    rw [List.nodup_cons] at hn
    have ha := hs a List.mem_cons_self
    have := sub_len l (m.erase a) hn.2 fun x hx => by
      have hxa : x ≠ a := fun e => hn.1 (e ▸ hx)
      exact (List.mem_erase_of_ne hxa).mpr (hs x (List.mem_cons_of_mem _ hx))
    rw [List.length_erase_of_mem ha] at this
    have h0 : 0 < m.length := List.length_pos_of_mem ha
    rw [List.length_cons]
    omega
def left (n : Nat) (h : List Nat) : List Nat := (List.range n).filter fun a => !h.contains a
def compl (n : Nat) (h : List Nat) : List (List Nat) := (ordersOf (left n h).length (left n h)).map fun r => h ++ r
structure HeadOk (s : Set_) (h : List Nat) : Prop where
  nd : h.Nodup
  lt : ∀ x ∈ h, x < s.tasks.length
  pre : ∀ i ∈ h.dropLast, inTime { s with order := h } i = true
theorem left_nodup (n : Nat) (h : List Nat) : (left n h).Nodup := List.Pairwise.filter _ List.nodup_range
theorem mem_left {n : Nat} {h : List Nat} {a : Nat} : a ∈ left n h ↔ a < n ∧ a ∉ h := by
  unfold left
  rw [List.mem_filter, List.mem_range]
  simp
theorem left_nil (n : Nat) : left n [] = List.range n := by
  unfold left
  rw [List.filter_eq_self]
  simp
theorem left_snoc (n : Nat) (h : List Nat) (a : Nat) : left n (h ++ [a]) = (left n h).filter fun b => b != a := by
  unfold left
  rw [List.filter_filter]
  refine List.filter_congr fun x _ => ?_
  by_cases h1 : x ∈ h <;> by_cases h2 : x = a <;> simp [h1, h2]
theorem left_len {n : Nat} {h : List Nat} (hn : h.Nodup) (hl : ∀ x ∈ h, x < n) : (left n h).length + h.length ≤ n := by
  have := sub_len (left n h ++ h) (List.range n) (by
    rw [List.nodup_append]
    exact ⟨left_nodup n h, hn, fun a ha b hb e => (mem_left.mp ha).2 (e ▸ hb)⟩) fun x hx => by
      rcases List.mem_append.mp hx with hx | hx
      · exact List.mem_range.mpr (mem_left.mp hx).1
      · exact List.mem_range.mpr (hl x hx)
  rw [List.length_append, List.length_range] at this
  exact this
theorem left_ne {n : Nat} {h : List Nat} (hl : h.length < n) : left n h ≠ [] := by
  intro e
  have := sub_len (List.range n) h List.nodup_range fun x hx => by
    by_cases hx' : x ∈ h
    · exact hx'
    · have : x ∈ left n h := mem_left.mpr ⟨List.mem_range.mp hx, hx'⟩
      rw [e] at this; cases this
  rw [List.length_range] at this
  omega
theorem compl_nil (n : Nat) : compl n [] = ordersOf n (List.range n) := by
  unfold compl
  rw [left_nil, List.length_range]
  simp
theorem ordersOf_nil (n : Nat) : ordersOf n [] = [[]] := by cases n <;> simp [ordersOf]
theorem compl_full {n : Nat} {h : List Nat} (hn : h.Nodup) (hl : ∀ x ∈ h, x < n) (e : h.length = n) : compl n h = [h] := by
  have h1 := left_len hn hl
  have h2 : left n h = [] := List.length_eq_zero_iff.mp (by omega)
  unfold compl
  rw [h2, ordersOf_nil]
  simp
theorem compl_step {n : Nat} {h : List Nat} (hl : h.length < n) : compl n h = (left n h).flatMap fun a => compl n (h ++ [a]) := by
  have hne := left_ne hl
  unfold compl
  have hnd := left_nodup n h
  cases e : left n h with
  | nil => exact absurd e hne
  | cons x l =>
    rw [e] at hnd
    rw [List.length_cons, ordersOf]
    · rw [List.map_flatMap]
      rw [List.flatMap_def, List.flatMap_def]
      congr 1
      refine List.map_congr_left fun a ha => ?_
      rw [left_snoc, e]
      have hp := filter_ne_perm hnd ha
      have hlen := hp.length_eq
      rw [List.length_cons, List.length_cons] at hlen
      have : ((x :: l).filter fun b => b != a).length = l.length := by omega
      rw [this, List.map_map]
      refine List.map_congr_left fun r _ => ?_
      show h ++ a :: r = h ++ [a] ++ r
      simp
    · simp
theorem compl_mem {n : Nat} {h o : List Nat} (hn : h.Nodup) (ho : o ∈ compl n h) : ∃ r, o = h ++ r ∧ o.Nodup := by
  unfold compl at ho
  obtain ⟨r, hr, rfl⟩ := List.mem_map.mp ho
  refine ⟨r, rfl, ?_⟩
  have hp := (ordersOf_mem _ _ (Nat.le_refl _) (left_nodup n h) r).mp hr
  rw [List.nodup_append]
  refine ⟨hn, hp.nodup_iff.mpr (left_nodup n h), fun a ha b hb e => ?_⟩
  have := mem_left.mp (hp.mem_iff.mp hb)
  exact this.2 (e ▸ ha)
theorem inTime_more {s : Set_} {h r : List Nat} (hn : h.Nodup) (hn' : (h ++ r).Nodup) {i : Nat} (hi : i ∈ h) : inTime { s with order := h ++ r } i = inTime { s with order := h } i := by
  obtain ⟨p, q, e, _, _⟩ := order_split hi
  exact inTime_prefix (s := { s with order := h ++ r }) (s' := { s with order := h }) (p := p) (r := q ++ r) (r' := q) rfl rfl (by show h ++ r = _; rw [e]; simp) e hn' hn
theorem head_fail {s : Set_} {h : List Nat} (hk : HeadOk s h) (hl : lastOk { s with order := h } = false) : ∀ o ∈ compl s.tasks.length h, allInTime { s with order := o } = false := by
  intro o ho
  obtain ⟨r, rfl, hnd⟩ := compl_mem hk.nd ho
  rcases snoc_or h with e | ⟨p, i, e⟩
  · rw [lastOk_nil (s := { s with order := h }) e] at hl; cases hl
  · rw [lastOk_snoc (s := { s with order := h }) e] at hl
    have hi : i ∈ h := by rw [e]; simp
    unfold allInTime
    rw [List.all_eq_false]
    refine ⟨i, List.mem_append_left _ hi, ?_⟩
    rw [inTime_more hk.nd hnd hi, hl]
    simp
theorem head_all {s : Set_} {h : List Nat} (hk : HeadOk s h) (hl : lastOk { s with order := h } = true) : ∀ i ∈ h, inTime { s with order := h } i = true := by
  intro i hi
  rcases snoc_or h with e | ⟨p, x, e⟩
  · rw [e] at hi; cases hi
  · rw [e, List.mem_append] at hi
    rcases hi with hi | hi
    · exact hk.pre i (by rw [e, List.dropLast_concat]; exact hi)
    · have : i = x := by simpa using hi
      subst this
      rw [lastOk_snoc (s := { s with order := h }) e] at hl
      exact hl
theorem head_more {s : Set_} {h : List Nat} (hk : HeadOk s h) (hl : lastOk { s with order := h } = true) {a : Nat} (ha : a ∈ left s.tasks.length h) : HeadOk s (h ++ [a]) := by
  obtain ⟨h1, h2⟩ := mem_left.mp ha
  have hnd : (h ++ [a]).Nodup := by
    rw [List.nodup_append]
    refine ⟨hk.nd, by simp, fun x hx y hy e => ?_⟩
    have : y = a := by simpa using hy
    subst this; exact h2 (e ▸ hx)
  refine ⟨hnd, fun x hx => ?_, fun i hi => ?_⟩
  · rcases List.mem_append.mp hx with hx | hx
    · exact hk.lt x hx
    · have : x = a := by simpa using hx
      omega
  · rw [List.dropLast_concat] at hi
    rw [inTime_more hk.nd hnd hi]
    exact head_all hk hl i hi
def nodes : Nat → Nat
  | 0 => 1
  | k + 1 => 1 + (k + 1) * nodes k
theorem nodes_pos (k : Nat) : 1 ≤ nodes k := by cases k <;> simp [nodes]
def wsum (n : Nat) (hs : List (List Nat)) : Nat := Vawctg.sum (hs.map fun h => nodes (n - h.length))
theorem wsum_append (n : Nat) (a b : List (List Nat)) : wsum n (a ++ b) = wsum n a + wsum n b := by
  unfold wsum; rw [List.map_append, sum_append]
theorem wsum_one (n : Nat) (h : List Nat) : wsum n [h] = nodes (n - h.length) := by
  unfold wsum; rw [List.map_cons, sum_cons]; rfl
theorem len_wsum (n : Nat) : ∀ hs : List (List Nat), hs.length ≤ wsum n hs
  | [] => Nat.zero_le _
  | h :: r => by
    have := len_wsum n r
    have h1 := nodes_pos (n - h.length)
    unfold wsum at this ⊢
    rw [List.map_cons, sum_cons, List.length_cons]
    omega
theorem wsum_kids (n : Nat) (h : List Nat) : ∀ l : List Nat, wsum n (l.map fun a => h ++ [a]) = l.length * nodes (n - (h.length + 1))
  | [] => by simp [wsum, sum_nil]
  | a :: l => by
    have ih := wsum_kids n h l
    unfold wsum at ih ⊢
    rw [List.map_cons, List.map_cons, sum_cons, ih, List.length_append, List.length_singleton, List.length_cons, Nat.add_mul]
    omega
theorem wsum_less {n : Nat} {h : List Nat} (hn : h.Nodup) (hl : ∀ x ∈ h, x < n) (hlen : h.length < n) (init : List (List Nat)) (l : List Nat) (el : l.length = (left n h).length) : wsum n (init ++ l.map fun a => h ++ [a]) < wsum n (init ++ [h]) := by
  rw [wsum_append, wsum_append, wsum_one, wsum_kids, el]
  have h1 := left_len hn hl
  obtain ⟨k, hk⟩ : ∃ k, n - h.length = k + 1 := ⟨n - h.length - 1, by omega⟩
  rw [hk, show n - (h.length + 1) = k by omega]
  have h2 : (left n h).length * nodes k ≤ (k + 1) * nodes k := Nat.mul_le_mul_right _ (by omega)
  show _ < _ + (1 + (k + 1) * nodes k)
  omega
theorem nodes_le {n : Nat} (h : n ≤ 6) : nodes n ≤ 1957 := by
  match n, h with
  | 0, _ => decide
  | 1, _ => decide
  | 2, _ => decide
  | 3, _ => decide
  | 4, _ => decide
  | 5, _ => decide
  | 6, _ => decide
  | n + 7, h => omega
def search (s : Set_) (hs : List (List Nat)) : Option (List Nat) := (hs.reverse.flatMap (compl s.tasks.length)).find? fun o => allInTime { s with order := o }
theorem search_start (s : Set_) : search s [[]] = bestOrder s := by
  unfold search bestOrder numbers
  show ((compl s.tasks.length [] ++ []).find? _) = _
  rw [List.append_nil, compl_nil]
theorem search_pop (s : Set_) (init : List (List Nat)) (h : List Nat) : search s (init ++ [h]) = ((compl s.tasks.length h).find? fun o => allInTime { s with order := o }).or (search s init) := by
  unfold search
  rw [List.reverse_append]
  show ((compl s.tasks.length h ++ _).find? _) = _
  rw [List.find?_append]
  rfl
theorem search_fail {s : Set_} {h : List Nat} (hk : HeadOk s h) (hl : lastOk { s with order := h } = false) (init : List (List Nat)) : search s (init ++ [h]) = search s init := by
  rw [search_pop, List.find?_eq_none.mpr (fun o ho => by rw [head_fail hk hl o ho]; simp)]
  rfl
theorem search_found {s : Set_} {h : List Nat} (hk : HeadOk s h) (hl : lastOk { s with order := h } = true) (e : h.length = s.tasks.length) (init : List (List Nat)) : search s (init ++ [h]) = some h := by
  rw [search_pop, compl_full hk.nd hk.lt e]
  have : allInTime { s with order := h } = true := by
    unfold allInTime
    rw [List.all_eq_true]
    exact head_all hk hl
  rw [List.find?_cons, this]
  rfl
theorem search_kids {s : Set_} {h : List Nat} (hl : h.length < s.tasks.length) (init : List (List Nat)) : search s (init ++ ((left s.tasks.length h).reverse.map fun a => h ++ [a])) = search s (init ++ [h]) := by
  rw [search_pop]
  unfold search
  rw [List.reverse_append, List.flatMap_append, List.find?_append, compl_step hl]
  congr 2
  rw [← List.map_reverse, List.reverse_reverse, List.flatMap_map]
end My
set_option maxHeartbeats 4000000
namespace L4
open PySem PySem.W PySem.Spec PyProof.Rows PyProof.Rows.G
section
variable {prog : Program} {w : World} {A : Around} {E : Value → Shared → Prop} {s : Shared}
theorem collect_range {r : Addr} {a b : Int} {t u v : Tok} {n : Nat} {Q : List Value → Shared → Prop} (hh : A.handled = none) (hr : IsRange s.heap r a b 1 t u v) (hsmall : Builtin.Range.small a b 1 = true)
    (hn : Builtin.Range.rangeSize a b 1 = n) (hlen : n ≤ 2 ^ 24)
    (h : ∀ h' tk acc, (∀ b o, s.heap.get? b = some o → h'.get? b = some o) → s.heap.objs.size ≤ h'.objs.size → ItemsOf (fun i v => ∃ t, v = .int (a + i * 1) t) acc n → Q acc.toList { s with heap := h', toks := tk }) :
    wpAny (model prog w) A (collect (.ref r)) Q E s := by
  unfold collect
  refine wpAny_bind (wpAny_runValue (codeAny_builtin entry_proto_collect' ?_))
  rw [Around.under_plainId PySem.F.plain_proto_collect _]
  show wpAny _ A.in1 (newList [] >>= fun l => again (.builtin "list.__iadd__" ⟨[l, .ref r], []⟩)) _ _ s
  refine wpAny_bind (wpAny_newObj_type ?_)
  refine wpAny_pure ⟨plainId_quiet PySem.F.plain_list_iadd _, codeAny_builtin entry_list_iadd' ?_⟩
  rw [Around.under_plainId PySem.F.plain_list_iadd _]
  have hS : (s.heap.push { cls := .type "list", data := .seq ([] : List Value).toArray }).get? s.heap.objs.size = some { cls := .type "list", data := .seq #[] } := Heap.get?_push_size _ rfl
  show wpAny _ A.in1 (Builtin.List.listExtendWith (.ref s.heap.objs.size) (.ref r) (.ref s.heap.objs.size)) _ _ _
  have key := wpAny_extend_range (prog := prog) (w := w) (A := A) (s := { s with heap := s.heap.push { cls := .type "list", data := .seq ([] : List Value).toArray } })
    (R := fun (q : Result) (s' : Shared) => ∃ (h' : Heap) (tk : Nat) (acc' : Array Value) (c' : Nat), q = .ok (.ret (.ref s.heap.objs.size)) ∧ s' = { s with heap := h', toks := tk } ∧
      (∀ b o, s.heap.get? b = some o → h'.get? b = some o) ∧ h'.get? s.heap.objs.size = some { cls := .type "list", dict := none, data := .seq acc' c', slots := #[] } ∧ ItemsOf (fun i v => ∃ t, v = .int (a + i * 1) t) acc' n)
    hh (Heap.get?_push_of_some _ hr) hsmall hn hlen s.heap.objs.size (.ref s.heap.objs.size) 0 hS
    (fun h' tk acc' c' hk hS' hacc => ⟨h', tk, acc', c', rfl, rfl, fun b o e => hk b o (Nat.ne_of_lt (Heap.lt_size e)) (Heap.get?_push_of_some _ e), hS', hacc⟩)
  refine wpAny_mono key (fun fin s' x => ?_) fun e s' x => ?_
  · cases fin with
    | done f =>
      obtain ⟨h', tk, acc', c', e, rfl, hk, hS', hacc⟩ := x
      cases e
      show wpAny _ A (load s.heap.objs.size >>= _) _ _ _
      refine wpAny_bind (wpAny_load hS' ?_)
      exact wpAny_pure (h h' tk acc' hk (Nat.le_of_lt (Heap.lt_size hS')) hacc)
    | again c₁ =>
      refine ⟨x.1, codeAny_mono x.2 fun q s₂ y => ?_⟩
      obtain ⟨h', tk, acc', c', rfl, rfl, hk, hS', hacc⟩ := y
      show wpAny _ A (load s.heap.objs.size >>= _) _ _ _
      refine wpAny_bind (wpAny_load hS' ?_)
      exact wpAny_pure (h h' tk acc' hk (Nat.le_of_lt (Heap.lt_size hS')) hacc)
  · obtain ⟨_, _, _, _, e', _⟩ := x
    cases e'
def shp : Nat → Bool := fun _ => false
def KeyIs (h : Heap) (kf : Nat → Int) (v : Value) (j : Nat) : Prop := ∃ (t : Addr) (o : Obj) (n : Nat) (t1 t2 : Tok), v = .ref t ∧ h.get? t = some o ∧ o.cls = .type "tuple" ∧ o.data = .seq #[.int (kf j) t1, .int (j : Int) t2] n
theorem KeyIs.key {h : Heap} {kf : Nat → Int} {v : Value} {j : Nat} (x : KeyIs h kf v j) : tupKeyC h shp v = some [Sum.inl (kf j), Sum.inl (j : Int)] := by
  obtain ⟨t, o, n, t1, t2, rfl, ho, hc, hd⟩ := x
  have h1 : isTupObj h (.ref t) = true := by simp [isTupObj, ho, hc]
  unfold tupKeyC
  rw [if_pos h1]
  simp only [tupKey, ho, hd]
  rfl
theorem KeyIs.tup {h : Heap} {kf : Nat → Int} {v : Value} {j : Nat} (x : KeyIs h kf v j) : ∃ f, TupOf h shp v f := by
  obtain ⟨t, o, n, t1, t2, rfl, ho, hc, hd⟩ := x
  exact ⟨.int (kf j) t1, t, o, _, n, rfl, ho, hc, hd, rfl, fun _ => ⟨_, _, rfl⟩, fun z => absurd z (by decide)⟩
theorem KeyIs.ext {h h' : Heap} {kf : Nat → Int} {v : Value} {j : Nat} (x : KeyIs h kf v j) (k : ∀ b o, h.get? b = some o → o.cls = .type "tuple" → h'.get? b = some o) : KeyIs h' kf v j := by
  obtain ⟨t, o, n, t1, t2, rfl, ho, hc, hd⟩ := x
  exact ⟨t, o, n, t1, t2, rfl, k _ _ ho hc, hc, hd⟩
theorem tups_all {h : Heap} {kf : Nat → Int} : ∀ (ks : List Value) (i : Nat), (∀ j v, ks[j]? = some v → KeyIs h kf v (i + j)) → ∃ fs, TupsOf h shp ks fs ∧ fs.length = ks.length
  | [], _, _ => ⟨[], .nil, rfl⟩
  | v :: ks, i, hk => by
    obtain ⟨f, hf⟩ := (hk 0 v rfl).tup
    obtain ⟨fs, h1, h2⟩ := tups_all ks (i + 1) fun j u e => by
      have := hk (j + 1) u (by simpa using e)
      rw [show i + (j + 1) = i + 1 + j by omega] at this
      exact this
    exact ⟨f :: fs, .cons hf h1, by rw [List.length_cons, List.length_cons, h2]⟩
theorem tail_raw {a kS : Addr} {keys : Array Value} {e e1 : Nat} {st : SortSt} {P : PySem.Fin → Shared → Prop} (hk : s.heap.get? kS = some (seqObj "list" keys e)) (ha : s.heap.get? a = some (seqObj "list" #[] e1)) (hka : kS ≠ a) (hz : keys.size ≤ 1000) (hz2 : (arrOf st).size ≤ 1000) (hfl : failedOf st = none)
    (h : ∀ h' c, (∀ b o, b ≠ kS → b ≠ a → s.heap.get? b = some o → h'.get? b = some o) → h'.get? a = some (seqObj "list" ((arrOf st).map (·.2)) c) → s.heap.objs.size ≤ h'.objs.size → P (.done (.ret .none)) { s with heap := h' }) :
    wpAny (model prog w) A (ksk_tail a false e1 (.ref kS) st) P E s := by
  have s1 := Heap.SameBut.update s.heap kS (Obj.mapSeq fun _ => (#[] : Array Value))
  have na1 : (s.heap.update kS (Obj.mapSeq fun _ => (#[] : Array Value))).get? a = some (seqObj "list" #[] e1) := (s1.2 a hka.symm).trans ha
  have s2 := Heap.SameBut.update (s.heap.update kS (Obj.mapSeq fun _ => (#[] : Array Value))) a (Obj.mapSeq fun _ => (arrOf st).map (·.2))
  obtain ⟨c2, hc2⟩ : ∃ c2, ((s.heap.update kS (Obj.mapSeq fun _ => (#[] : Array Value))).update a (Obj.mapSeq fun _ => (arrOf st).map (·.2))).get? a = some (seqObj "list" ((arrOf st).map (·.2)) c2) :=
    ⟨_, get?_update_seq na1 fun _ => (arrOf st).map (·.2)⟩
  unfold ksk_tail
  try dsimp only
  refine wpAny_bind (listUpdate_at hk rfl ?_ (by rw [sizeLine_eq]; omega) (Nat.zero_le _))
  refine wpAny_bind (wpAny_letGo ?_)
  refine wpAny_bind (seqEpoch_at na1 rfl ?_)
  refine wpAny_bind (listUpdate_at na1 rfl ?_ (Nat.zero_le _) (by simp only [Bool.false_eq_true, if_false, Array.size_map]; rw [sizeLine_eq]; omega))
  rw [hfl]
  simp only [bne_self_eq_false, Bool.false_eq_true, if_false]
  refine wpAny_pure (h _ c2 (fun b o h1 h2 eb => ?_) hc2 ?_)
  · exact (s2.2 b h2).trans ((s1.2 b h1).trans eb)
  · rw [Heap.size_update, Heap.size_update]
    exact Nat.le_refl _
theorem end_raw {a kS : Addr} {ks vs : List Value} {e e1 : Nat} {kf : Nat → Int} {P : PySem.Fin → Shared → Prop} (hk : s.heap.get? kS = some (seqObj "list" ks.toArray e)) (ha : s.heap.get? a = some (seqObj "list" #[] e1)) (hka : kS ≠ a) (hl : ks.length = vs.length) (hz : vs.length ≤ 1000)
    (hK : ∀ j v, ks[j]? = some v → KeyIs s.heap kf v j)
    (h : ∀ h' c (arr : Array Keyed), (∀ b o, b ≠ kS → b ≠ a → s.heap.get? b = some o → h'.get? b = some o) → h'.get? a = some (seqObj "list" (arr.map (·.2)) c) → s.heap.objs.size ≤ h'.objs.size → arr.Perm (ks.toArray.zip vs.toArray) → SortedToK (tupKindC s.heap shp) arr arr.size → P (.done (.ret .none)) { s with heap := h' }) :
    wpAny (model prog w) A (ksk_end a false vs.toArray e1 (.ref kS) ks.toArray) P E s := by
  have hsz : ks.toArray.size = vs.length := by rw [List.size_toArray]; exact hl
  have hzs : (ks.toArray.zip vs.toArray).size = vs.length := by rw [Array.size_zip, hsz, List.size_toArray, Nat.min_self]
  unfold ksk_end
  try dsimp only
  simp only [Bool.false_eq_true, if_false]
  by_cases h2 : vs.toArray.size < 2
  · rw [if_pos h2, if_pos h2]
    refine wpAny_bind (wpAny_pure ?_)
    rw [StateT.run_pure]
    refine wpAny_bind (wpAny_pure ?_)
    try dsimp only
    refine tail_raw (st := SortSt.mk' general' (ks.toArray.zip vs.toArray) #[] 7 none) hk ha hka (by omega) (by show (ks.toArray.zip vs.toArray).size ≤ 1000; omega) rfl fun h' c h1 h3 h4 => h h' c _ h1 h3 h4 (Array.Perm.refl _) ?_
    intro i j hij hj
    have hj2 : j < (ks.toArray.zip vs.toArray).size := hj
    rw [hzs] at hj2
    rw [List.size_toArray] at h2
    have : i = j := by omega
    subst this
    exact KeyOrd.kle_refl _
  · rw [if_neg h2, if_neg h2]
    rw [List.size_toArray] at h2
    obtain ⟨fs, hT, hfl⟩ := tups_all (h := s.heap) (kf := kf) ks 0 fun j v e => by rw [Nat.zero_add]; exact hK j v e
    refine wpAny_bind (tup_kind (by omega) hT ?_)
    have h0 : KeysOf (tupKindC s.heap shp) (ks.toArray.zip vs.toArray) := by
      intro p hp
      rw [ksk_zip] at hp
      have hp' : p ∈ ks.zip vs := by simpa using hp
      obtain ⟨x, y⟩ := p
      obtain ⟨j, hj, ej⟩ := List.getElem_of_mem (List.of_mem_zip hp').1
      exact ⟨_, (hK j x (by rw [List.getElem?_eq_getElem hj, ej])).key⟩
    refine wpAny_bind (wpAny_mono (wpS_sortRunsSt (κ := tupKindC s.heap shp) (kd := tuples' true) (a₀ := ks.toArray.zip vs.toArray) (st := SortSt.mk' (tuples' true) (ks.toArray.zip vs.toArray) #[] 7 none)
      (Q := fun _ st' => (arrOf st').Perm (ks.toArray.zip vs.toArray) ∧ failedOf st' = none ∧ SortedToK (tupKindC s.heap shp) (arrOf st') (ks.toArray.zip vs.toArray).size)
      (tupC_ltAt true (KeepsTups.refl _)) h0 ⟨Array.Perm.refl _, rfl, rfl⟩ rfl (Stable.refl _) (by rw [hzs]; omega) fun st' a1 a2 a3 a4 => ⟨a1, a2, a3⟩) ?_ fun _ _ e => e)
    rintro ⟨⟨⟩, st'⟩ s' ⟨rfl, hp, hf, hs⟩
    try dsimp only
    exact tail_raw hk ha hka (by omega) (by rw [hp.size_eq, hzs]; omega) hf fun h' c h1 h3 h4 => h h' c _ h1 h3 h4 hp (by rw [hp.size_eq]; exact hs)
end
end L4
set_option maxHeartbeats 4000000
namespace L4
open PySem PySem.W PySem.Spec PyProof.Rows PyProof.Rows.G
section
variable {prog : Program} {w : World} {A : Around} {E : Value → Shared → Prop} {s : Shared}
theorem rest_raw {f : Value} {a kS : Addr} {vs : List Value} {e1 : Nat} {kf : Nat → Int} {P : PySem.Fin → Shared → Prop} (hk0 : s.heap.get? kS = some (seqObj "list" #[] 0)) (ha0 : s.heap.get? a = some (seqObj "list" #[] e1)) (hka : kS ≠ a) (hz : vs.length ≤ 1000)
    (turn : ∀ (j : Nat) (x : Value), vs[j]? = some x → ∀ (h : Heap) (tk : Nat), (∀ b o, b ≠ kS → s.heap.get? b = some o → h.get? b = some o) → ∀ Q' : Value → Shared → Prop,
      (∀ v h' tk', (∀ b o, h.get? b = some o → h'.get? b = some o) → KeyIs h' kf v j → Q' v { s with heap := h', toks := tk' }) → wpAny (model prog w) A (call f [x]) Q' (fun _ _ => False) { s with heap := h, toks := tk })
    (h : ∀ h' tk c (hm : Heap) (ks : List Value) (arr : Array Keyed), (∀ b o, b ≠ kS → b ≠ a → s.heap.get? b = some o → h'.get? b = some o) → h'.get? a = some (seqObj "list" (arr.map (·.2)) c) → ks.length = vs.length → (∀ j v, ks[j]? = some v → KeyIs hm kf v j) →
      arr.Perm (ks.toArray.zip vs.toArray) → SortedToK (tupKindC hm shp) arr arr.size → P (.done (.ret .none)) { s with heap := h', toks := tk }) :
    wpAny (model prog w) A (ksk_rest a f false vs.toArray e1 (.ref kS)) P E s := by
  unfold ksk_rest
  refine wpAny_bind (wpAny_rule ?_)
  first
    | rw [List.forIn_toArray]
    | (rw [← Array.forIn_toList]; simp only [List.toList_toArray])
    | rw [← Array.forIn_toList]
  refine wpAny_bind (ksk_fold (fun i s' => ∃ h' tk ks e, s' = { s with heap := h', toks := tk } ∧ (∀ b o, b ≠ kS → s.heap.get? b = some o → h'.get? b = some o) ∧ h'.get? kS = some (seqObj "list" (List.toArray ks) e) ∧ ks.length = i ∧ i ≤ vs.length ∧ ∀ j v, ks[j]? = some v → KeyIs h' kf v j) vs 0 s
    ⟨s.heap, s.toks, [], 0, rfl, fun b o _ e => e, hk0, rfl, Nat.zero_le _, fun j v e => by simp at e⟩ ?step ?done)
  case step =>
    rintro j x s' hx ⟨h', tk, ks, e, rfl, k1, k2, k3, k4, k5⟩
    simp only [Nat.zero_add] at k3 k4 ⊢
    have hj : j < vs.length := (List.getElem?_eq_some_iff.mp hx).1
    refine wpAny_bind (wpAny_attempt (wpAny_mono (turn j x hx h' tk k1 (fun v s2 => ∃ h2 tk2, (∀ b o, h'.get? b = some o → h2.get? b = some o) ∧ KeyIs h2 kf v j ∧ s2 = { s with heap := h2, toks := tk2 }) fun v h2 tk2 k6 k7 => ⟨h2, tk2, k6, k7, rfl⟩) (fun v s2 he => ?_) fun _ _ hF => hF.elim))
    obtain ⟨h2, tk2, k6, k7, rfl⟩ := he
    try dsimp only
    have nk := k6 _ _ k2
    have s1 := Heap.SameBut.update h2 kS (Obj.mapSeq (·.push v))
    obtain ⟨c2, hc2⟩ : ∃ c2, (h2.update kS (Obj.mapSeq (·.push v))).get? kS = some (seqObj "list" ((List.toArray ks).push v) c2) := ⟨_, get?_update_seq nk (·.push v)⟩
    have ea : (List.toArray ks).push v = List.toArray (ks ++ [v]) := by simp
    refine wpAny_bind (listUpdate_at nk rfl ?_ (by rw [List.size_toArray, sizeLine_eq]; omega) (Nat.le_trans (Nat.le_of_eq (Array.size_push ..)) (by rw [List.size_toArray, sizeLine_eq]; omega)))
    have kt : ∀ b o, h2.get? b = some o → o.cls = .type "tuple" → (h2.update kS (Obj.mapSeq (·.push v))).get? b = some o := fun b o eb hc => by
      refine (s1.2 b fun q => ?_).trans eb
      rw [q, nk] at eb
      cases eb
      exact not_tuple_list hc
    refine wpAny_pure ⟨rfl, _, tk2, ks ++ [v], c2, rfl, fun b o hb eb => (s1.2 b hb).trans (k6 _ _ (k1 b o hb eb)), by rw [← ea]; exact hc2, by rw [List.length_append]; show ks.length + 1 = j + 1; omega, by omega, fun j' v' ev => ?_⟩
    by_cases hlt : j' < ks.length
    · rw [List.getElem?_append_left hlt] at ev
      exact ((k5 j' v' ev).ext fun b o eb _ => k6 b o eb).ext kt
    · rw [List.getElem?_append_right (by omega)] at ev
      have ej : j' - ks.length = 0 := by
        have := (List.getElem?_eq_some_iff.mp ev).1
        simp at this; omega
      rw [ej] at ev
      have : v = v' := by simpa using ev
      subst this
      have : j' = j := by omega
      subst this
      exact k7.ext kt
  case done =>
    rintro s' ⟨h', tk, ks, e, rfl, k1, k2, k3, k4, k5⟩
    try dsimp only
    refine wpAny_bind (listItems_at k2 rfl ?_)
    refine end_raw (s := { s with heap := h', toks := tk }) k2 (k1 _ _ (Ne.symm hka) ha0) hka (by omega) hz k5 fun h3 c arr p1 p2 p3 p4 p5 => ?_
    exact h h3 tk c h' ks arr (fun b o h1 h2 eb => p1 b o h1 h2 (k1 b o h1 eb)) p2 (by omega) k5 p4 p5
theorem tree_raw {f : Value} {a : Addr} {n : Nat} {vs : List Value} {kf : Nat → Int} {P : PySem.Fin → Shared → Prop} (ho : s.heap.get? a = some (seqObj "list" vs.toArray n)) (hz : vs.length ≤ 1000)
    (turn : ∀ (j : Nat) (x : Value), vs[j]? = some x → ∀ (h : Heap) (tk : Nat), (∀ b o, b ≠ a → s.heap.get? b = some o → h.get? b = some o) → ∀ Q' : Value → Shared → Prop,
      (∀ v h' tk', (∀ b o, h.get? b = some o → h'.get? b = some o) → KeyIs h' kf v j → Q' v { s with heap := h', toks := tk' }) → wpAny (model prog w) A (call f [x]) Q' (fun _ _ => False) { s with heap := h, toks := tk })
    (h : ∀ h' tk c (hm : Heap) (ks : List Value) (arr : Array Keyed), (∀ b o, b ≠ a → s.heap.get? b = some o → h'.get? b = some o) → h'.get? a = some (seqObj "list" (arr.map (·.2)) c) → ks.length = vs.length → (∀ j v, ks[j]? = some v → KeyIs hm kf v j) →
      arr.Perm (ks.toArray.zip vs.toArray) → SortedToK (tupKindC hm shp) arr arr.size → P (.done (.ret .none)) { s with heap := h', toks := tk }) :
    wpAny (model prog w) A (ksk_tree a f false) P E s := by
  have ha : a < s.heap.objs.size := Heap.lt_size ho
  have s1 := Heap.SameBut.update s.heap a (Obj.mapSeq fun _ => (#[] : Array Value))
  obtain ⟨e1, ho1⟩ : ∃ e1, (s.heap.update a (Obj.mapSeq fun _ => (#[] : Array Value))).get? a = some (seqObj "list" #[] e1) := ⟨_, get?_update_seq ho fun _ => #[]⟩
  have hkS : ((s.heap.update a (Obj.mapSeq fun _ => (#[] : Array Value))).push (seqObj "tuple" vs.toArray 0)).objs.size = s.heap.objs.size + 1 := by rw [size_push', Heap.size_update]
  unfold ksk_tree
  refine wpAny_bind (listItems_at ho rfl ?_)
  refine wpAny_bind (listUpdate_at ho rfl ?_ (by rw [List.size_toArray, sizeLine_eq]; omega) (Nat.zero_le _))
  refine wpAny_bind (seqEpoch_at ho1 rfl ?_)
  refine wpAny_bind (wpAny_newTuple ?_ (by show vs.length ≤ _; rw [sizeLine_eq]; omega))
  refine wpAny_bind (wpAny_newList ?_ (Nat.zero_le _))
  refine wpAny_holding ?_
  have kp : ∀ b o, b ≠ a → s.heap.get? b = some o → (((s.heap.update a (Obj.mapSeq fun _ => (#[] : Array Value))).push (seqObj "tuple" vs.toArray 0)).push (seqObj "list" #[] 0)).get? b = some o := fun b o hb e =>
    Heap.get?_push_of_some _ (Heap.get?_push_of_some _ ((s1.2 b hb).trans e))
  refine rest_raw (kf := kf) (s := { s with heap := ((s.heap.update a (Obj.mapSeq fun _ => (#[] : Array Value))).push (seqObj "tuple" vs.toArray 0)).push (seqObj "list" #[] 0) }) (kS := ((s.heap.update a (Obj.mapSeq fun _ => (#[] : Array Value))).push (seqObj "tuple" vs.toArray 0)).objs.size)
    (Heap.get?_push_size _ rfl) (Heap.get?_push_of_some _ (Heap.get?_push_of_some _ ho1)) (by rw [hkS]; exact Nat.ne_of_gt (Nat.lt_succ_of_lt ha)) hz (fun j x hx h2 tk hk Q' hQ => ?_) fun h' tk c hm ks arr p1 p2 p3 p4 p5 p6 => ?_
  · refine turn j x hx h2 tk (fun b o hb e => hk b o (fun q => ?_) (kp b o hb e)) Q' hQ
    rw [hkS] at q
    have h3 : s.heap.objs.size + 1 < s.heap.objs.size := q ▸ Heap.lt_size e
    exact absurd h3 (by omega)
  · refine h h' tk c hm ks arr (fun b o hb e => p1 b o (fun q => ?_) hb (kp b o hb e)) p2 p3 p4 p5 p6
    rw [hkS] at q
    have h3 : s.heap.objs.size + 1 < s.heap.objs.size := q ▸ Heap.lt_size e
    exact absurd h3 (by omega)
theorem sorted_raw {f r : Addr} {lo hi : Int} {t u v : Tok} {n : Nat} {kf : Nat → Int} {Q : Value → Shared → Prop} (hh : A.handled = none) (hr : IsRange s.heap r lo hi 1 t u v) (hsmall : Builtin.Range.small lo hi 1 = true)
    (hn : Builtin.Range.rangeSize lo hi 1 = n) (hz : n ≤ 1000)
    (turn : ∀ (j : Nat) (x : Value), j < n → (∃ t, x = Value.int (lo + (j : Int) * 1) t) → ∀ (h : Heap) (tk : Nat), (∀ b o, s.heap.get? b = some o → h.get? b = some o) → ∀ Q' : Value → Shared → Prop,
      (∀ v h' tk', (∀ b o, h.get? b = some o → h'.get? b = some o) → KeyIs h' kf v j → Q' v { s with heap := h', toks := tk' }) → wpAny (model prog w) A.in1.in1 (call (.ref f) [x]) Q' (fun _ _ => False) { s with heap := h, toks := tk })
    (h : ∀ D h' tk c (vs : List Value) (hm : Heap) (ks : List Value) (arr : Array Keyed), (∀ b o, s.heap.get? b = some o → h'.get? b = some o) → s.heap.objs.size ≤ D → h'.get? D = some (seqObj "list" (arr.map (·.2)) c) → vs.length = n → (∀ (j : Nat) x, vs[j]? = some x → ∃ t, x = Value.int (lo + (j : Int) * 1) t) → ks.length = n → (∀ j v, ks[j]? = some v → KeyIs hm kf v j) →
      arr.Perm (ks.toArray.zip vs.toArray) → SortedToK (tupKindC hm shp) arr arr.size → Q (.ref D) { s with heap := h', toks := tk }) :
    wpAny (model prog w) A (call (.builtin "sorted") [.ref r] [(Str.ofString "key", .ref f)]) Q E s := by
  refine call_function_entry_kw kind_sorted plain_sorted entry_sorted (ksk_s1 _ _) ?_
  unfold Builtin.«sorted»
  refine wpAny_bind (m := checkCount "sorted" 1 1 _) (wpAny_pure ?_)
  refine wpAny_bind (collect_range (A := A.in1) hh hr hsmall hn (by omega) fun h1 tk1 acc k1 hs1 hacc => ?_)
  have hal : acc.toList.length = n := by rw [Array.length_toList]; exact hacc.1
  have hai : ∀ (j : Nat) x, acc.toList[j]? = some x → ∃ t, x = Value.int (lo + (j : Int) * 1) t := fun j x e => hacc.2 j x (by simpa using e)
  refine wpAny_bind (wpAny_newList ?_ (by show acc.toList.length ≤ sizeLine; rw [sizeLine_eq]; omega))
  have hoL : (h1.push (seqObj "list" acc.toList.toArray 0)).get? h1.objs.size = some (seqObj "list" acc.toList.toArray 0) := Heap.get?_push_size _ rfl
  refine wpAny_bind (wpAny_holding (wpAny_call_entry_kw slot_list_sort ⟨_, hoL, rfl⟩ entry_list_sort ?body (ksk_l1 _ _)))
  case body =>
    show wpAny (model prog w) A.in1.in1 (Builtin.«list.sort» ⟨[.ref h1.objs.size], [(Str.ofString "key", .ref f)]⟩) _ _ _
    rw [ksk_t1]
    refine tree_raw (kf := kf) (s := { s with heap := h1.push (seqObj "list" acc.toList.toArray 0), toks := tk1 }) hoL (by omega) (fun j x hx h2 tk hk Q' hQ => ?_) fun h' tk c hm ks arr p1 p2 p3 p4 p5 p6 => ⟨_, rfl, ?_⟩
    · exact turn j x (by rw [← hal]; exact (List.getElem?_eq_some_iff.mp hx).1) (hai j x hx) h2 tk (fun b o e => hk b o (Nat.ne_of_lt (Heap.lt_size (k1 b o e))) (Heap.get?_push_of_some _ (k1 b o e))) Q' hQ
    · exact wpAny_pure ⟨_, rfl, h _ h' tk c acc.toList hm ks arr (fun b o e => p1 b o (Nat.ne_of_lt (Heap.lt_size (k1 b o e))) (Heap.get?_push_of_some _ (k1 b o e))) hs1 p2 hal hai (by omega) p4 p5 p6⟩
end
end L4
set_option maxHeartbeats 4000000
namespace L4
open PySem PySem.W PySem.Spec PyProof.Rows PyProof.Rows.G
def idx (p : Keyed) : Nat := match p.2 with
  | .int i _ => i.toNat
  | _ => 0
def byKey (kf : Nat → Int) (a b : Nat) : Prop := kf a < kf b ∨ (kf a = kf b ∧ a ≤ b)
theorem lex_two {a b c d : Int} (h : lexLt itemOrd [Sum.inl c, Sum.inl d] [Sum.inl a, Sum.inl b] = false) : a < c ∨ (a = c ∧ b ≤ d) := by
  rw [lex_false] at h
  obtain ⟨h1, h2⟩ := h
  have h1' : ¬ c < a := of_decide_eq_false (show decide (c < a) = false from h1)
  rcases h2 with h2 | h2
  · exact .inl (of_decide_eq_true (show decide (a < c) = true from h2))
  · rw [lex_false] at h2
    have h3 : ¬ d < b := of_decide_eq_false (show decide (d < b) = false from h2.1)
    by_cases he : a = c
    · exact .inr ⟨he, by omega⟩
    · exact .inl (by omega)
theorem ints_of_mem : ∀ {l : List Keyed}, (∀ p ∈ l, ∃ t, p.2 = Value.int (idx p : Int) t) → IntsAre (l.map (·.2)) ((l.map idx).map fun (i : Nat) => (i : Int))
  | [], _ => .nil
  | p :: r, h => by
    obtain ⟨t, e⟩ := h p List.mem_cons_self
    have ih := ints_of_mem (l := r) fun q hq => h q (List.mem_cons_of_mem _ hq)
    rw [List.map_cons, List.map_cons, List.map_cons, e]
    exact .cons _ t ih
theorem sorted_out {n : Nat} {vs ks : List Value} {hm : Heap} {kf : Nat → Int} {arr : Array Keyed} (hv : vs.length = n) (hvi : ∀ (j : Nat) x, vs[j]? = some x → ∃ t, x = Value.int (0 + (j : Int) * 1) t) (hk : ks.length = n) (hki : ∀ j v, ks[j]? = some v → KeyIs hm kf v j)
    (hp : arr.Perm (ks.toArray.zip vs.toArray)) (hs : SortedToK (tupKindC hm shp) arr arr.size) :
    ∃ out : List Nat, out.Perm (List.range n) ∧ out.Pairwise (byKey kf) ∧ IntsAre (arr.map (·.2)).toList (out.map fun (i : Nat) => (i : Int)) := by
  have hpl : arr.toList.Perm (ks.zip vs) := by
    have := Array.perm_iff_toList_perm.mp hp
    rw [ksk_zip] at this
    simpa using this
  have hZ : ∀ p ∈ ks.zip vs, ∃ j : Nat, idx p = j ∧ (∃ t, p.2 = Value.int (j : Int) t) ∧ KeyIs hm kf p.1 j := by
    intro p hp
    obtain ⟨j, hj, ej⟩ := List.getElem_of_mem hp
    rw [List.length_zip] at hj
    have e1 : p = (ks[j]'(by omega), vs[j]'(by omega)) := by rw [← ej]; simp
    obtain ⟨t, et⟩ := hvi j _ (List.getElem?_eq_getElem (by omega : j < vs.length))
    have e2 : p.2 = Value.int (j : Int) t := by rw [e1]; show vs[j] = _; rw [et]; congr 1; omega
    refine ⟨j, by unfold idx; rw [e2]; simp, ⟨t, e2⟩, ?_⟩
    rw [e1]
    exact hki j _ (List.getElem?_eq_getElem (by omega))
  have hA : ∀ p ∈ arr.toList, ∃ t, p.2 = Value.int (idx p : Int) t := fun p hm' => by
    obtain ⟨j, e, ⟨t, et⟩, _⟩ := hZ p (hpl.mem_iff.mp hm')
    exact ⟨t, by rw [et, e]⟩
  have hK : ∀ p ∈ arr.toList, tupKeyC hm shp p.1 = some [Sum.inl (kf (idx p)), Sum.inl (idx p : Int)] := fun p hm' => by
    obtain ⟨j, e, _, x⟩ := hZ p (hpl.mem_iff.mp hm')
    rw [e]; exact x.key
  refine ⟨arr.toList.map idx, ?_, ?_, ?_⟩
  · refine (hpl.map idx).trans ?_
    have : (ks.zip vs).map idx = List.range n := by
      refine List.ext_getElem (by simp [hk, hv]) fun j h1 h2 => ?_
      have hj : j < n := by simpa using h2
      obtain ⟨t, et⟩ := hvi j _ (List.getElem?_eq_getElem (by omega : j < vs.length))
      simp only [List.getElem_map, List.getElem_zip, List.getElem_range]
      unfold idx
      rw [et]
      simp
    rw [this]
  · rw [List.pairwise_map, List.pairwise_iff_getElem]
    intro i j hi hj hij
    have hi' : i < arr.size := by simpa using hi
    have hj' : j < arr.size := by simpa using hj
    have h := hs i j (Nat.le_of_lt hij) hj'
    have e1 : KK (tupKindC hm shp) arr i = [Sum.inl (kf (idx arr.toList[i])), Sum.inl (idx arr.toList[i] : Int)] := by
      unfold KK
      rw [Array.getElem?_eq_getElem hi']
      have := hK arr.toList[i] (List.getElem_mem hi)
      have e : arr.toList[i] = arr[i] := by simp
      rw [e] at this ⊢
      show ((tupKeyC hm shp arr[i].1).getD _) = _
      rw [this]; rfl
    have e2 : KK (tupKindC hm shp) arr j = [Sum.inl (kf (idx arr.toList[j])), Sum.inl (idx arr.toList[j] : Int)] := by
      unfold KK
      rw [Array.getElem?_eq_getElem hj']
      have := hK arr.toList[j] (List.getElem_mem hj)
      have e : arr.toList[j] = arr[j] := by simp
      rw [e] at this ⊢
      show ((tupKeyC hm shp arr[j].1).getD _) = _
      rw [this]; rfl
    rw [e1, e2] at h
    rcases lex_two h with q | ⟨q1, q2⟩
    · exact .inl q
    · exact .inr ⟨q1, by omega⟩
  · rw [Array.toList_map]
    exact ints_of_mem hA
end L4
set_option maxHeartbeats 4000000
namespace L4
open PySem PySem.W PySem.Spec PyProof.Rows PyProof.Rows.G
section
variable {prog : Program} {w : World} {A : Around} {E : Value → Shared → Prop} {s : Shared}
theorem lam_call {f c' c tm : Addr} {qual nT nI : Str} {params : Arguments} {scope : Scope} {cl : List (Str × Addr)} {pm ctv : Value} {p1 p2 p3 p4 p5 : Pos} {kk : Nat} {j : Nat} {tok : Tok} {its : Array Value} {kf : Nat → Int} {t0 : Tok} {Q : Value → Shared → Prop}
    (hroom : A.depth < recursionLimit) (hlim : s.heap.NoLimit)
    (ho : s.heap.get? f = some (kla_obj "<lambda>" qual params (.Tuple [.Subscript (.Name nT p1) (.Name nI p2) p3, .Name nI p4] kk p5) scope cl pm c' ctv)) (hcd : s.heap.CodeRec (.ref c') qual)
    (hbind : ∀ x : Value, bindArgs (kla_fn "<lambda>" qual params (.Tuple [.Subscript (.Name nT p1) (.Name nI p2) p3, .Name nI p4] kk p5) scope cl pm (.ref c') ctv) ⟨[x], []⟩ = pure [(nI, x)])
    (hk : scope.kind = .function) (hco : scope.isCoroutine = false) (hgen : scope.isGenerator = false) (hcell : ∀ x ∈ scope.names, x.2 ≠ .cell) (hloc : scope.names.lookup nI = some .local) (hfree : scope.names.lookup nT = some .free)
    (d1 : (nT == ("__debug__" : Str)) = false) (d2 : (nI == ("__debug__" : Str)) = false) (d3 : (nT == ("__classdict__" : Str)) = false)
    (hc : cl.lookup nT = some c) (hv : s.heap.IsCell c (some (.ref tm))) (hl : s.heap.IsList tm its) (hj : its[j]? = some (.int (kf j) t0)) (hfit : (j : Int) < 2 ^ 63)
    (h : ∀ v h' tk', (∀ b o, s.heap.get? b = some o → h'.get? b = some o) → KeyIs h' kf v j → Q v { s with heap := h', toks := tk' }) :
    wpAny (model prog w) A (call (.ref f) [.int (j : Int) tok]) Q E s := by
  refine wpAny_call (kla_callFunE hroom ho rfl hco hgen rfl hcd ?_)
  rw [hbind]
  refine wpAny_pure (wpAny_newFunctionEnv hcell (fun y hy => ?_) (fun h₁ hns hsb => ⟨hlim.fresh _ hsb, ?_⟩) hk)
  · have : y = (nI, Value.int (j : Int) tok) := by simpa using hy
    subst this
    exact hloc
  show codeAny _ _ (.expr _ (envX qual scope s.heap.objs.size f (.ref c') cl)) _ _
  have hk₁ : ∀ b o, s.heap.get? b = some o → h₁.get? b = some o := fun b o e => hsb.extBut b o (Nat.ne_of_lt (Heap.lt_size e)) (Heap.get?_push_of_some _ e)
  have hl₁ : h₁.IsList tm its := by
    obtain ⟨o, e, r⟩ := hl
    exact ⟨o, hk₁ _ _ e, r⟩
  have hi : (List.reverse [(nI, Value.int (j : Int) tok)]).lookup nI = some (Value.int (j : Int) tok) := by simp [List.lookup]
  have name_i : ∀ {s₂ : Shared} {pp : Pos} {Q2 : Value → Shared → Prop} {E2 : Value → Shared → Prop} {A2 : Around}, s₂.heap.Ns s.heap.objs.size (fun x => (List.reverse [(nI, Value.int (j : Int) tok)]).lookup x) → Q2 (.int (j : Int) tok) s₂ →
      wpAny (model prog w) A2 (eval (.Name nI pp) (envX qual scope s.heap.objs.size f (.ref c') cl)) Q2 E2 s₂ := fun hn hq => wpAny_Name (wpAny_loadName_local hk hloc hn hi hq) d2
  refine kla_codeExpr ?_
  refine wpAny_Tuple_spliced ?_
  show wpAny _ _ (spliced ((false, eval (.Subscript (.Name nT p1) (.Name nI p2) p3) (envX qual scope s.heap.objs.size f (.ref c') cl)) :: (false, eval (.Name nI p4) (envX qual scope s.heap.objs.size f (.ref c') cl)) :: [])) _ _ _
  refine Calls.spliced_cons (Subscript_ (wpAny_Name (wpAny_loadName_free hk hfree hc (hv.keeps hk₁) ?_ d3) d1))
  refine name_i hns ?_
  refine item_listR hl₁ (by omega) hfit (by rw [Int.toNat_natCast]; exact hj) ?_
  refine Calls.spliced_cons (name_i hns (Calls.spliced_nil ⟨by show 2 ≤ sizeLine; decide, ?_⟩))
  refine h _ _ _ (fun b o e => Heap.get?_push_of_some _ (hk₁ b o e)) ⟨_, _, _, _, _, rfl, Heap.get?_push_size _ rfl, rfl, rfl⟩
end
end L4
set_option maxHeartbeats 2000000
namespace L2
open PySem PySem.Spec PyProof.Rows
section
variable {X : Cx}
def rSortedA (K : PySem.W.Frag) : List V → Hp → VK → Prop := fun vs H Q => ∃ (a : Addr) (ns : List Int), vs = [V.ref a] ∧ SqL K H a (ns.map V.int) ∧ ns.length ≤ sizeLine ∧
  ∀ (ns' : List Int) (p : Addr), ns'.Perm ns → ns'.Pairwise (· ≤ ·) → H p = none → Q (.ref p) (upd H p (.lst (ns'.map V.int)))
theorem call_sorted_any : CallR X (.builtin "sorted") (rSortedA X.K) := by
  intro pins s σ H vs us Q I r h
  obtain ⟨a, ns, rfl, hs, hz, q⟩ := h
  obtain ⟨its, rv, hl, _⟩ := I.list hs
  rw [Vals.ref1 r]
  have hi := rv.ints
  refine PyProof.Rows.sorted_intsAny hl.isList hi (by rw [hi.length]; exact hz) fun out ns' h1 h2 h3 => ?_
  obtain ⟨ep, he'⟩ := PyProof.Rows.sortedAll_at s.heap its out
  have hlen : (ns'.map V.int).length ≤ sizeLine := by rw [List.length_map, h2.length_eq]; exact hz
  exact ⟨.ref _, upd H (s.heap.objs.size + 1) (.lst (ns'.map V.int)), I.laid (t' := s.toks) (fun _ _ => PyProof.Rows.sortedAll_old) (Nat.le_succ _) ⟨hlen, out.toList, ep, vals_of_ints h1, he'⟩, rfl, q ns' _ h2 h3 (I.hok.fresh (Nat.le_succ _))⟩
def firsts (ns : List Int) : List Int := firstMet (fun i => ns.getD i 0) ns.length
def rSetL0 (K : PySem.W.Frag) : List V → Hp → VK → Prop := fun vs H Q => ∃ (a : Addr) (ns : List Int), vs = [V.ref a] ∧ SqL K H a (ns.map V.int) ∧ ns.length + 1 < 4096 ∧
  ∀ (p : Addr), H p = none → Q (.ref p) (upd H p (.set (fun k => (firsts ns).any (· == k)) (firsts ns).length))
theorem call_set_ints (hc : X.calm = true) : CallR X (.type "set") (rSetL0 X.K) := by
  intro pins s σ H vs us Q I r h
  obtain ⟨a, ns, rfl, hs, hz, q⟩ := h
  obtain ⟨its, rv, hl, _⟩ := I.list hs
  rw [Vals.ref1 r]
  have hi := rv.ints
  have hn : its.length = ns.length := hi.length
  have hsz : its.toArray.size = ns.length := by rw [List.size_toArray]; exact hn
  refine call_set_list (items := its.toArray) (ns := ns) (I.ok.hd hc) hl.isList (by simpa using hi) (by rw [hsz]; exact hz) fun h' tk hS hk => ?_
  rw [hsz] at hS
  exact ⟨.ref _, upd H s.heap.objs.size (.set _ _), I.laid (t' := tk) (fun b o e => hk b o (Heap.lt_size e) e) (Nat.le_refl _) hS, rfl, q _ (I.hok.fresh (Nat.le_refl _))⟩
theorem call_len_seto : CallR X (.builtin "len") (fun xs H Q => ∃ (p : Addr) (S : Int → Bool) (n : Nat), xs = [V.ref p] ∧ H p = some (.set S n) ∧ Q (.int n) H) := by
  intro pins s σ H xs us Q I r h
  obtain ⟨p, S, n, rfl, hp, q⟩ := h
  rw [Vals.ref1 r]
  obtain ⟨o, es, ep, t, ho, hex, hd, _, _, hb, hf, e⟩ := (show s.heap.SetOf (intKind X.prog X.w) p S n from I.hok p _ hp)
  subst e
  refine call_len_set ho hex hd hf ?_ ⟨.int es.size, H, I.tok _, ⟨_, rfl⟩, q⟩
  have : scanBound = 4096 := rfl
  omega
theorem step_dedup_len (l : List Int) (k : Int) : (step_dedup l k).length = if l.any (· == k) then l.length else l.length + 1 := by
  unfold step_dedup
  split <;> simp_all
theorem firstMet_len_eq (val : Nat → Int) : ∀ n, (firstMet val n).length = n ↔ ((List.range n).map val).Nodup
  | 0 => by simp [firstMet_zero]
  | n + 1 => by
    have ih := firstMet_len_eq val n
    have hle := firstMet_length_le val n
    rw [firstMet_succ, step_dedup_len, firstMet_any, List.range_succ, List.map_append, List.nodup_append]
    by_cases h : (((List.range n).map val).any (· == val n)) = true
    · rw [if_pos h]
      constructor
      · intro e; omega
      · rintro ⟨_, _, hd⟩
        exfalso
        obtain ⟨x, hx, e⟩ := List.any_eq_true.mp h
        have e : x = val n := by simpa using e
        exact hd x hx (val n) (by simp) e
    · rw [if_neg h]
      constructor
      · intro e
        refine ⟨ih.mp (by omega), by simp, fun x hx y hy e2 => h ?_⟩
        have : y = val n := by simpa using hy
        subst this
        exact List.any_eq_true.mpr ⟨x, hx, by simp [e2]⟩
      · rintro ⟨h1, _, _⟩
        have := ih.mpr h1
        omega
theorem range_getD (ns : List Int) : (List.range ns.length).map (fun i => ns.getD i 0) = ns := by
  refine List.ext_getElem (by simp) fun i h1 h2 => ?_
  simp at h1
  simp [h1]
theorem firsts_len (ns : List Int) : (firsts ns).length = ns.length ↔ ns.Nodup := by
  unfold firsts
  rw [firstMet_len_eq, range_getD]
theorem call_range1 : CallR X (.type "range") (fun xs H Q => ∃ j : Int, xs = [V.int j] ∧ -(2 ^ 62) ≤ j ∧ j < 2 ^ 62 ∧ ∀ p, H p = none → Q (.ref p) (upd H p (.rng 0 j))) := by
  intro pins s σ H xs us Q I r h
  obtain ⟨j, rfl, h1, h2, q⟩ := h
  obtain ⟨u, rfl, t, rfl⟩ := vals1 r
  refine call_range_1 ?_
  exact ⟨.ref _, upd H s.heap.objs.size (.rng 0 j), I.laid (fun b o e => Heap.get?_push_of_some _ e) (Nat.le_refl _) ⟨_, _, _, Heap.get?_push_size _ rfl⟩, rfl, q _ (I.hok.fresh (Nat.le_refl _))⟩
def upto (lo : Int) (n : Nat) : List Int := (List.range n).map fun (i : Nat) => lo + i
theorem vals_range {lo : Int} {n : Nat} {acc : Array Value} (h : ItemsOf (fun i v => ∃ t, v = .int (lo + i * 1) t) acc n) : Vals ((upto lo n).map V.int) acc.toList := by
  obtain ⟨hz, hv⟩ := h
  have hz' : acc.toList.length = n := by simpa using hz
  have key : ∀ (us : List Value) (k : Nat), (∀ (j : Nat) (v : Value), us[j]? = some v → ∃ t, v = .int (lo + (k + j : Nat)) t) → Vals (((List.range' k us.length).map fun (i : Nat) => lo + (i : Int)).map V.int) us := by
    intro us
    induction us with
    | nil => intro k _; exact .nil
    | cons u us ih =>
      intro k hk
      rw [List.length_cons, List.range'_succ, List.map_cons, List.map_cons]
      refine .cons ?_ (ih (k + 1) fun j v e => ?_)
      · obtain ⟨t, e⟩ := hk 0 u rfl
        exact ⟨t, by simpa using e⟩
      · obtain ⟨t, e⟩ := hk (j + 1) v (by simpa using e)
        exact ⟨t, by rw [e, show k + (j + 1) = k + 1 + j by omega]⟩
  have := key acc.toList 0 fun j v e => by
    obtain ⟨t, e'⟩ := hv j v (by simpa using e)
    exact ⟨t, by rw [e', Int.mul_one, Nat.zero_add]⟩
  rw [hz', ← List.range_eq_range'] at this
  exact this
theorem call_list_rng (hc : X.calm = true) : CallR X (.type "list") (fun xs H Q => ∃ (p : Addr) (lo hi : Int), xs = [V.ref p] ∧ H p = some (.rng lo hi) ∧ -(2 ^ 62) ≤ lo ∧ lo < 2 ^ 62 ∧ -(2 ^ 62) ≤ hi ∧ hi < 2 ^ 62 ∧ (hi - lo).toNat ≤ sizeLine ∧
    ∀ l, H l = none → Q (.ref l) (upd H l (.lst ((upto lo (hi - lo).toNat).map V.int)))) := by
  intro pins s σ H xs us Q I r h
  obtain ⟨p, lo, hi, rfl, hp, h1, h2, h3, h4, hz, q⟩ := h
  rw [Vals.ref1 r]
  obtain ⟨t, u, v, ho⟩ := (show ∃ t u v, s.heap.get? p = some { cls := .type "range", data := .fields #[.int lo t, .int hi u, .int 1 v] } from I.hok p _ hp)
  have hsl := sizeLine_eq
  refine call_list_range (n := (hi - lo).toNat) (I.ok.hd hc) (show IsRange s.heap p lo hi 1 t u v from ho) (small_one h1 h2 h3 h4) (by rw [rangeSize_one]; split <;> omega) (by omega) fun h' tk acc' c' hk ho' hacc => ?_
  refine ⟨.ref _, upd H s.heap.objs.size (.lst ((upto lo (hi - lo).toNat).map V.int)), I.laid (t' := tk) (fun b o e => hk b o e) (Nat.le_refl _) ⟨?_, acc'.toList, c', vals_range hacc, ?_⟩, rfl, q _ (I.hok.fresh (Nat.le_refl _))⟩
  · simp [upto]; omega
  · rw [ho']
end
theorem ite_d {p A B : Prop} [Decidable p] (h1 : p → A) (h2 : ¬ p → B) : if decide p = true then A else B := by
  by_cases h : p
  · rw [if_pos (decide_eq_true h)]; exact h1 h
  · rw [if_neg (by simpa using h)]; exact h2 h
theorem ite_nd {p A B : Prop} [Decidable p] (h1 : p → B) (h2 : ¬ p → A) : if (!decide p) = true then A else B := by
  by_cases h : p
  · rw [if_neg (by simpa using h)]; exact h1 h
  · rw [if_pos (by simpa using h)]; exact h2 h
theorem ite_dV {a b : Int} {A B : Prop} (h1 : a = b → A) (h2 : ¬ a = b → B) : if decide (V.int a = V.int b) = true then A else B :=
  ite_d (fun h => h1 (V.int.inj h)) fun h => h2 fun e => h (congrArg V.int e)
theorem ite_ndV {a b : Int} {A B : Prop} (h1 : a = b → B) (h2 : ¬ a = b → A) : if (!decide (V.int a = V.int b)) = true then A else B :=
  ite_nd (fun h => h1 (V.int.inj h)) fun h => h2 fun e => h (congrArg V.int e)
theorem ite_b {b : Bool} {A B : Prop} (h1 : b = true → A) (h2 : b = false → B) : if b = true then A else B := by
  cases b
  · exact iteF (h2 rfl)
  · exact iteT (h1 rfl)
theorem ite_nb {b : Bool} {A B : Prop} (h1 : b = true → B) (h2 : b = false → A) : if (!b) = true then A else B := by
  cases b
  · exact iteT (h2 rfl)
  · exact iteF (h1 rfl)
theorem int_at {ns : List Int} {j : Nat} {z : Int} (h : ns[j]? = some z) : (ns.map V.int)[j]? = some (V.int z) := by rw [List.getElem?_map, h]; rfl
theorem atI_int {ns : List Int} {i : Int} {j : Nat} {z : Int} (e : i = (j : Int)) (h : ns[j]? = some z) : atI (ns.map V.int) i = some (V.int z) := at_of e (int_at h)
theorem int_of_at {ns : List Int} {i : Nat} {v : V} (h : (ns.map V.int)[i]? = some v) : ∃ z, ns[i]? = some z ∧ v = V.int z := by
  rw [List.getElem?_map] at h
  cases e : ns[i]? with
  | none => rw [e] at h; cases h
  | some z => rw [e] at h; exact ⟨z, rfl, (Option.some.inj h).symm⟩
theorem Same.new {H : Hp} {p : Addr} {o : HO} (h : H p = Option.none) : Same H (upd H p o) := fun b u e => by
  rw [upd_ne (ne_of_none e h)]; exact e
theorem Same.tupq {K : PySem.W.Frag} {H H' : Hp} {a : Addr} {xs : List V} (e : Same H H') (h : SqT K H a xs) : SqT K H' a xs := by
  rcases h with (h | ⟨o, h⟩) | h
  · exact .inl (.inl (e _ _ h))
  · exact .inl (.inr ⟨o, e _ _ h⟩)
  · exact .inr h
theorem cut_int {ns : List Int} {lo hi : Option Int} : cutV (ns.map V.int) lo hi = (((ns.drop (HT.sIx ns.length 0 lo)).take (HT.sIx ns.length ns.length hi - HT.sIx ns.length 0 lo))).map V.int := by
  unfold cutV
  rw [List.length_map, ← List.map_drop, ← List.map_take]
theorem icast {Q : V → Hp → Prop} {i j : Int} {H : Hp} (e : i = j) (h : Q (.int j) H) : Q (.int i) H := e ▸ h
theorem bcast {Q : V → Hp → Prop} {i j : Bool} {H : Hp} (e : i = j) (h : Q (.bl j) H) : Q (.bl i) H := e ▸ h
theorem eqv_ints : ∀ xs ys : List Int, PyData.eqvAll (xs.map PyData.int) (ys.map PyData.int) = decide (xs = ys)
  | [], [] => by simp [PyData.eqvAll]
  | [], _ :: _ => by simp [PyData.eqvAll]
  | _ :: _, [] => by simp [PyData.eqvAll]
  | x :: xs, y :: ys => by
    rw [List.map_cons, List.map_cons, PyData.eqvAll, PyData.eqv, eqv_ints xs ys]
    by_cases h1 : x = y <;> by_cases h2 : xs = ys <;> simp [h1, h2]
theorem canLay_ints : ∀ xs : List Int, PyData.canLayAll0 (xs.map PyData.int) = true
  | [] => by simp [PyData.canLayAll0]
  | x :: xs => by
    rw [List.map_cons, PyData.canLayAll0, canLay_ints xs]
    simp [PyData.canLay0]
theorem depth_ints : ∀ xs : List Int, PyData.depthAll (xs.map PyData.int) ≤ 1
  | [] => by simp [PyData.depthAll]
  | x :: xs => by
    rw [List.map_cons, PyData.depthAll]
    have := depth_ints xs
    simp [PyData.depth]; omega
theorem shaped_ints (xs : List Int) : SeqAt.shaped (.list (xs.map PyData.int)) = true := by
  unfold SeqAt.shaped
  rw [PyData.canLay0, canLay_ints, PyData.depth]
  have := depth_ints xs
  simp; omega
theorem dp_ints {K : PySem.W.Frag} {H : Hp} : ∀ ns : List Int, DpAll K H (ns.map V.int) (ns.map PyData.int)
  | [] => .nil
  | n :: r => .cons (.int n) (dp_ints r)
theorem Dp.ints {K : PySem.W.Frag} {H : Hp} {a : Addr} {ns : List Int} (h : SqL K H a (ns.map V.int)) : Dp K H (.ref a) (.list (ns.map PyData.int)) := .lst h (dp_ints ns)
theorem lc_pure {K : PySem.W.Frag} {a : Addr} {xs : List V} {g : TG} {tt : TT} {te : TE} {vs : List Nat} {σ : St} {H1 : Hp} {D : Addr} {Qd : Hp → Prop} (f : V → Option V) (hS : SqL K H1 a xs) (hD : H1 D = none) (hz : xs.length ≤ sizeLine)
    (hs : ∀ (i : Nat) (x : V) (acc : List V) (N : Hp → Prop), xs[i]? = some x → (f x = none → N (upd H1 D (.lst acc))) → (∀ y, f x = some y → ∃ acc', upd H1 D (.lst acc) D = some (.lst acc') ∧ acc'.length < sizeLine ∧ N (upd (upd H1 D (.lst acc)) D (.lst (acc' ++ [y])))) →
      g x (wipe σ vs) (upd H1 D (.lst acc)) fun σ2 H2 => wipe σ2 vs = wipe σ vs ∧ tt σ2 H2 fun b H3 =>
        if b = true then te σ2 H3 fun y H4 => ∃ acc, H4 D = some (.lst acc) ∧ acc.length < sizeLine ∧ N (upd H4 D (.lst (acc ++ [y]))) else N H3)
    (hd : Qd (upd H1 D (.lst (xs.filterMap f)))) :
    ∃ W : Nat → Nat → Hp → Prop, (∃ m, W 0 m (upd H1 D (.lst []))) ∧ ∀ i m H, W i m H →
      ((Itl K a).stop i H ∧ Qd H) ∨ ((Itl K a).go i H ∧ ∃ Nx : Hp → Prop, (∀ H', Nx H' → ∃ m', m' < m ∧ W (i + 1) m' H') ∧ ∀ x H', (Itl K a).yld i H x H' → g x (wipe σ vs) H' fun σ2 H2 => wipe σ2 vs = wipe σ vs ∧ tt σ2 H2 fun b H3 =>
        if b = true then te σ2 H3 fun y H4 => ∃ acc, H4 D = some (.lst acc) ∧ acc.length < sizeLine ∧ Nx (upd H4 D (.lst (acc ++ [y]))) else Nx H3) := by
  refine lc_list (K := K) (a := a) (xs := xs) (fun i H => H = upd H1 D (.lst ((xs.take i).filterMap f))) rfl (fun i H _ e => ?_) (fun i x H hx e => ?_) (fun H e => ?_)
  · rw [e]; exact (Same.new hD).seq hS
  · rw [e]
    have ht : xs.take (i + 1) = xs.take i ++ [x] := by rw [List.take_add_one, hx]; rfl
    refine hs i x _ _ hx (fun hf => ?_) fun y hf => ⟨_, upd_same, ?_, ?_⟩
    · rw [ht, List.filterMap_append]; simp [hf]
    · have h1 : i < xs.length := (List.getElem?_eq_some_iff.mp hx).1
      have h2 := List.length_filterMap_le f (xs.take i)
      rw [List.length_take] at h2
      omega
    · rw [upd_upd, ht, List.filterMap_append]; simp [hf]
  · rw [e, List.take_length]; exact hd
end L2
set_option maxHeartbeats 4000000
namespace L2
open PySem PySem.Spec PyProof.Rows
abbrev codeO (c : Addr) (q : Str) : HO := .ext fun h => h.CodeRec (.ref c) q
section
variable {X : Cx} {pins : List (Addr × Obj)} {σ : St} {H : Hp} {s : Shared} {h' : Heap}
theorem Inv.tabled {P c' : Addr} {ps more : Array Value} {q : Str} {t' : Nat} (I : Inv X pins σ H s) (hP : H P = some (.tbl ps)) (hx : Heap.ExtBut P s.heap h') (hP' : h'.get? P = some { cls := .none, data := .fields (ps ++ more) }) (hc : s.heap.objs.size ≤ c') (hcr : h'.CodeRec (.ref c') q) :
    Inv X pins σ (upd (upd H P (.tbl (ps ++ more))) c' (codeO c' q)) { s with heap := h', toks := t' } := by
  have hcn : H c' = none := I.hok.fresh hc
  have hPc : P ≠ c' := ne_of_none hP hcn
  have hPlt : P < s.heap.objs.size := I.hok.lt hP
  have nP : ∀ b u, H b = some u → (∀ z, u ≠ .tbl z) → b ≠ P := fun b u e hn z => by
    rw [z, hP] at e
    exact hn _ (Option.some.inj e).symm
  have gn : ∀ b u, H b = some u → b ≠ P → upd (upd H P (.tbl (ps ++ more))) c' (codeO c' q) b = some u := fun b u e hb => by
    rw [upd_ne (ne_of_none e hcn), upd_ne hb]; exact e
  refine I.un ⟨fun b o e n _ _ => ?_, fun b o e n _ _ => ?_, fun b o e n _ => ?_, fun b o e _ => ?_, fun b xs e => ?_, fun b o u e => ?_, fun b ps' e => ?_⟩ fun b u e => ?_
  · exact hx b o (fun z => by rw [z, hP] at n; cases n) e
  · exact ⟨o.slots, hx b o (fun z => by rw [z, hP] at n; cases n) e⟩
  · have hbc : b ≠ c' := Nat.ne_of_lt (Nat.lt_of_lt_of_le (Heap.lt_size e) hc)
    rw [upd_ne hbc, upd_ne (fun z => by rw [z, hP] at n; cases n)]; exact n
  · by_cases hb : b = P
    · exact ⟨_, hb ▸ hP'⟩
    · exact ⟨o, hx b o hb e⟩
  · exact gn b _ e (nP b _ e fun z => by intro y; cases y)
  · exact gn b _ e (nP b _ e fun z => by intro y; cases y)
  · by_cases hb : b = P
    · subst hb
      rw [hP] at e
      cases e
      exact ⟨more, by rw [upd_ne hPc, upd_same]⟩
    · exact ⟨#[], by rw [gn b _ e hb]; simp⟩
  · by_cases hbc : b = c'
    · subst hbc
      rw [upd_same] at e
      cases e
      refine ⟨hcr, ?_, fun h1 h2 x k => ?_⟩
      · obtain ⟨c, o, vs, t, e1, e2, _⟩ := hcr
        cases e1
        exact ⟨o, e2⟩
      · obtain ⟨c, o, vs, t, e1, e2, r⟩ := x
        cases e1
        exact ⟨_, o, vs, t, rfl, k o e2, r⟩
    · rw [upd_ne hbc] at e
      by_cases hb : b = P
      · subst hb
        rw [upd_same] at e
        cases e
        exact hP'
      · rw [upd_ne hb] at e
        refine (I.hok b u e).stay (fun c o hc' e' => hx c o ?_ e') (fun c e' => gn c _ e' (nP c _ e' fun z => by intro y; cases y)) fun c xs e' => gn c _ e' (nP c _ e' fun z => by intro y; cases y)
        rcases hc' with z | z
        · rw [z]; exact hb
        · exact nP c _ z fun z => by intro y; cases y
end
def TabAt (H : Hp) (O : Addr → Prop) (P : Addr) (lp : Pos) (q : Str) : Prop := O P ∧ (H P = some (.tbl #[]) ∨ ∃ c', O c' ∧ H P = some (.tbl #[rawInt lp.line, rawInt lp.col, .ref c']) ∧ H c' = some (codeO c' q))
theorem TabAt.keep {H H' : Hp} {O O' : Addr → Prop} {P : Addr} {lp : Pos} {q : Str} (h : TabAt H O P lp q) (hk : ∀ b o, O b → H b = some o → (∀ xs, o ≠ .lst xs) → (∀ C dx fs, o ≠ .ins C dx fs) → O' b ∧ H' b = some o) : TabAt H' O' P lp q := by
  obtain ⟨hO, h | ⟨c', hc, h1, h2⟩⟩ := h
  · have := hk P _ hO h (fun _ z => nomatch z) fun _ _ _ z => nomatch z
    exact ⟨this.1, .inl this.2⟩
  · have a := hk P _ hO h1 (fun _ z => nomatch z) fun _ _ _ z => nomatch z
    have b := hk c' _ hc h2 (fun _ z => nomatch z) fun _ _ _ z => nomatch z
    exact ⟨a.1, .inr ⟨c', b.1, a.2, b.2⟩⟩
def BMod (base : Heap) (mg : Str → Option Value) : Prop := ∃ bm ob, mg "__builtins__" = some (.ref bm) ∧ bm ≠ builtinsNs ∧ bm ≠ mainGlobals ∧ base.get? bm = some ob ∧ ob.cls = .type "module" ∧ ob.dict = some builtinsNs ∧ ob.data = .plain
def vNats (l : List Nat) : List V := l.map fun (i : Nat) => V.int (i : Int)
def tSortK (K : PySem.W.Frag) (te : TE) (it : Nat) (P : Addr) (lp : Pos) (q : Str) : TE := fun σ H Q => te σ H fun x H1 => ∃ (r tm : Addr) (n : Nat) (ks : List Int) (O : Addr → Prop), x = .ref r ∧ H1 r = some (.rng 0 (n : Int)) ∧ n ≤ 1000 ∧ σ[it]? = some (some (.ref tm)) ∧ SqL K H1 tm (ks.map V.int) ∧ ks.length = n ∧ TabAt H1 O P lp q ∧
  ∀ (out : List Nat) (p : Addr) (H2 : Hp), out.Perm (List.range n) → out.Pairwise (L4.byKey fun j => ks.getD j 0) → (∀ b o, H1 b = some o → b ≠ P → H2 b = some o) → TabAt H2 (fun b => (O b ∨ H1 b = none) ∧ b ≠ p) P lp q → H1 p = none → H2 p = some (.lst (vNats out)) → Q (.ref p) H2
theorem pe_sortedKey {X : Cx} {e : Expr} {te : TE} {P c : Addr} {it : Nat} {nT nI : Str} {params : Arguments} {lscope : Scope} {p p1 p2 p3 p4 p5 lpos kpos pos : Pos} {kk : Nat} {k : Nat}
    (hcalm : X.calm = true) (hroom : Room k X.A) (hg : Gl X "sorted") (hm : X.mg "sorted" = none) (he : PE X e te) (hB : BMod X.base X.mg)
    (hcode : X.env.code = .ref c) (hHd : PySem.W.codeHdIn X.K c P = true) (hit : X.N[it]? = some nT) (hcl : X.env.scope.names.lookup nT = some .cell)
    (hdef : defaultsOf params X.env = ([], [])) (hbind : ∀ (qual : Str) (cl : List (Str × Addr)) (pm : Value) (c' : Addr) (ctv x : Value), bindArgs (PySem.W.kla_fn "<lambda>" qual params (.Tuple [.Subscript (.Name nT p1) (.Name nI p2) p3, .Name nI p4] kk p5) lscope cl pm (.ref c') ctv) ⟨[x], []⟩ = pure [(nI, x)])
    (hnames : lscope.names = [(nI, .local), (nT, .free)]) (hk : lscope.kind = .function) (hco : lscope.isCoroutine = false) (hgen : lscope.isGenerator = false) (hne : (nI == nT) = false) (hne' : (nT == nI) = false)
    (d1 : (nT == ("__debug__" : Str)) = false) (d2 : (nI == ("__debug__" : Str)) = false) (d3 : (nT == ("__classdict__" : Str)) = false)
    (hs : starEach [e] X.env = [(false, eval e X.env)] := by rfl) :
    PE X (.Call (.Name "sorted" p) [e] [⟨some "key", .Lambda params (.Tuple [.Subscript (.Name nT p1) (.Name nI p2) p3, .Name nI p4] kk p5) lscope lpos, kpos⟩] pos) (tSortK X.K te it P lpos (X.env.qual ++ "<lambda>")) := by
  intro pins s σ H Q I h
  refine wpAny_Call_Name_kw (ld_blt I hg hm PyProof.Rows.boot_sorted ?_)
  refine callWith_kw (id := "sorted") ?_ (by rw [hs]; rfl) (by rw [hs]; rfl)
  rw [hs]
  refine Calls.spliced_cons (thn (he pins s σ H _ I h) fun u s1 ⟨x, H1, I1, rx, r, tm, n, ks, O, ex, hr, hn, hσ, hS, hkl, hT, k⟩ => Calls.spliced_nil ?_)
  subst ex
  cases rx
  obtain ⟨m, hnm, hlk⟩ := I1.loc
  obtain ⟨ut, rt, look⟩ := hlk it nT (.ref tm) hit hσ (.inr (.inl hcl))
  obtain rfl : ut = Value.ref tm := rt
  obtain ⟨cc, hcc, hcell⟩ : ∃ cc, X.env.cells.lookup nT = some cc ∧ s1.heap.IsCell cc (some (.ref tm)) := by
    rcases look with ⟨hk', _⟩ | ⟨_, cc, h1, h2⟩
    · have hk'' : X.env.scope.names.lookup nT = some .local := hk'
      rw [hcl] at hk''
      cases hk''
    · exact ⟨cc, h1, h2⟩
  have hclo : closureFor lscope X.env = pure (cloFrom X.env.cells lscope.names []) := closure_ok fun y hy hf => by
    rw [hnames] at hy
    simp only [List.mem_cons, List.not_mem_nil, or_false] at hy
    rcases hy with rfl | rfl
    · cases hf
    · exact ⟨cc, hcc⟩
  have hclk : (cloFrom X.env.cells lscope.names []).lookup nT = some cc := by
    rw [hnames]
    show List.lookup nT [(nT, (X.env.cells.lookup nT).getD 0)] = some cc
    rw [hcc]
    simp [List.lookup]
  have hcells : ∀ x ∈ lscope.names, x.2 ≠ .cell := by
    rw [hnames]
    intro x hx
    simp only [List.mem_cons, List.not_mem_nil, or_false] at hx
    rcases hx with rfl | rfl <;> exact fun z => nomatch z
  have hl1 : lscope.names.lookup nI = some .local := by rw [hnames]; simp [List.lookup]
  have hl2 : lscope.names.lookup nT = some .free := by rw [hnames]; simp [List.lookup, hne']
  have after : ∀ (s2 : Shared) (H2 : Hp) (f c' : Addr) (pm ctv : Value), Inv X pins σ H2 s2 → (∀ b o, H1 b = some o → b ≠ P → H2 b = some o) → (∀ b, H2 b = none → H1 b = none) → (∀ p, H2 p = none → ∀ o, TabAt (upd H2 p o) (fun b => (O b ∨ H1 b = none) ∧ b ≠ p) P lpos (X.env.qual ++ "<lambda>")) →
      s2.heap.IsCell cc (some (.ref tm)) → s2.heap.get? f = some (PySem.W.kla_obj "<lambda>" (X.env.qual ++ "<lambda>") params (.Tuple [.Subscript (.Name nT p1) (.Name nI p2) p3, .Name nI p4] kk p5) lscope (cloFrom X.env.cells lscope.names []) pm c' ctv) → s2.heap.CodeRec (.ref c') (X.env.qual ++ "<lambda>") →
      wpAny (model X.prog X.w) X.A (call (.builtin "sorted") [.ref r] [(Str.ofString "key", .ref f)]) (EP X pins σ Q) X.xe s2 := by
    intro s2 H2 f c' pm ctv I2 kp kn kT hcell2 hf hcr
    have nTP : ∀ {b : Addr} {u : HO}, H1 b = some u → (∀ z, u ≠ .tbl z) → b ≠ P := fun {b u} e hz z => by
      rcases hT.2 with q | ⟨_, _, q, _⟩
      · rw [z, q] at e; exact hz _ (Option.some.inj e).symm
      · rw [z, q] at e; exact hz _ (Option.some.inj e).symm
    obtain ⟨t, tu, tv, hro⟩ := (show ∃ t u v, s2.heap.get? r = some { cls := .type "range", data := .fields #[.int 0 t, .int (n : Int) u, .int 1 v] } from I2.hok r _ (kp _ _ hr (nTP hr fun z => by intro y; cases y)))
    have hS2 : SqL X.K H2 tm (ks.map V.int) := by
      rcases hS with (q | ⟨o, q⟩) | q
      · exact .inl (.inl (kp _ _ q (nTP q fun z => by intro y; cases y)))
      · exact .inl (.inr ⟨o, kp _ _ q (nTP q fun z => by intro y; cases y)⟩)
      · exact .inr q
    obtain ⟨its, rv, hpl, _⟩ := I2.list hS2
    refine L4.sorted_raw (lo := 0) (hi := (n : Int)) (n := n) (kf := fun j => ks.getD j 0) (I2.ok.hd hcalm) (show IsRange s2.heap r 0 (n : Int) 1 t tu tv from hro) (small_one (by decide) (by decide) (by omega) (by omega)) (by rw [rangeSize_one]; split <;> omega) hn ?_ ?_
    · rintro j x hj ⟨tx, rfl⟩ hh tk kx Q' hQ
      have e0 : (0 : Int) + (j : Int) * 1 = (j : Int) := by omega
      rw [e0]
      obtain ⟨kj, hkj⟩ : ∃ kj, ks[j]? = some kj := ⟨_, List.getElem?_eq_getElem (by omega)⟩
      obtain ⟨uj, huj, ruj⟩ := rv.get (int_at hkj)
      obtain ⟨t0, rfl⟩ := ruj
      have hgj : ks.getD j 0 = kj := by rw [List.getD_eq_getElem?_getD, hkj]; rfl
      refine L4.lam_call (s := { s2 with heap := hh, toks := tk }) (kf := fun j => ks.getD j 0) (t0 := t0) (its := its.toArray) hroom.depth (I2.nolimit.keeps kx) (kx _ _ hf) (hcr.keeps kx) (hbind _ _ _ _ _) hk hco hgen hcells hl1 hl2 d1 d2 d3 hclk (hcell2.keeps kx) ?_ ?_ (by omega) hQ
      · obtain ⟨o, e1, r1⟩ := hpl.isList
        exact ⟨o, kx _ _ e1, r1⟩
      · show its.toArray[j]? = some (.int (ks.getD j 0) t0)
        rw [hgj]
        simpa using huj
    · intro D h3 tk c3 vs hm' ks' arr q1 q2 q3 q4 q5 q6 q7 q8 q9
      obtain ⟨out, o1, o2, o3⟩ := L4.sorted_out q4 q5 q6 q7 q8 q9
      have hDn : H2 D = none := I2.hok.fresh q2
      have hol : out.length = n := by simpa using o1.length_eq
      have hsl := sizeLine_eq
      have ev : (out.map fun (i : Nat) => (i : Int)).map V.int = vNats out := by unfold vNats; rw [List.map_map]; rfl
      refine ⟨.ref D, upd H2 D (.lst (vNats out)), I2.laid (t' := tk) q1 q2 ⟨by unfold vNats; rw [List.length_map]; omega, (arr.map (·.2)).toList, c3, by rw [← ev]; exact vals_of_ints o3, by rw [q3]⟩, rfl, ?_⟩
      exact k out D _ o1 o2 (fun b o e1 e2 => by rw [upd_ne (ne_of_none (kp b o e1 e2) hDn)]; exact kp b o e1 e2) (kT D hDn _) (kn D hDn) upd_same
  refine kws_cons (PySem.W.kla_eval hdef ?_)
  have C := PySem.W.codeHd_of_K I1.kIn hHd
  have hgs : s1.heap.Ns mainGlobals X.mg := I1.mod.glob.keeps I1.bk
  obtain ⟨bm, ob, b1, b2, b3, b4, b5, b6, b7⟩ := hB
  have htab : ∀ ps, H1 P = some (.tbl ps) → s1.heap.get? P = some (PySem.W.tabObj ps) := fun ps e => I1.hok P _ e
  have hPn : ∀ ps, H1 P = some (.tbl ps) → ∀ b o, s1.heap.get? b = some o → o.cls ≠ .none → b ≠ P := fun ps e b o e2 hn z => by
    rw [z, htab ps e] at e2
    cases e2
    exact hn rfl
  have hbb : s1.heap.get? bm = some ob := I1.bk _ _ b4
  have hmod : ob.cls ≠ .none := by rw [b5]; exact fun z => nomatch z
  rcases hT with ⟨OP, hT | ⟨c', Oc, hT, hTc⟩⟩
  · -- the first time: the code is made
    have hgP : mainGlobals ≠ P := fun z => by
      obtain ⟨o, es, ep, e1, hd, _⟩ := hgs
      rw [z, htab _ hT] at e1; cases e1; cases hd
    refine PySem.W.kla_makeFunction (mg := X.mg) hclo I1.ok.glob hgs hcode C (htab _ hT) trivial rfl hgP ⟨bm, ob, b1, b2, b3, hPn _ hT _ _ hbb hmod, hbb, b5, b6, b7⟩ fun c' ctv h' tk hx hge hlt hrec htb => ?_
    refine kws_nil ?_
    have hPlt : P < s1.heap.objs.size := I1.hok.lt hT
    have I2 := I1.tabled (t' := tk) (more := #[rawInt lpos.line, rawInt lpos.col, .ref c']) hT hx htb hge hrec
    have hcn : H1 c' = none := I1.hok.fresh hge
    have hPc : P ≠ c' := ne_of_none hT hcn
    have I3 : Inv X pins σ _ { s1 with heap := h'.push (PySem.W.kla_obj "<lambda>" (X.env.qual ++ "<lambda>") params (.Tuple [.Subscript (.Name nT p1) (.Name nI p2) p3, .Name nI p4] kk p5) lscope (cloFrom X.env.cells lscope.names []) ((X.mg "__name__").getD .none) c' ctv), toks := tk } := I2.kept (t' := tk) fun b o e1 => Heap.get?_push_of_some _ e1
    refine after _ _ h'.objs.size c' _ ctv I3 (fun b o e1 e2 => ?_) (fun b e1 => ?_) (fun p' hp' o => ?_) ?_ (Heap.get?_push_size _ rfl) (hrec.push _)
    · rw [upd_ne (ne_of_none e1 hcn), upd_ne e2]; exact e1
    · by_cases z : b = c'
      · rw [z]; exact hcn
      · rw [upd_ne z] at e1
        by_cases z2 : b = P
        · rw [z2, upd_same] at e1; cases e1
        · rw [upd_ne z2] at e1; exact e1
    · have np : P ≠ p' := ne_of_none (by rw [upd_ne hPc, upd_same]) hp'
      have nc : c' ≠ p' := ne_of_none upd_same hp'
      refine ⟨⟨.inl OP, np⟩, .inr ⟨c', ⟨.inr hcn, nc⟩, ?_, ?_⟩⟩
      · rw [upd_ne np, upd_ne hPc, upd_same]; rfl
      · rw [upd_ne nc, upd_same]
    · obtain ⟨oc, e1, e2⟩ := hcell
      refine ⟨oc, Heap.get?_push_of_some _ (hx _ _ (fun z => ?_) e1), e2⟩
      rw [z, htab _ hT] at e1
      cases e1
      cases e2
  · -- the code stands already
    have hcr : s1.heap.CodeRec (.ref c') (X.env.qual ++ "<lambda>") := (I1.hok c' _ hTc).1
    refine PySem.W.kla_makeFunctionHit (mg := X.mg) (cv := .ref c') hclo I1.ok.glob hgs hcode C (htab _ hT) trivial (by simp [codeAmong, rawInt]) ⟨bm, ob, b1, b2, b3, hPn _ hT _ _ hbb hmod, hbb, b5, b6, b7⟩ fun ctv h' tk hx hsz => ?_
    refine kws_nil ?_
    have I3 : Inv X pins σ H1 { s1 with heap := h'.push (PySem.W.kla_obj "<lambda>" (X.env.qual ++ "<lambda>") params (.Tuple [.Subscript (.Name nT p1) (.Name nI p2) p3, .Name nI p4] kk p5) lscope (cloFrom X.env.cells lscope.names []) ((X.mg "__name__").getD .none) c' ctv), toks := tk } := I1.kept (t' := tk) fun b o e1 => Heap.get?_push_of_some _ (hx b o e1)
    refine after _ _ h'.objs.size c' _ ctv I3 (fun b o e1 e2 => e1) (fun b e1 => e1) (fun p' hp' o => ?_) ?_ (Heap.get?_push_size _ rfl) ((hcr.keeps hx).push _)
    · have np : P ≠ p' := ne_of_none hT hp'
      have nc : c' ≠ p' := ne_of_none hTc hp'
      refine ⟨⟨.inl OP, np⟩, .inr ⟨c', ⟨.inl Oc, nc⟩, ?_, ?_⟩⟩
      · rw [upd_ne np]; exact hT
      · rw [upd_ne nc]; exact hTc
    · exact hcell.keeps fun b o e1 => Heap.get?_push_of_some _ (hx b o e1)
theorem Fun.okC {P : Program} {w : World} {K : PySem.W.Frag} {mg : Str → Option Value} {base : Heap} {x qual : Str} {st : Stmt} {f c : Addr} {fd : FuncData} {N ps : List Str} {k : Nat} {sp : Sp} (F : Fun K x qual st f fd) (hc : fd.code = .ref c) (S : FnScope N ps (defScope st)) (len : ∀ vs H Q E, sp vs H Q E → vs.length = ps.length)
    (hbody : ∀ (A : Around) (outer : List Env) (s : Shared) (H : Hp) (vs : List V) (Q : VK) (E : XK), Room k (A.deeper (envOfC qual (defScope st) s.heap.objs.size f (.ref c))) → sp vs H Q E →
      ∃ t, PSs (cxOf CX0 P w K mg base N qual (defScope st) f (.ref c) A outer s H E).nox (defBody st) t ∧ t { nx := fun _ H' => Q .non H', rt := Q } (start N vs) H) : FnOk P w K mg base CX0 (k + 1) f fd ps sp := by
  obtain ⟨oc, od, kV, doc, pm, an, cdv, ct, osl, rfl, lk, hcd⟩ := F.ex
  have e : cdv = .ref c := hc
  subst e
  refine fn_of lk hcd S len fun A outer s H vs Q E hr hsp => ?_
  obtain ⟨t, h, q⟩ := hbody A outer s H vs Q E hr hsp
  exact ⟨t, h.nox, q⟩
end L2
set_option maxHeartbeats 2000000
namespace L2
open PySem PySem.Spec PyProof.Rows
open PySem.W (WData Codec OpenSpec Well WellAll ReadsW ReadsAllW)
mutual
theorem Dw.mono {K : PySem.W.Frag} {H H' : Hp} (s : Same H H') : ∀ {v : V} {d : WData}, Dw K H v d → Dw K H' v d
  | _, _, .non => .non
  | _, _, .bl b => .bl b
  | _, _, .int i => .int i
  | _, _, .str x => .str x
  | _, _, .byt b => .byt b
  | _, _, .lst h1 h2 => .lst (s.seq h1) (DwAll.mono s h2)
  | _, _, .tup h1 h2 => .tup (s.tupq h1) (DwAll.mono s h2)
theorem DwAll.mono {K : PySem.W.Frag} {H H' : Hp} (s : Same H H') : ∀ {vs : List V} {ds : List WData}, DwAll K H vs ds → DwAll K H' vs ds
  | _, _, .nil => .nil
  | _, _, .cons h1 h2 => .cons (Dw.mono s h1) (DwAll.mono s h2)
end
def OnlyFT (Pt : Addr) (H : Hp) : Prop := H Pt = some (.tbl #[]) ∧ ∀ b, b ≠ Pt → H b = none ∨ ∃ o u, H b = some (.frz o u)
theorem spec_callT {P : Program} {w : World} {K : PySem.W.Frag} {mg mb : Str → Option Value} {CX : CXT} {k : Nat} {fa : Addr} {fd : FuncData} {ps : List Str} {sp : Sp} {s₁ : Shared} {vals : List Value} {ds : List WData} {R : PySem.W.WRecords} {cl : Str → Option Addr} {d0 : WData} {c Pt : Addr}
    (KX : K.In s₁.heap) (hns : s₁.heap.Ns mainGlobals mg) (hb : s₁.heap.Ns builtinsNs mb) (hbb : ∀ x : Str, x ≠ "__name__" → mb x = bootBuiltins x) (hlim : s₁.heap.NoLimit) (hg : s₁.gens = #[])
    (hcd : PySem.W.CodeHd s₁.heap c Pt) (htab : s₁.heap.get? Pt = some (PySem.W.tabObj #[])) (hKP : K.lookup Pt = none) (hbm : BMod s₁.heap mg)
    (hwl : WellAll w.params s₁.heap vals ds) (hpl : plWs ds = true) (hwt : ∀ d ∈ ds, d.weight ≤ 1048576) (hr : Room k callerA)
    (F : ∀ base : Heap, K.In base → base.Ns mainGlobals mg → BMod base mg → FnOk P w K mg base CX k fa fd ps sp) (hbind : ∀ (s : Shared) (us : List Value), us.length = ps.length → BindsTo s fd ⟨us, []⟩ (ps.zip us)) (hlen : ds.length = ps.length)
    (hsp : ∀ (H : Hp) (xs : List V), OnlyFT Pt H → DwAll K H xs ds → sp xs H (fun v H' => Dw K H' v d0) fun _ _ _ => False)
    (hCX : ∀ H e s', CX [] H s₁ (fun _ _ _ => False) e s' → False) :
    codeAny (model P w) callerA (.call (.ref fa) ⟨vals, []⟩) (fun r s' => ∃ u as, r = .ok (.ret u) ∧ ReadsW R cl s'.heap u d0 as ∧ OldK s₁.heap s'.heap ∧ s'.os = s₁.os ∧ AllBare s'.gens) s₁ := by
  obtain ⟨A, ho, ar⟩ := area_all ds vals hwl hpl hwt
  have hO0 : OnlyF (argH K s₁.heap A) := argH_only ar
  have hok0 : HOk P w (argH K s₁.heap A) s₁.heap := argH_ok ar
  have hS0 := dw_all KX ar ds vals hwl hpl ho
  have hV := vals_toV ho
  have hP0 : argH K s₁.heap A Pt = none := by
    cases q : argH K s₁.heap A Pt with
    | none => rfl
    | some u =>
      obtain ⟨_, vs, _, _, ⟨e2, _⟩ | ⟨e2, _⟩⟩ := argH_is ar q
      · rw [htab] at e2; cases e2
      · rw [htab] at e2; cases e2
  have sN : Same (argH K s₁.heap A) (upd (argH K s₁.heap A) Pt (.tbl #[])) := Same.new hP0
  have hS := DwAll.mono sN hS0
  have hO : OnlyFT Pt (upd (argH K s₁.heap A) Pt (.tbl #[])) := ⟨upd_same, fun b hb => by rw [upd_ne hb]; exact hO0 b⟩
  have hok : HOk P w (upd (argH K s₁.heap A) Pt (.tbl #[])) s₁.heap := fun b u e => by
    by_cases hb' : b = Pt
    · subst hb'
      rw [upd_same] at e
      cases e
      exact htab
    · rw [upd_ne hb'] at e
      exact (hok0 b u e).stay (fun _ _ _ q => q) (fun c q => sN _ _ q) fun c xs q => sN _ _ q
  have hK : ∀ b u, upd (argH K s₁.heap A) Pt (.tbl #[]) b = some u → K.lookup b = none := fun b u q => by
    by_cases hb' : b = Pt
    · rw [hb']; exact hKP
    · rw [upd_ne hb'] at q; exact (argH_is ar q).1
  have noA : ∀ {b : Addr} {o : Obj}, s₁.heap.get? b = some o → o.cls ≠ .none → (∀ vs n, o.data ≠ .seq vs n) → upd (argH K s₁.heap A) Pt (.tbl #[]) b = none := fun {b o} e hc d => by
    have hb' : b ≠ Pt := fun z => by rw [z, htab] at e; cases e; exact hc rfl
    rw [upd_ne hb']
    cases q : argH K s₁.heap A b with
    | none => rfl
    | some u =>
      obtain ⟨_, vs, _, _, ⟨e2, _⟩ | ⟨e2, _⟩⟩ := argH_is ar q
      · rw [e2] at e
        cases e
        exact absurd rfl (d _ _)
      · rw [e2] at e
        cases e
        exact absurd rfl (d _ _)
  have noD : ∀ {b : Addr} {o : Obj} {es : Array DictEntry} {ep : Nat}, s₁.heap.get? b = some o → o.data = .dict es ep → upd (argH K s₁.heap A) Pt (.tbl #[]) b = none := fun {b o es ep} e d => by
    have hb' : b ≠ Pt := fun z => by rw [z, htab] at e; cases e; cases d
    rw [upd_ne hb']
    cases q : argH K s₁.heap A b with
    | none => rfl
    | some u =>
      obtain ⟨_, vs, _, _, ⟨e2, _⟩ | ⟨e2, _⟩⟩ := argH_is ar q
      · rw [e2] at e
        cases e
        have d' : Data.seq vs.toArray _ = Data.dict es ep := d
        cases d'
      · rw [e2] at e
        cases e
        have d' : Data.seq vs.toArray _ = Data.dict es ep := d
        cases d'
  generalize upd (argH K s₁.heap A) Pt (.tbl #[]) = H at hO hok hS hK noA noD
  have base_of : ∀ {b : Addr} {o : Obj}, s₁.heap.get? b = some o → H b = none → (hidT s₁.heap H).get? b = some o := fun e n => hidT_get e n
  have nsK : ∀ {b : Addr} {m : Str → Option Value}, s₁.heap.Ns b m → (hidT s₁.heap H).Ns b m := fun {b m} ⟨o, es, ep, e, d, r⟩ => ⟨o, es, ep, base_of e (noD e d), d, r⟩
  have nK : ∀ b o, K.lookup b = some o → H b = none := fun b o e => by
    cases q : H b with
    | none => rfl
    | some u =>
      rw [hK b u q] at e
      cases e
  have hKb : K.In (hidT s₁.heap H) := fun b o e => base_of (KX b o e) (nK b o e)
  have hM : Mod K mg (hidT s₁.heap H) := ⟨hKb, nsK hns, ⟨mb, nsK hb, hbb⟩, let ⟨mc, h1, h2⟩ := hlim; ⟨mc, nsK h1, h2⟩⟩
  have hBb : BMod (hidT s₁.heap H) mg := by
    obtain ⟨bm, ob, b1, b2, b3, b4, b5, b6, b7⟩ := hbm
    exact ⟨bm, ob, b1, b2, b3, base_of b4 (noA b4 (by rw [b5]; exact fun z => nomatch z) fun vs n z => by rw [b7] at z; cases z), b5, b6, b7⟩
  have e0 : Env0 P w K mg (hidT s₁.heap H) callerA [] s₁ H := ⟨rfl, hM, fun b o e => of_hidT e, Nat.le_of_eq (hidT_size _ _), trivial, fun b hb => absurd (show b ∈ ([] : List Addr) from hb) (by simp), hok, .of_eq hg⟩
  have hl : vals.length = ps.length := by rw [wellAll_len hwl]; exact hlen
  refine codeAny_mono ((F _ hKb (nsK hns) hBb).run callerA [] s₁ H ⟨vals, []⟩ vals (vals.map toV) _ _ hr e0 (hbind s₁ vals hl) hV (hsp H _ hO hS)) fun r s' x => ?_
  cases r with
  | error e => exact (hCX H e s' x).elim
  | ok fl =>
    cases fl with
    | next => exact False.elim x
    | brk => exact False.elim x
    | cont => exact False.elim x
    | ret u =>
      obtain ⟨v, H', os, bare, un, hok', r', q⟩ := x
      have kept : ∀ b o, b ≠ Pt → s₁.heap.get? b = some o → s'.heap.get? b = some o := fun b o hb' e => by
        cases q2 : H b with
        | none => exact un.keep b o e q2 (by intro z; exact absurd (show b ∈ ([] : List Addr) from z) (by simp)) (by simp)
        | some u2 =>
          rcases hO.2 b hb' with z | ⟨ob, u3, z⟩
          · rw [q2] at z
            cases z
          · have z2 := un.frzs b ob _ z
            obtain ⟨e1, _⟩ := hok b _ z
            obtain ⟨e2, _⟩ := hok' b _ z2
            rw [e] at e1
            cases e1
            exact e2
      obtain ⟨more, hm⟩ := un.tbls Pt #[] hO.1
      have htab' : s'.heap.get? Pt = some { cls := .none, data := .fields (#[] ++ more) } := hok' Pt _ hm
      have KX' : K.In s'.heap := fun b o e => kept b o (fun z => by rw [z, hKP] at e; cases e) (KX b o e)
      obtain ⟨as, hrd⟩ := Dw.reads (R := R) (cl := cl) hok' KX' d0 v u q r'
      refine ⟨u, as, rfl, hrd, ⟨fun b o e => ?_, fun b o e => ?_⟩, os, bare⟩
      · by_cases hb' : b = Pt
        · subst hb'
          rw [htab] at e
          cases e
          exact .inr (.inl ⟨(hcd.tab htab).isCodeTable, rfl, #[], more, rfl, htab'⟩)
        · exact .inl (kept b o hb' e)
      · by_cases hb' : b = Pt
        · exact ⟨_, hb' ▸ htab'⟩
        · exact ⟨o, kept b o hb' e⟩
theorem walk_specT {r : OpenSpec} {k : Nat} {q : Program} {loose : List Str} {XP : (Str → Option Value) → Heap → Prop} {YP : World → Heap → Prop} {d : DefRec} {K : Params → PySem.W.Frag} {CX : CXT} {ps : List Str} {sp : PySem.W.Frag → Sp} {c Pt : Addr}
    (hwell : r.wellSaid = true) (hdf : d.params.defaults = []) (hlen : r.args.length = ps.length) (hr : Room k callerA)
    (hY : ∀ (w : World) (h : Heap), YP w h → (K w.params).In h) (hYt : ∀ (w : World) (h : Heap), YP w h → h.get? Pt = some (PySem.W.tabObj #[])) (hHd : ∀ w : World, PySem.W.codeHdIn (K w.params) c Pt = true) (hKP : ∀ w : World, (K w.params).lookup Pt = none)
    (F : ∀ (w : World) (mg : Str → Option Value) (fa : Addr) (h : Heap), YP w h → (K w.params).In h → h.Ns mainGlobals mg → mg d.name = some (.ref fa) →
      ∃ fd : FuncData, (∀ (s : Shared) (us : List Value), us.length = ps.length → BindsTo s fd ⟨us, []⟩ (ps.zip us)) ∧
        ∀ base : Heap, (K w.params).In base → base.Ns mainGlobals mg → BMod base mg → FnOk r.prog w (K w.params) mg base CX k fa fd ps (sp (K w.params)))
    (hsp : ∀ (K : PySem.W.Frag) (H : Hp) (xs : List V) (a : Codec.denoteAll r.args), OnlyFT Pt H → Codec.withinAll r.args a = true → Codec.app r.args r.asked a = true → DwAll K H xs (Codec.encAll r.args a) →
      sp K xs H (fun v H' => Dw K H' v (r.ret.enc (Codec.app r.args r.f a))) fun _ _ _ => False)
    (hCX : ∀ (H : Hp) (s : Shared) (e : Value) (s' : Shared), CX [] H s (fun _ _ _ => False) e s' → False) :
    PySem.W.WalkOS q loose XP YP r d [] (fun f vs => PySem.call f vs) := by
  intro w s_0 s₁ mg mb G Y fa o pm cd doc dV kV ho hd hcd hD hmg hg args vals as hpre hlay hrd hwl hlo
  obtain ⟨a, e1, e2⟩ := PySem.W.os_pre_some hpre
  obtain ⟨e3, hwi⟩ := Codec.encAll_of_decAll r.args args a e1
  subst e3
  have KX := hY w _ Y
  obtain ⟨fd, hb, hF⟩ := F w mg fa _ Y KX G.T.g hmg
  have hbm : BMod s₁.heap mg := by
    obtain ⟨bm, ob, b1, b2, b3, b4, b5, b6⟩ := G.T.bmain
    refine ⟨bm, ob, b1, b2, fun z => ?_, b3, b4, b5, b6⟩
    obtain ⟨o, es, ep, e, hd', _⟩ := G.T.g
    rw [z, e] at b3; cases b3; rw [hd'] at b6; cases b6
  refine PySem.W.enter_call (codeAny_mono (spec_callT (R := []) (cl := classAt s_0.heap) (d0 := r.ret.enc (Codec.app r.args r.f a)) KX G.T.g G.T.b G.T.builtins G.T.nolimit hg (PySem.W.codeHd_of_K KX (hHd w)) (hYt w _ Y) (hKP w) hbm hwl (pl_encAll _ _) (layable_weight hlay) hr hF hb (by rw [encAll_len]; exact hlen)
    (fun H xs hO hS => hsp (K w.params) H xs a hO hwi e2 hS) fun H e s' => hCX H s₁ e s') fun r' s' hq => ?_)
  obtain ⟨u, as', rfl, h1, h2, h3, h4⟩ := hq
  exact ⟨.inl ⟨u, _, as', rfl, fun _ => rfl, h1, (OpenSpec.post_iff hwell hwi _ _).mpr rfl, fun z => Bool.noConfusion (show false = true from z)⟩, h2, h3, h4⟩
end L2
namespace L2
open PySem PySem.Spec PyProof.Rows
section
variable {X : Cx}
def rCount (K : PySem.W.Frag) : V → List V → Hp → VK → Prop := fun x xs H Q => ∃ (a : Addr) (ys : List V) (y : V), x = V.ref a ∧ xs = [y] ∧ SqL K H a ys ∧ flatV y = true ∧ ys.all flatV = true ∧ Q (.int ((ys.countP fun z => eqV z y : Nat) : Int)) H
theorem countP_rel {p : V → Bool} {q : Value → Bool} : ∀ {ys : List V} {us : List Value}, Vals ys us → (∀ (j : Nat) (z : V) (u : Value), ys[j]? = some z → RelV z u → q u = p z) → us.countP q = ys.countP p
  | _, _, .nil, _ => rfl
  | _, _, .cons r rt, h => by
    rw [List.countP_cons, List.countP_cons, countP_rel rt fun j z u hz hr => h (j + 1) z u hz hr, h 0 _ _ rfl r]
theorem mt_lcount : MtR X "list.count" (rCount X.K) := by
  intro pins s σ H x xs v us Q I rx rxs h
  obtain ⟨a, ys, y, rfl, rfl, hs, fy, fys, q⟩ := h
  cases rx
  cases rxs with
  | cons ry rt =>
    rename_i uy ut
    cases rt
    obtain ⟨its, rv, ⟨⟨cls, dd, data, sl⟩, n, ho, hc, hdn, hd⟩, hlen⟩ := I.list hs
    simp only at hc hd
    subst hc hd
    refine call_meets PySem.F.slot_list_count ⟨_, ho, rfl⟩ PySem.F.entry_list_count (PySem.F.args_list_count_2 _ _)
      (SeqAt.list_countAt a its.toArray n dd sl uy (eqU y)) ⟨ho, fun u' hu' => mem_eqAt ry fy rv fys u' (by simpa using hu'), ?_⟩
    have e : its.toArray.toList.countP (eqU y) = ys.countP fun z => eqV z y := by
      rw [List.toList_toArray]
      exact countP_rel rv fun j z u hz hr => eqU_of hr (flat_at fys hz)
    rw [e]
    exact ⟨.int ((ys.countP fun z => eqV z y : Nat) : Int), H, I.tok _, ⟨_, rfl⟩, q⟩
theorem for_enum {K : PySem.W.Frag} {a : Addr} {xs : List V} {g : TG} {tb : TS} {D : Ends} {σ : St} {H : Hp} (Pv : Nat → St → Hp → Prop) (h0 : Pv 0 σ H) (hl : ∀ i σ H, i ≤ xs.length → Pv i σ H → SqL K H a xs)
    (hs : ∀ i x σ H T, xs[i]? = some x → Pv i σ H → H T = none → g (.ref T) σ (upd H T (.tup [.int (i : Nat), x])) fun σ2 H2 => tb { D with nx := Pv (i + 1), ct := Pv (i + 1), bk := D.nx } σ2 H2) (hd : ∀ σ H, Pv xs.length σ H → D.nx σ H) :
    ∃ W : Nat → Nat → St → Hp → Prop, (∃ m, W 0 m σ H) ∧ ∀ i m σ H, W i m σ H →
      ((Ite K a).stop i H ∧ D.nx σ H) ∨ ((Ite K a).go i H ∧ ∃ N : St → Hp → Prop, (∀ σ' H', N σ' H' → ∃ m', m' < m ∧ W (i + 1) m' σ' H') ∧ ∀ x H', (Ite K a).yld i H x H' → g x σ H' fun σ2 H2 => tb { D with nx := N, ct := N, bk := D.nx } σ2 H2) := by
  refine ⟨fun i m σ H => m = xs.length - i ∧ i ≤ xs.length ∧ Pv i σ H, ⟨xs.length, by simp, Nat.zero_le _, h0⟩, ?_⟩
  rintro i m σ H ⟨rfl, hi, p⟩
  have q := hl i σ H hi p
  by_cases hlt : i < xs.length
  · refine .inr ⟨⟨xs, xs[i], q, by simp [hlt]⟩, Pv (i + 1), fun σ' H' p' => ⟨xs.length - (i + 1), by omega, rfl, hlt, p'⟩, fun x H' y => ?_⟩
    obtain ⟨T, z, rfl, hT, rfl, y⟩ := y
    exact hs i z σ H T (y xs q) p hT
  · have e : i = xs.length := by omega
    subst e
    exact .inl ⟨⟨xs, q, Nat.le_refl _⟩, hd σ H p⟩
theorem cutV_map {α : Type} (f : α → V) (l : List α) (lo hi : Option Int) : cutV (l.map f) lo hi = ((l.drop (HT.sIx l.length 0 lo)).take (HT.sIx l.length l.length hi - HT.sIx l.length 0 lo)).map f := by
  unfold cutV
  rw [List.length_map, ← List.map_drop, ← List.map_take]
theorem cutV_upto {α : Type} (f : α → V) (l : List α) {z : Int} {j : Nat} (e : z = (j : Int)) : cutV (l.map f) none (some z) = (l.take j).map f := by
  subst e
  rw [cutV_map, HT.sIx_none, HT.sIx_nat, List.drop_zero, Nat.sub_zero]
  congr 1
  rw [← List.take_take, List.take_length]
theorem cutV_mid {α : Type} (f : α → V) (l : List α) {y z : Int} {i j : Nat} (e : y = (i : Int)) (e2 : z = (j : Int)) (hi : i ≤ l.length) : cutV (l.map f) (some y) (some z) = ((l.drop i).take (j - i)).map f := by
  subst e e2
  rw [cutV_map, HT.sIx_nat, HT.sIx_nat]
  congr 1
  rw [Nat.min_eq_left hi]
  by_cases hj : j ≤ l.length
  · rw [Nat.min_eq_left hj]
  · rw [Nat.min_eq_right (by omega), List.take_of_length_le (by rw [List.length_drop]; omega), List.take_of_length_le (by rw [List.length_drop]; omega)]
theorem cutV_from {α : Type} (f : α → V) (l : List α) {y : Int} {i : Nat} (e : y = (i : Int)) (hi : i ≤ l.length) : cutV (l.map f) (some y) none = (l.drop i).map f := by
  subst e
  rw [cutV_map, HT.sIx_nat, HT.sIx_none, Nat.min_eq_left hi]
  congr 1
  rw [List.take_of_length_le (by rw [List.length_drop]; omega)]
theorem atI_end {α : Type} {xs : List α} {x : α} : atI (xs ++ [x]) (-1) = some x := by
  unfold atI ixN
  rw [if_neg (by omega), if_pos (by rw [List.length_append, List.length_singleton]; omega)]
  show (xs ++ [x])[(-1 + ((xs ++ [x]).length : Int)).toNat]? = some x
  have : (-1 + ((xs ++ [x]).length : Int)).toNat = xs.length := by rw [List.length_append, List.length_singleton]; omega
  rw [this]
  simp
end
end L2
section
namespace My
open PySem PySem.Spec PyProof.Rows L2
open PySem.W (Codec findIn keepIn fnOf codeIn nsIn isFn mg_of mg_none_of plainOver plainGet makesIn hasDictIn codeHdIn Frag)
def top (i : Nat) : Stmt := PySem.Challenge.pw_cachetasks_s01_answers.main.body.getD i (.Pass ⟨0, 0, 0, 0⟩)
abbrev s_read_calls : Stmt := top 2
abbrev s_used_by : Stmt := top 4
abbrev s_cost_seen : Stmt := top 5
abbrev s_loads_above : Stmt := top 6
abbrev s_what_fits : Stmt := top 7
abbrev s_rounds_made : Stmt := top 8
abbrev s_lowest_in_time : Stmt := top 9
abbrev s_first_order : Stmt := top 10
abbrev s_Jobs___init__ : Stmt := inClass (top 12) 0
abbrev s_Jobs_comes_at : Stmt := inClass (top 12) 1
abbrev s_Jobs_reach : Stmt := inClass (top 12) 2
abbrev s_Jobs_waits : Stmt := inClass (top 12) 3
abbrev s_Jobs_lose : Stmt := inClass (top 12) 4
abbrev s_Jobs_run : Stmt := inClass (top 12) 5
abbrev s_Jobs_finish : Stmt := inClass (top 12) 6
abbrev s_Jobs_counted : Stmt := inClass (top 12) 7
abbrev s_Play___init__ : Stmt := inClass (top 14) 0
abbrev s_Play_reach : Stmt := inClass (top 14) 1
abbrev s_Play_highest : Stmt := inClass (top 14) 2
abbrev s_Play_run : Stmt := inClass (top 14) 3
abbrev s_Play_ran : Stmt := inClass (top 14) 4
abbrev s_Play_counted : Stmt := inClass (top 14) 5
abbrev s_Play_late_task : Stmt := inClass (top 14) 6
abbrev s_Play_first_late : Stmt := inClass (top 14) 7
abbrev s_Task___init__ : Stmt := inClass (top 20) 0
abbrev s_Task_told : Stmt := inClass (top 20) 1
abbrev s_Task_useful_among : Stmt := inClass (top 20) 2
abbrev s_times_fit : Stmt := top 21
abbrev s_lines_fit : Stmt := top 22
abbrev s_read_lines : Stmt := top 23
abbrev s_read_task : Stmt := top 24
abbrev s_Held___init__ : Stmt := inClass (top 40) 0
abbrev s_Held_has_task : Stmt := inClass (top 40) 1
abbrev s_Held_set_reload : Stmt := inClass (top 40) 2
abbrev s_Held_add_task : Stmt := inClass (top 40) 3
abbrev s_Held_change_task : Stmt := inClass (top 40) 4
abbrev s_Held_drop_task : Stmt := inClass (top 40) 5
abbrev s_Held_set_order : Stmt := inClass (top 40) 6
abbrev s_Held_sort_order : Stmt := inClass (top 40) 7
abbrev s_Held_tell_tasks : Stmt := inClass (top 40) 8
abbrev s_Held_tell_order : Stmt := inClass (top 40) 9
abbrev s_Held_ranked : Stmt := inClass (top 40) 10
abbrev s_Held_tell_cost : Stmt := inClass (top 40) 11
abbrev s_Held_tell_response : Stmt := inClass (top 40) 12
abbrev s_Held_tell_all : Stmt := inClass (top 40) 13
abbrev s_Held_tell_best : Stmt := inClass (top 40) 14
abbrev s_Held_new_play : Stmt := inClass (top 40) 15
abbrev s_Held_tell_course : Stmt := inClass (top 40) 16
abbrev s_Held_tell_trace : Stmt := inClass (top 40) 17
abbrev s_Held_tell_late : Stmt := inClass (top 40) 18
abbrev s_answer : Stmt := top 42
abbrev s_answers : Stmt := top 43
theorem sc_read_calls : FnScope ["calls", "read", "at", "call", "numbers", "row"] ["calls"] (defScope s_read_calls) := ⟨rfl, rfl, rfl, by decide +kernel, rfl, by decide +kernel, by decide +kernel⟩
theorem sc_used_by : FnScope ["tasks", "used", "task", "line"] ["tasks"] (defScope s_used_by) := ⟨rfl, rfl, rfl, by decide +kernel, rfl, by decide +kernel, by decide +kernel⟩
theorem sc_cost_seen : FnScope ["ranked", "line_cost", "low", "high", "used", "counts", "task"] ["ranked", "line_cost", "low", "high"] (defScope s_cost_seen) := ⟨rfl, rfl, rfl, by decide +kernel, rfl, by decide +kernel, by decide +kernel⟩
theorem sc_loads_above : FnScope ["ranked", "line_cost", "place", "loads", "high", "cost"] ["ranked", "line_cost", "place"] (defScope s_loads_above) := ⟨rfl, rfl, rfl, by decide +kernel, rfl, by decide +kernel, by decide +kernel⟩
theorem sc_what_fits : FnScope ["cycles", "loads", "r", "fits", "period", "load"] ["cycles", "loads", "r"] (defScope s_what_fits) := ⟨rfl, rfl, rfl, by decide +kernel, rfl, by decide +kernel, by decide +kernel⟩
theorem sc_rounds_made : FnScope ["ranked", "line_cost", "place", "task", "loads", "before", "made"] ["ranked", "line_cost", "place"] (defScope s_rounds_made) := ⟨rfl, rfl, rfl, by decide +kernel, rfl, by decide +kernel, by decide +kernel⟩
theorem sc_lowest_in_time : FnScope ["ranked", "line_cost", "made"] ["ranked", "line_cost"] (defScope s_lowest_in_time) := ⟨rfl, rfl, rfl, by decide +kernel, rfl, by decide +kernel, by decide +kernel⟩
theorem sc_first_order : FnScope ["tasks", "line_cost", "heads", "head", "number"] ["tasks", "line_cost"] (defScope s_first_order) := ⟨rfl, rfl, rfl, by decide +kernel, rfl, by decide +kernel, by decide +kernel⟩
theorem sc_Jobs___init__ : FnScope ["self", "task"] ["self", "task"] (defScope s_Jobs___init__) := ⟨rfl, rfl, rfl, by decide +kernel, rfl, by decide +kernel, by decide +kernel⟩
theorem sc_Jobs_comes_at : FnScope ["self", "number"] ["self", "number"] (defScope s_Jobs_comes_at) := ⟨rfl, rfl, rfl, by decide +kernel, rfl, by decide +kernel, by decide +kernel⟩
theorem sc_Jobs_reach : FnScope ["self", "now"] ["self", "now"] (defScope s_Jobs_reach) := ⟨rfl, rfl, rfl, by decide +kernel, rfl, by decide +kernel, by decide +kernel⟩
theorem sc_Jobs_waits : FnScope ["self"] ["self"] (defScope s_Jobs_waits) := ⟨rfl, rfl, rfl, by decide +kernel, rfl, by decide +kernel, by decide +kernel⟩
theorem sc_Jobs_lose : FnScope ["self", "lines", "line"] ["self", "lines"] (defScope s_Jobs_lose) := ⟨rfl, rfl, rfl, by decide +kernel, rfl, by decide +kernel, by decide +kernel⟩
theorem sc_Jobs_run : FnScope ["self", "now", "line_cost", "reloads"] ["self", "now", "line_cost"] (defScope s_Jobs_run) := ⟨rfl, rfl, rfl, by decide +kernel, rfl, by decide +kernel, by decide +kernel⟩
theorem sc_Jobs_finish : FnScope ["self", "now", "took"] ["self", "now"] (defScope s_Jobs_finish) := ⟨rfl, rfl, rfl, by decide +kernel, rfl, by decide +kernel, by decide +kernel⟩
theorem sc_Jobs_counted : FnScope ["self"] ["self"] (defScope s_Jobs_counted) := ⟨rfl, rfl, rfl, by decide +kernel, rfl, by decide +kernel, by decide +kernel⟩
theorem sc_Play___init__ : FnScope ["self", "tasks", "order", "line_cost", "task"] ["self", "tasks", "order", "line_cost"] (defScope s_Play___init__) := ⟨rfl, rfl, rfl, by decide +kernel, rfl, by decide +kernel, by decide +kernel⟩
theorem sc_Play_reach : FnScope ["self", "now", "jobs"] ["self", "now"] (defScope s_Play_reach) := ⟨rfl, rfl, rfl, by decide +kernel, rfl, by decide +kernel, by decide +kernel⟩
theorem sc_Play_highest : FnScope ["self", "number"] ["self"] (defScope s_Play_highest) := ⟨rfl, rfl, rfl, by decide +kernel, rfl, by decide +kernel, by decide +kernel⟩
theorem sc_Play_run : FnScope ["self", "now", "number", "running", "other", "jobs"] ["self", "now"] (defScope s_Play_run) := ⟨rfl, rfl, rfl, by decide +kernel, rfl, by decide +kernel, by decide +kernel⟩
theorem sc_Play_ran : FnScope ["self", "end", "told", "now"] ["self", "end"] (defScope s_Play_ran) := ⟨rfl, rfl, rfl, by decide +kernel, rfl, by decide +kernel, by decide +kernel⟩
theorem sc_Play_counted : FnScope ["self", "end", "told", "jobs"] ["self", "end"] (defScope s_Play_counted) := ⟨rfl, rfl, rfl, by decide +kernel, rfl, by decide +kernel, by decide +kernel⟩
theorem sc_Play_late_task : FnScope ["self", "number", "jobs"] ["self"] (defScope s_Play_late_task) := ⟨rfl, rfl, rfl, by decide +kernel, rfl, by decide +kernel, by decide +kernel⟩
theorem sc_Play_first_late : FnScope ["self", "end", "now", "number"] ["self", "end"] (defScope s_Play_first_late) := ⟨rfl, rfl, rfl, by decide +kernel, rfl, by decide +kernel, by decide +kernel⟩
theorem sc_Task___init__ : FnScope ["self", "times", "useful", "used"] ["self", "times", "useful", "used"] (defScope s_Task___init__) := ⟨rfl, rfl, rfl, by decide +kernel, rfl, by decide +kernel, by decide +kernel⟩
theorem sc_Task_told : FnScope ["self", "times"] ["self"] (defScope s_Task_told) := ⟨rfl, rfl, rfl, by decide +kernel, rfl, by decide +kernel, by decide +kernel⟩
theorem sc_Task_useful_among : FnScope ["self", "lines", "line"] ["self", "lines"] (defScope s_Task_useful_among) := ⟨rfl, rfl, rfl, by decide +kernel, rfl, by decide +kernel, by decide +kernel⟩
theorem sc_times_fit : FnScope ["times"] ["times"] (defScope s_times_fit) := ⟨rfl, rfl, rfl, by decide +kernel, rfl, by decide +kernel, by decide +kernel⟩
theorem sc_lines_fit : FnScope ["lines", "line"] ["lines"] (defScope s_lines_fit) := ⟨rfl, rfl, rfl, by decide +kernel, rfl, by decide +kernel, by decide +kernel⟩
theorem sc_read_lines : FnScope ["numbers", "at", "count", "lines"] ["numbers", "at"] (defScope s_read_lines) := ⟨rfl, rfl, rfl, by decide +kernel, rfl, by decide +kernel, by decide +kernel⟩
theorem sc_read_task : FnScope ["numbers", "times", "useful", "used_at", "used"] ["numbers"] (defScope s_read_task) := ⟨rfl, rfl, rfl, by decide +kernel, rfl, by decide +kernel, by decide +kernel⟩
theorem sc_Held___init__ : FnScope ["self"] ["self"] (defScope s_Held___init__) := ⟨rfl, rfl, rfl, by decide +kernel, rfl, by decide +kernel, by decide +kernel⟩
theorem sc_Held_has_task : FnScope ["self", "i"] ["self", "i"] (defScope s_Held_has_task) := ⟨rfl, rfl, rfl, by decide +kernel, rfl, by decide +kernel, by decide +kernel⟩
theorem sc_Held_set_reload : FnScope ["self", "n"] ["self", "n"] (defScope s_Held_set_reload) := ⟨rfl, rfl, rfl, by decide +kernel, rfl, by decide +kernel, by decide +kernel⟩
theorem sc_Held_add_task : FnScope ["self", "numbers", "task", "number"] ["self", "numbers"] (defScope s_Held_add_task) := ⟨rfl, rfl, rfl, by decide +kernel, rfl, by decide +kernel, by decide +kernel⟩
theorem sc_Held_change_task : FnScope ["self", "i", "numbers", "task"] ["self", "i", "numbers"] (defScope s_Held_change_task) := ⟨rfl, rfl, rfl, by decide +kernel, rfl, by decide +kernel, by decide +kernel⟩
theorem sc_Held_drop_task : FnScope ["self", "i", "others", "k"] ["self", "i"] (defScope s_Held_drop_task) := ⟨rfl, rfl, rfl, by decide +kernel, rfl, by decide +kernel, by decide +kernel⟩
theorem sc_Held_set_order : FnScope ["self", "numbers"] ["self", "numbers"] (defScope s_Held_set_order) := ⟨rfl, rfl, rfl, by decide +kernel, rfl, by decide +kernel, by decide +kernel⟩
theorem sc_Held_sort_order : FnScope ["self", "kind", "times", "task"] ["self", "kind"] (defScope s_Held_sort_order) := ⟨rfl, rfl, rfl, by decide +kernel, rfl, by decide +kernel, by decide +kernel⟩
theorem sc_Held_tell_tasks : FnScope ["self", "answer", "task"] ["self"] (defScope s_Held_tell_tasks) := ⟨rfl, rfl, rfl, by decide +kernel, rfl, by decide +kernel, by decide +kernel⟩
theorem sc_Held_tell_order : FnScope ["self"] ["self"] (defScope s_Held_tell_order) := ⟨rfl, rfl, rfl, by decide +kernel, rfl, by decide +kernel, by decide +kernel⟩
theorem sc_Held_ranked : FnScope ["self", "i"] ["self"] (defScope s_Held_ranked) := ⟨rfl, rfl, rfl, by decide +kernel, rfl, by decide +kernel, by decide +kernel⟩
theorem sc_Held_tell_cost : FnScope ["self", "i", "j", "low", "high"] ["self", "i", "j"] (defScope s_Held_tell_cost) := ⟨rfl, rfl, rfl, by decide +kernel, rfl, by decide +kernel, by decide +kernel⟩
theorem sc_Held_tell_response : FnScope ["self", "i", "made"] ["self", "i"] (defScope s_Held_tell_response) := ⟨rfl, rfl, rfl, by decide +kernel, rfl, by decide +kernel, by decide +kernel⟩
theorem sc_Held_tell_all : FnScope ["self", "first", "told", "i", "response"] ["self"] (defScope s_Held_tell_all) := ⟨rfl, rfl, rfl, by decide +kernel, rfl, by decide +kernel, by decide +kernel⟩
theorem sc_Held_tell_best : FnScope ["self", "best"] ["self"] (defScope s_Held_tell_best) := ⟨rfl, rfl, rfl, by decide +kernel, rfl, by decide +kernel, by decide +kernel⟩
theorem sc_Held_new_play : FnScope ["self"] ["self"] (defScope s_Held_new_play) := ⟨rfl, rfl, rfl, by decide +kernel, rfl, by decide +kernel, by decide +kernel⟩
theorem sc_Held_tell_course : FnScope ["self", "h"] ["self", "h"] (defScope s_Held_tell_course) := ⟨rfl, rfl, rfl, by decide +kernel, rfl, by decide +kernel, by decide +kernel⟩
theorem sc_Held_tell_trace : FnScope ["self", "t", "n"] ["self", "t", "n"] (defScope s_Held_tell_trace) := ⟨rfl, rfl, rfl, by decide +kernel, rfl, by decide +kernel, by decide +kernel⟩
theorem sc_Held_tell_late : FnScope ["self", "h", "late"] ["self", "h"] (defScope s_Held_tell_late) := ⟨rfl, rfl, rfl, by decide +kernel, rfl, by decide +kernel, by decide +kernel⟩
theorem sc_answer : FnScope ["held", "name", "numbers", "row"] ["held", "name", "numbers", "row"] (defScope s_answer) := ⟨rfl, rfl, rfl, by decide +kernel, rfl, by decide +kernel, by decide +kernel⟩
theorem sc_answers : FnScope ["calls", "held", "given", "name", "numbers", "row", "numbers_answered"] ["calls"] (defScope s_answers) := ⟨rfl, rfl, rfl, by decide +kernel, rfl, by decide +kernel, by decide +kernel⟩
def lp_Held_sort_order : Pos := ⟨305, 51, 305, 74⟩
def lq_Held_sort_order : Str := ("Held.sort_order" : Str) ++ ".<locals>." ++ "<lambda>"
set_option genInjectivity false
set_option genSizeOf false
structure Top_ (K : Frag) (mg : Str → Option Value) where
  c_Jobs : Addr
  cl_Jobs : Cls K c_Jobs
  m_Jobs : mg "Jobs" = some (.ref c_Jobs)
  c_Play : Addr
  cl_Play : Cls K c_Play
  m_Play : mg "Play" = some (.ref c_Play)
  c_Task : Addr
  cl_Task : Cls K c_Task
  m_Task : mg "Task" = some (.ref c_Task)
  c_Held : Addr
  cl_Held : Cls K c_Held
  m_Held : mg "Held" = some (.ref c_Held)
  a_read_calls : Addr
  d_read_calls : FuncData
  F_read_calls : Fun K "read_calls" "read_calls" s_read_calls a_read_calls d_read_calls
  b_read_calls : Binds K d_read_calls ["calls"] []
  m_read_calls : mg "read_calls" = some (.ref a_read_calls)
  a_used_by : Addr
  d_used_by : FuncData
  F_used_by : Fun K "used_by" "used_by" s_used_by a_used_by d_used_by
  b_used_by : Binds K d_used_by ["tasks"] []
  m_used_by : mg "used_by" = some (.ref a_used_by)
  a_cost_seen : Addr
  d_cost_seen : FuncData
  F_cost_seen : Fun K "cost_seen" "cost_seen" s_cost_seen a_cost_seen d_cost_seen
  b_cost_seen : Binds K d_cost_seen ["ranked", "line_cost", "low", "high"] []
  m_cost_seen : mg "cost_seen" = some (.ref a_cost_seen)
  a_loads_above : Addr
  d_loads_above : FuncData
  F_loads_above : Fun K "loads_above" "loads_above" s_loads_above a_loads_above d_loads_above
  b_loads_above : Binds K d_loads_above ["ranked", "line_cost", "place"] []
  m_loads_above : mg "loads_above" = some (.ref a_loads_above)
  a_what_fits : Addr
  d_what_fits : FuncData
  F_what_fits : Fun K "what_fits" "what_fits" s_what_fits a_what_fits d_what_fits
  b_what_fits : Binds K d_what_fits ["cycles", "loads", "r"] []
  m_what_fits : mg "what_fits" = some (.ref a_what_fits)
  a_rounds_made : Addr
  d_rounds_made : FuncData
  F_rounds_made : Fun K "rounds_made" "rounds_made" s_rounds_made a_rounds_made d_rounds_made
  b_rounds_made : Binds K d_rounds_made ["ranked", "line_cost", "place"] []
  m_rounds_made : mg "rounds_made" = some (.ref a_rounds_made)
  a_lowest_in_time : Addr
  d_lowest_in_time : FuncData
  F_lowest_in_time : Fun K "lowest_in_time" "lowest_in_time" s_lowest_in_time a_lowest_in_time d_lowest_in_time
  b_lowest_in_time : Binds K d_lowest_in_time ["ranked", "line_cost"] []
  m_lowest_in_time : mg "lowest_in_time" = some (.ref a_lowest_in_time)
  a_first_order : Addr
  d_first_order : FuncData
  F_first_order : Fun K "first_order" "first_order" s_first_order a_first_order d_first_order
  b_first_order : Binds K d_first_order ["tasks", "line_cost"] []
  m_first_order : mg "first_order" = some (.ref a_first_order)
  a_Jobs___init__ : Addr
  d_Jobs___init__ : FuncData
  F_Jobs___init__ : Fun K "__init__" "Jobs.__init__" s_Jobs___init__ a_Jobs___init__ d_Jobs___init__
  b_Jobs___init__ : Binds K d_Jobs___init__ ["self", "task"] []
  mk_Jobs : Mk K c_Jobs a_Jobs___init__
  a_Jobs_comes_at : Addr
  d_Jobs_comes_at : FuncData
  F_Jobs_comes_at : Fun K "comes_at" "Jobs.comes_at" s_Jobs_comes_at a_Jobs_comes_at d_Jobs_comes_at
  b_Jobs_comes_at : Binds K d_Jobs_comes_at ["self", "number"] []
  M_Jobs_comes_at : Meth K c_Jobs "comes_at" a_Jobs_comes_at
  a_Jobs_reach : Addr
  d_Jobs_reach : FuncData
  F_Jobs_reach : Fun K "reach" "Jobs.reach" s_Jobs_reach a_Jobs_reach d_Jobs_reach
  b_Jobs_reach : Binds K d_Jobs_reach ["self", "now"] []
  M_Jobs_reach : Meth K c_Jobs "reach" a_Jobs_reach
  a_Jobs_waits : Addr
  d_Jobs_waits : FuncData
  F_Jobs_waits : Fun K "waits" "Jobs.waits" s_Jobs_waits a_Jobs_waits d_Jobs_waits
  b_Jobs_waits : Binds K d_Jobs_waits ["self"] []
  M_Jobs_waits : Meth K c_Jobs "waits" a_Jobs_waits
  a_Jobs_lose : Addr
  d_Jobs_lose : FuncData
  F_Jobs_lose : Fun K "lose" "Jobs.lose" s_Jobs_lose a_Jobs_lose d_Jobs_lose
  b_Jobs_lose : Binds K d_Jobs_lose ["self", "lines"] []
  M_Jobs_lose : Meth K c_Jobs "lose" a_Jobs_lose
  a_Jobs_run : Addr
  d_Jobs_run : FuncData
  F_Jobs_run : Fun K "run" "Jobs.run" s_Jobs_run a_Jobs_run d_Jobs_run
  b_Jobs_run : Binds K d_Jobs_run ["self", "now", "line_cost"] []
  M_Jobs_run : Meth K c_Jobs "run" a_Jobs_run
  a_Jobs_finish : Addr
  d_Jobs_finish : FuncData
  F_Jobs_finish : Fun K "finish" "Jobs.finish" s_Jobs_finish a_Jobs_finish d_Jobs_finish
  b_Jobs_finish : Binds K d_Jobs_finish ["self", "now"] []
  M_Jobs_finish : Meth K c_Jobs "finish" a_Jobs_finish
  a_Jobs_counted : Addr
  d_Jobs_counted : FuncData
  F_Jobs_counted : Fun K "counted" "Jobs.counted" s_Jobs_counted a_Jobs_counted d_Jobs_counted
  b_Jobs_counted : Binds K d_Jobs_counted ["self"] []
  M_Jobs_counted : Meth K c_Jobs "counted" a_Jobs_counted
  a_Play___init__ : Addr
  d_Play___init__ : FuncData
  F_Play___init__ : Fun K "__init__" "Play.__init__" s_Play___init__ a_Play___init__ d_Play___init__
  b_Play___init__ : Binds K d_Play___init__ ["self", "tasks", "order", "line_cost"] []
  mk_Play : Mk K c_Play a_Play___init__
  a_Play_reach : Addr
  d_Play_reach : FuncData
  F_Play_reach : Fun K "reach" "Play.reach" s_Play_reach a_Play_reach d_Play_reach
  b_Play_reach : Binds K d_Play_reach ["self", "now"] []
  M_Play_reach : Meth K c_Play "reach" a_Play_reach
  a_Play_highest : Addr
  d_Play_highest : FuncData
  F_Play_highest : Fun K "highest" "Play.highest" s_Play_highest a_Play_highest d_Play_highest
  b_Play_highest : Binds K d_Play_highest ["self"] []
  M_Play_highest : Meth K c_Play "highest" a_Play_highest
  a_Play_run : Addr
  d_Play_run : FuncData
  F_Play_run : Fun K "run" "Play.run" s_Play_run a_Play_run d_Play_run
  b_Play_run : Binds K d_Play_run ["self", "now"] []
  M_Play_run : Meth K c_Play "run" a_Play_run
  a_Play_ran : Addr
  d_Play_ran : FuncData
  F_Play_ran : Fun K "ran" "Play.ran" s_Play_ran a_Play_ran d_Play_ran
  b_Play_ran : Binds K d_Play_ran ["self", "end"] []
  M_Play_ran : Meth K c_Play "ran" a_Play_ran
  a_Play_counted : Addr
  d_Play_counted : FuncData
  F_Play_counted : Fun K "counted" "Play.counted" s_Play_counted a_Play_counted d_Play_counted
  b_Play_counted : Binds K d_Play_counted ["self", "end"] []
  M_Play_counted : Meth K c_Play "counted" a_Play_counted
  a_Play_late_task : Addr
  d_Play_late_task : FuncData
  F_Play_late_task : Fun K "late_task" "Play.late_task" s_Play_late_task a_Play_late_task d_Play_late_task
  b_Play_late_task : Binds K d_Play_late_task ["self"] []
  M_Play_late_task : Meth K c_Play "late_task" a_Play_late_task
  a_Play_first_late : Addr
  d_Play_first_late : FuncData
  F_Play_first_late : Fun K "first_late" "Play.first_late" s_Play_first_late a_Play_first_late d_Play_first_late
  b_Play_first_late : Binds K d_Play_first_late ["self", "end"] []
  M_Play_first_late : Meth K c_Play "first_late" a_Play_first_late
  a_Task___init__ : Addr
  d_Task___init__ : FuncData
  F_Task___init__ : Fun K "__init__" "Task.__init__" s_Task___init__ a_Task___init__ d_Task___init__
  b_Task___init__ : Binds K d_Task___init__ ["self", "times", "useful", "used"] []
  mk_Task : Mk K c_Task a_Task___init__
  a_Task_told : Addr
  d_Task_told : FuncData
  F_Task_told : Fun K "told" "Task.told" s_Task_told a_Task_told d_Task_told
  b_Task_told : Binds K d_Task_told ["self"] []
  M_Task_told : Meth K c_Task "told" a_Task_told
  a_Task_useful_among : Addr
  d_Task_useful_among : FuncData
  F_Task_useful_among : Fun K "useful_among" "Task.useful_among" s_Task_useful_among a_Task_useful_among d_Task_useful_among
  b_Task_useful_among : Binds K d_Task_useful_among ["self", "lines"] []
  M_Task_useful_among : Meth K c_Task "useful_among" a_Task_useful_among
  a_times_fit : Addr
  d_times_fit : FuncData
  F_times_fit : Fun K "times_fit" "times_fit" s_times_fit a_times_fit d_times_fit
  b_times_fit : Binds K d_times_fit ["times"] []
  m_times_fit : mg "times_fit" = some (.ref a_times_fit)
  a_lines_fit : Addr
  d_lines_fit : FuncData
  F_lines_fit : Fun K "lines_fit" "lines_fit" s_lines_fit a_lines_fit d_lines_fit
  b_lines_fit : Binds K d_lines_fit ["lines"] []
  m_lines_fit : mg "lines_fit" = some (.ref a_lines_fit)
  a_read_lines : Addr
  d_read_lines : FuncData
  F_read_lines : Fun K "read_lines" "read_lines" s_read_lines a_read_lines d_read_lines
  b_read_lines : Binds K d_read_lines ["numbers", "at"] []
  m_read_lines : mg "read_lines" = some (.ref a_read_lines)
  a_read_task : Addr
  d_read_task : FuncData
  F_read_task : Fun K "read_task" "read_task" s_read_task a_read_task d_read_task
  b_read_task : Binds K d_read_task ["numbers"] []
  m_read_task : mg "read_task" = some (.ref a_read_task)
  a_Held___init__ : Addr
  d_Held___init__ : FuncData
  F_Held___init__ : Fun K "__init__" "Held.__init__" s_Held___init__ a_Held___init__ d_Held___init__
  b_Held___init__ : Binds K d_Held___init__ ["self"] []
  mk_Held : Mk K c_Held a_Held___init__
  a_Held_has_task : Addr
  d_Held_has_task : FuncData
  F_Held_has_task : Fun K "has_task" "Held.has_task" s_Held_has_task a_Held_has_task d_Held_has_task
  b_Held_has_task : Binds K d_Held_has_task ["self", "i"] []
  M_Held_has_task : Meth K c_Held "has_task" a_Held_has_task
  a_Held_set_reload : Addr
  d_Held_set_reload : FuncData
  F_Held_set_reload : Fun K "set_reload" "Held.set_reload" s_Held_set_reload a_Held_set_reload d_Held_set_reload
  b_Held_set_reload : Binds K d_Held_set_reload ["self", "n"] []
  M_Held_set_reload : Meth K c_Held "set_reload" a_Held_set_reload
  a_Held_add_task : Addr
  d_Held_add_task : FuncData
  F_Held_add_task : Fun K "add_task" "Held.add_task" s_Held_add_task a_Held_add_task d_Held_add_task
  b_Held_add_task : Binds K d_Held_add_task ["self", "numbers"] []
  M_Held_add_task : Meth K c_Held "add_task" a_Held_add_task
  a_Held_change_task : Addr
  d_Held_change_task : FuncData
  F_Held_change_task : Fun K "change_task" "Held.change_task" s_Held_change_task a_Held_change_task d_Held_change_task
  b_Held_change_task : Binds K d_Held_change_task ["self", "i", "numbers"] []
  M_Held_change_task : Meth K c_Held "change_task" a_Held_change_task
  a_Held_drop_task : Addr
  d_Held_drop_task : FuncData
  F_Held_drop_task : Fun K "drop_task" "Held.drop_task" s_Held_drop_task a_Held_drop_task d_Held_drop_task
  b_Held_drop_task : Binds K d_Held_drop_task ["self", "i"] []
  M_Held_drop_task : Meth K c_Held "drop_task" a_Held_drop_task
  a_Held_set_order : Addr
  d_Held_set_order : FuncData
  F_Held_set_order : Fun K "set_order" "Held.set_order" s_Held_set_order a_Held_set_order d_Held_set_order
  b_Held_set_order : Binds K d_Held_set_order ["self", "numbers"] []
  M_Held_set_order : Meth K c_Held "set_order" a_Held_set_order
  a_Held_sort_order : Addr
  d_Held_sort_order : FuncData
  F_Held_sort_order : Fun K "sort_order" "Held.sort_order" s_Held_sort_order a_Held_sort_order d_Held_sort_order
  b_Held_sort_order : Binds K d_Held_sort_order ["self", "kind"] []
  cc_Held_sort_order : Addr
  pt_Held_sort_order : Addr
  ce_Held_sort_order : d_Held_sort_order.code = .ref cc_Held_sort_order
  hd_Held_sort_order : codeHdIn K cc_Held_sort_order pt_Held_sort_order = true
  M_Held_sort_order : Meth K c_Held "sort_order" a_Held_sort_order
  a_Held_tell_tasks : Addr
  d_Held_tell_tasks : FuncData
  F_Held_tell_tasks : Fun K "tell_tasks" "Held.tell_tasks" s_Held_tell_tasks a_Held_tell_tasks d_Held_tell_tasks
  b_Held_tell_tasks : Binds K d_Held_tell_tasks ["self"] []
  M_Held_tell_tasks : Meth K c_Held "tell_tasks" a_Held_tell_tasks
  a_Held_tell_order : Addr
  d_Held_tell_order : FuncData
  F_Held_tell_order : Fun K "tell_order" "Held.tell_order" s_Held_tell_order a_Held_tell_order d_Held_tell_order
  b_Held_tell_order : Binds K d_Held_tell_order ["self"] []
  M_Held_tell_order : Meth K c_Held "tell_order" a_Held_tell_order
  a_Held_ranked : Addr
  d_Held_ranked : FuncData
  F_Held_ranked : Fun K "ranked" "Held.ranked" s_Held_ranked a_Held_ranked d_Held_ranked
  b_Held_ranked : Binds K d_Held_ranked ["self"] []
  M_Held_ranked : Meth K c_Held "ranked" a_Held_ranked
  a_Held_tell_cost : Addr
  d_Held_tell_cost : FuncData
  F_Held_tell_cost : Fun K "tell_cost" "Held.tell_cost" s_Held_tell_cost a_Held_tell_cost d_Held_tell_cost
  b_Held_tell_cost : Binds K d_Held_tell_cost ["self", "i", "j"] []
  M_Held_tell_cost : Meth K c_Held "tell_cost" a_Held_tell_cost
  a_Held_tell_response : Addr
  d_Held_tell_response : FuncData
  F_Held_tell_response : Fun K "tell_response" "Held.tell_response" s_Held_tell_response a_Held_tell_response d_Held_tell_response
  b_Held_tell_response : Binds K d_Held_tell_response ["self", "i"] []
  M_Held_tell_response : Meth K c_Held "tell_response" a_Held_tell_response
  a_Held_tell_all : Addr
  d_Held_tell_all : FuncData
  F_Held_tell_all : Fun K "tell_all" "Held.tell_all" s_Held_tell_all a_Held_tell_all d_Held_tell_all
  b_Held_tell_all : Binds K d_Held_tell_all ["self"] []
  M_Held_tell_all : Meth K c_Held "tell_all" a_Held_tell_all
  a_Held_tell_best : Addr
  d_Held_tell_best : FuncData
  F_Held_tell_best : Fun K "tell_best" "Held.tell_best" s_Held_tell_best a_Held_tell_best d_Held_tell_best
  b_Held_tell_best : Binds K d_Held_tell_best ["self"] []
  M_Held_tell_best : Meth K c_Held "tell_best" a_Held_tell_best
  a_Held_new_play : Addr
  d_Held_new_play : FuncData
  F_Held_new_play : Fun K "new_play" "Held.new_play" s_Held_new_play a_Held_new_play d_Held_new_play
  b_Held_new_play : Binds K d_Held_new_play ["self"] []
  M_Held_new_play : Meth K c_Held "new_play" a_Held_new_play
  a_Held_tell_course : Addr
  d_Held_tell_course : FuncData
  F_Held_tell_course : Fun K "tell_course" "Held.tell_course" s_Held_tell_course a_Held_tell_course d_Held_tell_course
  b_Held_tell_course : Binds K d_Held_tell_course ["self", "h"] []
  M_Held_tell_course : Meth K c_Held "tell_course" a_Held_tell_course
  a_Held_tell_trace : Addr
  d_Held_tell_trace : FuncData
  F_Held_tell_trace : Fun K "tell_trace" "Held.tell_trace" s_Held_tell_trace a_Held_tell_trace d_Held_tell_trace
  b_Held_tell_trace : Binds K d_Held_tell_trace ["self", "t", "n"] []
  M_Held_tell_trace : Meth K c_Held "tell_trace" a_Held_tell_trace
  a_Held_tell_late : Addr
  d_Held_tell_late : FuncData
  F_Held_tell_late : Fun K "tell_late" "Held.tell_late" s_Held_tell_late a_Held_tell_late d_Held_tell_late
  b_Held_tell_late : Binds K d_Held_tell_late ["self", "h"] []
  M_Held_tell_late : Meth K c_Held "tell_late" a_Held_tell_late
  a_answer : Addr
  d_answer : FuncData
  F_answer : Fun K "answer" "answer" s_answer a_answer d_answer
  b_answer : Binds K d_answer ["held", "name", "numbers", "row"] []
  m_answer : mg "answer" = some (.ref a_answer)
  a_answers : Addr
  d_answers : FuncData
  F_answers : Fun K "answers" "answers" s_answers a_answers d_answers
  b_answers : Binds K d_answers ["calls"] []
  m_answers : mg "answers" = some (.ref a_answers)
  n_Jobs_task : NoAttr K c_Jobs "task"
  n_Jobs_came : NoAttr K c_Jobs "came"
  n_Jobs_due : NoAttr K c_Jobs "due"
  n_Jobs_done : NoAttr K c_Jobs "done"
  n_Jobs_late : NoAttr K c_Jobs "late"
  n_Jobs_greatest : NoAttr K c_Jobs "greatest"
  n_Jobs_least : NoAttr K c_Jobs "least"
  n_Jobs_reloads : NoAttr K c_Jobs "reloads"
  n_Jobs_begun : NoAttr K c_Jobs "begun"
  n_Jobs_left : NoAttr K c_Jobs "left"
  n_Jobs_lost : NoAttr K c_Jobs "lost"
  n_Play_jobs : NoAttr K c_Play "jobs"
  n_Play_order : NoAttr K c_Play "order"
  n_Play_line_cost : NoAttr K c_Play "line_cost"
  n_Task_period : NoAttr K c_Task "period"
  n_Task_deadline : NoAttr K c_Task "deadline"
  n_Task_cycles : NoAttr K c_Task "cycles"
  n_Task_offset : NoAttr K c_Task "offset"
  n_Task_useful : NoAttr K c_Task "useful"
  n_Task_used : NoAttr K c_Task "used"
  n_Held_tasks : NoAttr K c_Held "tasks"
  n_Held_order : NoAttr K c_Held "order"
  n_Held_line_cost : NoAttr K c_Held "line_cost"
  a_CALLS : Addr
  m_CALLS : mg "CALLS" = some (.ref a_CALLS)
  r_CALLS : List Addr
  q_CALLS : ∀ H, SqT K H a_CALLS (r_CALLS.map V.ref)
  i_CALLS : ∀ H, Paired (fun r xs => SqT K H r xs) r_CALLS [[V.str "reload", V.int (1), V.bl false], [V.str "task", V.int (0), V.bl true], [V.str "retask", V.int (1), V.bl true], [V.str "untask", V.int (1), V.bl false], [V.str "order", V.int (0), V.bl true], [V.str "sorted", V.int (1), V.bl false], [V.str "tasks", V.int (0), V.bl false], [V.str "ranks", V.int (0), V.bl false], [V.str "cost", V.int (2), V.bl false], [V.str "response", V.int (1), V.bl false], [V.str "all", V.int (0), V.bl false], [V.str "best", V.int (0), V.bl false], [V.str "course", V.int (1), V.bl false], [V.str "trace", V.int (2), V.bl false], [V.str "late", V.int (1), V.bl false]]
  t_MOST_PERIOD : Tok
  m_MOST_PERIOD : mg "MOST_PERIOD" = some (.int (500) t_MOST_PERIOD)
  t_MOST_OFFSET : Tok
  m_MOST_OFFSET : mg "MOST_OFFSET" = some (.int (500) t_MOST_OFFSET)
  t_LAST_LINE : Tok
  m_LAST_LINE : mg "LAST_LINE" = some (.int (31) t_LAST_LINE)
  t_USEFUL_AT : Tok
  m_USEFUL_AT : mg "USEFUL_AT" = some (.int (4) t_USEFUL_AT)
  t_MOST_TASKS : Tok
  m_MOST_TASKS : mg "MOST_TASKS" = some (.int (6) t_MOST_TASKS)
  t_MOST_RELOAD : Tok
  m_MOST_RELOAD : mg "MOST_RELOAD" = some (.int (20) t_MOST_RELOAD)
  t_LAST_TIME : Tok
  m_LAST_TIME : mg "LAST_TIME" = some (.int (3000) t_LAST_TIME)
  t_MOST_TRACED : Tok
  m_MOST_TRACED : mg "MOST_TRACED" = some (.int (200) t_MOST_TRACED)
  t_DONE : Tok
  m_DONE : mg "DONE" = some (.int (0) t_DONE)
  t_NOT_SO : Tok
  m_NOT_SO : mg "NOT_SO" = some (.int (1) t_NOT_SO)
  t_NO_TASK : Tok
  m_NO_TASK : mg "NO_TASK" = some (.int (-3) t_NO_TASK)
  t_NOT_ABOVE : Tok
  m_NOT_ABOVE : mg "NOT_ABOVE" = some (.int (-4) t_NOT_ABOVE)
  t_NO_KIND : Tok
  m_NO_KIND : mg "NO_KIND" = some (.int (-5) t_NO_KIND)
  t_OUT_OF_RANGE : Tok
  m_OUT_OF_RANGE : mg "OUT_OF_RANGE" = some (.int (-7) t_OUT_OF_RANGE)
  t_TOO_MANY : Tok
  m_TOO_MANY : mg "TOO_MANY" = some (.int (-9) t_TOO_MANY)
  t_WRONG_LIST : Tok
  m_WRONG_LIST : mg "WRONG_LIST" = some (.int (-12) t_WRONG_LIST)
  t_BY_PERIOD : Tok
  m_BY_PERIOD : mg "BY_PERIOD" = some (.int (0) t_BY_PERIOD)
  t_BY_DEADLINE : Tok
  m_BY_DEADLINE : mg "BY_DEADLINE" = some (.int (1) t_BY_DEADLINE)
  x_range : mg "range" = none
  x_len : mg "len" = none
  x_max : mg "max" = none
  x_enumerate : mg "enumerate" = none
  x_list : mg "list" = none
  x_sorted : mg "sorted" = none
  x_min : mg "min" = none
  x_set : mg "set" = none
def mkTop {K : Frag} {h : Heap} {mg : Str → Option Value}
    {c_Jobs : Addr}
    {c_Play : Addr}
    {c_Task : Addr}
    {c_Held : Addr}
    {a_x0 : Addr} {oc_x0 kV_x0 dc_x0 pm_x0 cd_x0 ct_x0 : Value} {od_x0 an_x0 : Option Addr} {sl_x0 : Array (Option Value)}
    {a_x1 : Addr} {oc_x1 kV_x1 dc_x1 pm_x1 cd_x1 ct_x1 : Value} {od_x1 an_x1 : Option Addr} {sl_x1 : Array (Option Value)}
    {a_x2 : Addr} {oc_x2 kV_x2 dc_x2 pm_x2 cd_x2 ct_x2 : Value} {od_x2 an_x2 : Option Addr} {sl_x2 : Array (Option Value)}
    {a_x3 : Addr} {oc_x3 kV_x3 dc_x3 pm_x3 cd_x3 ct_x3 : Value} {od_x3 an_x3 : Option Addr} {sl_x3 : Array (Option Value)}
    {a_x4 : Addr} {oc_x4 kV_x4 dc_x4 pm_x4 cd_x4 ct_x4 : Value} {od_x4 an_x4 : Option Addr} {sl_x4 : Array (Option Value)}
    {a_x5 : Addr} {oc_x5 kV_x5 dc_x5 pm_x5 cd_x5 ct_x5 : Value} {od_x5 an_x5 : Option Addr} {sl_x5 : Array (Option Value)}
    {a_x6 : Addr} {oc_x6 kV_x6 dc_x6 pm_x6 cd_x6 ct_x6 : Value} {od_x6 an_x6 : Option Addr} {sl_x6 : Array (Option Value)}
    {a_x7 : Addr} {oc_x7 kV_x7 dc_x7 pm_x7 cd_x7 ct_x7 : Value} {od_x7 an_x7 : Option Addr} {sl_x7 : Array (Option Value)}
    {a_x8 : Addr} {oc_x8 kV_x8 dc_x8 pm_x8 cd_x8 ct_x8 : Value} {od_x8 an_x8 : Option Addr} {sl_x8 : Array (Option Value)}
    {a_x9 : Addr} {oc_x9 kV_x9 dc_x9 pm_x9 cd_x9 ct_x9 : Value} {od_x9 an_x9 : Option Addr} {sl_x9 : Array (Option Value)}
    {a_x10 : Addr} {oc_x10 kV_x10 dc_x10 pm_x10 cd_x10 ct_x10 : Value} {od_x10 an_x10 : Option Addr} {sl_x10 : Array (Option Value)}
    {a_x11 : Addr} {oc_x11 kV_x11 dc_x11 pm_x11 cd_x11 ct_x11 : Value} {od_x11 an_x11 : Option Addr} {sl_x11 : Array (Option Value)}
    {a_x12 : Addr} {oc_x12 kV_x12 dc_x12 pm_x12 cd_x12 ct_x12 : Value} {od_x12 an_x12 : Option Addr} {sl_x12 : Array (Option Value)}
    {a_x13 : Addr} {oc_x13 kV_x13 dc_x13 pm_x13 cd_x13 ct_x13 : Value} {od_x13 an_x13 : Option Addr} {sl_x13 : Array (Option Value)}
    {a_x14 : Addr} {oc_x14 kV_x14 dc_x14 pm_x14 cd_x14 ct_x14 : Value} {od_x14 an_x14 : Option Addr} {sl_x14 : Array (Option Value)}
    {a_x15 : Addr} {oc_x15 kV_x15 dc_x15 pm_x15 cd_x15 ct_x15 : Value} {od_x15 an_x15 : Option Addr} {sl_x15 : Array (Option Value)}
    {a_x16 : Addr} {oc_x16 kV_x16 dc_x16 pm_x16 cd_x16 ct_x16 : Value} {od_x16 an_x16 : Option Addr} {sl_x16 : Array (Option Value)}
    {a_x17 : Addr} {oc_x17 kV_x17 dc_x17 pm_x17 cd_x17 ct_x17 : Value} {od_x17 an_x17 : Option Addr} {sl_x17 : Array (Option Value)}
    {a_x18 : Addr} {oc_x18 kV_x18 dc_x18 pm_x18 cd_x18 ct_x18 : Value} {od_x18 an_x18 : Option Addr} {sl_x18 : Array (Option Value)}
    {a_x19 : Addr} {oc_x19 kV_x19 dc_x19 pm_x19 cd_x19 ct_x19 : Value} {od_x19 an_x19 : Option Addr} {sl_x19 : Array (Option Value)}
    {a_x20 : Addr} {oc_x20 kV_x20 dc_x20 pm_x20 cd_x20 ct_x20 : Value} {od_x20 an_x20 : Option Addr} {sl_x20 : Array (Option Value)}
    {a_x21 : Addr} {oc_x21 kV_x21 dc_x21 pm_x21 cd_x21 ct_x21 : Value} {od_x21 an_x21 : Option Addr} {sl_x21 : Array (Option Value)}
    {a_x22 : Addr} {oc_x22 kV_x22 dc_x22 pm_x22 cd_x22 ct_x22 : Value} {od_x22 an_x22 : Option Addr} {sl_x22 : Array (Option Value)}
    {a_x23 : Addr} {oc_x23 kV_x23 dc_x23 pm_x23 cd_x23 ct_x23 : Value} {od_x23 an_x23 : Option Addr} {sl_x23 : Array (Option Value)}
    {a_x24 : Addr} {oc_x24 kV_x24 dc_x24 pm_x24 cd_x24 ct_x24 : Value} {od_x24 an_x24 : Option Addr} {sl_x24 : Array (Option Value)}
    {a_x25 : Addr} {oc_x25 kV_x25 dc_x25 pm_x25 cd_x25 ct_x25 : Value} {od_x25 an_x25 : Option Addr} {sl_x25 : Array (Option Value)}
    {a_x26 : Addr} {oc_x26 kV_x26 dc_x26 pm_x26 cd_x26 ct_x26 : Value} {od_x26 an_x26 : Option Addr} {sl_x26 : Array (Option Value)}
    {a_x27 : Addr} {oc_x27 kV_x27 dc_x27 pm_x27 cd_x27 ct_x27 : Value} {od_x27 an_x27 : Option Addr} {sl_x27 : Array (Option Value)}
    {a_x28 : Addr} {oc_x28 kV_x28 dc_x28 pm_x28 cd_x28 ct_x28 : Value} {od_x28 an_x28 : Option Addr} {sl_x28 : Array (Option Value)}
    {a_x29 : Addr} {oc_x29 kV_x29 dc_x29 pm_x29 cd_x29 ct_x29 : Value} {od_x29 an_x29 : Option Addr} {sl_x29 : Array (Option Value)}
    {a_x30 : Addr} {oc_x30 kV_x30 dc_x30 pm_x30 cd_x30 ct_x30 : Value} {od_x30 an_x30 : Option Addr} {sl_x30 : Array (Option Value)}
    {a_x31 : Addr} {oc_x31 kV_x31 dc_x31 pm_x31 cd_x31 ct_x31 : Value} {od_x31 an_x31 : Option Addr} {sl_x31 : Array (Option Value)}
    {a_x32 : Addr} {oc_x32 kV_x32 dc_x32 pm_x32 cd_x32 ct_x32 : Value} {od_x32 an_x32 : Option Addr} {sl_x32 : Array (Option Value)}
    {a_x33 : Addr} {oc_x33 kV_x33 dc_x33 pm_x33 cd_x33 ct_x33 : Value} {od_x33 an_x33 : Option Addr} {sl_x33 : Array (Option Value)}
    {a_x34 : Addr} {oc_x34 kV_x34 dc_x34 pm_x34 cd_x34 ct_x34 : Value} {od_x34 an_x34 : Option Addr} {sl_x34 : Array (Option Value)}
    {a_x35 : Addr} {oc_x35 kV_x35 dc_x35 pm_x35 cd_x35 ct_x35 : Value} {od_x35 an_x35 : Option Addr} {sl_x35 : Array (Option Value)}
    {a_x36 : Addr} {oc_x36 kV_x36 dc_x36 pm_x36 cd_x36 ct_x36 : Value} {od_x36 an_x36 : Option Addr} {sl_x36 : Array (Option Value)}
    {a_x37 : Addr} {oc_x37 kV_x37 dc_x37 pm_x37 cd_x37 ct_x37 : Value} {od_x37 an_x37 : Option Addr} {sl_x37 : Array (Option Value)}
    {cc_x38 pt_x38 : Addr}
    {a_x38 : Addr} {oc_x38 kV_x38 dc_x38 pm_x38 ct_x38 : Value} {od_x38 an_x38 : Option Addr} {sl_x38 : Array (Option Value)}
    {a_x39 : Addr} {oc_x39 kV_x39 dc_x39 pm_x39 cd_x39 ct_x39 : Value} {od_x39 an_x39 : Option Addr} {sl_x39 : Array (Option Value)}
    {a_x40 : Addr} {oc_x40 kV_x40 dc_x40 pm_x40 cd_x40 ct_x40 : Value} {od_x40 an_x40 : Option Addr} {sl_x40 : Array (Option Value)}
    {a_x41 : Addr} {oc_x41 kV_x41 dc_x41 pm_x41 cd_x41 ct_x41 : Value} {od_x41 an_x41 : Option Addr} {sl_x41 : Array (Option Value)}
    {a_x42 : Addr} {oc_x42 kV_x42 dc_x42 pm_x42 cd_x42 ct_x42 : Value} {od_x42 an_x42 : Option Addr} {sl_x42 : Array (Option Value)}
    {a_x43 : Addr} {oc_x43 kV_x43 dc_x43 pm_x43 cd_x43 ct_x43 : Value} {od_x43 an_x43 : Option Addr} {sl_x43 : Array (Option Value)}
    {a_x44 : Addr} {oc_x44 kV_x44 dc_x44 pm_x44 cd_x44 ct_x44 : Value} {od_x44 an_x44 : Option Addr} {sl_x44 : Array (Option Value)}
    {a_x45 : Addr} {oc_x45 kV_x45 dc_x45 pm_x45 cd_x45 ct_x45 : Value} {od_x45 an_x45 : Option Addr} {sl_x45 : Array (Option Value)}
    {a_x46 : Addr} {oc_x46 kV_x46 dc_x46 pm_x46 cd_x46 ct_x46 : Value} {od_x46 an_x46 : Option Addr} {sl_x46 : Array (Option Value)}
    {a_x47 : Addr} {oc_x47 kV_x47 dc_x47 pm_x47 cd_x47 ct_x47 : Value} {od_x47 an_x47 : Option Addr} {sl_x47 : Array (Option Value)}
    {a_x48 : Addr} {oc_x48 kV_x48 dc_x48 pm_x48 cd_x48 ct_x48 : Value} {od_x48 an_x48 : Option Addr} {sl_x48 : Array (Option Value)}
    {a_x49 : Addr} {oc_x49 kV_x49 dc_x49 pm_x49 cd_x49 ct_x49 : Value} {od_x49 an_x49 : Option Addr} {sl_x49 : Array (Option Value)}
    {a_x50 : Addr} {oc_x50 kV_x50 dc_x50 pm_x50 cd_x50 ct_x50 : Value} {od_x50 an_x50 : Option Addr} {sl_x50 : Array (Option Value)}
    {a_x51 : Addr} {oc_x51 kV_x51 dc_x51 pm_x51 cd_x51 ct_x51 : Value} {od_x51 an_x51 : Option Addr} {sl_x51 : Array (Option Value)}
    {a_CALLS : Addr} {dd_CALLS : Option Addr} {nn_CALLS : Nat} {sl_CALLS : Array (Option Value)}
    {r_CALLS_0 r_CALLS_1 r_CALLS_2 r_CALLS_3 r_CALLS_4 r_CALLS_5 r_CALLS_6 r_CALLS_7 r_CALLS_8 r_CALLS_9 r_CALLS_10 r_CALLS_11 r_CALLS_12 r_CALLS_13 r_CALLS_14 : Addr}
    {dd_CALLS_0 : Option Addr} {nn_CALLS_0 : Nat} {sl_CALLS_0 : Array (Option Value)}
    {t_CALLS_0_0 : Tok}
    {t_CALLS_0_1 : Tok}
    {dd_CALLS_1 : Option Addr} {nn_CALLS_1 : Nat} {sl_CALLS_1 : Array (Option Value)}
    {t_CALLS_1_0 : Tok}
    {t_CALLS_1_1 : Tok}
    {dd_CALLS_2 : Option Addr} {nn_CALLS_2 : Nat} {sl_CALLS_2 : Array (Option Value)}
    {t_CALLS_2_0 : Tok}
    {t_CALLS_2_1 : Tok}
    {dd_CALLS_3 : Option Addr} {nn_CALLS_3 : Nat} {sl_CALLS_3 : Array (Option Value)}
    {t_CALLS_3_0 : Tok}
    {t_CALLS_3_1 : Tok}
    {dd_CALLS_4 : Option Addr} {nn_CALLS_4 : Nat} {sl_CALLS_4 : Array (Option Value)}
    {t_CALLS_4_0 : Tok}
    {t_CALLS_4_1 : Tok}
    {dd_CALLS_5 : Option Addr} {nn_CALLS_5 : Nat} {sl_CALLS_5 : Array (Option Value)}
    {t_CALLS_5_0 : Tok}
    {t_CALLS_5_1 : Tok}
    {dd_CALLS_6 : Option Addr} {nn_CALLS_6 : Nat} {sl_CALLS_6 : Array (Option Value)}
    {t_CALLS_6_0 : Tok}
    {t_CALLS_6_1 : Tok}
    {dd_CALLS_7 : Option Addr} {nn_CALLS_7 : Nat} {sl_CALLS_7 : Array (Option Value)}
    {t_CALLS_7_0 : Tok}
    {t_CALLS_7_1 : Tok}
    {dd_CALLS_8 : Option Addr} {nn_CALLS_8 : Nat} {sl_CALLS_8 : Array (Option Value)}
    {t_CALLS_8_0 : Tok}
    {t_CALLS_8_1 : Tok}
    {dd_CALLS_9 : Option Addr} {nn_CALLS_9 : Nat} {sl_CALLS_9 : Array (Option Value)}
    {t_CALLS_9_0 : Tok}
    {t_CALLS_9_1 : Tok}
    {dd_CALLS_10 : Option Addr} {nn_CALLS_10 : Nat} {sl_CALLS_10 : Array (Option Value)}
    {t_CALLS_10_0 : Tok}
    {t_CALLS_10_1 : Tok}
    {dd_CALLS_11 : Option Addr} {nn_CALLS_11 : Nat} {sl_CALLS_11 : Array (Option Value)}
    {t_CALLS_11_0 : Tok}
    {t_CALLS_11_1 : Tok}
    {dd_CALLS_12 : Option Addr} {nn_CALLS_12 : Nat} {sl_CALLS_12 : Array (Option Value)}
    {t_CALLS_12_0 : Tok}
    {t_CALLS_12_1 : Tok}
    {dd_CALLS_13 : Option Addr} {nn_CALLS_13 : Nat} {sl_CALLS_13 : Array (Option Value)}
    {t_CALLS_13_0 : Tok}
    {t_CALLS_13_1 : Tok}
    {dd_CALLS_14 : Option Addr} {nn_CALLS_14 : Nat} {sl_CALLS_14 : Array (Option Value)}
    {t_CALLS_14_0 : Tok}
    {t_CALLS_14_1 : Tok}
    {t_MOST_PERIOD : Tok}
    {t_MOST_OFFSET : Tok}
    {t_LAST_LINE : Tok}
    {t_USEFUL_AT : Tok}
    {t_MOST_TASKS : Tok}
    {t_MOST_RELOAD : Tok}
    {t_LAST_TIME : Tok}
    {t_MOST_TRACED : Tok}
    {t_DONE : Tok}
    {t_NOT_SO : Tok}
    {t_NO_TASK : Tok}
    {t_NOT_ABOVE : Tok}
    {t_NO_KIND : Tok}
    {t_OUT_OF_RANGE : Tok}
    {t_TOO_MANY : Tok}
    {t_WRONG_LIST : Tok}
    {t_BY_PERIOD : Tok}
    {t_BY_DEADLINE : Tok} (X : K.In h) (G : h.Ns mainGlobals mg)
    (ac_Jobs : nsIn K mainGlobals "Jobs" = some (some (.ref c_Jobs)))
    (pg_Jobs : plainGet K c_Jobs Str.empty = true)
    (hd_Jobs : hasDictIn K c_Jobs = true)
    (po_Jobs : plainOver K c_Jobs = true)
    (sa_Jobs : findIn K (.ref c_Jobs) "__setattr__" = some (some (.builtin "object.__setattr__")))
    (mk_Jobs : makesIn K c_Jobs = true)
    (kc_Jobs : keepIn K (.ref c_Jobs) = true)
    (ac_Play : nsIn K mainGlobals "Play" = some (some (.ref c_Play)))
    (pg_Play : plainGet K c_Play Str.empty = true)
    (hd_Play : hasDictIn K c_Play = true)
    (po_Play : plainOver K c_Play = true)
    (sa_Play : findIn K (.ref c_Play) "__setattr__" = some (some (.builtin "object.__setattr__")))
    (mk_Play : makesIn K c_Play = true)
    (kc_Play : keepIn K (.ref c_Play) = true)
    (ac_Task : nsIn K mainGlobals "Task" = some (some (.ref c_Task)))
    (pg_Task : plainGet K c_Task Str.empty = true)
    (hd_Task : hasDictIn K c_Task = true)
    (po_Task : plainOver K c_Task = true)
    (sa_Task : findIn K (.ref c_Task) "__setattr__" = some (some (.builtin "object.__setattr__")))
    (mk_Task : makesIn K c_Task = true)
    (kc_Task : keepIn K (.ref c_Task) = true)
    (ac_Held : nsIn K mainGlobals "Held" = some (some (.ref c_Held)))
    (pg_Held : plainGet K c_Held Str.empty = true)
    (hd_Held : hasDictIn K c_Held = true)
    (po_Held : plainOver K c_Held = true)
    (sa_Held : findIn K (.ref c_Held) "__setattr__" = some (some (.builtin "object.__setattr__")))
    (mk_Held : makesIn K c_Held = true)
    (kc_Held : keepIn K (.ref c_Held) = true)
    (f_x0 : nsIn K mainGlobals "read_calls" = some (some (.ref a_x0)))
    (l_x0 : K.lookup a_x0 = some ⟨oc_x0, od_x0, .func (fnOf "read_calls" "read_calls" (defArgs s_read_calls) (defBody s_read_calls) (defScope s_read_calls) .none kV_x0 dc_x0 pm_x0 an_x0 cd_x0 ct_x0), sl_x0⟩)
    (cd_x0' : codeIn K cd_x0 "read_calls" = true)
    (kp_x0 : keepIn K (.ref a_x0) = true)
    (f_x1 : nsIn K mainGlobals "used_by" = some (some (.ref a_x1)))
    (l_x1 : K.lookup a_x1 = some ⟨oc_x1, od_x1, .func (fnOf "used_by" "used_by" (defArgs s_used_by) (defBody s_used_by) (defScope s_used_by) .none kV_x1 dc_x1 pm_x1 an_x1 cd_x1 ct_x1), sl_x1⟩)
    (cd_x1' : codeIn K cd_x1 "used_by" = true)
    (kp_x1 : keepIn K (.ref a_x1) = true)
    (f_x2 : nsIn K mainGlobals "cost_seen" = some (some (.ref a_x2)))
    (l_x2 : K.lookup a_x2 = some ⟨oc_x2, od_x2, .func (fnOf "cost_seen" "cost_seen" (defArgs s_cost_seen) (defBody s_cost_seen) (defScope s_cost_seen) .none kV_x2 dc_x2 pm_x2 an_x2 cd_x2 ct_x2), sl_x2⟩)
    (cd_x2' : codeIn K cd_x2 "cost_seen" = true)
    (kp_x2 : keepIn K (.ref a_x2) = true)
    (f_x3 : nsIn K mainGlobals "loads_above" = some (some (.ref a_x3)))
    (l_x3 : K.lookup a_x3 = some ⟨oc_x3, od_x3, .func (fnOf "loads_above" "loads_above" (defArgs s_loads_above) (defBody s_loads_above) (defScope s_loads_above) .none kV_x3 dc_x3 pm_x3 an_x3 cd_x3 ct_x3), sl_x3⟩)
    (cd_x3' : codeIn K cd_x3 "loads_above" = true)
    (kp_x3 : keepIn K (.ref a_x3) = true)
    (f_x4 : nsIn K mainGlobals "what_fits" = some (some (.ref a_x4)))
    (l_x4 : K.lookup a_x4 = some ⟨oc_x4, od_x4, .func (fnOf "what_fits" "what_fits" (defArgs s_what_fits) (defBody s_what_fits) (defScope s_what_fits) .none kV_x4 dc_x4 pm_x4 an_x4 cd_x4 ct_x4), sl_x4⟩)
    (cd_x4' : codeIn K cd_x4 "what_fits" = true)
    (kp_x4 : keepIn K (.ref a_x4) = true)
    (f_x5 : nsIn K mainGlobals "rounds_made" = some (some (.ref a_x5)))
    (l_x5 : K.lookup a_x5 = some ⟨oc_x5, od_x5, .func (fnOf "rounds_made" "rounds_made" (defArgs s_rounds_made) (defBody s_rounds_made) (defScope s_rounds_made) .none kV_x5 dc_x5 pm_x5 an_x5 cd_x5 ct_x5), sl_x5⟩)
    (cd_x5' : codeIn K cd_x5 "rounds_made" = true)
    (kp_x5 : keepIn K (.ref a_x5) = true)
    (f_x6 : nsIn K mainGlobals "lowest_in_time" = some (some (.ref a_x6)))
    (l_x6 : K.lookup a_x6 = some ⟨oc_x6, od_x6, .func (fnOf "lowest_in_time" "lowest_in_time" (defArgs s_lowest_in_time) (defBody s_lowest_in_time) (defScope s_lowest_in_time) .none kV_x6 dc_x6 pm_x6 an_x6 cd_x6 ct_x6), sl_x6⟩)
    (cd_x6' : codeIn K cd_x6 "lowest_in_time" = true)
    (kp_x6 : keepIn K (.ref a_x6) = true)
    (f_x7 : nsIn K mainGlobals "first_order" = some (some (.ref a_x7)))
    (l_x7 : K.lookup a_x7 = some ⟨oc_x7, od_x7, .func (fnOf "first_order" "first_order" (defArgs s_first_order) (defBody s_first_order) (defScope s_first_order) .none kV_x7 dc_x7 pm_x7 an_x7 cd_x7 ct_x7), sl_x7⟩)
    (cd_x7' : codeIn K cd_x7 "first_order" = true)
    (kp_x7 : keepIn K (.ref a_x7) = true)
    (f_x8 : findIn K (.ref c_Jobs) "__init__" = some (some (.ref a_x8)))
    (i_x8 : isFn K (.ref a_x8) = true)
    (l_x8 : K.lookup a_x8 = some ⟨oc_x8, od_x8, .func (fnOf "__init__" "Jobs.__init__" (defArgs s_Jobs___init__) (defBody s_Jobs___init__) (defScope s_Jobs___init__) .none kV_x8 dc_x8 pm_x8 an_x8 cd_x8 ct_x8), sl_x8⟩)
    (cd_x8' : codeIn K cd_x8 "Jobs.__init__" = true)
    (kp_x8 : keepIn K (.ref a_x8) = true)
    (f_x9 : findIn K (.ref c_Jobs) "comes_at" = some (some (.ref a_x9)))
    (i_x9 : isFn K (.ref a_x9) = true)
    (l_x9 : K.lookup a_x9 = some ⟨oc_x9, od_x9, .func (fnOf "comes_at" "Jobs.comes_at" (defArgs s_Jobs_comes_at) (defBody s_Jobs_comes_at) (defScope s_Jobs_comes_at) .none kV_x9 dc_x9 pm_x9 an_x9 cd_x9 ct_x9), sl_x9⟩)
    (cd_x9' : codeIn K cd_x9 "Jobs.comes_at" = true)
    (kp_x9 : keepIn K (.ref a_x9) = true)
    (f_x10 : findIn K (.ref c_Jobs) "reach" = some (some (.ref a_x10)))
    (i_x10 : isFn K (.ref a_x10) = true)
    (l_x10 : K.lookup a_x10 = some ⟨oc_x10, od_x10, .func (fnOf "reach" "Jobs.reach" (defArgs s_Jobs_reach) (defBody s_Jobs_reach) (defScope s_Jobs_reach) .none kV_x10 dc_x10 pm_x10 an_x10 cd_x10 ct_x10), sl_x10⟩)
    (cd_x10' : codeIn K cd_x10 "Jobs.reach" = true)
    (kp_x10 : keepIn K (.ref a_x10) = true)
    (f_x11 : findIn K (.ref c_Jobs) "waits" = some (some (.ref a_x11)))
    (i_x11 : isFn K (.ref a_x11) = true)
    (l_x11 : K.lookup a_x11 = some ⟨oc_x11, od_x11, .func (fnOf "waits" "Jobs.waits" (defArgs s_Jobs_waits) (defBody s_Jobs_waits) (defScope s_Jobs_waits) .none kV_x11 dc_x11 pm_x11 an_x11 cd_x11 ct_x11), sl_x11⟩)
    (cd_x11' : codeIn K cd_x11 "Jobs.waits" = true)
    (kp_x11 : keepIn K (.ref a_x11) = true)
    (f_x12 : findIn K (.ref c_Jobs) "lose" = some (some (.ref a_x12)))
    (i_x12 : isFn K (.ref a_x12) = true)
    (l_x12 : K.lookup a_x12 = some ⟨oc_x12, od_x12, .func (fnOf "lose" "Jobs.lose" (defArgs s_Jobs_lose) (defBody s_Jobs_lose) (defScope s_Jobs_lose) .none kV_x12 dc_x12 pm_x12 an_x12 cd_x12 ct_x12), sl_x12⟩)
    (cd_x12' : codeIn K cd_x12 "Jobs.lose" = true)
    (kp_x12 : keepIn K (.ref a_x12) = true)
    (f_x13 : findIn K (.ref c_Jobs) "run" = some (some (.ref a_x13)))
    (i_x13 : isFn K (.ref a_x13) = true)
    (l_x13 : K.lookup a_x13 = some ⟨oc_x13, od_x13, .func (fnOf "run" "Jobs.run" (defArgs s_Jobs_run) (defBody s_Jobs_run) (defScope s_Jobs_run) .none kV_x13 dc_x13 pm_x13 an_x13 cd_x13 ct_x13), sl_x13⟩)
    (cd_x13' : codeIn K cd_x13 "Jobs.run" = true)
    (kp_x13 : keepIn K (.ref a_x13) = true)
    (f_x14 : findIn K (.ref c_Jobs) "finish" = some (some (.ref a_x14)))
    (i_x14 : isFn K (.ref a_x14) = true)
    (l_x14 : K.lookup a_x14 = some ⟨oc_x14, od_x14, .func (fnOf "finish" "Jobs.finish" (defArgs s_Jobs_finish) (defBody s_Jobs_finish) (defScope s_Jobs_finish) .none kV_x14 dc_x14 pm_x14 an_x14 cd_x14 ct_x14), sl_x14⟩)
    (cd_x14' : codeIn K cd_x14 "Jobs.finish" = true)
    (kp_x14 : keepIn K (.ref a_x14) = true)
    (f_x15 : findIn K (.ref c_Jobs) "counted" = some (some (.ref a_x15)))
    (i_x15 : isFn K (.ref a_x15) = true)
    (l_x15 : K.lookup a_x15 = some ⟨oc_x15, od_x15, .func (fnOf "counted" "Jobs.counted" (defArgs s_Jobs_counted) (defBody s_Jobs_counted) (defScope s_Jobs_counted) .none kV_x15 dc_x15 pm_x15 an_x15 cd_x15 ct_x15), sl_x15⟩)
    (cd_x15' : codeIn K cd_x15 "Jobs.counted" = true)
    (kp_x15 : keepIn K (.ref a_x15) = true)
    (f_x16 : findIn K (.ref c_Play) "__init__" = some (some (.ref a_x16)))
    (i_x16 : isFn K (.ref a_x16) = true)
    (l_x16 : K.lookup a_x16 = some ⟨oc_x16, od_x16, .func (fnOf "__init__" "Play.__init__" (defArgs s_Play___init__) (defBody s_Play___init__) (defScope s_Play___init__) .none kV_x16 dc_x16 pm_x16 an_x16 cd_x16 ct_x16), sl_x16⟩)
    (cd_x16' : codeIn K cd_x16 "Play.__init__" = true)
    (kp_x16 : keepIn K (.ref a_x16) = true)
    (f_x17 : findIn K (.ref c_Play) "reach" = some (some (.ref a_x17)))
    (i_x17 : isFn K (.ref a_x17) = true)
    (l_x17 : K.lookup a_x17 = some ⟨oc_x17, od_x17, .func (fnOf "reach" "Play.reach" (defArgs s_Play_reach) (defBody s_Play_reach) (defScope s_Play_reach) .none kV_x17 dc_x17 pm_x17 an_x17 cd_x17 ct_x17), sl_x17⟩)
    (cd_x17' : codeIn K cd_x17 "Play.reach" = true)
    (kp_x17 : keepIn K (.ref a_x17) = true)
    (f_x18 : findIn K (.ref c_Play) "highest" = some (some (.ref a_x18)))
    (i_x18 : isFn K (.ref a_x18) = true)
    (l_x18 : K.lookup a_x18 = some ⟨oc_x18, od_x18, .func (fnOf "highest" "Play.highest" (defArgs s_Play_highest) (defBody s_Play_highest) (defScope s_Play_highest) .none kV_x18 dc_x18 pm_x18 an_x18 cd_x18 ct_x18), sl_x18⟩)
    (cd_x18' : codeIn K cd_x18 "Play.highest" = true)
    (kp_x18 : keepIn K (.ref a_x18) = true)
    (f_x19 : findIn K (.ref c_Play) "run" = some (some (.ref a_x19)))
    (i_x19 : isFn K (.ref a_x19) = true)
    (l_x19 : K.lookup a_x19 = some ⟨oc_x19, od_x19, .func (fnOf "run" "Play.run" (defArgs s_Play_run) (defBody s_Play_run) (defScope s_Play_run) .none kV_x19 dc_x19 pm_x19 an_x19 cd_x19 ct_x19), sl_x19⟩)
    (cd_x19' : codeIn K cd_x19 "Play.run" = true)
    (kp_x19 : keepIn K (.ref a_x19) = true)
    (f_x20 : findIn K (.ref c_Play) "ran" = some (some (.ref a_x20)))
    (i_x20 : isFn K (.ref a_x20) = true)
    (l_x20 : K.lookup a_x20 = some ⟨oc_x20, od_x20, .func (fnOf "ran" "Play.ran" (defArgs s_Play_ran) (defBody s_Play_ran) (defScope s_Play_ran) .none kV_x20 dc_x20 pm_x20 an_x20 cd_x20 ct_x20), sl_x20⟩)
    (cd_x20' : codeIn K cd_x20 "Play.ran" = true)
    (kp_x20 : keepIn K (.ref a_x20) = true)
    (f_x21 : findIn K (.ref c_Play) "counted" = some (some (.ref a_x21)))
    (i_x21 : isFn K (.ref a_x21) = true)
    (l_x21 : K.lookup a_x21 = some ⟨oc_x21, od_x21, .func (fnOf "counted" "Play.counted" (defArgs s_Play_counted) (defBody s_Play_counted) (defScope s_Play_counted) .none kV_x21 dc_x21 pm_x21 an_x21 cd_x21 ct_x21), sl_x21⟩)
    (cd_x21' : codeIn K cd_x21 "Play.counted" = true)
    (kp_x21 : keepIn K (.ref a_x21) = true)
    (f_x22 : findIn K (.ref c_Play) "late_task" = some (some (.ref a_x22)))
    (i_x22 : isFn K (.ref a_x22) = true)
    (l_x22 : K.lookup a_x22 = some ⟨oc_x22, od_x22, .func (fnOf "late_task" "Play.late_task" (defArgs s_Play_late_task) (defBody s_Play_late_task) (defScope s_Play_late_task) .none kV_x22 dc_x22 pm_x22 an_x22 cd_x22 ct_x22), sl_x22⟩)
    (cd_x22' : codeIn K cd_x22 "Play.late_task" = true)
    (kp_x22 : keepIn K (.ref a_x22) = true)
    (f_x23 : findIn K (.ref c_Play) "first_late" = some (some (.ref a_x23)))
    (i_x23 : isFn K (.ref a_x23) = true)
    (l_x23 : K.lookup a_x23 = some ⟨oc_x23, od_x23, .func (fnOf "first_late" "Play.first_late" (defArgs s_Play_first_late) (defBody s_Play_first_late) (defScope s_Play_first_late) .none kV_x23 dc_x23 pm_x23 an_x23 cd_x23 ct_x23), sl_x23⟩)
    (cd_x23' : codeIn K cd_x23 "Play.first_late" = true)
    (kp_x23 : keepIn K (.ref a_x23) = true)
    (f_x24 : findIn K (.ref c_Task) "__init__" = some (some (.ref a_x24)))
    (i_x24 : isFn K (.ref a_x24) = true)
    (l_x24 : K.lookup a_x24 = some ⟨oc_x24, od_x24, .func (fnOf "__init__" "Task.__init__" (defArgs s_Task___init__) (defBody s_Task___init__) (defScope s_Task___init__) .none kV_x24 dc_x24 pm_x24 an_x24 cd_x24 ct_x24), sl_x24⟩)
    (cd_x24' : codeIn K cd_x24 "Task.__init__" = true)
    (kp_x24 : keepIn K (.ref a_x24) = true)
    (f_x25 : findIn K (.ref c_Task) "told" = some (some (.ref a_x25)))
    (i_x25 : isFn K (.ref a_x25) = true)
    (l_x25 : K.lookup a_x25 = some ⟨oc_x25, od_x25, .func (fnOf "told" "Task.told" (defArgs s_Task_told) (defBody s_Task_told) (defScope s_Task_told) .none kV_x25 dc_x25 pm_x25 an_x25 cd_x25 ct_x25), sl_x25⟩)
    (cd_x25' : codeIn K cd_x25 "Task.told" = true)
    (kp_x25 : keepIn K (.ref a_x25) = true)
    (f_x26 : findIn K (.ref c_Task) "useful_among" = some (some (.ref a_x26)))
    (i_x26 : isFn K (.ref a_x26) = true)
    (l_x26 : K.lookup a_x26 = some ⟨oc_x26, od_x26, .func (fnOf "useful_among" "Task.useful_among" (defArgs s_Task_useful_among) (defBody s_Task_useful_among) (defScope s_Task_useful_among) .none kV_x26 dc_x26 pm_x26 an_x26 cd_x26 ct_x26), sl_x26⟩)
    (cd_x26' : codeIn K cd_x26 "Task.useful_among" = true)
    (kp_x26 : keepIn K (.ref a_x26) = true)
    (f_x27 : nsIn K mainGlobals "times_fit" = some (some (.ref a_x27)))
    (l_x27 : K.lookup a_x27 = some ⟨oc_x27, od_x27, .func (fnOf "times_fit" "times_fit" (defArgs s_times_fit) (defBody s_times_fit) (defScope s_times_fit) .none kV_x27 dc_x27 pm_x27 an_x27 cd_x27 ct_x27), sl_x27⟩)
    (cd_x27' : codeIn K cd_x27 "times_fit" = true)
    (kp_x27 : keepIn K (.ref a_x27) = true)
    (f_x28 : nsIn K mainGlobals "lines_fit" = some (some (.ref a_x28)))
    (l_x28 : K.lookup a_x28 = some ⟨oc_x28, od_x28, .func (fnOf "lines_fit" "lines_fit" (defArgs s_lines_fit) (defBody s_lines_fit) (defScope s_lines_fit) .none kV_x28 dc_x28 pm_x28 an_x28 cd_x28 ct_x28), sl_x28⟩)
    (cd_x28' : codeIn K cd_x28 "lines_fit" = true)
    (kp_x28 : keepIn K (.ref a_x28) = true)
    (f_x29 : nsIn K mainGlobals "read_lines" = some (some (.ref a_x29)))
    (l_x29 : K.lookup a_x29 = some ⟨oc_x29, od_x29, .func (fnOf "read_lines" "read_lines" (defArgs s_read_lines) (defBody s_read_lines) (defScope s_read_lines) .none kV_x29 dc_x29 pm_x29 an_x29 cd_x29 ct_x29), sl_x29⟩)
    (cd_x29' : codeIn K cd_x29 "read_lines" = true)
    (kp_x29 : keepIn K (.ref a_x29) = true)
    (f_x30 : nsIn K mainGlobals "read_task" = some (some (.ref a_x30)))
    (l_x30 : K.lookup a_x30 = some ⟨oc_x30, od_x30, .func (fnOf "read_task" "read_task" (defArgs s_read_task) (defBody s_read_task) (defScope s_read_task) .none kV_x30 dc_x30 pm_x30 an_x30 cd_x30 ct_x30), sl_x30⟩)
    (cd_x30' : codeIn K cd_x30 "read_task" = true)
    (kp_x30 : keepIn K (.ref a_x30) = true)
    (f_x31 : findIn K (.ref c_Held) "__init__" = some (some (.ref a_x31)))
    (i_x31 : isFn K (.ref a_x31) = true)
    (l_x31 : K.lookup a_x31 = some ⟨oc_x31, od_x31, .func (fnOf "__init__" "Held.__init__" (defArgs s_Held___init__) (defBody s_Held___init__) (defScope s_Held___init__) .none kV_x31 dc_x31 pm_x31 an_x31 cd_x31 ct_x31), sl_x31⟩)
    (cd_x31' : codeIn K cd_x31 "Held.__init__" = true)
    (kp_x31 : keepIn K (.ref a_x31) = true)
    (f_x32 : findIn K (.ref c_Held) "has_task" = some (some (.ref a_x32)))
    (i_x32 : isFn K (.ref a_x32) = true)
    (l_x32 : K.lookup a_x32 = some ⟨oc_x32, od_x32, .func (fnOf "has_task" "Held.has_task" (defArgs s_Held_has_task) (defBody s_Held_has_task) (defScope s_Held_has_task) .none kV_x32 dc_x32 pm_x32 an_x32 cd_x32 ct_x32), sl_x32⟩)
    (cd_x32' : codeIn K cd_x32 "Held.has_task" = true)
    (kp_x32 : keepIn K (.ref a_x32) = true)
    (f_x33 : findIn K (.ref c_Held) "set_reload" = some (some (.ref a_x33)))
    (i_x33 : isFn K (.ref a_x33) = true)
    (l_x33 : K.lookup a_x33 = some ⟨oc_x33, od_x33, .func (fnOf "set_reload" "Held.set_reload" (defArgs s_Held_set_reload) (defBody s_Held_set_reload) (defScope s_Held_set_reload) .none kV_x33 dc_x33 pm_x33 an_x33 cd_x33 ct_x33), sl_x33⟩)
    (cd_x33' : codeIn K cd_x33 "Held.set_reload" = true)
    (kp_x33 : keepIn K (.ref a_x33) = true)
    (f_x34 : findIn K (.ref c_Held) "add_task" = some (some (.ref a_x34)))
    (i_x34 : isFn K (.ref a_x34) = true)
    (l_x34 : K.lookup a_x34 = some ⟨oc_x34, od_x34, .func (fnOf "add_task" "Held.add_task" (defArgs s_Held_add_task) (defBody s_Held_add_task) (defScope s_Held_add_task) .none kV_x34 dc_x34 pm_x34 an_x34 cd_x34 ct_x34), sl_x34⟩)
    (cd_x34' : codeIn K cd_x34 "Held.add_task" = true)
    (kp_x34 : keepIn K (.ref a_x34) = true)
    (f_x35 : findIn K (.ref c_Held) "change_task" = some (some (.ref a_x35)))
    (i_x35 : isFn K (.ref a_x35) = true)
    (l_x35 : K.lookup a_x35 = some ⟨oc_x35, od_x35, .func (fnOf "change_task" "Held.change_task" (defArgs s_Held_change_task) (defBody s_Held_change_task) (defScope s_Held_change_task) .none kV_x35 dc_x35 pm_x35 an_x35 cd_x35 ct_x35), sl_x35⟩)
    (cd_x35' : codeIn K cd_x35 "Held.change_task" = true)
    (kp_x35 : keepIn K (.ref a_x35) = true)
    (f_x36 : findIn K (.ref c_Held) "drop_task" = some (some (.ref a_x36)))
    (i_x36 : isFn K (.ref a_x36) = true)
    (l_x36 : K.lookup a_x36 = some ⟨oc_x36, od_x36, .func (fnOf "drop_task" "Held.drop_task" (defArgs s_Held_drop_task) (defBody s_Held_drop_task) (defScope s_Held_drop_task) .none kV_x36 dc_x36 pm_x36 an_x36 cd_x36 ct_x36), sl_x36⟩)
    (cd_x36' : codeIn K cd_x36 "Held.drop_task" = true)
    (kp_x36 : keepIn K (.ref a_x36) = true)
    (f_x37 : findIn K (.ref c_Held) "set_order" = some (some (.ref a_x37)))
    (i_x37 : isFn K (.ref a_x37) = true)
    (l_x37 : K.lookup a_x37 = some ⟨oc_x37, od_x37, .func (fnOf "set_order" "Held.set_order" (defArgs s_Held_set_order) (defBody s_Held_set_order) (defScope s_Held_set_order) .none kV_x37 dc_x37 pm_x37 an_x37 cd_x37 ct_x37), sl_x37⟩)
    (cd_x37' : codeIn K cd_x37 "Held.set_order" = true)
    (kp_x37 : keepIn K (.ref a_x37) = true)
    (f_x38 : findIn K (.ref c_Held) "sort_order" = some (some (.ref a_x38)))
    (i_x38 : isFn K (.ref a_x38) = true)
    (l_x38 : K.lookup a_x38 = some ⟨oc_x38, od_x38, .func (fnOf "sort_order" "Held.sort_order" (defArgs s_Held_sort_order) (defBody s_Held_sort_order) (defScope s_Held_sort_order) .none kV_x38 dc_x38 pm_x38 an_x38 (.ref cc_x38) ct_x38), sl_x38⟩)
    (hd_x38 : codeHdIn K cc_x38 pt_x38 = true)
    (cd_x38' : codeIn K (.ref cc_x38) "Held.sort_order" = true)
    (kp_x38 : keepIn K (.ref a_x38) = true)
    (f_x39 : findIn K (.ref c_Held) "tell_tasks" = some (some (.ref a_x39)))
    (i_x39 : isFn K (.ref a_x39) = true)
    (l_x39 : K.lookup a_x39 = some ⟨oc_x39, od_x39, .func (fnOf "tell_tasks" "Held.tell_tasks" (defArgs s_Held_tell_tasks) (defBody s_Held_tell_tasks) (defScope s_Held_tell_tasks) .none kV_x39 dc_x39 pm_x39 an_x39 cd_x39 ct_x39), sl_x39⟩)
    (cd_x39' : codeIn K cd_x39 "Held.tell_tasks" = true)
    (kp_x39 : keepIn K (.ref a_x39) = true)
    (f_x40 : findIn K (.ref c_Held) "tell_order" = some (some (.ref a_x40)))
    (i_x40 : isFn K (.ref a_x40) = true)
    (l_x40 : K.lookup a_x40 = some ⟨oc_x40, od_x40, .func (fnOf "tell_order" "Held.tell_order" (defArgs s_Held_tell_order) (defBody s_Held_tell_order) (defScope s_Held_tell_order) .none kV_x40 dc_x40 pm_x40 an_x40 cd_x40 ct_x40), sl_x40⟩)
    (cd_x40' : codeIn K cd_x40 "Held.tell_order" = true)
    (kp_x40 : keepIn K (.ref a_x40) = true)
    (f_x41 : findIn K (.ref c_Held) "ranked" = some (some (.ref a_x41)))
    (i_x41 : isFn K (.ref a_x41) = true)
    (l_x41 : K.lookup a_x41 = some ⟨oc_x41, od_x41, .func (fnOf "ranked" "Held.ranked" (defArgs s_Held_ranked) (defBody s_Held_ranked) (defScope s_Held_ranked) .none kV_x41 dc_x41 pm_x41 an_x41 cd_x41 ct_x41), sl_x41⟩)
    (cd_x41' : codeIn K cd_x41 "Held.ranked" = true)
    (kp_x41 : keepIn K (.ref a_x41) = true)
    (f_x42 : findIn K (.ref c_Held) "tell_cost" = some (some (.ref a_x42)))
    (i_x42 : isFn K (.ref a_x42) = true)
    (l_x42 : K.lookup a_x42 = some ⟨oc_x42, od_x42, .func (fnOf "tell_cost" "Held.tell_cost" (defArgs s_Held_tell_cost) (defBody s_Held_tell_cost) (defScope s_Held_tell_cost) .none kV_x42 dc_x42 pm_x42 an_x42 cd_x42 ct_x42), sl_x42⟩)
    (cd_x42' : codeIn K cd_x42 "Held.tell_cost" = true)
    (kp_x42 : keepIn K (.ref a_x42) = true)
    (f_x43 : findIn K (.ref c_Held) "tell_response" = some (some (.ref a_x43)))
    (i_x43 : isFn K (.ref a_x43) = true)
    (l_x43 : K.lookup a_x43 = some ⟨oc_x43, od_x43, .func (fnOf "tell_response" "Held.tell_response" (defArgs s_Held_tell_response) (defBody s_Held_tell_response) (defScope s_Held_tell_response) .none kV_x43 dc_x43 pm_x43 an_x43 cd_x43 ct_x43), sl_x43⟩)
    (cd_x43' : codeIn K cd_x43 "Held.tell_response" = true)
    (kp_x43 : keepIn K (.ref a_x43) = true)
    (f_x44 : findIn K (.ref c_Held) "tell_all" = some (some (.ref a_x44)))
    (i_x44 : isFn K (.ref a_x44) = true)
    (l_x44 : K.lookup a_x44 = some ⟨oc_x44, od_x44, .func (fnOf "tell_all" "Held.tell_all" (defArgs s_Held_tell_all) (defBody s_Held_tell_all) (defScope s_Held_tell_all) .none kV_x44 dc_x44 pm_x44 an_x44 cd_x44 ct_x44), sl_x44⟩)
    (cd_x44' : codeIn K cd_x44 "Held.tell_all" = true)
    (kp_x44 : keepIn K (.ref a_x44) = true)
    (f_x45 : findIn K (.ref c_Held) "tell_best" = some (some (.ref a_x45)))
    (i_x45 : isFn K (.ref a_x45) = true)
    (l_x45 : K.lookup a_x45 = some ⟨oc_x45, od_x45, .func (fnOf "tell_best" "Held.tell_best" (defArgs s_Held_tell_best) (defBody s_Held_tell_best) (defScope s_Held_tell_best) .none kV_x45 dc_x45 pm_x45 an_x45 cd_x45 ct_x45), sl_x45⟩)
    (cd_x45' : codeIn K cd_x45 "Held.tell_best" = true)
    (kp_x45 : keepIn K (.ref a_x45) = true)
    (f_x46 : findIn K (.ref c_Held) "new_play" = some (some (.ref a_x46)))
    (i_x46 : isFn K (.ref a_x46) = true)
    (l_x46 : K.lookup a_x46 = some ⟨oc_x46, od_x46, .func (fnOf "new_play" "Held.new_play" (defArgs s_Held_new_play) (defBody s_Held_new_play) (defScope s_Held_new_play) .none kV_x46 dc_x46 pm_x46 an_x46 cd_x46 ct_x46), sl_x46⟩)
    (cd_x46' : codeIn K cd_x46 "Held.new_play" = true)
    (kp_x46 : keepIn K (.ref a_x46) = true)
    (f_x47 : findIn K (.ref c_Held) "tell_course" = some (some (.ref a_x47)))
    (i_x47 : isFn K (.ref a_x47) = true)
    (l_x47 : K.lookup a_x47 = some ⟨oc_x47, od_x47, .func (fnOf "tell_course" "Held.tell_course" (defArgs s_Held_tell_course) (defBody s_Held_tell_course) (defScope s_Held_tell_course) .none kV_x47 dc_x47 pm_x47 an_x47 cd_x47 ct_x47), sl_x47⟩)
    (cd_x47' : codeIn K cd_x47 "Held.tell_course" = true)
    (kp_x47 : keepIn K (.ref a_x47) = true)
    (f_x48 : findIn K (.ref c_Held) "tell_trace" = some (some (.ref a_x48)))
    (i_x48 : isFn K (.ref a_x48) = true)
    (l_x48 : K.lookup a_x48 = some ⟨oc_x48, od_x48, .func (fnOf "tell_trace" "Held.tell_trace" (defArgs s_Held_tell_trace) (defBody s_Held_tell_trace) (defScope s_Held_tell_trace) .none kV_x48 dc_x48 pm_x48 an_x48 cd_x48 ct_x48), sl_x48⟩)
    (cd_x48' : codeIn K cd_x48 "Held.tell_trace" = true)
    (kp_x48 : keepIn K (.ref a_x48) = true)
    (f_x49 : findIn K (.ref c_Held) "tell_late" = some (some (.ref a_x49)))
    (i_x49 : isFn K (.ref a_x49) = true)
    (l_x49 : K.lookup a_x49 = some ⟨oc_x49, od_x49, .func (fnOf "tell_late" "Held.tell_late" (defArgs s_Held_tell_late) (defBody s_Held_tell_late) (defScope s_Held_tell_late) .none kV_x49 dc_x49 pm_x49 an_x49 cd_x49 ct_x49), sl_x49⟩)
    (cd_x49' : codeIn K cd_x49 "Held.tell_late" = true)
    (kp_x49 : keepIn K (.ref a_x49) = true)
    (f_x50 : nsIn K mainGlobals "answer" = some (some (.ref a_x50)))
    (l_x50 : K.lookup a_x50 = some ⟨oc_x50, od_x50, .func (fnOf "answer" "answer" (defArgs s_answer) (defBody s_answer) (defScope s_answer) .none kV_x50 dc_x50 pm_x50 an_x50 cd_x50 ct_x50), sl_x50⟩)
    (cd_x50' : codeIn K cd_x50 "answer" = true)
    (kp_x50 : keepIn K (.ref a_x50) = true)
    (f_x51 : nsIn K mainGlobals "answers" = some (some (.ref a_x51)))
    (l_x51 : K.lookup a_x51 = some ⟨oc_x51, od_x51, .func (fnOf "answers" "answers" (defArgs s_answers) (defBody s_answers) (defScope s_answers) .none kV_x51 dc_x51 pm_x51 an_x51 cd_x51 ct_x51), sl_x51⟩)
    (cd_x51' : codeIn K cd_x51 "answers" = true)
    (kp_x51 : keepIn K (.ref a_x51) = true)
    (n_Jobs_task : findIn K (.ref c_Jobs) "task" = some none)
    (n_Jobs_came : findIn K (.ref c_Jobs) "came" = some none)
    (n_Jobs_due : findIn K (.ref c_Jobs) "due" = some none)
    (n_Jobs_done : findIn K (.ref c_Jobs) "done" = some none)
    (n_Jobs_late : findIn K (.ref c_Jobs) "late" = some none)
    (n_Jobs_greatest : findIn K (.ref c_Jobs) "greatest" = some none)
    (n_Jobs_least : findIn K (.ref c_Jobs) "least" = some none)
    (n_Jobs_reloads : findIn K (.ref c_Jobs) "reloads" = some none)
    (n_Jobs_begun : findIn K (.ref c_Jobs) "begun" = some none)
    (n_Jobs_left : findIn K (.ref c_Jobs) "left" = some none)
    (n_Jobs_lost : findIn K (.ref c_Jobs) "lost" = some none)
    (n_Play_jobs : findIn K (.ref c_Play) "jobs" = some none)
    (n_Play_order : findIn K (.ref c_Play) "order" = some none)
    (n_Play_line_cost : findIn K (.ref c_Play) "line_cost" = some none)
    (n_Task_period : findIn K (.ref c_Task) "period" = some none)
    (n_Task_deadline : findIn K (.ref c_Task) "deadline" = some none)
    (n_Task_cycles : findIn K (.ref c_Task) "cycles" = some none)
    (n_Task_offset : findIn K (.ref c_Task) "offset" = some none)
    (n_Task_useful : findIn K (.ref c_Task) "useful" = some none)
    (n_Task_used : findIn K (.ref c_Task) "used" = some none)
    (n_Held_tasks : findIn K (.ref c_Held) "tasks" = some none)
    (n_Held_order : findIn K (.ref c_Held) "order" = some none)
    (n_Held_line_cost : findIn K (.ref c_Held) "line_cost" = some none)
    (g_CALLS : nsIn K mainGlobals "CALLS" = some (some (.ref a_CALLS)))
    (l_CALLS : K.lookup a_CALLS = some ⟨.type "tuple", dd_CALLS, .seq #[.ref r_CALLS_0, .ref r_CALLS_1, .ref r_CALLS_2, .ref r_CALLS_3, .ref r_CALLS_4, .ref r_CALLS_5, .ref r_CALLS_6, .ref r_CALLS_7, .ref r_CALLS_8, .ref r_CALLS_9, .ref r_CALLS_10, .ref r_CALLS_11, .ref r_CALLS_12, .ref r_CALLS_13, .ref r_CALLS_14] nn_CALLS, sl_CALLS⟩)
    (l_CALLS_0 : K.lookup r_CALLS_0 = some ⟨.type "tuple", dd_CALLS_0, .seq #[.str "reload" t_CALLS_0_0, .int (1) t_CALLS_0_1, .bool false] nn_CALLS_0, sl_CALLS_0⟩)
    (l_CALLS_1 : K.lookup r_CALLS_1 = some ⟨.type "tuple", dd_CALLS_1, .seq #[.str "task" t_CALLS_1_0, .int (0) t_CALLS_1_1, .bool true] nn_CALLS_1, sl_CALLS_1⟩)
    (l_CALLS_2 : K.lookup r_CALLS_2 = some ⟨.type "tuple", dd_CALLS_2, .seq #[.str "retask" t_CALLS_2_0, .int (1) t_CALLS_2_1, .bool true] nn_CALLS_2, sl_CALLS_2⟩)
    (l_CALLS_3 : K.lookup r_CALLS_3 = some ⟨.type "tuple", dd_CALLS_3, .seq #[.str "untask" t_CALLS_3_0, .int (1) t_CALLS_3_1, .bool false] nn_CALLS_3, sl_CALLS_3⟩)
    (l_CALLS_4 : K.lookup r_CALLS_4 = some ⟨.type "tuple", dd_CALLS_4, .seq #[.str "order" t_CALLS_4_0, .int (0) t_CALLS_4_1, .bool true] nn_CALLS_4, sl_CALLS_4⟩)
    (l_CALLS_5 : K.lookup r_CALLS_5 = some ⟨.type "tuple", dd_CALLS_5, .seq #[.str "sorted" t_CALLS_5_0, .int (1) t_CALLS_5_1, .bool false] nn_CALLS_5, sl_CALLS_5⟩)
    (l_CALLS_6 : K.lookup r_CALLS_6 = some ⟨.type "tuple", dd_CALLS_6, .seq #[.str "tasks" t_CALLS_6_0, .int (0) t_CALLS_6_1, .bool false] nn_CALLS_6, sl_CALLS_6⟩)
    (l_CALLS_7 : K.lookup r_CALLS_7 = some ⟨.type "tuple", dd_CALLS_7, .seq #[.str "ranks" t_CALLS_7_0, .int (0) t_CALLS_7_1, .bool false] nn_CALLS_7, sl_CALLS_7⟩)
    (l_CALLS_8 : K.lookup r_CALLS_8 = some ⟨.type "tuple", dd_CALLS_8, .seq #[.str "cost" t_CALLS_8_0, .int (2) t_CALLS_8_1, .bool false] nn_CALLS_8, sl_CALLS_8⟩)
    (l_CALLS_9 : K.lookup r_CALLS_9 = some ⟨.type "tuple", dd_CALLS_9, .seq #[.str "response" t_CALLS_9_0, .int (1) t_CALLS_9_1, .bool false] nn_CALLS_9, sl_CALLS_9⟩)
    (l_CALLS_10 : K.lookup r_CALLS_10 = some ⟨.type "tuple", dd_CALLS_10, .seq #[.str "all" t_CALLS_10_0, .int (0) t_CALLS_10_1, .bool false] nn_CALLS_10, sl_CALLS_10⟩)
    (l_CALLS_11 : K.lookup r_CALLS_11 = some ⟨.type "tuple", dd_CALLS_11, .seq #[.str "best" t_CALLS_11_0, .int (0) t_CALLS_11_1, .bool false] nn_CALLS_11, sl_CALLS_11⟩)
    (l_CALLS_12 : K.lookup r_CALLS_12 = some ⟨.type "tuple", dd_CALLS_12, .seq #[.str "course" t_CALLS_12_0, .int (1) t_CALLS_12_1, .bool false] nn_CALLS_12, sl_CALLS_12⟩)
    (l_CALLS_13 : K.lookup r_CALLS_13 = some ⟨.type "tuple", dd_CALLS_13, .seq #[.str "trace" t_CALLS_13_0, .int (2) t_CALLS_13_1, .bool false] nn_CALLS_13, sl_CALLS_13⟩)
    (l_CALLS_14 : K.lookup r_CALLS_14 = some ⟨.type "tuple", dd_CALLS_14, .seq #[.str "late" t_CALLS_14_0, .int (1) t_CALLS_14_1, .bool false] nn_CALLS_14, sl_CALLS_14⟩)
    (g_MOST_PERIOD : nsIn K mainGlobals "MOST_PERIOD" = some (some (.int (500) t_MOST_PERIOD)))
    (g_MOST_OFFSET : nsIn K mainGlobals "MOST_OFFSET" = some (some (.int (500) t_MOST_OFFSET)))
    (g_LAST_LINE : nsIn K mainGlobals "LAST_LINE" = some (some (.int (31) t_LAST_LINE)))
    (g_USEFUL_AT : nsIn K mainGlobals "USEFUL_AT" = some (some (.int (4) t_USEFUL_AT)))
    (g_MOST_TASKS : nsIn K mainGlobals "MOST_TASKS" = some (some (.int (6) t_MOST_TASKS)))
    (g_MOST_RELOAD : nsIn K mainGlobals "MOST_RELOAD" = some (some (.int (20) t_MOST_RELOAD)))
    (g_LAST_TIME : nsIn K mainGlobals "LAST_TIME" = some (some (.int (3000) t_LAST_TIME)))
    (g_MOST_TRACED : nsIn K mainGlobals "MOST_TRACED" = some (some (.int (200) t_MOST_TRACED)))
    (g_DONE : nsIn K mainGlobals "DONE" = some (some (.int (0) t_DONE)))
    (g_NOT_SO : nsIn K mainGlobals "NOT_SO" = some (some (.int (1) t_NOT_SO)))
    (g_NO_TASK : nsIn K mainGlobals "NO_TASK" = some (some (.int (-3) t_NO_TASK)))
    (g_NOT_ABOVE : nsIn K mainGlobals "NOT_ABOVE" = some (some (.int (-4) t_NOT_ABOVE)))
    (g_NO_KIND : nsIn K mainGlobals "NO_KIND" = some (some (.int (-5) t_NO_KIND)))
    (g_OUT_OF_RANGE : nsIn K mainGlobals "OUT_OF_RANGE" = some (some (.int (-7) t_OUT_OF_RANGE)))
    (g_TOO_MANY : nsIn K mainGlobals "TOO_MANY" = some (some (.int (-9) t_TOO_MANY)))
    (g_WRONG_LIST : nsIn K mainGlobals "WRONG_LIST" = some (some (.int (-12) t_WRONG_LIST)))
    (g_BY_PERIOD : nsIn K mainGlobals "BY_PERIOD" = some (some (.int (0) t_BY_PERIOD)))
    (g_BY_DEADLINE : nsIn K mainGlobals "BY_DEADLINE" = some (some (.int (1) t_BY_DEADLINE)))
    (x_range : nsIn K mainGlobals "range" = some none)
    (x_len : nsIn K mainGlobals "len" = some none)
    (x_max : nsIn K mainGlobals "max" = some none)
    (x_enumerate : nsIn K mainGlobals "enumerate" = some none)
    (x_list : nsIn K mainGlobals "list" = some none)
    (x_sorted : nsIn K mainGlobals "sorted" = some none)
    (x_min : nsIn K mainGlobals "min" = some none)
    (x_set : nsIn K mainGlobals "set" = some none) : Top_ K mg where
  c_Jobs := c_Jobs
  cl_Jobs := ⟨pg_Jobs, hd_Jobs, po_Jobs, sa_Jobs⟩
  m_Jobs := mg_of X G ac_Jobs
  c_Play := c_Play
  cl_Play := ⟨pg_Play, hd_Play, po_Play, sa_Play⟩
  m_Play := mg_of X G ac_Play
  c_Task := c_Task
  cl_Task := ⟨pg_Task, hd_Task, po_Task, sa_Task⟩
  m_Task := mg_of X G ac_Task
  c_Held := c_Held
  cl_Held := ⟨pg_Held, hd_Held, po_Held, sa_Held⟩
  m_Held := mg_of X G ac_Held
  a_read_calls := a_x0
  d_read_calls := _
  F_read_calls := fun_mk (st := s_read_calls) l_x0 cd_x0' kp_x0
  b_read_calls := (fun_mk (st := s_read_calls) l_x0 cd_x0' kp_x0).binds (ps := ["calls"]) fun _ _ _ _ _ _ us hl => match us, hl with | [_], _ => rfl
  m_read_calls := mg_of X G f_x0
  a_used_by := a_x1
  d_used_by := _
  F_used_by := fun_mk (st := s_used_by) l_x1 cd_x1' kp_x1
  b_used_by := (fun_mk (st := s_used_by) l_x1 cd_x1' kp_x1).binds (ps := ["tasks"]) fun _ _ _ _ _ _ us hl => match us, hl with | [_], _ => rfl
  m_used_by := mg_of X G f_x1
  a_cost_seen := a_x2
  d_cost_seen := _
  F_cost_seen := fun_mk (st := s_cost_seen) l_x2 cd_x2' kp_x2
  b_cost_seen := (fun_mk (st := s_cost_seen) l_x2 cd_x2' kp_x2).binds (ps := ["ranked", "line_cost", "low", "high"]) fun _ _ _ _ _ _ us hl => match us, hl with | [_, _, _, _], _ => rfl
  m_cost_seen := mg_of X G f_x2
  a_loads_above := a_x3
  d_loads_above := _
  F_loads_above := fun_mk (st := s_loads_above) l_x3 cd_x3' kp_x3
  b_loads_above := (fun_mk (st := s_loads_above) l_x3 cd_x3' kp_x3).binds (ps := ["ranked", "line_cost", "place"]) fun _ _ _ _ _ _ us hl => match us, hl with | [_, _, _], _ => rfl
  m_loads_above := mg_of X G f_x3
  a_what_fits := a_x4
  d_what_fits := _
  F_what_fits := fun_mk (st := s_what_fits) l_x4 cd_x4' kp_x4
  b_what_fits := (fun_mk (st := s_what_fits) l_x4 cd_x4' kp_x4).binds (ps := ["cycles", "loads", "r"]) fun _ _ _ _ _ _ us hl => match us, hl with | [_, _, _], _ => rfl
  m_what_fits := mg_of X G f_x4
  a_rounds_made := a_x5
  d_rounds_made := _
  F_rounds_made := fun_mk (st := s_rounds_made) l_x5 cd_x5' kp_x5
  b_rounds_made := (fun_mk (st := s_rounds_made) l_x5 cd_x5' kp_x5).binds (ps := ["ranked", "line_cost", "place"]) fun _ _ _ _ _ _ us hl => match us, hl with | [_, _, _], _ => rfl
  m_rounds_made := mg_of X G f_x5
  a_lowest_in_time := a_x6
  d_lowest_in_time := _
  F_lowest_in_time := fun_mk (st := s_lowest_in_time) l_x6 cd_x6' kp_x6
  b_lowest_in_time := (fun_mk (st := s_lowest_in_time) l_x6 cd_x6' kp_x6).binds (ps := ["ranked", "line_cost"]) fun _ _ _ _ _ _ us hl => match us, hl with | [_, _], _ => rfl
  m_lowest_in_time := mg_of X G f_x6
  a_first_order := a_x7
  d_first_order := _
  F_first_order := fun_mk (st := s_first_order) l_x7 cd_x7' kp_x7
  b_first_order := (fun_mk (st := s_first_order) l_x7 cd_x7' kp_x7).binds (ps := ["tasks", "line_cost"]) fun _ _ _ _ _ _ us hl => match us, hl with | [_, _], _ => rfl
  m_first_order := mg_of X G f_x7
  a_Jobs___init__ := a_x8
  d_Jobs___init__ := _
  F_Jobs___init__ := fun_mk (st := s_Jobs___init__) l_x8 cd_x8' kp_x8
  b_Jobs___init__ := (fun_mk (st := s_Jobs___init__) l_x8 cd_x8' kp_x8).binds (ps := ["self", "task"]) fun _ _ _ _ _ _ us hl => match us, hl with | [_, _], _ => rfl
  mk_Jobs := ⟨mk_Jobs, f_x8, i_x8, kc_Jobs⟩
  a_Jobs_comes_at := a_x9
  d_Jobs_comes_at := _
  F_Jobs_comes_at := fun_mk (st := s_Jobs_comes_at) l_x9 cd_x9' kp_x9
  b_Jobs_comes_at := (fun_mk (st := s_Jobs_comes_at) l_x9 cd_x9' kp_x9).binds (ps := ["self", "number"]) fun _ _ _ _ _ _ us hl => match us, hl with | [_, _], _ => rfl
  M_Jobs_comes_at := ⟨f_x9, i_x9, kp_x9⟩
  a_Jobs_reach := a_x10
  d_Jobs_reach := _
  F_Jobs_reach := fun_mk (st := s_Jobs_reach) l_x10 cd_x10' kp_x10
  b_Jobs_reach := (fun_mk (st := s_Jobs_reach) l_x10 cd_x10' kp_x10).binds (ps := ["self", "now"]) fun _ _ _ _ _ _ us hl => match us, hl with | [_, _], _ => rfl
  M_Jobs_reach := ⟨f_x10, i_x10, kp_x10⟩
  a_Jobs_waits := a_x11
  d_Jobs_waits := _
  F_Jobs_waits := fun_mk (st := s_Jobs_waits) l_x11 cd_x11' kp_x11
  b_Jobs_waits := (fun_mk (st := s_Jobs_waits) l_x11 cd_x11' kp_x11).binds (ps := ["self"]) fun _ _ _ _ _ _ us hl => match us, hl with | [_], _ => rfl
  M_Jobs_waits := ⟨f_x11, i_x11, kp_x11⟩
  a_Jobs_lose := a_x12
  d_Jobs_lose := _
  F_Jobs_lose := fun_mk (st := s_Jobs_lose) l_x12 cd_x12' kp_x12
  b_Jobs_lose := (fun_mk (st := s_Jobs_lose) l_x12 cd_x12' kp_x12).binds (ps := ["self", "lines"]) fun _ _ _ _ _ _ us hl => match us, hl with | [_, _], _ => rfl
  M_Jobs_lose := ⟨f_x12, i_x12, kp_x12⟩
  a_Jobs_run := a_x13
  d_Jobs_run := _
  F_Jobs_run := fun_mk (st := s_Jobs_run) l_x13 cd_x13' kp_x13
  b_Jobs_run := (fun_mk (st := s_Jobs_run) l_x13 cd_x13' kp_x13).binds (ps := ["self", "now", "line_cost"]) fun _ _ _ _ _ _ us hl => match us, hl with | [_, _, _], _ => rfl
  M_Jobs_run := ⟨f_x13, i_x13, kp_x13⟩
  a_Jobs_finish := a_x14
  d_Jobs_finish := _
  F_Jobs_finish := fun_mk (st := s_Jobs_finish) l_x14 cd_x14' kp_x14
  b_Jobs_finish := (fun_mk (st := s_Jobs_finish) l_x14 cd_x14' kp_x14).binds (ps := ["self", "now"]) fun _ _ _ _ _ _ us hl => match us, hl with | [_, _], _ => rfl
  M_Jobs_finish := ⟨f_x14, i_x14, kp_x14⟩
  a_Jobs_counted := a_x15
  d_Jobs_counted := _
  F_Jobs_counted := fun_mk (st := s_Jobs_counted) l_x15 cd_x15' kp_x15
  b_Jobs_counted := (fun_mk (st := s_Jobs_counted) l_x15 cd_x15' kp_x15).binds (ps := ["self"]) fun _ _ _ _ _ _ us hl => match us, hl with | [_], _ => rfl
  M_Jobs_counted := ⟨f_x15, i_x15, kp_x15⟩
  a_Play___init__ := a_x16
  d_Play___init__ := _
  F_Play___init__ := fun_mk (st := s_Play___init__) l_x16 cd_x16' kp_x16
  b_Play___init__ := (fun_mk (st := s_Play___init__) l_x16 cd_x16' kp_x16).binds (ps := ["self", "tasks", "order", "line_cost"]) fun _ _ _ _ _ _ us hl => match us, hl with | [_, _, _, _], _ => rfl
  mk_Play := ⟨mk_Play, f_x16, i_x16, kc_Play⟩
  a_Play_reach := a_x17
  d_Play_reach := _
  F_Play_reach := fun_mk (st := s_Play_reach) l_x17 cd_x17' kp_x17
  b_Play_reach := (fun_mk (st := s_Play_reach) l_x17 cd_x17' kp_x17).binds (ps := ["self", "now"]) fun _ _ _ _ _ _ us hl => match us, hl with | [_, _], _ => rfl
  M_Play_reach := ⟨f_x17, i_x17, kp_x17⟩
  a_Play_highest := a_x18
  d_Play_highest := _
  F_Play_highest := fun_mk (st := s_Play_highest) l_x18 cd_x18' kp_x18
  b_Play_highest := (fun_mk (st := s_Play_highest) l_x18 cd_x18' kp_x18).binds (ps := ["self"]) fun _ _ _ _ _ _ us hl => match us, hl with | [_], _ => rfl
  M_Play_highest := ⟨f_x18, i_x18, kp_x18⟩
  a_Play_run := a_x19
  d_Play_run := _
  F_Play_run := fun_mk (st := s_Play_run) l_x19 cd_x19' kp_x19
  b_Play_run := (fun_mk (st := s_Play_run) l_x19 cd_x19' kp_x19).binds (ps := ["self", "now"]) fun _ _ _ _ _ _ us hl => match us, hl with | [_, _], _ => rfl
  M_Play_run := ⟨f_x19, i_x19, kp_x19⟩
  a_Play_ran := a_x20
  d_Play_ran := _
  F_Play_ran := fun_mk (st := s_Play_ran) l_x20 cd_x20' kp_x20
  b_Play_ran := (fun_mk (st := s_Play_ran) l_x20 cd_x20' kp_x20).binds (ps := ["self", "end"]) fun _ _ _ _ _ _ us hl => match us, hl with | [_, _], _ => rfl
  M_Play_ran := ⟨f_x20, i_x20, kp_x20⟩
  a_Play_counted := a_x21
  d_Play_counted := _
  F_Play_counted := fun_mk (st := s_Play_counted) l_x21 cd_x21' kp_x21
  b_Play_counted := (fun_mk (st := s_Play_counted) l_x21 cd_x21' kp_x21).binds (ps := ["self", "end"]) fun _ _ _ _ _ _ us hl => match us, hl with | [_, _], _ => rfl
  M_Play_counted := ⟨f_x21, i_x21, kp_x21⟩
  a_Play_late_task := a_x22
  d_Play_late_task := _
  F_Play_late_task := fun_mk (st := s_Play_late_task) l_x22 cd_x22' kp_x22
  b_Play_late_task := (fun_mk (st := s_Play_late_task) l_x22 cd_x22' kp_x22).binds (ps := ["self"]) fun _ _ _ _ _ _ us hl => match us, hl with | [_], _ => rfl
  M_Play_late_task := ⟨f_x22, i_x22, kp_x22⟩
  a_Play_first_late := a_x23
  d_Play_first_late := _
  F_Play_first_late := fun_mk (st := s_Play_first_late) l_x23 cd_x23' kp_x23
  b_Play_first_late := (fun_mk (st := s_Play_first_late) l_x23 cd_x23' kp_x23).binds (ps := ["self", "end"]) fun _ _ _ _ _ _ us hl => match us, hl with | [_, _], _ => rfl
  M_Play_first_late := ⟨f_x23, i_x23, kp_x23⟩
  a_Task___init__ := a_x24
  d_Task___init__ := _
  F_Task___init__ := fun_mk (st := s_Task___init__) l_x24 cd_x24' kp_x24
  b_Task___init__ := (fun_mk (st := s_Task___init__) l_x24 cd_x24' kp_x24).binds (ps := ["self", "times", "useful", "used"]) fun _ _ _ _ _ _ us hl => match us, hl with | [_, _, _, _], _ => rfl
  mk_Task := ⟨mk_Task, f_x24, i_x24, kc_Task⟩
  a_Task_told := a_x25
  d_Task_told := _
  F_Task_told := fun_mk (st := s_Task_told) l_x25 cd_x25' kp_x25
  b_Task_told := (fun_mk (st := s_Task_told) l_x25 cd_x25' kp_x25).binds (ps := ["self"]) fun _ _ _ _ _ _ us hl => match us, hl with | [_], _ => rfl
  M_Task_told := ⟨f_x25, i_x25, kp_x25⟩
  a_Task_useful_among := a_x26
  d_Task_useful_among := _
  F_Task_useful_among := fun_mk (st := s_Task_useful_among) l_x26 cd_x26' kp_x26
  b_Task_useful_among := (fun_mk (st := s_Task_useful_among) l_x26 cd_x26' kp_x26).binds (ps := ["self", "lines"]) fun _ _ _ _ _ _ us hl => match us, hl with | [_, _], _ => rfl
  M_Task_useful_among := ⟨f_x26, i_x26, kp_x26⟩
  a_times_fit := a_x27
  d_times_fit := _
  F_times_fit := fun_mk (st := s_times_fit) l_x27 cd_x27' kp_x27
  b_times_fit := (fun_mk (st := s_times_fit) l_x27 cd_x27' kp_x27).binds (ps := ["times"]) fun _ _ _ _ _ _ us hl => match us, hl with | [_], _ => rfl
  m_times_fit := mg_of X G f_x27
  a_lines_fit := a_x28
  d_lines_fit := _
  F_lines_fit := fun_mk (st := s_lines_fit) l_x28 cd_x28' kp_x28
  b_lines_fit := (fun_mk (st := s_lines_fit) l_x28 cd_x28' kp_x28).binds (ps := ["lines"]) fun _ _ _ _ _ _ us hl => match us, hl with | [_], _ => rfl
  m_lines_fit := mg_of X G f_x28
  a_read_lines := a_x29
  d_read_lines := _
  F_read_lines := fun_mk (st := s_read_lines) l_x29 cd_x29' kp_x29
  b_read_lines := (fun_mk (st := s_read_lines) l_x29 cd_x29' kp_x29).binds (ps := ["numbers", "at"]) fun _ _ _ _ _ _ us hl => match us, hl with | [_, _], _ => rfl
  m_read_lines := mg_of X G f_x29
  a_read_task := a_x30
  d_read_task := _
  F_read_task := fun_mk (st := s_read_task) l_x30 cd_x30' kp_x30
  b_read_task := (fun_mk (st := s_read_task) l_x30 cd_x30' kp_x30).binds (ps := ["numbers"]) fun _ _ _ _ _ _ us hl => match us, hl with | [_], _ => rfl
  m_read_task := mg_of X G f_x30
  a_Held___init__ := a_x31
  d_Held___init__ := _
  F_Held___init__ := fun_mk (st := s_Held___init__) l_x31 cd_x31' kp_x31
  b_Held___init__ := (fun_mk (st := s_Held___init__) l_x31 cd_x31' kp_x31).binds (ps := ["self"]) fun _ _ _ _ _ _ us hl => match us, hl with | [_], _ => rfl
  mk_Held := ⟨mk_Held, f_x31, i_x31, kc_Held⟩
  a_Held_has_task := a_x32
  d_Held_has_task := _
  F_Held_has_task := fun_mk (st := s_Held_has_task) l_x32 cd_x32' kp_x32
  b_Held_has_task := (fun_mk (st := s_Held_has_task) l_x32 cd_x32' kp_x32).binds (ps := ["self", "i"]) fun _ _ _ _ _ _ us hl => match us, hl with | [_, _], _ => rfl
  M_Held_has_task := ⟨f_x32, i_x32, kp_x32⟩
  a_Held_set_reload := a_x33
  d_Held_set_reload := _
  F_Held_set_reload := fun_mk (st := s_Held_set_reload) l_x33 cd_x33' kp_x33
  b_Held_set_reload := (fun_mk (st := s_Held_set_reload) l_x33 cd_x33' kp_x33).binds (ps := ["self", "n"]) fun _ _ _ _ _ _ us hl => match us, hl with | [_, _], _ => rfl
  M_Held_set_reload := ⟨f_x33, i_x33, kp_x33⟩
  a_Held_add_task := a_x34
  d_Held_add_task := _
  F_Held_add_task := fun_mk (st := s_Held_add_task) l_x34 cd_x34' kp_x34
  b_Held_add_task := (fun_mk (st := s_Held_add_task) l_x34 cd_x34' kp_x34).binds (ps := ["self", "numbers"]) fun _ _ _ _ _ _ us hl => match us, hl with | [_, _], _ => rfl
  M_Held_add_task := ⟨f_x34, i_x34, kp_x34⟩
  a_Held_change_task := a_x35
  d_Held_change_task := _
  F_Held_change_task := fun_mk (st := s_Held_change_task) l_x35 cd_x35' kp_x35
  b_Held_change_task := (fun_mk (st := s_Held_change_task) l_x35 cd_x35' kp_x35).binds (ps := ["self", "i", "numbers"]) fun _ _ _ _ _ _ us hl => match us, hl with | [_, _, _], _ => rfl
  M_Held_change_task := ⟨f_x35, i_x35, kp_x35⟩
  a_Held_drop_task := a_x36
  d_Held_drop_task := _
  F_Held_drop_task := fun_mk (st := s_Held_drop_task) l_x36 cd_x36' kp_x36
  b_Held_drop_task := (fun_mk (st := s_Held_drop_task) l_x36 cd_x36' kp_x36).binds (ps := ["self", "i"]) fun _ _ _ _ _ _ us hl => match us, hl with | [_, _], _ => rfl
  M_Held_drop_task := ⟨f_x36, i_x36, kp_x36⟩
  a_Held_set_order := a_x37
  d_Held_set_order := _
  F_Held_set_order := fun_mk (st := s_Held_set_order) l_x37 cd_x37' kp_x37
  b_Held_set_order := (fun_mk (st := s_Held_set_order) l_x37 cd_x37' kp_x37).binds (ps := ["self", "numbers"]) fun _ _ _ _ _ _ us hl => match us, hl with | [_, _], _ => rfl
  M_Held_set_order := ⟨f_x37, i_x37, kp_x37⟩
  cc_Held_sort_order := cc_x38
  pt_Held_sort_order := pt_x38
  ce_Held_sort_order := rfl
  hd_Held_sort_order := hd_x38
  a_Held_sort_order := a_x38
  d_Held_sort_order := _
  F_Held_sort_order := fun_mk (st := s_Held_sort_order) l_x38 cd_x38' kp_x38
  b_Held_sort_order := (fun_mk (st := s_Held_sort_order) l_x38 cd_x38' kp_x38).binds (ps := ["self", "kind"]) fun _ _ _ _ _ _ us hl => match us, hl with | [_, _], _ => rfl
  M_Held_sort_order := ⟨f_x38, i_x38, kp_x38⟩
  a_Held_tell_tasks := a_x39
  d_Held_tell_tasks := _
  F_Held_tell_tasks := fun_mk (st := s_Held_tell_tasks) l_x39 cd_x39' kp_x39
  b_Held_tell_tasks := (fun_mk (st := s_Held_tell_tasks) l_x39 cd_x39' kp_x39).binds (ps := ["self"]) fun _ _ _ _ _ _ us hl => match us, hl with | [_], _ => rfl
  M_Held_tell_tasks := ⟨f_x39, i_x39, kp_x39⟩
  a_Held_tell_order := a_x40
  d_Held_tell_order := _
  F_Held_tell_order := fun_mk (st := s_Held_tell_order) l_x40 cd_x40' kp_x40
  b_Held_tell_order := (fun_mk (st := s_Held_tell_order) l_x40 cd_x40' kp_x40).binds (ps := ["self"]) fun _ _ _ _ _ _ us hl => match us, hl with | [_], _ => rfl
  M_Held_tell_order := ⟨f_x40, i_x40, kp_x40⟩
  a_Held_ranked := a_x41
  d_Held_ranked := _
  F_Held_ranked := fun_mk (st := s_Held_ranked) l_x41 cd_x41' kp_x41
  b_Held_ranked := (fun_mk (st := s_Held_ranked) l_x41 cd_x41' kp_x41).binds (ps := ["self"]) fun _ _ _ _ _ _ us hl => match us, hl with | [_], _ => rfl
  M_Held_ranked := ⟨f_x41, i_x41, kp_x41⟩
  a_Held_tell_cost := a_x42
  d_Held_tell_cost := _
  F_Held_tell_cost := fun_mk (st := s_Held_tell_cost) l_x42 cd_x42' kp_x42
  b_Held_tell_cost := (fun_mk (st := s_Held_tell_cost) l_x42 cd_x42' kp_x42).binds (ps := ["self", "i", "j"]) fun _ _ _ _ _ _ us hl => match us, hl with | [_, _, _], _ => rfl
  M_Held_tell_cost := ⟨f_x42, i_x42, kp_x42⟩
  a_Held_tell_response := a_x43
  d_Held_tell_response := _
  F_Held_tell_response := fun_mk (st := s_Held_tell_response) l_x43 cd_x43' kp_x43
  b_Held_tell_response := (fun_mk (st := s_Held_tell_response) l_x43 cd_x43' kp_x43).binds (ps := ["self", "i"]) fun _ _ _ _ _ _ us hl => match us, hl with | [_, _], _ => rfl
  M_Held_tell_response := ⟨f_x43, i_x43, kp_x43⟩
  a_Held_tell_all := a_x44
  d_Held_tell_all := _
  F_Held_tell_all := fun_mk (st := s_Held_tell_all) l_x44 cd_x44' kp_x44
  b_Held_tell_all := (fun_mk (st := s_Held_tell_all) l_x44 cd_x44' kp_x44).binds (ps := ["self"]) fun _ _ _ _ _ _ us hl => match us, hl with | [_], _ => rfl
  M_Held_tell_all := ⟨f_x44, i_x44, kp_x44⟩
  a_Held_tell_best := a_x45
  d_Held_tell_best := _
  F_Held_tell_best := fun_mk (st := s_Held_tell_best) l_x45 cd_x45' kp_x45
  b_Held_tell_best := (fun_mk (st := s_Held_tell_best) l_x45 cd_x45' kp_x45).binds (ps := ["self"]) fun _ _ _ _ _ _ us hl => match us, hl with | [_], _ => rfl
  M_Held_tell_best := ⟨f_x45, i_x45, kp_x45⟩
  a_Held_new_play := a_x46
  d_Held_new_play := _
  F_Held_new_play := fun_mk (st := s_Held_new_play) l_x46 cd_x46' kp_x46
  b_Held_new_play := (fun_mk (st := s_Held_new_play) l_x46 cd_x46' kp_x46).binds (ps := ["self"]) fun _ _ _ _ _ _ us hl => match us, hl with | [_], _ => rfl
  M_Held_new_play := ⟨f_x46, i_x46, kp_x46⟩
  a_Held_tell_course := a_x47
  d_Held_tell_course := _
  F_Held_tell_course := fun_mk (st := s_Held_tell_course) l_x47 cd_x47' kp_x47
  b_Held_tell_course := (fun_mk (st := s_Held_tell_course) l_x47 cd_x47' kp_x47).binds (ps := ["self", "h"]) fun _ _ _ _ _ _ us hl => match us, hl with | [_, _], _ => rfl
  M_Held_tell_course := ⟨f_x47, i_x47, kp_x47⟩
  a_Held_tell_trace := a_x48
  d_Held_tell_trace := _
  F_Held_tell_trace := fun_mk (st := s_Held_tell_trace) l_x48 cd_x48' kp_x48
  b_Held_tell_trace := (fun_mk (st := s_Held_tell_trace) l_x48 cd_x48' kp_x48).binds (ps := ["self", "t", "n"]) fun _ _ _ _ _ _ us hl => match us, hl with | [_, _, _], _ => rfl
  M_Held_tell_trace := ⟨f_x48, i_x48, kp_x48⟩
  a_Held_tell_late := a_x49
  d_Held_tell_late := _
  F_Held_tell_late := fun_mk (st := s_Held_tell_late) l_x49 cd_x49' kp_x49
  b_Held_tell_late := (fun_mk (st := s_Held_tell_late) l_x49 cd_x49' kp_x49).binds (ps := ["self", "h"]) fun _ _ _ _ _ _ us hl => match us, hl with | [_, _], _ => rfl
  M_Held_tell_late := ⟨f_x49, i_x49, kp_x49⟩
  a_answer := a_x50
  d_answer := _
  F_answer := fun_mk (st := s_answer) l_x50 cd_x50' kp_x50
  b_answer := (fun_mk (st := s_answer) l_x50 cd_x50' kp_x50).binds (ps := ["held", "name", "numbers", "row"]) fun _ _ _ _ _ _ us hl => match us, hl with | [_, _, _, _], _ => rfl
  m_answer := mg_of X G f_x50
  a_answers := a_x51
  d_answers := _
  F_answers := fun_mk (st := s_answers) l_x51 cd_x51' kp_x51
  b_answers := (fun_mk (st := s_answers) l_x51 cd_x51' kp_x51).binds (ps := ["calls"]) fun _ _ _ _ _ _ us hl => match us, hl with | [_], _ => rfl
  m_answers := mg_of X G f_x51
  n_Jobs_task := n_Jobs_task
  n_Jobs_came := n_Jobs_came
  n_Jobs_due := n_Jobs_due
  n_Jobs_done := n_Jobs_done
  n_Jobs_late := n_Jobs_late
  n_Jobs_greatest := n_Jobs_greatest
  n_Jobs_least := n_Jobs_least
  n_Jobs_reloads := n_Jobs_reloads
  n_Jobs_begun := n_Jobs_begun
  n_Jobs_left := n_Jobs_left
  n_Jobs_lost := n_Jobs_lost
  n_Play_jobs := n_Play_jobs
  n_Play_order := n_Play_order
  n_Play_line_cost := n_Play_line_cost
  n_Task_period := n_Task_period
  n_Task_deadline := n_Task_deadline
  n_Task_cycles := n_Task_cycles
  n_Task_offset := n_Task_offset
  n_Task_useful := n_Task_useful
  n_Task_used := n_Task_used
  n_Held_tasks := n_Held_tasks
  n_Held_order := n_Held_order
  n_Held_line_cost := n_Held_line_cost
  a_CALLS := a_CALLS
  r_CALLS := [r_CALLS_0, r_CALLS_1, r_CALLS_2, r_CALLS_3, r_CALLS_4, r_CALLS_5, r_CALLS_6, r_CALLS_7, r_CALLS_8, r_CALLS_9, r_CALLS_10, r_CALLS_11, r_CALLS_12, r_CALLS_13, r_CALLS_14]
  q_CALLS := fun H => .inr ⟨_, _, _, l_CALLS, rfl, rfl, by show 15 ≤ sizeLine; decide, .cons rfl (.cons rfl (.cons rfl (.cons rfl (.cons rfl (.cons rfl (.cons rfl (.cons rfl (.cons rfl (.cons rfl (.cons rfl (.cons rfl (.cons rfl (.cons rfl (.cons rfl (.nil)))))))))))))))⟩
  i_CALLS := fun H => .cons (.inr ⟨_, _, _, l_CALLS_0, rfl, rfl, by show 3 ≤ sizeLine; decide, .cons ⟨_, rfl⟩ (.cons ⟨_, rfl⟩ (.cons rfl (.nil)))⟩) (.cons (.inr ⟨_, _, _, l_CALLS_1, rfl, rfl, by show 3 ≤ sizeLine; decide, .cons ⟨_, rfl⟩ (.cons ⟨_, rfl⟩ (.cons rfl (.nil)))⟩) (.cons (.inr ⟨_, _, _, l_CALLS_2, rfl, rfl, by show 3 ≤ sizeLine; decide, .cons ⟨_, rfl⟩ (.cons ⟨_, rfl⟩ (.cons rfl (.nil)))⟩) (.cons (.inr ⟨_, _, _, l_CALLS_3, rfl, rfl, by show 3 ≤ sizeLine; decide, .cons ⟨_, rfl⟩ (.cons ⟨_, rfl⟩ (.cons rfl (.nil)))⟩) (.cons (.inr ⟨_, _, _, l_CALLS_4, rfl, rfl, by show 3 ≤ sizeLine; decide, .cons ⟨_, rfl⟩ (.cons ⟨_, rfl⟩ (.cons rfl (.nil)))⟩) (.cons (.inr ⟨_, _, _, l_CALLS_5, rfl, rfl, by show 3 ≤ sizeLine; decide, .cons ⟨_, rfl⟩ (.cons ⟨_, rfl⟩ (.cons rfl (.nil)))⟩) (.cons (.inr ⟨_, _, _, l_CALLS_6, rfl, rfl, by show 3 ≤ sizeLine; decide, .cons ⟨_, rfl⟩ (.cons ⟨_, rfl⟩ (.cons rfl (.nil)))⟩) (.cons (.inr ⟨_, _, _, l_CALLS_7, rfl, rfl, by show 3 ≤ sizeLine; decide, .cons ⟨_, rfl⟩ (.cons ⟨_, rfl⟩ (.cons rfl (.nil)))⟩) (.cons (.inr ⟨_, _, _, l_CALLS_8, rfl, rfl, by show 3 ≤ sizeLine; decide, .cons ⟨_, rfl⟩ (.cons ⟨_, rfl⟩ (.cons rfl (.nil)))⟩) (.cons (.inr ⟨_, _, _, l_CALLS_9, rfl, rfl, by show 3 ≤ sizeLine; decide, .cons ⟨_, rfl⟩ (.cons ⟨_, rfl⟩ (.cons rfl (.nil)))⟩) (.cons (.inr ⟨_, _, _, l_CALLS_10, rfl, rfl, by show 3 ≤ sizeLine; decide, .cons ⟨_, rfl⟩ (.cons ⟨_, rfl⟩ (.cons rfl (.nil)))⟩) (.cons (.inr ⟨_, _, _, l_CALLS_11, rfl, rfl, by show 3 ≤ sizeLine; decide, .cons ⟨_, rfl⟩ (.cons ⟨_, rfl⟩ (.cons rfl (.nil)))⟩) (.cons (.inr ⟨_, _, _, l_CALLS_12, rfl, rfl, by show 3 ≤ sizeLine; decide, .cons ⟨_, rfl⟩ (.cons ⟨_, rfl⟩ (.cons rfl (.nil)))⟩) (.cons (.inr ⟨_, _, _, l_CALLS_13, rfl, rfl, by show 3 ≤ sizeLine; decide, .cons ⟨_, rfl⟩ (.cons ⟨_, rfl⟩ (.cons rfl (.nil)))⟩) (.cons (.inr ⟨_, _, _, l_CALLS_14, rfl, rfl, by show 3 ≤ sizeLine; decide, .cons ⟨_, rfl⟩ (.cons ⟨_, rfl⟩ (.cons rfl (.nil)))⟩) (.nil)))))))))))))))
  m_CALLS := mg_of X G g_CALLS
  t_MOST_PERIOD := t_MOST_PERIOD
  m_MOST_PERIOD := mg_of X G g_MOST_PERIOD
  t_MOST_OFFSET := t_MOST_OFFSET
  m_MOST_OFFSET := mg_of X G g_MOST_OFFSET
  t_LAST_LINE := t_LAST_LINE
  m_LAST_LINE := mg_of X G g_LAST_LINE
  t_USEFUL_AT := t_USEFUL_AT
  m_USEFUL_AT := mg_of X G g_USEFUL_AT
  t_MOST_TASKS := t_MOST_TASKS
  m_MOST_TASKS := mg_of X G g_MOST_TASKS
  t_MOST_RELOAD := t_MOST_RELOAD
  m_MOST_RELOAD := mg_of X G g_MOST_RELOAD
  t_LAST_TIME := t_LAST_TIME
  m_LAST_TIME := mg_of X G g_LAST_TIME
  t_MOST_TRACED := t_MOST_TRACED
  m_MOST_TRACED := mg_of X G g_MOST_TRACED
  t_DONE := t_DONE
  m_DONE := mg_of X G g_DONE
  t_NOT_SO := t_NOT_SO
  m_NOT_SO := mg_of X G g_NOT_SO
  t_NO_TASK := t_NO_TASK
  m_NO_TASK := mg_of X G g_NO_TASK
  t_NOT_ABOVE := t_NOT_ABOVE
  m_NOT_ABOVE := mg_of X G g_NOT_ABOVE
  t_NO_KIND := t_NO_KIND
  m_NO_KIND := mg_of X G g_NO_KIND
  t_OUT_OF_RANGE := t_OUT_OF_RANGE
  m_OUT_OF_RANGE := mg_of X G g_OUT_OF_RANGE
  t_TOO_MANY := t_TOO_MANY
  m_TOO_MANY := mg_of X G g_TOO_MANY
  t_WRONG_LIST := t_WRONG_LIST
  m_WRONG_LIST := mg_of X G g_WRONG_LIST
  t_BY_PERIOD := t_BY_PERIOD
  m_BY_PERIOD := mg_of X G g_BY_PERIOD
  t_BY_DEADLINE := t_BY_DEADLINE
  m_BY_DEADLINE := mg_of X G g_BY_DEADLINE
  x_range := mg_none_of X G x_range
  x_len := mg_none_of X G x_len
  x_max := mg_none_of X G x_max
  x_enumerate := mg_none_of X G x_enumerate
  x_list := mg_none_of X G x_list
  x_sorted := mg_none_of X G x_sorted
  x_min := mg_none_of X G x_min
  x_set := mg_none_of X G x_set
end My
end
set_option maxHeartbeats 2000000
namespace My
open PySem PySem.Spec PyProof.Rows L2
section
variable {P : Program} {w : World} {K : PySem.W.Frag} {mg : Str → Option Value} {base : Heap}
def sp_times_fit (T : Top_ K mg) : Sp := fun vs H Q _ => ∃ (a : Addr) (ns : List Int), vs = [.ref a] ∧ SqL K H a (ns.map V.int) ∧ Q (.bl (timesFit ns)) H
theorem ok_times_fit (T : Top_ K mg) : FnOk P w K mg base CX0 1 T.a_times_fit T.d_times_fit ["times"] (sp_times_fit T) := by
  refine T.F_times_fit.ok sc_times_fit (fun vs H Q E h => ?_) (fun cdv A outer s H vs Q E hr h => ?_)
  · obtain ⟨a, ns, rfl, _⟩ := h
    rfl
  · obtain ⟨a, ns, rfl, hS, k⟩ := h
    refine ⟨_, (pss_cons (ps_if (pt_cmpR op_ne (pe_callB call_len_seq (by rfl) T.x_len PySem.boot_len (pa_cons (pv 0) pa_nil)) (pe_glob (v := .int (4)) rfl T.m_USEFUL_AT ⟨_, rfl⟩) (nomark _))
      (pss_one (ps_ret pe_bl))
      pss_nil)
      (pss_cons (ps_if (pt_not (pt_chain op_le op_le pe_int (pe_ix ix_list (pv 0) pe_int (fun _ _ => rfl)) (pe_glob (v := .int (500)) rfl T.m_MOST_PERIOD ⟨_, rfl⟩)))
      (pss_one (ps_ret pe_bl))
      pss_nil)
      (pss_cons (ps_if (pt_not (pt_chain op_le op_le pe_int (pe_ix ix_list (pv 0) pe_int (fun _ _ => rfl)) (pe_ix ix_list (pv 0) pe_int (fun _ _ => rfl))))
      (pss_one (ps_ret pe_bl))
      pss_nil)
      (pss_cons (ps_if (pt_not (pt_chain op_le op_le pe_int (pe_ix ix_list (pv 0) pe_int (fun _ _ => rfl)) (pe_ix ix_list (pv 0) pe_int (fun _ _ => rfl))))
      (pss_one (ps_ret pe_bl))
      pss_nil)
      (pss_one (ps_ret (pe_chain op_le op_le pe_int (pe_ix ix_list (pv 0) pe_int (fun _ _ => rfl)) (pe_glob (v := .int (500)) rfl T.m_MOST_OFFSET ⟨_, rfl⟩)))))))), ?_⟩
    have k' : ∀ b, timesFit ns = b → Q (.bl b) H := fun b e => e ▸ k
    refine ⟨_, rfl, a, _, rfl, .inl hS, rfl, _, rfl, ite_ndV (fun hlen => ?_) fun hlen => k' _ (timesFit_len fun e => hlen (by rw [List.length_map, e]; rfl))⟩
    obtain ⟨p, d, c, o, rfl⟩ := four (l := ns) (by rw [List.length_map] at hlen; omega)
    have kf : ¬ (1 ≤ p ∧ p ≤ 500 ∧ 1 ≤ d ∧ d ≤ p ∧ 1 ≤ c ∧ c ≤ d ∧ 0 ≤ o ∧ o ≤ 500) → Q (.bl false) H := fun h => k' _ (decide_eq_false h)
    refine ⟨_, rfl, a, _, _, _, rfl, rfl, hS, atI_nat (j := 0) rfl, _, _, rfl, rfl, _, rfl, ite_d (fun h1 => ?_) fun h1 => ⟨_, rfl, iteT (kf (by omega))⟩⟩
    refine ⟨_, _, rfl, rfl, _, rfl, ite_nd (fun h2 => ?_) fun h2 => kf (by omega)⟩
    refine ⟨_, rfl, a, _, _, _, rfl, rfl, hS, atI_nat (j := 1) rfl, _, _, rfl, rfl, _, rfl, ite_d (fun h3 => ?_) fun h3 => ⟨_, rfl, iteT (kf (by omega))⟩⟩
    refine ⟨_, rfl, a, _, _, _, rfl, rfl, hS, atI_nat (j := 0) rfl, _, _, rfl, rfl, _, rfl, ite_nd (fun h4 => ?_) fun h4 => kf (by omega)⟩
    refine ⟨_, rfl, a, _, _, _, rfl, rfl, hS, atI_nat (j := 2) rfl, _, _, rfl, rfl, _, rfl, ite_d (fun h5 => ?_) fun h5 => ⟨_, rfl, iteT (kf (by omega))⟩⟩
    refine ⟨_, rfl, a, _, _, _, rfl, rfl, hS, atI_nat (j := 1) rfl, _, _, rfl, rfl, _, rfl, ite_nd (fun h6 => ?_) fun h6 => kf (by omega)⟩
    refine ⟨_, rfl, a, _, _, _, rfl, rfl, hS, atI_nat (j := 3) rfl, _, _, rfl, rfl, _, rfl, ite_d (fun h7 => ?_) fun h7 => kf (by omega)⟩
    refine ⟨_, _, rfl, rfl, ?_⟩
    refine k' _ ?_
    show decide _ = decide _
    congr 1
    simp only [eq_iff_iff]
    omega
def sp_lines_fit (T : Top_ K mg) : Sp := fun vs H Q _ => ∃ (a : Addr) (ns : List Int), vs = [.ref a] ∧ SqL K H a (ns.map V.int) ∧ ns.length ≤ 1000 ∧ ∀ H', Same H H' → Q (.bl (linesFit ns)) H'
theorem ok_lines_fit (T : Top_ K mg) : FnOk P w K mg base CX0 1 T.a_lines_fit T.d_lines_fit ["lines"] (sp_lines_fit T) := by
  refine T.F_lines_fit.ok sc_lines_fit (fun vs H Q E h => ?_) (fun cdv A outer s H vs Q E hr h => ?_)
  · obtain ⟨a, ns, rfl, _⟩ := h
    rfl
  · obtain ⟨a, ns, rfl, hS, hlen, k⟩ := h
    refine ⟨_, (pss_cons (ps_for PassesOwn.never rfl (pi_list (pv 0)) (pg_name (i := 1) sc_lines_fit.nd rfl (.inl rfl))
      (pss_one (ps_if (pt_not (pt_chain op_le op_le pe_int (pv 1) (pe_glob (v := .int (31)) rfl T.m_LAST_LINE ⟨_, rfl⟩)))
      (pss_one (ps_ret pe_bl))
      pss_nil)))
      (pss_one (ps_ret (pe_cmpR op_eq (pe_callB call_len_seto (by rfl) T.x_len PySem.boot_len (pa_cons (pe_callTy (call_set_ints rfl) (by rfl) T.x_set PyProof.Rows.boot_set (pa_cons (pv 0) pa_nil)) pa_nil)) (pe_callB call_len_seq (by rfl) T.x_len PySem.boot_len (pa_cons (pv 0) pa_nil)) (nomark _))))), ?_⟩
    have k' : ∀ b H', linesFit ns = b → Same H H' → Q (.bl b) H' := fun b H' e s => e ▸ k H' s
    refine ⟨_, rfl, a, rfl, ⟨_, hS⟩, for_list (K := K) (a := a) (xs := ns.map V.int) (fun i σ H' => H' = H ∧ ∃ v : Option V, σ = [some (.ref a), v] ∧ ∀ x ∈ ns.take i, 0 ≤ x ∧ x ≤ 31)
      ⟨rfl, none, rfl, by simp⟩ (fun i σ H' _ ⟨e, _⟩ => e ▸ hS) ?_ ?_⟩
    · rintro i y σ H' hi ⟨rfl, v, rfl, hall⟩
      obtain ⟨z, hz, rfl⟩ := int_of_at hi
      have hm : z ∈ ns := List.mem_of_getElem? hz
      have kf : ¬ (0 ≤ z ∧ z ≤ 31) → Q (.bl false) H' := fun h => k' _ _ (by
        unfold linesFit
        rw [Bool.and_eq_false_iff]
        left
        rw [List.all_eq_false]
        exact ⟨z, hm, by simp; omega⟩) (Same.refl _)
      refine ⟨_, rfl, _, _, rfl, rfl, _, rfl, ite_d (fun h1 => ?_) fun h1 => ⟨_, rfl, iteT (kf (by omega))⟩⟩
      refine ⟨_, _, rfl, rfl, _, rfl, ite_nd (fun h2 => ?_) fun h2 => kf (by omega)⟩
      refine ⟨rfl, _, rfl, fun x hx => ?_⟩
      rw [take_snoc hz, List.mem_append] at hx
      rcases hx with hx | hx
      · exact hall x hx
      · have : x = z := by simpa using hx
        subst this
        exact ⟨h1, h2⟩
    · rintro σ H' ⟨rfl, v, rfl, hall⟩
      rw [List.length_map, List.take_length] at hall
      refine ⟨_, rfl, a, ns, rfl, hS, by omega, fun p hp => ?_⟩
      have s1 := Same.new (o := .set (fun k => (firsts ns).any (· == k)) (firsts ns).length) hp
      refine ⟨p, _, _, rfl, upd_same, _, rfl, a, _, rfl, .inl (s1.seq hS), rfl, ?_⟩
      refine k' _ _ ?_ s1
      have e1 : (ns.all fun x => decide (0 ≤ x) && decide (x ≤ 31)) = true := by
        rw [List.all_eq_true]
        intro x hx
        have := hall x hx
        simp [this]
      unfold linesFit
      rw [e1, Bool.true_and]
      rw [Bool.eq_iff_iff]
      simp only [decide_eq_true_eq, List.length_map, V.int.injEq]
      rw [← firsts_len]
      omega
open Vawctg (Task toInts toNats taskRow reading)
def vInts (l : List Nat) : List V := (toInts l).map V.int
theorem vInts_len (l : List Nat) : (vInts l).length = l.length := by simp [vInts, toInts]
theorem toInts_toNats : ∀ {l : List Int}, (∀ x ∈ l, 0 ≤ x) → toInts (toNats l) = l
  | [], _ => rfl
  | a :: r, h => by
    have ha := h a List.mem_cons_self
    have ih := toInts_toNats (l := r) fun x hx => h x (List.mem_cons_of_mem _ hx)
    unfold toInts toNats at ih ⊢
    rw [List.map_cons, List.map_cons, ih]
    congr 1
    omega
def sp_read_lines (T : Top_ K mg) : Sp := fun vs H Q _ => ∃ (a : Addr) (ns : List Int) (n : Nat), vs = [.ref a, .int n] ∧ SqL K H a (ns.map V.int) ∧ ns.length ≤ 1000 ∧
  (readLines ns n = none → ∀ H', Same H H' → Q .non H') ∧ ∀ ls, readLines ns n = some ls → ∀ H' p, Same H H' → H p = none → H' p = some (.lst (ls.map V.int)) → Q (.ref p) H'
theorem ok_read_lines (T : Top_ K mg) : FnOk P w K mg base CX0 2 T.a_read_lines T.d_read_lines ["numbers", "at"] (sp_read_lines T) := by
  refine T.F_read_lines.ok sc_read_lines (fun vs H Q E h => ?_) (fun cdv A outer s H vs Q E hr h => ?_)
  · obtain ⟨a, ns, n, rfl, _⟩ := h
    rfl
  · obtain ⟨a, ns, n, rfl, hS, hlen, k0, k1⟩ := h
    refine ⟨_, (pss_cons (ps_if (pt_cmpR op_ge (pv 1) (pe_callB call_len_seq (by rfl) T.x_len PySem.boot_len (pa_cons (pv 0) pa_nil)) (nomark _))
      (pss_one (ps_ret pe_non))
      pss_nil)
      (pss_cons (ps_set (i := 2) sc_read_lines.nd rfl (.inl rfl) (pe_ix ix_list (pv 0) (pv 1) (fun _ _ => rfl)))
      (pss_cons (ps_if (pt_not (pt_chain op_le op_le pe_int (pv 2) (pe_op op_sub (pe_op op_sub (pe_callB call_len_seq (by rfl) T.x_len PySem.boot_len (pa_cons (pv 0) pa_nil)) (pv 1)) pe_int)))
      (pss_one (ps_ret pe_non))
      pss_nil)
      (pss_cons (ps_set (i := 3) sc_read_lines.nd rfl (.inl rfl) (pe_slice sl_list (pv 0) (po_some (pe_op op_add (pv 1) pe_int)) (po_some (pe_op op_add (pe_op op_add (pv 1) pe_int) (pv 2)))))
      (pss_one (ps_ret (pe_ifExp (pt_val (pe_call (ok_lines_fit T) (hr.mono (by decide)) rfl T.m_lines_fit T.F_lines_fit.kp T.b_lines_fit .nil pass0 (pa_cons (pv 3) pa_nil))) (pv 3) pe_non))))))), ?_⟩
    refine ⟨_, rfl, _, rfl, a, _, rfl, .inl hS, _, _, rfl, rfl, _, rfl, ite_d (fun h1 => ?_) fun h1 => ?_⟩
    · refine k0 ?_ _ (Same.refl _)
      rw [List.length_map] at h1
      unfold readLines
      rw [List.getElem?_eq_none (by omega)]
    · rw [List.length_map] at h1
      obtain ⟨c, hc⟩ : ∃ c, ns[n]? = some c := ⟨_, List.getElem?_eq_getElem (by omega)⟩
      have kf : ¬ (0 ≤ c ∧ c ≤ (ns.length : Int) - n - 1) → Q .non H := fun h => k0 (by unfold readLines; rw [hc]; exact if_neg h) _ (Same.refl _)
      refine ⟨_, rfl, _, rfl, a, _, _, _, rfl, rfl, hS, atI_int rfl hc, ?_⟩
      refine ⟨_, rfl, _, _, rfl, rfl, _, rfl, ite_d (fun h2 => ?_) fun h2 => ⟨_, rfl, iteT (kf (by omega))⟩⟩
      refine ⟨_, rfl, a, _, rfl, .inl hS, _, rfl, _, _, rfl, rfl, _, _, rfl, rfl, _, _, rfl, rfl, _, rfl, ite_nd (fun h3 => ?_) fun h3 => kf (by rw [List.length_map] at h3; omega)⟩
      rw [List.length_map] at h3
      refine ⟨_, rfl, _, rfl, _, _, rfl, rfl, _, rfl, _, rfl, _, _, rfl, rfl, _, rfl, _, _, rfl, rfl, _, rfl, a, _, rfl, hS, fun p hp => ?_⟩
      have ecut : cutV (ns.map V.int) (some ((n : Int) + 1)) (some ((n : Int) + 1 + c)) = ((ns.drop (n + 1)).take c.toNat).map V.int := by
        rw [cut_int]
        congr 1
        have e1 : HT.sIx ns.length 0 (some ((n : Int) + 1)) = n + 1 := by
          have := HT.sIx_nat ns.length 0 (n + 1)
          rw [show ((n : Int) + 1) = ((n + 1 : Nat) : Int) by omega, this]
          omega
        have e2 : HT.sIx ns.length ns.length (some ((n : Int) + 1 + c)) = n + 1 + c.toNat := by
          have := HT.sIx_nat ns.length ns.length (n + 1 + c.toNat)
          rw [show ((n : Int) + 1 + c) = ((n + 1 + c.toNat : Nat) : Int) by omega, this]
          omega
        rw [e1, e2]
        congr 1
        omega
      rw [ecut]
      have s1 := Same.new (o := .lst (((ns.drop (n + 1)).take c.toNat).map V.int)) hp
      refine ⟨_, rfl, p, _, rfl, SqL.of upd_same, by rw [List.length_take, List.length_drop]; omega, fun H' s2 => ⟨_, rfl, ite_b (fun hb => ?_) fun hb => ?_⟩⟩
      · refine ⟨_, rfl, k1 _ ?_ _ p (s1.trans s2) hp (s2 _ _ upd_same)⟩
        unfold readLines
        rw [hc]
        simp only
        rw [if_pos ⟨h2, h3⟩, if_pos hb]
      · refine k0 ?_ _ (s1.trans s2)
        unfold readLines
        rw [hc]
        simp only
        rw [if_pos ⟨h2, h3⟩, hb]
        rfl
def taskF (p d c o u v : V) : List (Str × V) := [("period", p), ("deadline", d), ("cycles", c), ("offset", o), ("useful", u), ("used", v)]
def sp_Task___init__ (T : Top_ K mg) : Sp := fun vs H Q _ => ∃ (x dx a u v : Addr) (p d c o : Int), vs = [.ref x, .ref a, .ref u, .ref v] ∧ H x = some (.ins T.c_Task dx []) ∧ SqL K H a ([p, d, c, o].map V.int) ∧ a ≠ x ∧
  ∀ H', H' x = some (.ins T.c_Task dx (taskF (.int p) (.int d) (.int c) (.int o) (.ref u) (.ref v))) → (∀ b o, H b = some o → b ≠ x → H' b = some o) → Q .non H'
theorem seq_upd {H : Hp} {a x : Addr} {o : HO} {xs : List V} (hn : a ≠ x) (h : SqL K H a xs) : SqL K (upd H x o) a xs := by
  rcases h with (h | ⟨ob, h⟩) | h
  · exact .inl (.inl (by rw [upd_ne hn]; exact h))
  · exact .inl (.inr ⟨ob, by rw [upd_ne hn]; exact h⟩)
  · exact .inr h
theorem ok_Task___init__ (T : Top_ K mg) : FnOk P w K mg base CX0 1 T.a_Task___init__ T.d_Task___init__ ["self", "times", "useful", "used"] (sp_Task___init__ T) := by
  refine T.F_Task___init__.ok sc_Task___init__ (fun vs H Q E h => ?_) (fun cdv A outer s H vs Q E hr h => ?_)
  · obtain ⟨x, dx, a, u, v, p, d, c, o, rfl, _⟩ := h
    rfl
  · obtain ⟨x, dx, a, u, v, p, d, c, o, rfl, hx, hS, hn, k⟩ := h
    refine ⟨_, (pss_cons (ps_fld (pv 0) (pe_ix ix_list (pv 1) pe_int (fun _ _ => rfl)) rfl)
      (pss_cons (ps_fld (pv 0) (pe_ix ix_list (pv 1) pe_int (fun _ _ => rfl)) rfl)
      (pss_cons (ps_fld (pv 0) (pe_ix ix_list (pv 1) pe_int (fun _ _ => rfl)) rfl)
      (pss_cons (ps_fld (pv 0) (pe_ix ix_list (pv 1) pe_int (fun _ _ => rfl)) rfl)
      (pss_cons (ps_fld (pv 0) (pv 2) rfl)
      (pss_one (ps_fld (pv 0) (pv 3) rfl))))))), ?_⟩
    refine ⟨_, rfl, a, _, _, _, rfl, rfl, hS, atI_nat (j := 0) rfl, _, rfl, x, _, dx, _, rfl, hx, T.cl_Task, T.n_Task_period, (by show 0 < 1000; decide), ?_⟩
    refine ⟨_, rfl, a, _, _, _, rfl, rfl, seq_upd hn hS, atI_nat (j := 1) rfl, _, rfl, x, _, dx, _, rfl, upd_same, T.cl_Task, T.n_Task_deadline, (by show 1 < 1000; decide), ?_⟩
    rw [upd_upd]
    refine ⟨_, rfl, a, _, _, _, rfl, rfl, seq_upd hn hS, atI_nat (j := 2) rfl, _, rfl, x, _, dx, _, rfl, upd_same, T.cl_Task, T.n_Task_cycles, (by show 2 < 1000; decide), ?_⟩
    rw [upd_upd]
    refine ⟨_, rfl, a, _, _, _, rfl, rfl, seq_upd hn hS, atI_nat (j := 3) rfl, _, rfl, x, _, dx, _, rfl, upd_same, T.cl_Task, T.n_Task_offset, (by show 3 < 1000; decide), ?_⟩
    rw [upd_upd]
    refine ⟨_, rfl, _, rfl, x, _, dx, _, rfl, upd_same, T.cl_Task, T.n_Task_useful, (by show 4 < 1000; decide), ?_⟩
    rw [upd_upd]
    refine ⟨_, rfl, _, rfl, x, _, dx, _, rfl, upd_same, T.cl_Task, T.n_Task_used, (by show 5 < 1000; decide), ?_⟩
    rw [upd_upd]
    exact k _ upd_same fun b ob e hb => by rw [upd_ne hb]; exact e
def TaskAt (T : Top_ K mg) (H : Hp) (R : Addr → Prop) (p : Addr) (t : Task) : Prop := R p ∧ ∃ dx u v, R u ∧ R v ∧
  H p = some (.ins T.c_Task dx (taskF (.int t.period) (.int t.deadline) (.int t.cycles) (.int t.offset) (.ref u) (.ref v))) ∧ H u = some (.lst (vInts t.useful)) ∧ H v = some (.lst (vInts t.used))
theorem TaskAt.keep {T : Top_ K mg} {H H' : Hp} {R R' : Addr → Prop} {p : Addr} {t : Task} (h : TaskAt T H R p t) (hk : ∀ b o, R b → H b = some o → R' b ∧ H' b = some o) : TaskAt T H' R' p t := by
  obtain ⟨rp, dx, u, v, ru, rv, h1, h2, h3⟩ := h
  exact ⟨(hk _ _ rp h1).1, dx, u, v, (hk _ _ ru h2).1, (hk _ _ rv h3).1, (hk _ _ rp h1).2, (hk _ _ ru h2).2, (hk _ _ rv h3).2⟩
def sp_Task_told (T : Top_ K mg) : Sp := fun vs H Q _ => ∃ (a : Addr) (R : Addr → Prop) (t : Task), vs = [.ref a] ∧ TaskAt T H R a t ∧ t.useful.length ≤ 200 ∧ t.used.length ≤ 200 ∧
  ∀ H' q, Same H H' → H q = none → H' q = some (.lst (vInts (taskRow t))) → Q (.ref q) H'
theorem ok_Task_told (T : Top_ K mg) : FnOk P w K mg base CX0 1 T.a_Task_told T.d_Task_told ["self"] (sp_Task_told T) := by
  refine T.F_Task_told.ok sc_Task_told (fun vs H Q E h => ?_) (fun cdv A outer s H vs Q E hr h => ?_)
  · obtain ⟨a, R, t, rfl, _⟩ := h
    rfl
  · obtain ⟨a, R, t, rfl, ⟨_, dx, u, v, _, _, ha, hu, hv⟩, l1, l2, k⟩ := h
    refine ⟨_, (pss_cons (ps_set (i := 1) sc_Task_told.nd rfl (.inl rfl) (pe_lst (pa_cons (pe_fld (pv 0) rfl) (pa_cons (pe_fld (pv 0) rfl) (pa_cons (pe_fld (pv 0) rfl) (pa_cons (pe_fld (pv 0) rfl) pa_nil))))))
      (pss_one (ps_ret (pe_op op_cat (pe_op op_cat (pe_op op_cat (pe_op op_cat (pv 1) (pe_lst (pa_cons (pe_callB call_len_seq (by rfl) T.x_len PySem.boot_len (pa_cons (pe_fld (pv 0) rfl) pa_nil)) pa_nil))) (pe_fld (pv 0) rfl)) (pe_lst (pa_cons (pe_callB call_len_seq (by rfl) T.x_len PySem.boot_len (pa_cons (pe_fld (pv 0) rfl) pa_nil)) pa_nil))) (pe_fld (pv 0) rfl))))), ?_⟩
    have hl1 := vInts_len t.useful
    have hl2 := vInts_len t.used
    have hsl := sizeLine_eq
    refine ⟨_, rfl, a, _, dx, _, _, rfl, ha, T.cl_Task, T.n_Task_period, rfl, _, rfl, a, _, dx, _, _, rfl, ha, T.cl_Task, T.n_Task_deadline, rfl,
      _, rfl, a, _, dx, _, _, rfl, ha, T.cl_Task, T.n_Task_cycles, rfl, _, rfl, a, _, dx, _, _, rfl, ha, T.cl_Task, T.n_Task_offset, rfl, (by show 4 ≤ sizeLine; decide), fun p0 n0 => ?_⟩
    have s0 := Same.new (o := .lst [.int t.period, .int t.deadline, .int t.cycles, .int t.offset]) n0
    have g0 : upd H p0 (.lst [.int t.period, .int t.deadline, .int t.cycles, .int t.offset]) p0 = _ := upd_same
    generalize upd H p0 (.lst [.int t.period, .int t.deadline, .int t.cycles, .int t.offset]) = H0 at s0 g0 ⊢
    refine ⟨_, rfl, _, rfl, a, _, dx, _, _, rfl, s0 _ _ ha, T.cl_Task, T.n_Task_useful, rfl, u, _, rfl, .inl (SqL.of (s0 _ _ hu)), (by show 1 ≤ sizeLine; decide), fun p1 n1 => ?_⟩
    have s1 := Same.new (o := .lst [.int ((vInts t.useful).length : Nat)]) n1
    refine ⟨p0, p1, _, _, rfl, rfl, s1 _ _ g0, upd_same, (by show 4 + 1 ≤ sizeLine; decide), fun p2 n2 => ?_⟩
    have s2 := s1.trans (Same.new (o := .lst ([.int t.period, .int t.deadline, .int t.cycles, .int t.offset] ++ [.int ((vInts t.useful).length : Nat)])) n2)
    refine ⟨_, rfl, a, _, dx, _, _, rfl, s2 _ _ (s0 _ _ ha), T.cl_Task, T.n_Task_useful, rfl, p2, u, _, _, rfl, rfl, upd_same, s2 _ _ (s0 _ _ hu), (by show 5 + _ ≤ sizeLine; omega), fun p3 n3 => ?_⟩
    have s3 := s2.trans (Same.new (o := .lst (([.int t.period, .int t.deadline, .int t.cycles, .int t.offset] ++ [.int ((vInts t.useful).length : Nat)]) ++ vInts t.useful)) n3)
    refine ⟨_, rfl, a, _, dx, _, _, rfl, s3 _ _ (s0 _ _ ha), T.cl_Task, T.n_Task_used, rfl, v, _, rfl, .inl (SqL.of (s3 _ _ (s0 _ _ hv))), (by show 1 ≤ sizeLine; decide), fun p4 n4 => ?_⟩
    have s34 := Same.new (o := .lst [.int ((vInts t.used).length : Nat)]) n4
    have s4 := s3.trans s34
    refine ⟨p3, p4, _, _, rfl, rfl, s34 _ _ upd_same, upd_same, (by rw [List.length_append]; show 5 + _ + 1 ≤ sizeLine; omega), fun p5 n5 => ?_⟩
    have s5 := s4.trans (Same.new (o := .lst ((([.int t.period, .int t.deadline, .int t.cycles, .int t.offset] ++ [.int ((vInts t.useful).length : Nat)]) ++ vInts t.useful) ++ [.int ((vInts t.used).length : Nat)])) n5)
    refine ⟨_, rfl, a, _, dx, _, _, rfl, s5 _ _ (s0 _ _ ha), T.cl_Task, T.n_Task_used, rfl, p5, v, _, _, rfl, rfl, upd_same, s5 _ _ (s0 _ _ hv), (by rw [List.length_append, List.length_append]; show 5 + _ + 1 + _ ≤ sizeLine; omega), fun p6 n6 => ?_⟩
    refine k _ p6 ((s0.trans s5).trans (Same.new n6)) ((s0.trans s5).free n6) ?_
    rw [upd_same, hl1, hl2]
    congr 2
    simp [vInts, taskRow, toInts]
def sp_read_task (T : Top_ K mg) : Sp := fun vs H Q _ => ∃ (a : Addr) (ns : List Int), vs = [.ref a] ∧ SqL K H a (ns.map V.int) ∧ ns.length ≤ 1000 ∧
  (reading ns = none → ∀ H', Same H H' → Q .non H') ∧ ∀ t, reading ns = some t → ∀ H' p, Same H H' → TaskAt T H' (fun b => H b = none) p t → Q (.ref p) H'
theorem seq_none {H : Hp} {a x : Addr} {xs : List V} (h : SqL K H a xs) (hx : H x = none) (hn : ∀ o, K.lookup a = some o → a ≠ x) : a ≠ x := by
  rintro rfl
  rcases h with (h | ⟨ob, h⟩) | ⟨o, _, _, h, _⟩
  · rw [h] at hx; cases hx
  · rw [h] at hx; cases hx
  · exact hn o h rfl
theorem ok_read_task (T : Top_ K mg) : FnOk P w K mg base CX0 3 T.a_read_task T.d_read_task ["numbers"] (sp_read_task T) := by
  refine T.F_read_task.ok sc_read_task (fun vs H Q E h => ?_) (fun cdv A outer s H vs Q E hr h => ?_)
  · obtain ⟨a, ns, rfl, _⟩ := h
    rfl
  · obtain ⟨a, ns, rfl, hS, hlen, k0, k1⟩ := h
    refine ⟨_, (pss_cons (ps_set (i := 1) sc_read_task.nd rfl (.inl rfl) (pe_slice sl_list (pv 0) po_none (po_some (pe_glob (v := .int (4)) rfl T.m_USEFUL_AT ⟨_, rfl⟩))))
      (pss_cons (ps_if (pt_not (pt_val (pe_call (ok_times_fit T) (hr.mono (by decide)) rfl T.m_times_fit T.F_times_fit.kp T.b_times_fit .nil pass0 (pa_cons (pv 1) pa_nil))))
      (pss_one (ps_ret pe_non))
      pss_nil)
      (pss_cons (ps_set (i := 2) sc_read_task.nd rfl (.inl rfl) (pe_call (ok_read_lines T) (hr.mono (by decide)) rfl T.m_read_lines T.F_read_lines.kp T.b_read_lines .nil pass0 (pa_cons (pv 0) (pa_cons (pe_glob (v := .int (4)) rfl T.m_USEFUL_AT ⟨_, rfl⟩) pa_nil))))
      (pss_cons (ps_if (pt_cmpR op_isN (pv 2) pe_non (nomark _))
      (pss_one (ps_ret pe_non))
      pss_nil)
      (pss_cons (ps_set (i := 3) sc_read_task.nd rfl (.inl rfl) (pe_op op_add (pe_op op_add (pe_glob (v := .int (4)) rfl T.m_USEFUL_AT ⟨_, rfl⟩) pe_int) (pe_callB call_len_seq (by rfl) T.x_len PySem.boot_len (pa_cons (pv 2) pa_nil))))
      (pss_cons (ps_set (i := 4) sc_read_task.nd rfl (.inl rfl) (pe_call (ok_read_lines T) (hr.mono (by decide)) rfl T.m_read_lines T.F_read_lines.kp T.b_read_lines .nil pass0 (pa_cons (pv 0) (pa_cons (pv 3) pa_nil))))
      (pss_cons (ps_if (pt_cmpR op_isN (pv 4) pe_non (nomark _))
      (pss_one (ps_ret pe_non))
      pss_nil)
      (pss_cons (ps_if (pt_cmpR op_ne (pe_op op_add (pe_op op_add (pv 3) pe_int) (pe_callB call_len_seq (by rfl) T.x_len PySem.boot_len (pa_cons (pv 4) pa_nil))) (pe_callB call_len_seq (by rfl) T.x_len PySem.boot_len (pa_cons (pv 0) pa_nil)) (nomark _))
      (pss_one (ps_ret pe_non))
      pss_nil)
      (pss_one (ps_ret (pe_make T.mk_Task (ok_Task___init__ T) (hr.mono (by decide)) rfl T.m_Task T.b_Task___init__ .nil pass0 (pa_cons (pv 1) (pa_cons (pv 2) (pa_cons (pv 4) pa_nil)))))))))))))), ?_⟩
    rw [reading_eq] at k0 k1
    have kN : readTaskP ns = none → ∀ H', Same H H' → Q .non H' := fun h => k0 (by rw [h]; rfl)
    have kS : ∀ t, readTaskP ns = some t → ∀ H' p, Same H H' → TaskAt T H' (fun b => H b = none) p (taskOf t) → Q (.ref p) H' := fun t h => k1 (taskOf t) (by rw [h]; rfl)
    refine ⟨_, rfl, _, rfl, a, _, rfl, hS, fun p0 n0 => ?_⟩
    have ecut : cutV (ns.map V.int) none (some 4) = (ns.take 4).map V.int := by
      rw [cut_int]
      congr 1
      have e2 : HT.sIx ns.length ns.length (some 4) = min 4 ns.length := HT.sIx_nat ns.length ns.length 4
      rw [HT.sIx_none, e2]
      show ns.take (min 4 ns.length) = ns.take 4
      rw [← List.take_take, List.take_length]
    rw [ecut]
    have s0 := Same.new (o := .lst ((ns.take 4).map V.int)) n0
    have g0 : upd H p0 (.lst ((ns.take 4).map V.int)) p0 = _ := upd_same
    generalize upd H p0 (.lst ((ns.take 4).map V.int)) = H0 at s0 g0 ⊢
    refine ⟨_, rfl, p0, _, rfl, SqL.of g0, _, rfl, ite_nb (fun ht => ?_) fun ht => kN (by unfold readTaskP; rw [ht]; rfl) _ s0⟩
    refine ⟨_, rfl, a, ns, 4, rfl, s0.seq hS, hlen, fun hu H1 s1 => ?_, fun us hu H1 p1 s1 n1 g1 => ?_⟩
    · refine ⟨_, rfl, rfl, _, rfl, iteT (kN (by unfold readTaskP; rw [ht, hu]; rfl) _ (s0.trans s1))⟩
    refine ⟨_, rfl, rfl, _, rfl, iteF ?_⟩
    have s01 := s0.trans s1
    refine ⟨_, _, rfl, rfl, _, rfl, p1, _, rfl, .inl (SqL.of g1), _, _, rfl, rfl, ?_⟩
    have e5 : (4 : Int) + 1 + ((us.map V.int).length : Int) = ((5 + us.length : Nat) : Int) := by rw [List.length_map]; omega
    dsimp only
    rw [e5]
    refine ⟨_, rfl, _, rfl, a, ns, 5 + us.length, rfl, s01.seq hS, hlen, fun hv H2 s2 => ?_, fun vs hv H2 p2 s2 n2 g2 => ?_⟩
    · refine ⟨_, rfl, rfl, _, rfl, iteT (kN (by unfold readTaskP; rw [ht, hu]; simp only [hv, if_true]) _ (s01.trans s2))⟩
    refine ⟨_, rfl, rfl, _, rfl, iteF ?_⟩
    have s02 := s01.trans s2
    refine ⟨_, rfl, _, _, rfl, rfl, _, rfl, p2, _, rfl, .inl (SqL.of g2), _, _, rfl, rfl, _, rfl, a, _, rfl, .inl (s02.seq hS), rfl, _, rfl, ite_ndV (fun he => ?_) fun he => kN (by
      unfold readTaskP
      rw [ht, hu]
      simp only [hv, if_true]
      rw [if_neg]
      intro q
      refine he ?_
      rw [List.length_map, List.length_map]
      omega) _ s02⟩
    rw [List.length_map, List.length_map] at he
    have hP : readTaskP ns = some ⟨ns.take 4, us, vs⟩ := by
      unfold readTaskP
      rw [ht, hu]
      simp only [hv, if_true]
      rw [if_pos (by omega)]
    obtain ⟨p, d, c, o, e4, b1, b2, b3, b4, b5, b6, b7, b8⟩ := timesFit_iff.mp ht
    refine ⟨_, rfl, _, rfl, _, rfl, fun x dx nx ndx nex => ?_⟩
    have g0' : H2 p0 = some (.lst ([p, d, c, o].map V.int)) := by rw [← e4]; exact s2 _ _ (s1 _ _ g0)
    have sx : ∀ b ob, H2 b = some ob → upd (upd H2 dx (.own x)) x (.ins T.c_Task dx []) b = some ob := fun b ob e => by
      rw [upd_ne (ne_of_none e nx), upd_ne (ne_of_none e ndx)]; exact e
    refine ⟨x, dx, p0, p1, p2, p, d, c, o, rfl, upd_same, SqL.of (sx _ _ g0'), ne_of_none g0' nx, fun H3 h3 k3 => ⟨rfl, ?_⟩⟩
    have s3 : Same H2 H3 := fun b ob e => k3 b ob (sx b ob e) (ne_of_none e nx)
    refine kS _ hP H3 x (s02.trans s3) ⟨s02.free nx, dx, p1, p2, s0.free n1, s01.free n2, ?_, ?_, ?_⟩
    · rw [h3]
      have et : ∀ z : Int, 0 ≤ z → ((z.toNat : Nat) : Int) = z := fun z h => by omega
      show some (HO.ins T.c_Task dx (taskF (.int p) (.int d) (.int c) (.int o) (.ref p1) (.ref p2))) = some (HO.ins T.c_Task dx (taskF (.int (((ns.take 4).getD 0 0).toNat : Nat)) (.int (((ns.take 4).getD 1 0).toNat : Nat)) (.int (((ns.take 4).getD 2 0).toNat : Nat)) (.int (((ns.take 4).getD 3 0).toNat : Nat)) (.ref p1) (.ref p2)))
      rw [e4]
      show _ = some (HO.ins T.c_Task dx (taskF (.int (p.toNat : Nat)) (.int (d.toNat : Nat)) (.int (c.toNat : Nat)) (.int (o.toNat : Nat)) (.ref p1) (.ref p2)))
      rw [et p (by omega), et d (by omega), et c (by omega), et o b7]
    · rw [s3 _ _ (s2 _ _ g1)]
      have nn := readLines_nn hu
      show _ = some (HO.lst ((toInts (toNats us)).map V.int))
      rw [toInts_toNats nn]
    · rw [s3 _ _ g2]
      have nn := readLines_nn hv
      show _ = some (HO.lst ((toInts (toNats vs)).map V.int))
      rw [toInts_toNats nn]
open Vawctg (Task toInts toNats taskRow reading State Call isTask)
def heldF (a b c : V) : List (Str × V) := [("tasks", a), ("order", b), ("line_cost", c)]
structure HeldIn (T : Top_ K mg) (H : Hp) (O R : Addr → Prop) (a dx lt lo : Addr) (ts : List Addr) (st : State) : Prop where
  oa : O a
  olt : O lt
  olo : O lo
  oR : ∀ b, R b → O b
  na : ¬ R a
  nlt : ¬ R lt
  nlo : ¬ R lo
  ne : lt ≠ lo
  ins : H a = some (.ins T.c_Held dx (heldF (.ref lt) (.ref lo) (.int st.reload)))
  lst : H lt = some (.lst (ts.map V.ref))
  ord : H lo = some (.lst (vInts st.order))
  tsk : Paired (fun p t => TaskAt T H R p t) ts st.tasks
  tab : TabAt H (fun b => O b ∧ ¬ R b) T.pt_Held_sort_order lp_Held_sort_order lq_Held_sort_order
def HeldAt (T : Top_ K mg) (H : Hp) (O : Addr → Prop) (a : Addr) (st : State) : Prop := ∃ R dx lt lo ts, HeldIn T H O R a dx lt lo ts st
theorem HeldIn.len {T : Top_ K mg} {H : Hp} {O R : Addr → Prop} {a dx lt lo : Addr} {ts : List Addr} {st : State} (h : HeldIn T H O R a dx lt lo ts st) : ts.length = st.tasks.length := Paired.length h.tsk
theorem HeldIn.nat {T : Top_ K mg} {H : Hp} {O R : Addr → Prop} {a dx lt lo : Addr} {ts : List Addr} {st : State} (h : HeldIn T H O R a dx lt lo ts st) : a ≠ lt ∧ a ≠ lo :=
  ⟨ne_of h.ins h.lst (by intro z; cases z), ne_of h.ins h.ord (by intro z; cases z)⟩
theorem HeldIn.keep {T : Top_ K mg} {H H' : Hp} {O O' R : Addr → Prop} {a dx lt lo : Addr} {ts : List Addr} {st : State} (h : HeldIn T H O R a dx lt lo ts st) (hk : ∀ b o, O b → H b = some o → O' b ∧ H' b = some o) :
    HeldIn T H' O' (fun b => R b ∧ O' b) a dx lt lo ts st where
  oa := (hk _ _ h.oa h.ins).1
  olt := (hk _ _ h.olt h.lst).1
  olo := (hk _ _ h.olo h.ord).1
  oR := fun b hb => hb.2
  na := fun z => h.na z.1
  nlt := fun z => h.nlt z.1
  nlo := fun z => h.nlo z.1
  ne := h.ne
  ins := (hk _ _ h.oa h.ins).2
  lst := (hk _ _ h.olt h.lst).2
  ord := (hk _ _ h.olo h.ord).2
  tsk := Paired.mapP h.tsk fun p t ht => ht.keep fun b o hb e => ⟨⟨hb, (hk b o (h.oR b hb) e).1⟩, (hk b o (h.oR b hb) e).2⟩
  tab := h.tab.keep fun b o hb e _ _ => ⟨⟨(hk b o hb.1 e).1, fun z => hb.2 z.1⟩, (hk b o hb.1 e).2⟩
theorem HeldAt.keep {T : Top_ K mg} {H H' : Hp} {O O' : Addr → Prop} {a : Addr} {st : State} (h : HeldAt T H O a st) (hk : ∀ b o, O b → H b = some o → O' b ∧ H' b = some o) : HeldAt T H' O' a st := by
  obtain ⟨R, dx, lt, lo, ts, h⟩ := h
  exact ⟨_, dx, lt, lo, ts, h.keep hk⟩
def Post (T : Top_ K mg) (H : Hp) (O : Addr → Prop) (a : Addr) (r : State × List Int) (Q : VK) : Prop :=
  ∀ (H' : Hp) (O' : Addr → Prop) (p : Addr), HeldAt T H' O' a r.1 → (∀ b, O' b → O b ∨ H b = none) → (∀ b o, H b = some o → ¬ O b → H' b = some o) → H p = none → ¬ O' p → H' p = some (.lst (r.2.map V.int)) → Q (.ref p) H'
theorem Post.asks {T : Top_ K mg} {H H1 : Hp} {O : Addr → Prop} {a p : Addr} {st : State} {r : State × List Int} {Q : VK} {xs : List V} (k : Post T H O a r Q) (h : HeldAt T H O a st) (e : r.1 = st) (s : Same H H1) (hp : H1 p = none) (ex : xs = r.2.map V.int) :
    Q (.ref p) (upd H1 p (.lst xs)) := by
  subst ex
  refine k _ (fun b => O b ∧ b ≠ p) p (e ▸ h.keep fun b o hb eb => ⟨⟨hb, ne_of_none (s _ _ eb) hp⟩, ?_⟩) (fun b hb => .inl hb.1) (fun b o eb _ => ?_) (s.free hp) (fun z => z.2 rfl) upd_same
  · rw [upd_ne (ne_of_none (s _ _ eb) hp)]; exact s _ _ eb
  · rw [upd_ne (ne_of_none (s _ _ eb) hp)]; exact s _ _ eb
theorem Post.asks' {T : Top_ K mg} {H H1 : Hp} {O : Addr → Prop} {a p : Addr} {st : State} {r : State × List Int} {Q : VK} {xs : List V} (k : Post T H O a r Q) (h : HeldAt T H O a st) (e : r.1 = st) (s : Same H H1) (hp : H p = none) (hq : H1 p = some (.lst xs)) (ex : xs = r.2.map V.int) :
    Q (.ref p) H1 := by
  subst ex
  exact k _ (fun b => O b ∧ b ≠ p) p (e ▸ h.keep fun b o hb eb => ⟨⟨hb, ne_of_none eb hp⟩, s _ _ eb⟩) (fun b hb => .inl hb.1) (fun b o eb _ => s _ _ eb) hp (fun z => z.2 rfl) hq
def sp_Held___init__ (T : Top_ K mg) : Sp := fun vs H Q _ => ∃ (x dx : Addr) (O0 : Addr → Prop), vs = [.ref x] ∧ H x = some (.ins T.c_Held dx []) ∧ TabAt H O0 T.pt_Held_sort_order lp_Held_sort_order lq_Held_sort_order ∧
  ∀ (H' : Hp) (O : Addr → Prop), HeldAt T H' O x Vawctg.start → (∀ b, O b → b = x ∨ H b = none ∨ O0 b) → (∀ b o, H b = some o → b ≠ x → H' b = some o) → Q .non H'
theorem ok_Held___init__ (T : Top_ K mg) : FnOk P w K mg base CX0 1 T.a_Held___init__ T.d_Held___init__ ["self"] (sp_Held___init__ T) := by
  refine T.F_Held___init__.ok sc_Held___init__ (fun vs H Q E h => ?_) (fun cdv A outer s H vs Q E hr h => ?_)
  · obtain ⟨x, dx, O0, rfl, _⟩ := h
    rfl
  · obtain ⟨x, dx, O0, rfl, hx, htab, k⟩ := h
    refine ⟨_, (pss_cons (ps_fld (pv 0) (pe_lst pa_nil) rfl)
      (pss_cons (ps_fld (pv 0) (pe_lst pa_nil) rfl)
      (pss_one (ps_fld (pv 0) pe_int rfl)))), ?_⟩
    refine ⟨Nat.zero_le _, fun l1 n1 => ⟨_, rfl, x, _, dx, _, rfl, (by rw [upd_ne (ne_of_none hx n1)]; exact hx), T.cl_Held, T.n_Held_tasks, (by show 0 < 1000; decide), ?_⟩⟩
    refine ⟨Nat.zero_le _, fun l2 n2 => ⟨_, rfl, x, _, dx, _, rfl, Eq.trans (upd_ne (ne_of_none upd_same n2)) upd_same, T.cl_Held, T.n_Held_order, (by show 1 < 1000; decide), ?_⟩⟩
    · have x2 : x ≠ l2 := ne_of_none upd_same n2
      have x1 : x ≠ l1 := ne_of_none hx n1
      have l12 : l1 ≠ l2 := by
        refine ne_of_none (H := upd (upd H l1 (.lst [])) x (.ins T.c_Held dx (putF "tasks" (.ref l1) []))) (o := .lst []) ?_ n2
        rw [upd_ne (Ne.symm x1), upd_same]
      refine ⟨_, rfl, x, _, dx, _, rfl, upd_same, T.cl_Held, T.n_Held_line_cost, (by show 2 < 1000; decide), ?_⟩
      have hn2 : H l2 = none := by
        have := n2
        rw [upd_ne (Ne.symm x2), upd_ne (Ne.symm l12)] at this
        exact this
      refine k _ (fun b => b = x ∨ b = l1 ∨ b = l2 ∨ O0 b) ⟨fun _ => False, dx, l1, l2, [], ?_⟩ ?_ ?_
      · refine ⟨.inl rfl, .inr (.inl rfl), .inr (.inr (.inl rfl)), fun b z => z.elim, id, id, id, l12, ?_, ?_, ?_, .nil, htab.keep fun b o hb e nl ni => ⟨⟨.inr (.inr (.inr hb)), id⟩, ?_⟩⟩
        · rw [upd_same]
          rfl
        · rw [upd_ne (Ne.symm x1), upd_ne (Ne.symm x1), upd_ne l12, upd_ne (Ne.symm x1), upd_same]
          rfl
        · rw [upd_ne (Ne.symm x2), upd_ne (Ne.symm x2), upd_same]
          rfl
        · have hb : b ≠ x := fun z => by rw [z, hx] at e; exact ni _ _ _ (Option.some.inj e).symm
          rw [upd_ne hb, upd_ne hb, upd_ne (ne_of_none e hn2), upd_ne hb, upd_ne (ne_of_none e n1)]
          exact e
      · rintro b (rfl | rfl | rfl | hb)
        · exact .inl rfl
        · exact .inr (.inl n1)
        · exact .inr (.inl hn2)
        · exact .inr (.inr hb)
      · intro b o e hb
        rw [upd_ne hb, upd_ne hb, upd_ne (ne_of_none e hn2), upd_ne hb, upd_ne (ne_of_none e n1)]
        exact e
def sp_Held_has_task (T : Top_ K mg) : Sp := fun vs H Q _ => ∃ (a : Addr) (O : Addr → Prop) (st : State) (i : Int), vs = [.ref a, .int i] ∧ HeldAt T H O a st ∧ Q (.bl (isTask st i)) H
theorem ok_Held_has_task (T : Top_ K mg) : FnOk P w K mg base CX0 1 T.a_Held_has_task T.d_Held_has_task ["self", "i"] (sp_Held_has_task T) := by
  refine T.F_Held_has_task.ok sc_Held_has_task (fun vs H Q E h => ?_) (fun cdv A outer s H vs Q E hr h => ?_)
  · obtain ⟨a, O, st, i, rfl, _⟩ := h
    rfl
  · obtain ⟨a, O, st, i, rfl, ⟨R, dx, lt, lo, ts, h⟩, k⟩ := h
    refine ⟨_, (pss_one (ps_ret (pe_chain op_le op_lt pe_int (pv 1) (pe_callB call_len_seq (by rfl) T.x_len PySem.boot_len (pa_cons (pe_fld (pv 0) rfl) pa_nil))))), ?_⟩
    have hl := h.len
    have k' : ∀ b, isTask st i = b → Q (.bl b) H := fun b e => e ▸ k
    refine ⟨_, rfl, _, _, rfl, rfl, _, rfl, ite_d (fun h1 => ?_) fun h1 => k' _ ?_⟩
    · refine ⟨_, rfl, a, _, dx, _, _, rfl, h.ins, T.cl_Held, T.n_Held_tasks, rfl, lt, _, rfl, .inl (SqL.of h.lst), _, _, rfl, rfl, k' _ ?_⟩
      unfold isTask
      rw [List.length_map, hl, decide_eq_true h1, Bool.true_and]
    · unfold isTask
      rw [decide_eq_false h1, Bool.false_and]
def sp_Held_set_reload (T : Top_ K mg) : Sp := fun vs H Q _ => ∃ (a : Addr) (O : Addr → Prop) (st : State) (n : Int), vs = [.ref a, .int n] ∧ HeldAt T H O a st ∧ WF st ∧ Post T H O a (Vawctg.step st (.reload n)) Q
theorem ok_Held_set_reload (T : Top_ K mg) : FnOk P w K mg base CX0 1 T.a_Held_set_reload T.d_Held_set_reload ["self", "n"] (sp_Held_set_reload T) := by
  refine T.F_Held_set_reload.ok sc_Held_set_reload (fun vs H Q E h => ?_) (fun cdv A outer s H vs Q E hr h => ?_)
  · obtain ⟨a, O, st, n, rfl, _⟩ := h
    rfl
  · obtain ⟨a, O, st, n, rfl, hH, wf, k⟩ := h
    refine ⟨_, (pss_cons (ps_if (pt_not (pt_chain op_le op_le pe_int (pv 1) (pe_glob (v := .int (20)) rfl T.m_MOST_RELOAD ⟨_, rfl⟩)))
      (pss_one (ps_ret (pe_lst (pa_cons (pe_glob (v := .int (-7)) rfl T.m_OUT_OF_RANGE ⟨_, rfl⟩) pa_nil))))
      pss_nil)
      (pss_cons (ps_fld (pv 0) (pv 1) rfl)
      (pss_one (ps_ret (pe_lst (pa_cons (pe_glob (v := .int (0)) rfl T.m_DONE ⟨_, rfl⟩) pa_nil)))))), ?_⟩
    have e20 : (Vawctg.RELOAD : Int) = 20 := rfl
    have bad : ¬ (0 ≤ n ∧ n ≤ 20) → Vawctg.step st (.reload n) = (st, [-7]) := fun h => by
      unfold Vawctg.step
      exact if_pos (by omega)
    have kf : ¬ (0 ≤ n ∧ n ≤ 20) → ∀ p, H p = none → Q (.ref p) (upd H p (.lst [.int (-7)])) := fun h p hp => by
      rw [bad h] at k
      exact k.asks hH rfl (Same.refl _) hp rfl
    refine ⟨_, rfl, _, _, rfl, rfl, _, rfl, ite_d (fun h1 => ?_) fun h1 => ⟨_, rfl, iteT ⟨(by show 1 ≤ sizeLine; decide), kf (by omega)⟩⟩⟩
    refine ⟨_, _, rfl, rfl, _, rfl, ite_nd (fun h2 => ?_) fun h2 => ⟨(by show 1 ≤ sizeLine; decide), kf (by omega)⟩⟩
    obtain ⟨R, dx, lt, lo, ts, h⟩ := hH
    refine ⟨_, rfl, _, rfl, a, _, dx, _, rfl, h.ins, T.cl_Held, T.n_Held_line_cost, (by show 3 < 1000; decide), ?_⟩
    refine ⟨(by show 1 ≤ sizeLine; decide), fun p hp => ?_⟩
    have hs : Vawctg.step st (.reload n) = ({ st with reload := n.toNat }, [0]) := by
      unfold Vawctg.step
      exact if_neg (by omega)
    rw [hs] at k
    have hpa : a ≠ p := ne_of_none upd_same hp
    have hp' : H p = none := by
      rw [upd_ne (Ne.symm hpa)] at hp
      exact hp
    have np : ∀ b o, H b = some o → b ≠ p := fun b o e => ne_of_none e hp'
    have go : ∀ b o, H b = some o → b ≠ a → upd (upd H a (.ins T.c_Held dx (putF "line_cost" (.int n) (heldF (.ref lt) (.ref lo) (.int st.reload))))) p (.lst [.int 0]) b = some o := fun b o e hb => by
      rw [upd_ne (np b o e), upd_ne hb]; exact e
    refine k _ (fun b => O b ∧ b ≠ p) p ⟨fun b => R b ∧ b ≠ p, dx, lt, lo, ts, ?_⟩ (fun b hb => .inl hb.1) (fun b o e hb => go b o e fun z => hb (z ▸ h.oa)) hp' (fun z => z.2 rfl) upd_same
    refine ⟨⟨h.oa, hpa⟩, ⟨h.olt, np _ _ h.lst⟩, ⟨h.olo, np _ _ h.ord⟩, fun b z => ⟨h.oR b z.1, z.2⟩, fun z => h.na z.1, fun z => h.nlt z.1, fun z => h.nlo z.1, h.ne, ?_, go _ _ h.lst (Ne.symm h.nat.1), go _ _ h.ord (Ne.symm h.nat.2), ?_, h.tab.keep fun b o hb e nl ni => ⟨⟨⟨hb.1, np b o e⟩, fun z => hb.2 z.1⟩, go b o e fun z => by rw [z, h.ins] at e; exact ni _ _ _ (Option.some.inj e).symm⟩⟩
    · rw [upd_ne hpa, upd_same]
      show some (HO.ins T.c_Held dx (heldF (.ref lt) (.ref lo) (.int n))) = some (HO.ins T.c_Held dx (heldF (.ref lt) (.ref lo) (.int (n.toNat : Nat))))
      rw [show ((n.toNat : Nat) : Int) = n by omega]
    · exact Paired.mapP h.tsk fun p' t ht => ht.keep fun b o hb e => ⟨⟨hb, np b o e⟩, go b o e fun z => h.na (z ▸ hb)⟩
theorem vInts_append (l m : List Nat) : vInts (l ++ m) = vInts l ++ vInts m := by simp [vInts, toInts]
def sp_Held_add_task (T : Top_ K mg) : Sp := fun vs H Q _ => ∃ (a b : Addr) (O : Addr → Prop) (st : State) (ns : List Int), vs = [.ref a, .ref b] ∧ HeldAt T H O a st ∧ WF st ∧ SqL K H b (ns.map V.int) ∧ ns.length ≤ 1000 ∧ Post T H O a (Vawctg.step st (.task ns)) Q
theorem ok_Held_add_task (T : Top_ K mg) : FnOk P w K mg base CX0 4 T.a_Held_add_task T.d_Held_add_task ["self", "numbers"] (sp_Held_add_task T) := by
  refine T.F_Held_add_task.ok sc_Held_add_task (fun vs H Q E h => ?_) (fun cdv A outer s H vs Q E hr h => ?_)
  · obtain ⟨a, b, O, st, ns, rfl, _⟩ := h
    rfl
  · obtain ⟨a, b, O, st, ns, rfl, hH, wf, hS, hlen, k⟩ := h
    refine ⟨_, (pss_cons (ps_set (i := 2) sc_Held_add_task.nd rfl (.inl rfl) (pe_call (ok_read_task T) (hr.mono (by decide)) rfl T.m_read_task T.F_read_task.kp T.b_read_task .nil pass0 (pa_cons (pv 1) pa_nil)))
      (pss_cons (ps_if (pt_cmpR op_isN (pv 2) pe_non (nomark _))
      (pss_one (ps_ret (pe_lst (pa_cons (pe_glob (v := .int (-12)) rfl T.m_WRONG_LIST ⟨_, rfl⟩) pa_nil))))
      pss_nil)
      (pss_cons (ps_set (i := 3) sc_Held_add_task.nd rfl (.inl rfl) (pe_callB call_len_seq (by rfl) T.x_len PySem.boot_len (pa_cons (pe_fld (pv 0) rfl) pa_nil)))
      (pss_cons (ps_if (pt_cmpR op_eq (pv 3) (pe_glob (v := .int (6)) rfl T.m_MOST_TASKS ⟨_, rfl⟩) (nomark _))
      (pss_one (ps_ret (pe_lst (pa_cons (pe_glob (v := .int (-9)) rfl T.m_TOO_MANY ⟨_, rfl⟩) pa_nil))))
      pss_nil)
      (pss_cons (ps_expr (pe_bm PySem.F.plainAttrs_list PySem.F.slot_list_append PySem.F.type_list_append mt_append (pe_fld (pv 0) rfl) (pa_cons (pv 2) pa_nil)))
      (pss_cons (ps_expr (pe_bm PySem.F.plainAttrs_list PySem.F.slot_list_append PySem.F.type_list_append mt_append (pe_fld (pv 0) rfl) (pa_cons (pv 3) pa_nil)))
      (pss_one (ps_ret (pe_lst (pa_cons (pe_glob (v := .int (0)) rfl T.m_DONE ⟨_, rfl⟩) (pa_cons (pv 3) pa_nil))))))))))), ?_⟩
    refine ⟨_, rfl, b, ns, rfl, hS, hlen, fun hN H1 s1 => ?_, fun t ht H1 p1 s1 hT => ?_⟩
    · refine ⟨_, rfl, rfl, _, rfl, iteT ⟨(by show 1 ≤ sizeLine; decide), fun p hp => ?_⟩⟩
      have e : Vawctg.step st (.task ns) = (st, [-12]) := by unfold Vawctg.step; simp only [hN]
      rw [e] at k
      exact k.asks hH rfl s1 hp rfl
    refine ⟨_, rfl, rfl, _, rfl, iteF ?_⟩
    have hH' := hH
    obtain ⟨R, dx, lt, lo, ts, h⟩ := hH'
    have hl := h.len
    have hsl := sizeLine_eq
    refine ⟨_, rfl, a, _, dx, _, _, rfl, s1 _ _ h.ins, T.cl_Held, T.n_Held_tasks, rfl, lt, _, rfl, .inl (SqL.of (s1 _ _ h.lst)), ?_⟩
    refine ⟨_, rfl, rfl, _, rfl, ite_dV (fun h6 => ?_) fun h6 => ?_⟩
    · refine ⟨(by show 1 ≤ sizeLine; decide), fun p hp => ?_⟩
      have e : Vawctg.step st (.task ns) = (st, [-9]) := by
        unfold Vawctg.step
        simp only [ht]
        rw [if_pos]
        rw [List.length_map] at h6
        show 6 ≤ st.tasks.length
        omega
      rw [e] at k
      exact k.asks hH rfl s1 hp rfl
    · have e : Vawctg.step st (.task ns) = ({ st with tasks := st.tasks ++ [t], order := st.order ++ [st.tasks.length] }, 0 :: toInts [st.tasks.length]) := by
        unfold Vawctg.step
        simp only [ht]
        rw [if_neg]
        have := wf.n6
        rw [List.length_map] at h6
        show ¬ 6 ≤ st.tasks.length
        omega
      rw [e] at k
      have hol : st.order.length = st.tasks.length := by simpa using wf.ord.length_eq
      have h6' := wf.n6
      refine ⟨_, rfl, a, _, dx, _, _, rfl, s1 _ _ h.ins, T.cl_Held, T.n_Held_tasks, rfl, .inl ⟨rfl, _, SqL.of (s1 _ _ h.lst)⟩, _, rfl, lt, _, _, rfl, rfl, s1 _ _ h.lst, (by rw [List.length_map]; omega), ?_⟩
      have hol2 := vInts_len st.order
      refine ⟨_, rfl, a, _, dx, _, _, rfl, Eq.trans (upd_ne h.nat.1) (s1 _ _ h.ins), T.cl_Held, T.n_Held_order, rfl, .inl ⟨rfl, _, SqL.of (Eq.trans (upd_ne (Ne.symm h.ne)) (s1 _ _ h.ord))⟩, _, rfl, lo, _, _, rfl, rfl,
        Eq.trans (upd_ne (Ne.symm h.ne)) (s1 _ _ h.ord), (by omega), ?_⟩
      refine ⟨_, rfl, (by show 2 ≤ sizeLine; decide), fun q hq => ?_⟩
      have nlo : lo ≠ q := ne_of_none upd_same hq
      rw [upd_ne (Ne.symm nlo)] at hq
      have nlt : lt ≠ q := ne_of_none upd_same hq
      rw [upd_ne (Ne.symm nlt)] at hq
      have nq : ∀ b o, H1 b = some o → b ≠ q := fun b o e => ne_of_none e hq
      have go : ∀ b o, H1 b = some o → b ≠ lt → b ≠ lo → upd (upd (upd H1 lt (.lst (ts.map V.ref ++ [V.ref p1]))) lo (.lst (vInts st.order ++ [V.int ((ts.map V.ref).length : Nat)]))) q (.lst [.int 0, .int ((ts.map V.ref).length : Nat)]) b = some o := fun b o e h1 h2 => by
        rw [upd_ne (nq b o e), upd_ne h2, upd_ne h1]; exact e
      refine k _ (fun b => (O b ∨ H b = none) ∧ b ≠ q) q ⟨fun b => (R b ∨ H b = none) ∧ b ≠ q, dx, lt, lo, ts ++ [p1], ?_⟩ (fun b hb => hb.1) (fun b o e hb => go b o (s1 _ _ e) (fun z => hb (z ▸ h.olt)) fun z => hb (z ▸ h.olo)) (s1.free hq) (fun z => z.2 rfl) ?_
      · refine ⟨⟨.inl h.oa, nq _ _ (s1 _ _ h.ins)⟩, ⟨.inl h.olt, nlt⟩, ⟨.inl h.olo, nlo⟩, fun b z => ⟨z.1.imp (h.oR b) id, z.2⟩, ?_, ?_, ?_, h.ne, go _ _ (s1 _ _ h.ins) h.nat.1 h.nat.2, ?_, ?_, ?_, h.tab.keep fun b o hb e nl ni => ⟨⟨⟨.inl hb.1, nq b o (s1 _ _ e)⟩, ?_⟩, go b o (s1 _ _ e) (fun z => by rw [z, h.lst] at e; exact nl _ (Option.some.inj e).symm) fun z => by rw [z, h.ord] at e; exact nl _ (Option.some.inj e).symm⟩⟩
        · rintro ⟨z | z, _⟩
          · exact h.na z
          · rw [h.ins] at z; cases z
        · rintro ⟨z | z, _⟩
          · exact h.nlt z
          · rw [h.lst] at z; cases z
        · rintro ⟨z | z, _⟩
          · exact h.nlo z
          · rw [h.ord] at z; cases z
        · rw [upd_ne nlt, upd_ne h.ne, upd_same, List.map_append]
          rfl
        · rw [upd_ne nlo, upd_same, vInts_append, List.length_map, hl]
          rfl
        · refine Paired.snoc (Paired.mapP h.tsk fun p t ht => ht.keep fun b o hb e => ⟨⟨.inl hb, nq b o (s1 _ _ e)⟩, go b o (s1 _ _ e) (fun z => h.nlt (z ▸ hb)) fun z => h.nlo (z ▸ hb)⟩) ?_
          refine hT.keep fun b o hb e => ⟨⟨.inr hb, nq b o e⟩, go b o e (fun z => ?_) fun z => ?_⟩
          · rw [z, h.lst] at hb; cases hb
          · rw [z, h.ord] at hb; cases hb
        · rintro ⟨z | z, _⟩
          · exact hb.2 z
          · rw [e] at z; cases z
      · rw [upd_same, List.length_map, hl]
        rfl
theorem Paired.setBoth {α β : Type} {F : α → β → Prop} {a : α} {b : β} : ∀ {l : List α} {m : List β} (i : Nat), Paired F l m → F a b → Paired F (l.set i a) (m.set i b)
  | _, _, _, .nil, _ => .nil
  | _, _, 0, .cons _ t, h => .cons h t
  | _, _, i + 1, .cons r t, h => .cons r (Paired.setBoth i t h)
theorem Paired.erase {α β : Type} {F : α → β → Prop} : ∀ {l : List α} {m : List β} (i : Nat), Paired F l m → Paired F (l.eraseIdx i) (m.eraseIdx i)
  | _, _, _, .nil => .nil
  | _, _, 0, .cons _ t => t
  | _, _, i + 1, .cons r t => .cons r (Paired.erase i t)
theorem isTask_iff {st : State} {i : Int} : isTask st i = true ↔ 0 ≤ i ∧ i < (st.tasks.length : Int) := by
  unfold isTask
  rw [Bool.and_eq_true, decide_eq_true_eq, decide_eq_true_eq]
theorem ixN_of {n : Nat} {i : Int} (h : 0 ≤ i ∧ i < (n : Int)) : ixN n i = some i.toNat := by
  unfold ixN
  rw [if_pos h.1, if_pos h.2]
def sp_Held_change_task (T : Top_ K mg) : Sp := fun vs H Q _ => ∃ (a b : Addr) (O : Addr → Prop) (st : State) (i : Int) (ns : List Int), vs = [.ref a, .int i, .ref b] ∧ HeldAt T H O a st ∧ WF st ∧ SqL K H b (ns.map V.int) ∧ ns.length ≤ 1000 ∧ Post T H O a (Vawctg.step st (.retask i ns)) Q
theorem ok_Held_change_task (T : Top_ K mg) : FnOk P w K mg base CX0 4 T.a_Held_change_task T.d_Held_change_task ["self", "i", "numbers"] (sp_Held_change_task T) := by
  refine T.F_Held_change_task.ok sc_Held_change_task (fun vs H Q E h => ?_) (fun cdv A outer s H vs Q E hr h => ?_)
  · obtain ⟨a, b, O, st, i, ns, rfl, _⟩ := h
    rfl
  · obtain ⟨a, b, O, st, i, ns, rfl, hH, wf, hS, hlen, k⟩ := h
    refine ⟨_, (pss_cons (ps_if (pt_not (pt_val (pe_meth (pv 0) T.cl_Held T.M_Held_has_task (ok_Held_has_task T) (hr.mono (by decide)) T.b_Held_has_task .nil pass0 (pa_cons (pv 1) pa_nil))))
      (pss_one (ps_ret (pe_lst (pa_cons (pe_glob (v := .int (-3)) rfl T.m_NO_TASK ⟨_, rfl⟩) pa_nil))))
      pss_nil)
      (pss_cons (ps_set (i := 3) sc_Held_change_task.nd rfl (.inl rfl) (pe_call (ok_read_task T) (hr.mono (by decide)) rfl T.m_read_task T.F_read_task.kp T.b_read_task .nil pass0 (pa_cons (pv 2) pa_nil)))
      (pss_cons (ps_if (pt_cmpR op_isN (pv 3) pe_non (nomark _))
      (pss_one (ps_ret (pe_lst (pa_cons (pe_glob (v := .int (-12)) rfl T.m_WRONG_LIST ⟨_, rfl⟩) pa_nil))))
      pss_nil)
      (pss_cons (ps_asg (pv 3) (pg_sub (pe_fld (pv 0) rfl) (pv 1) set_list))
      (pss_one (ps_ret (pe_lst (pa_cons (pe_glob (v := .int (0)) rfl T.m_DONE ⟨_, rfl⟩) pa_nil)))))))), ?_⟩
    have hH' := hH
    obtain ⟨R, dx, lt, lo, ts, h⟩ := hH'
    refine ⟨_, rfl, a, dx, _, rfl, h.ins, rfl, _, rfl, a, O, st, i, rfl, hH, _, rfl, ite_nb (fun hi => ?_) fun hi => ?_⟩
    rotate_left
    · refine ⟨(by show 1 ≤ sizeLine; decide), fun p hp => ?_⟩
      have e : Vawctg.step st (.retask i ns) = (st, [-3]) := by unfold Vawctg.step; simp only [hi]; rfl
      rw [e] at k
      exact k.asks hH rfl (Same.refl _) hp rfl
    have hi' := isTask_iff.mp hi
    refine ⟨_, rfl, b, ns, rfl, hS, hlen, fun hN H1 s1 => ?_, fun t ht H1 p1 s1 hT => ?_⟩
    · refine ⟨_, rfl, rfl, _, rfl, iteT ⟨(by show 1 ≤ sizeLine; decide), fun p hp => ?_⟩⟩
      have e : Vawctg.step st (.retask i ns) = (st, [-12]) := by unfold Vawctg.step; simp only [hi, hN]; rfl
      rw [e] at k
      exact k.asks hH rfl s1 hp rfl
    refine ⟨_, rfl, rfl, _, rfl, iteF ?_⟩
    have hl := h.len
    have e : Vawctg.step st (.retask i ns) = ({ st with tasks := st.tasks.set i.toNat t }, [0]) := by unfold Vawctg.step; simp only [hi, ht]; rfl
    rw [e] at k
    refine ⟨_, rfl, _, rfl, a, _, dx, _, _, rfl, s1 _ _ h.ins, T.cl_Held, T.n_Held_tasks, rfl, _, rfl, lt, _, i, _, rfl, rfl, s1 _ _ h.lst, ixN_of (by rw [List.length_map, hl]; exact hi'), ?_⟩
    refine ⟨(by show 1 ≤ sizeLine; decide), fun q hq => ?_⟩
    have nlt : lt ≠ q := ne_of_none upd_same hq
    rw [upd_ne (Ne.symm nlt)] at hq
    have nq : ∀ b o, H1 b = some o → b ≠ q := fun b o e => ne_of_none e hq
    have go : ∀ b o, H1 b = some o → b ≠ lt → upd (upd H1 lt (.lst ((ts.map V.ref).set i.toNat (V.ref p1)))) q (.lst [.int 0]) b = some o := fun b o e h1 => by
      rw [upd_ne (nq b o e), upd_ne h1]; exact e
    refine k _ (fun b => (O b ∨ H b = none) ∧ b ≠ q) q ⟨fun b => (R b ∨ H b = none) ∧ b ≠ q, dx, lt, lo, ts.set i.toNat p1, ?_⟩ (fun b hb => hb.1) (fun b o e hb => go b o (s1 _ _ e) fun z => hb (z ▸ h.olt)) (s1.free hq) (fun z => z.2 rfl) upd_same
    refine ⟨⟨.inl h.oa, nq _ _ (s1 _ _ h.ins)⟩, ⟨.inl h.olt, nlt⟩, ⟨.inl h.olo, nq _ _ (s1 _ _ h.ord)⟩, fun b z => ⟨z.1.imp (h.oR b) id, z.2⟩, ?_, ?_, ?_, h.ne, go _ _ (s1 _ _ h.ins) h.nat.1, ?_, go _ _ (s1 _ _ h.ord) (Ne.symm h.ne), ?_, h.tab.keep fun b o hb e nl ni => ⟨⟨⟨.inl hb.1, nq b o (s1 _ _ e)⟩, ?_⟩, go b o (s1 _ _ e) fun z => by rw [z, h.lst] at e; exact nl _ (Option.some.inj e).symm⟩⟩
    · rintro ⟨z | z, _⟩
      · exact h.na z
      · rw [h.ins] at z; cases z
    · rintro ⟨z | z, _⟩
      · exact h.nlt z
      · rw [h.lst] at z; cases z
    · rintro ⟨z | z, _⟩
      · exact h.nlo z
      · rw [h.ord] at z; cases z
    · rw [upd_ne nlt, upd_same, List.map_set]
    · refine Paired.setBoth _ (Paired.mapP h.tsk fun p t ht => ht.keep fun b o hb e => ⟨⟨.inl hb, nq b o (s1 _ _ e)⟩, go b o (s1 _ _ e) fun z => h.nlt (z ▸ hb)⟩) ?_
      refine hT.keep fun b o hb e => ⟨⟨.inr hb, nq b o e⟩, go b o e fun z => ?_⟩
      rw [z, h.lst] at hb; cases hb
    · rintro ⟨z | z, _⟩
      · exact hb.2 z
      · rw [e] at z; cases z
def sp_Held_tell_order (T : Top_ K mg) : Sp := fun vs H Q _ => ∃ (a : Addr) (O : Addr → Prop) (st : State), vs = [.ref a] ∧ HeldAt T H O a st ∧ WF st ∧ Post T H O a (Vawctg.step st .ranks) Q
theorem ok_Held_tell_order (T : Top_ K mg) : FnOk P w K mg base CX0 1 T.a_Held_tell_order T.d_Held_tell_order ["self"] (sp_Held_tell_order T) := by
  refine T.F_Held_tell_order.ok sc_Held_tell_order (fun vs H Q E h => ?_) (fun cdv A outer s H vs Q E hr h => ?_)
  · obtain ⟨a, O, st, rfl, _⟩ := h
    rfl
  · obtain ⟨a, O, st, rfl, hH, wf, k⟩ := h
    refine ⟨_, (pss_one (ps_ret (pe_op op_cat (pe_lst (pa_cons (pe_glob (v := .int (0)) rfl T.m_DONE ⟨_, rfl⟩) pa_nil)) (pe_fld (pv 0) rfl)))), ?_⟩
    have hH' := hH
    obtain ⟨R, dx, lt, lo, ts, h⟩ := hH'
    have hol : st.order.length = st.tasks.length := by simpa using wf.ord.length_eq
    have hol2 := vInts_len st.order
    have h6' := wf.n6
    have hsl := sizeLine_eq
    refine ⟨(by show 1 ≤ sizeLine; decide), fun p hp => ?_⟩
    have s1 := Same.new (o := .lst [.int 0]) hp
    refine ⟨_, rfl, a, _, dx, _, _, rfl, s1 _ _ h.ins, T.cl_Held, T.n_Held_order, rfl, p, lo, _, _, rfl, rfl, upd_same, s1 _ _ h.ord, (by show 1 + _ ≤ sizeLine; omega), fun q hq => ?_⟩
    exact k.asks hH rfl s1 hq rfl
theorem map_erase {α β : Type} (f : α → β) : ∀ (l : List α) (i : Nat), (l.map f).eraseIdx i = (l.eraseIdx i).map f
  | [], _ => rfl
  | _ :: _, 0 => rfl
  | a :: r, i + 1 => by
    show f a :: (r.map f).eraseIdx i = f a :: (r.eraseIdx i).map f
    rw [map_erase f r i]
theorem fm_drop (i : Nat) : ∀ l : List Nat, (vInts l).filterMap (fun v => match v with | .int k => if k = (i : Int) then none else some (V.int k) | _ => none) = vInts (l.filter fun k => k != i)
  | [] => rfl
  | a :: r => by
    have ih := fm_drop i r
    unfold vInts toInts at ih ⊢
    rw [List.map_cons, List.map_cons, List.filterMap_cons, List.filter_cons, ih]
    by_cases h : a = i
    · subst h; simp
    · have h1 : ¬ (a : Int) = (i : Int) := by omega
      simp [h, h1]
theorem fm_shift (i : Nat) : ∀ l : List Nat, (vInts l).filterMap (fun v => match v with | .int k => some (V.int (if (i : Int) < k then k - 1 else k)) | _ => none) = vInts (l.map fun k => if i < k then k - 1 else k)
  | [] => rfl
  | a :: r => by
    have ih := fm_shift i r
    unfold vInts toInts at ih ⊢
    rw [List.map_cons, List.map_cons, List.filterMap_cons, List.map_cons, List.map_cons, List.map_cons, ih]
    simp only
    congr 2
    by_cases h : i < a
    · have h1 : (i : Int) < (a : Int) := by omega
      simp only [h, h1, if_true]
      omega
    · have h1 : ¬ (i : Int) < (a : Int) := by omega
      simp only [h, h1, if_false]
theorem vInts_at {l : List Nat} {i : Nat} {v : V} (h : (vInts l)[i]? = some v) : ∃ k : Nat, l[i]? = some k ∧ v = V.int k := by
  obtain ⟨z, hz, rfl⟩ := int_of_at h
  unfold toInts at hz
  rw [List.getElem?_map] at hz
  cases e : l[i]? with
  | none => rw [e] at hz; cases hz
  | some k => rw [e] at hz; exact ⟨k, rfl, by rw [← Option.some.inj hz]⟩
def sp_Held_drop_task (T : Top_ K mg) : Sp := fun vs H Q _ => ∃ (a : Addr) (O : Addr → Prop) (st : State) (i : Int), vs = [.ref a, .int i] ∧ HeldAt T H O a st ∧ WF st ∧ Post T H O a (Vawctg.step st (.untask i)) Q
theorem ok_Held_drop_task (T : Top_ K mg) : FnOk P w K mg base CX0 2 T.a_Held_drop_task T.d_Held_drop_task ["self", "i"] (sp_Held_drop_task T) := by
  refine T.F_Held_drop_task.ok sc_Held_drop_task (fun vs H Q E h => ?_) (fun cdv A outer s H vs Q E hr h => ?_)
  · obtain ⟨a, O, st, i, rfl, _⟩ := h
    rfl
  · obtain ⟨a, O, st, i, rfl, hH, wf, k⟩ := h
    refine ⟨_, (pss_cons (ps_if (pt_not (pt_val (pe_meth (pv 0) T.cl_Held T.M_Held_has_task (ok_Held_has_task T) (hr.mono (by decide)) T.b_Held_has_task .nil pass0 (pa_cons (pv 1) pa_nil))))
      (pss_one (ps_ret (pe_lst (pa_cons (pe_glob (v := .int (-3)) rfl T.m_NO_TASK ⟨_, rfl⟩) pa_nil))))
      pss_nil)
      (pss_cons (ps_expr (pe_bm PySem.F.plainAttrs_list PySem.F.slot_list_pop PySem.F.type_list_pop mt_popAt (pe_fld (pv 0) rfl) (pa_cons (pv 1) pa_nil)))
      (pss_cons (ps_setLc (i := 2) rfl sc_Held_drop_task.nd rfl rfl (sw_true rfl rfl rfl rfl) (pi_list (pe_fld (pv 0) rfl)) (own := [("k", 3)]) (blkOk_by (by rfl)) (fun _ _ _ _ _ => (pg_name (i := 3) sc_Held_drop_task.nd rfl (.inl rfl))) (fun _ _ _ _ _ => (pts_one (pt_cmpR op_ne (pv 3) (pv 1) (nomark _)))) (fun _ _ _ _ _ => (pv 3)))
      (pss_cons (ps_fld (pv 0) (pe_lc rfl sc_Held_drop_task.nd (pi_list (pv 2)) (own := [("k", 3)]) (blkOk_by (by rfl)) (fun _ _ _ _ _ => (pg_name (i := 3) sc_Held_drop_task.nd rfl (.inl rfl))) (fun _ _ _ _ _ => pts_nil) (fun _ _ _ _ _ => (pe_ifExp (pt_cmpR op_gt (pv 3) (pv 1) (nomark _)) (pe_op op_sub (pv 3) pe_int) (pv 3)))) rfl)
      (pss_one (ps_ret (pe_lst (pa_cons (pe_glob (v := .int (0)) rfl T.m_DONE ⟨_, rfl⟩) pa_nil)))))))), ?_⟩
    have hH' := hH
    obtain ⟨R, dx, lt, lo, ts, h⟩ := hH'
    have hl := h.len
    have h6 := wf.n6
    have hol : st.order.length = st.tasks.length := by simpa using wf.ord.length_eq
    have hol2 := vInts_len st.order
    have hsl := sizeLine_eq
    refine ⟨_, rfl, a, dx, _, rfl, h.ins, rfl, _, rfl, a, O, st, i, rfl, hH, _, rfl, ite_nb (fun hi => ?_) fun hi => ?_⟩
    rotate_left
    · refine ⟨(by show 1 ≤ sizeLine; decide), fun p hp => ?_⟩
      have e : Vawctg.step st (.untask i) = (st, [-3]) := by unfold Vawctg.step; simp only [hi]; rfl
      rw [e] at k
      exact k.asks hH rfl (Same.refl _) hp rfl
    have hi' := isTask_iff.mp hi
    have e : Vawctg.step st (.untask i) = (Vawctg.without st i.toNat, [0]) := by unfold Vawctg.step; simp only [hi]; rfl
    rw [e] at k
    obtain ⟨i, rfl⟩ : ∃ j : Nat, i = (j : Int) := ⟨i.toNat, by omega⟩
    have hlt : i < ts.length := by omega
    refine ⟨_, rfl, a, _, dx, _, _, rfl, h.ins, T.cl_Held, T.n_Held_tasks, rfl, .inl ⟨rfl, _, SqL.of h.lst⟩, _, rfl, lt, _, (i : Int), i, _, rfl, rfl, h.lst, (by omega), (by omega), seqIndex_of (by omega) (by rw [List.length_map]; omega), List.getElem?_eq_getElem (by rw [List.length_map]; exact hlt), ?_⟩
    have g1 : upd H lt (.lst ((ts.map V.ref).eraseIdx i)) lo = some (.lst (vInts st.order)) := by rw [upd_ne (Ne.symm h.ne)]; exact h.ord
    have g1a : upd H lt (.lst ((ts.map V.ref).eraseIdx i)) a = some (.ins T.c_Held dx (heldF (.ref lt) (.ref lo) (.int st.reload))) := by rw [upd_ne h.nat.1]; exact h.ins
    refine ⟨_, rfl, a, _, dx, _, _, rfl, g1a, T.cl_Held, T.n_Held_order, rfl, lo, rfl, ⟨_, SqL.of g1⟩, fun D hD => lc_pure (K := K) (a := lo) (xs := vInts st.order) (fun v => match v with | .int k => if k = (i : Int) then none else some (V.int k) | _ => none) (SqL.of g1) hD (by omega) (fun j x acc N hx n0 n1 => ?_) ?_⟩
    · obtain ⟨z, hz, rfl⟩ := vInts_at hx
      refine ⟨rfl, _, rfl, _, rfl, rfl, _, rfl, ite_ndV (fun hq => ?_) fun hq => ?_⟩
      · exact n0 (if_pos hq)
      · exact ⟨_, rfl, n1 _ (if_neg hq)⟩
    rw [fm_drop]
    have nD : lt ≠ D := ne_of_none upd_same hD
    have nDH : H D = none := by rw [upd_ne (Ne.symm nD)] at hD; exact hD
    have s1 := Same.new (o := .lst (vInts (st.order.filter fun k => k != i))) hD
    refine ⟨_, rfl, D, rfl, ⟨_, SqL.of upd_same⟩, fun D2 hD2 => lc_pure (K := K) (a := D) (xs := vInts (st.order.filter fun k => k != i)) (fun v => match v with | .int k => some (V.int (if (i : Int) < k then k - 1 else k)) | _ => none) (SqL.of upd_same) hD2 (by
        rw [vInts_len]
        have := List.length_filter_le (fun k => k != i) st.order
        omega) (fun j x acc N hx n0 n1 => ?_) ?_⟩
    · obtain ⟨z, hz, rfl⟩ := vInts_at hx
      refine ⟨rfl, _, rfl, _, rfl, _, _, rfl, rfl, _, rfl, ite_d (fun hq => ?_) fun hq => ?_⟩
      · refine ⟨_, rfl, _, _, rfl, rfl, n1 _ ?_⟩
        show some (V.int (if (i : Int) < (z : Int) then (z : Int) - 1 else z)) = some (V.int ((z : Int) - 1))
        rw [if_pos hq]
      · refine ⟨_, rfl, n1 _ ?_⟩
        show some (V.int (if (i : Int) < (z : Int) then (z : Int) - 1 else z)) = some (V.int (z : Int))
        rw [if_neg hq]
    rw [fm_shift]
    have s2 := Same.new (o := .lst (vInts ((st.order.filter fun k => k != i).map fun k => if i < k then k - 1 else k))) hD2
    have s12 := s1.trans s2
    refine ⟨_, rfl, a, _, dx, _, rfl, s12 _ _ g1a, T.cl_Held, T.n_Held_order, (by show 3 < 1000; decide), ?_⟩
    refine ⟨(by show 1 ≤ sizeLine; decide), fun q hq => ?_⟩
    have naq : a ≠ q := ne_of_none upd_same hq
    rw [upd_ne (Ne.symm naq)] at hq
    have nD2a : D2 ≠ a := fun z => by
      have := ne_of_none (s1 _ _ g1a) hD2
      exact this z.symm
    have nD2q : D2 ≠ q := ne_of_none upd_same hq
    have hq1 : upd H lt (.lst ((ts.map V.ref).eraseIdx i)) q = none := s12.free hq
    have nltq : lt ≠ q := ne_of_none upd_same hq1
    have hqH : H q = none := by rw [upd_ne (Ne.symm nltq)] at hq1; exact hq1
    have nltD2 : lt ≠ D2 := ne_of_none (s1 _ _ upd_same) hD2
    have hD2H : H D2 = none := by
      have := s1.free hD2
      rw [upd_ne (Ne.symm nltD2)] at this
      exact this
    have go : ∀ b o, H b = some o → b ≠ a → b ≠ lt → upd (upd (upd (upd (upd H lt (.lst ((ts.map V.ref).eraseIdx i))) D (.lst (vInts (st.order.filter fun k => k != i)))) D2 (.lst (vInts ((st.order.filter fun k => k != i).map fun k => if i < k then k - 1 else k)))) a (.ins T.c_Held dx (putF "order" (.ref D2) (heldF (.ref lt) (.ref lo) (.int st.reload))))) q (.lst [.int 0]) b = some o := fun b o e h1 h2 => by
      rw [upd_ne (ne_of_none e hqH), upd_ne h1, upd_ne (ne_of_none e hD2H), upd_ne (ne_of_none e nDH), upd_ne h2]; exact e
    refine k _ (fun b => (O b ∨ H b = none) ∧ b ≠ q) q ⟨fun b => R b ∧ b ≠ q ∧ b ≠ D2, dx, lt, D2, ts.eraseIdx i, ?_⟩ (fun b hb => hb.1) (fun b o e hb => go b o e (fun z => hb (z ▸ h.oa)) fun z => hb (z ▸ h.olt)) hqH (fun z => z.2 rfl) upd_same
    refine ⟨⟨.inl h.oa, naq⟩, ⟨.inl h.olt, nltq⟩, ⟨.inr hD2H, nD2q⟩, fun b z => ⟨.inl (h.oR b z.1), z.2.1⟩, fun z => h.na z.1, fun z => h.nlt z.1, fun z => z.2.2 rfl, nltD2, ?_, ?_, ?_, ?_, h.tab.keep fun b o hb e nl ni => ⟨⟨⟨.inl hb.1, ne_of_none e hqH⟩, fun z => hb.2 z.1⟩, go b o e (fun z => by rw [z, h.ins] at e; exact ni _ _ _ (Option.some.inj e).symm) fun z => by rw [z, h.lst] at e; exact nl _ (Option.some.inj e).symm⟩⟩
    · rw [upd_ne naq, upd_same]
      rfl
    · rw [upd_ne nltq, upd_ne (Ne.symm h.nat.1), upd_ne nltD2, upd_ne nD, upd_same, map_erase]
    · rw [upd_ne nD2q, upd_ne nD2a, upd_same]
      rfl
    · exact Paired.erase i (Paired.mapP h.tsk fun p t ht => ht.keep fun b o hb e => ⟨⟨hb, ne_of_none e hqH, ne_of_none e hD2H⟩, go b o e (fun z => h.na (z ▸ hb)) fun z => h.nlt (z ▸ hb)⟩)
theorem Post.newOrder {T : Top_ K mg} {H H1 : Hp} {O R : Addr → Prop} {a dx lt lo l q : Addr} {ts : List Addr} {st : State} {o : List Nat} {ans : List Int} {Q : VK} (k : Post T H O a ({ st with order := o }, ans) Q) (h : HeldIn T H O R a dx lt lo ts st)
    (s : Same H H1) (hl : H l = none) (gl : H1 l = some (.lst (vInts o))) (hq : upd H1 a (.ins T.c_Held dx (putF "order" (.ref l) (heldF (.ref lt) (.ref lo) (.int st.reload)))) q = none) {xs : List V} (ex : xs = ans.map V.int) :
    Q (.ref q) (upd (upd H1 a (.ins T.c_Held dx (putF "order" (.ref l) (heldF (.ref lt) (.ref lo) (.int st.reload))))) q (.lst xs)) := by
  subst ex
  have naq : a ≠ q := ne_of_none upd_same hq
  rw [upd_ne (Ne.symm naq)] at hq
  have nal : l ≠ a := fun z => by rw [z, h.ins] at hl; cases hl
  have nlq : l ≠ q := ne_of_none gl hq
  have hqH := s.free hq
  have go : ∀ b o', H b = some o' → b ≠ a → upd (upd H1 a (.ins T.c_Held dx (putF "order" (.ref l) (heldF (.ref lt) (.ref lo) (.int st.reload))))) q (.lst (ans.map V.int)) b = some o' := fun b o' e h1 => by
    rw [upd_ne (ne_of_none e hqH), upd_ne h1]; exact s _ _ e
  refine k _ (fun b => (O b ∨ H b = none) ∧ b ≠ q) q ⟨fun b => R b ∧ b ≠ q ∧ b ≠ l, dx, lt, l, ts, ?_⟩ (fun b hb => hb.1) (fun b o' e hb => go b o' e fun z => hb (z ▸ h.oa)) hqH (fun z => z.2 rfl) upd_same
  refine ⟨⟨.inl h.oa, naq⟩, ⟨.inl h.olt, ne_of_none h.lst hqH⟩, ⟨.inr hl, nlq⟩, fun b z => ⟨.inl (h.oR b z.1), z.2.1⟩, fun z => h.na z.1, fun z => h.nlt z.1, fun z => z.2.2 rfl, ne_of_none h.lst hl, ?_, go _ _ h.lst (Ne.symm h.nat.1), ?_, ?_, h.tab.keep fun b o' hb e nl ni => ⟨⟨⟨.inl hb.1, ne_of_none e hqH⟩, fun z => hb.2 z.1⟩, go b o' e fun z => by rw [z, h.ins] at e; exact ni _ _ _ (Option.some.inj e).symm⟩⟩
  · rw [upd_ne naq, upd_same]
    rfl
  · rw [upd_ne nlq, upd_ne nal]
    exact gl
  · exact Paired.mapP h.tsk fun p t ht => ht.keep fun b o' hb e => ⟨⟨hb, ne_of_none e hqH, ne_of_none e hl⟩, go b o' e fun z => h.na (z ▸ hb)⟩
def sp_Held_set_order (T : Top_ K mg) : Sp := fun vs H Q _ => ∃ (a b : Addr) (O : Addr → Prop) (st : State) (ns : List Int), vs = [.ref a, .ref b] ∧ HeldAt T H O a st ∧ WF st ∧ SqL K H b (ns.map V.int) ∧ ns.length ≤ 1000 ∧ Post T H O a (Vawctg.step st (.order ns)) Q
theorem ok_Held_set_order (T : Top_ K mg) : FnOk P w K mg base CX0 1 T.a_Held_set_order T.d_Held_set_order ["self", "numbers"] (sp_Held_set_order T) := by
  refine T.F_Held_set_order.ok sc_Held_set_order (fun vs H Q E h => ?_) (fun cdv A outer s H vs Q E hr h => ?_)
  · obtain ⟨a, b, O, st, ns, rfl, _⟩ := h
    rfl
  · obtain ⟨a, b, O, st, ns, rfl, hH, wf, hS, hlen, k⟩ := h
    refine ⟨_, (pss_cons (ps_if (pt_cmpR (op_neD hr.units) (pe_callB call_sorted_any (by rfl) T.x_sorted PyProof.Rows.boot_sorted (pa_cons (pv 1) pa_nil)) (pe_callTy (call_list_rng rfl) (by rfl) T.x_list PyProof.Rows.boot_list (pa_cons (pe_callTy call_range1 (by rfl) T.x_range PyProof.Rows.boot_range (pa_cons (pe_callB call_len_seq (by rfl) T.x_len PySem.boot_len (pa_cons (pe_fld (pv 0) rfl) pa_nil)) pa_nil)) pa_nil)) (nomark _))
      (pss_one (ps_ret (pe_lst (pa_cons (pe_glob (v := .int (-12)) rfl T.m_WRONG_LIST ⟨_, rfl⟩) pa_nil))))
      pss_nil)
      (pss_cons (ps_fld (pv 0) (pe_callTy call_list_of (by rfl) T.x_list PyProof.Rows.boot_list (pa_cons (pv 1) pa_nil)) rfl)
      (pss_one (ps_ret (pe_lst (pa_cons (pe_glob (v := .int (0)) rfl T.m_DONE ⟨_, rfl⟩) pa_nil)))))), ?_⟩
    have hH' := hH
    obtain ⟨R, dx, lt, lo, ts, h⟩ := hH'
    have hl := h.len
    have h6 := wf.n6
    have hsl := sizeLine_eq
    refine ⟨_, rfl, b, ns, rfl, hS, (by omega), fun ns' p1 hp hs n1 => ?_⟩
    have s1 := Same.new (o := .lst (ns'.map V.int)) n1
    have g1 : upd H p1 (.lst (ns'.map V.int)) p1 = _ := upd_same
    generalize upd H p1 (.lst (ns'.map V.int)) = H1 at s1 g1 ⊢
    refine ⟨_, rfl, a, _, dx, _, _, rfl, s1 _ _ h.ins, T.cl_Held, T.n_Held_tasks, rfl, lt, _, rfl, .inl (SqL.of (s1 _ _ h.lst)), _, rfl, (by omega), (by rw [List.length_map]; omega), fun p2 n2 => ?_⟩
    have s2 := Same.new (o := .rng 0 ((ts.map V.ref).length : Nat)) n2
    have e0 : (((ts.map V.ref).length : Nat) - (0 : Int)).toNat = st.tasks.length := by rw [List.length_map]; omega
    refine ⟨p2, _, _, rfl, upd_same, (by decide), (by decide), (by omega), (by rw [List.length_map]; omega), (by omega), fun p3 n3 => ?_⟩
    rw [e0]
    have s3 := Same.new (o := .lst ((upto 0 st.tasks.length).map V.int)) n3
    have s12 := (s1.trans s2).trans s3
    refine ⟨_, _, Dp.ints (SqL.of (s3 _ _ (s2 _ _ g1))), Dp.ints (SqL.of upd_same), shaped_ints _, shaped_ints _, _, rfl, ?_⟩
    have eqv : PyData.eqv (.list (ns'.map PyData.int)) (.list ((upto 0 st.tasks.length).map PyData.int)) = decide (ns' = upto 0 st.tasks.length) := eqv_ints _ _
    rw [eqv]
    refine ite_nd (fun he => ?_) fun he => ?_
    · obtain ⟨nn, hperm⟩ := (order_iff hp hs).mp he
      have e : Vawctg.step st (.order ns) = ({ st with order := toNats ns }, [0]) := by
        unfold Vawctg.step
        simp only
        rw [if_neg]
        rw [any_neg_false nn, isOrder_iff.mpr hperm]
        simp
      rw [e] at k
      refine ⟨_, rfl, b, _, rfl, .inl (s12.seq hS), fun p4 n4 => ⟨_, rfl, a, _, dx, _, rfl, (by rw [upd_ne (ne_of_none (s12 _ _ h.ins) n4)]; exact s12 _ _ h.ins), T.cl_Held, T.n_Held_order, (by show 3 < 1000; decide), ?_⟩⟩
      have s4 := Same.new (o := .lst (ns.map V.int)) n4
      refine ⟨(by show 1 ≤ sizeLine; decide), fun q hq => ?_⟩
      refine k.newOrder h (s12.trans s4) (s12.free n4) ?_ hq rfl
      rw [upd_same]
      unfold vInts
      rw [toInts_toNats nn]
    · have e : Vawctg.step st (.order ns) = (st, [-12]) := by
        unfold Vawctg.step
        simp only
        rw [if_pos]
        rw [Bool.or_eq_true]
        by_cases hn : ns.any (fun n => decide (n < 0)) = true
        · exact .inl hn
        · right
          have nn := nn_of_any (by simpa using hn)
          cases hx : Vawctg.isOrder st (toNats ns) with
          | false => rfl
          | true => exact absurd ((order_iff hp hs).mpr ⟨nn, isOrder_iff.mp hx⟩) he
      rw [e] at k
      refine ⟨(by show 1 ≤ sizeLine; decide), fun q hq => ?_⟩
      exact k.asks hH rfl s12 hq rfl
def sp_Held_tell_tasks (T : Top_ K mg) : Sp := fun vs H Q _ => ∃ (a : Addr) (O : Addr → Prop) (st : State), vs = [.ref a] ∧ HeldAt T H O a st ∧ WF st ∧ Post T H O a (Vawctg.step st .tasks) Q
theorem Paired.at_ {α β : Type} {F : α → β → Prop} : ∀ {l : List α} {m : List β} {i : Nat} {a : α}, Paired F l m → l[i]? = some a → ∃ b, m[i]? = some b ∧ F a b
  | _, _, _, _, .nil, h => by simp at h
  | _, _, 0, _, .cons r _, h => by
    cases (Option.some.inj h)
    exact ⟨_, rfl, r⟩
  | _, _, i + 1, _, .cons _ t, h => Paired.at_ (i := i) t h
theorem ok_Held_tell_tasks (T : Top_ K mg) : FnOk P w K mg base CX0 2 T.a_Held_tell_tasks T.d_Held_tell_tasks ["self"] (sp_Held_tell_tasks T) := by
  refine T.F_Held_tell_tasks.ok sc_Held_tell_tasks (fun vs H Q E h => ?_) (fun cdv A outer s H vs Q E hr h => ?_)
  · obtain ⟨a, O, st, rfl, _⟩ := h
    rfl
  · obtain ⟨a, O, st, rfl, hH, wf, k⟩ := h
    refine ⟨_, (pss_cons (ps_set (i := 1) sc_Held_tell_tasks.nd rfl (.inl rfl) (pe_lst (pa_cons (pe_glob (v := .int (0)) rfl T.m_DONE ⟨_, rfl⟩) (pa_cons (pe_callB call_len_seq (by rfl) T.x_len PySem.boot_len (pa_cons (pe_fld (pv 0) rfl) pa_nil)) pa_nil))))
      (pss_cons (ps_for PassesOwn.never rfl (pi_list (pe_fld (pv 0) rfl)) (pg_name (i := 2) sc_Held_tell_tasks.nd rfl (.inl rfl))
      (pss_one (ps_expr (pe_bm PySem.F.plainAttrs_list PySem.F.slot_list_extend PySem.F.type_list_extend mt_extend (pv 1) (pa_cons (pe_meth0 (pv 2) T.cl_Task T.M_Task_told (ok_Task_told T) (hr.mono (by decide)) T.b_Task_told .nil pass0) pa_nil)))))
      (pss_one (ps_ret (pv 1))))), ?_⟩
    have hH' := hH
    obtain ⟨R, dx, lt, lo, ts, h⟩ := hH'
    have hl := h.len
    have h6 := wf.n6
    have hsl := sizeLine_eq
    refine ⟨_, rfl, a, _, dx, _, _, rfl, h.ins, T.cl_Held, T.n_Held_tasks, rfl, lt, _, rfl, .inl (SqL.of h.lst), (by show 2 ≤ sizeLine; decide), fun q hq => ?_⟩
    have s1 := Same.new (o := .lst [.int 0, .int ((ts.map V.ref).length : Nat)]) hq
    refine ⟨_, rfl, a, _, dx, _, _, rfl, s1 _ _ h.ins, T.cl_Held, T.n_Held_tasks, rfl, lt, rfl, ⟨_, SqL.of (s1 _ _ h.lst)⟩, for_list (K := K) (a := lt) (xs := ts.map V.ref)
      (fun i σ H' => ∃ v : Option V, σ = [some (.ref a), some (.ref q), v] ∧ Same H H' ∧ H' q = some (.lst ([.int 0, .int ((ts.map V.ref).length : Nat)] ++ vInts ((st.tasks.take i).flatMap taskRow))))
      ⟨none, rfl, s1, by rw [upd_same]; rfl⟩ (fun i σ H' _ ⟨_, _, s2, _⟩ => SqL.of (s2 _ _ h.lst)) ?_ ?_⟩
    · rintro i y σ H' hi ⟨v, rfl, s2, g2⟩
      rw [List.getElem?_map] at hi
      cases e : ts[i]? with
      | none => rw [e] at hi; cases hi
      | some p =>
        rw [e] at hi
        cases (Option.some.inj hi)
        obtain ⟨t, ht, hT⟩ := Paired.at_ h.tsk e
        have hg := wf.good t (List.mem_of_getElem? ht)
        have hlen := good_len hg
        obtain ⟨rp, dp, u, v', ru, rv, e1, e2, e3⟩ := hT
        refine ⟨_, rfl, .inl ⟨rfl, _, SqL.of g2⟩, _, rfl, p, dp, _, rfl, s2 _ _ e1, rfl, p, R, t, rfl, ⟨rp, dp, u, v', ru, rv, s2 _ _ e1, s2 _ _ e2, s2 _ _ e3⟩, (by omega), (by omega), fun H3 q3 s3 n3 g3 => ?_⟩
        have hb : ((st.tasks.take (i + 1)).flatMap taskRow).length ≤ 70 * 6 := by
          have := rows_len (ts := st.tasks.take (i + 1)) fun x hx => wf.good x (List.mem_of_mem_take hx)
          rw [List.length_take] at this
          omega
        have ht2 : st.tasks.take (i + 1) = st.tasks.take i ++ [t] := take_snoc ht
        have efl : (st.tasks.take (i + 1)).flatMap taskRow = (st.tasks.take i).flatMap taskRow ++ taskRow t := by rw [ht2, List.flatMap_append]; simp
        rw [efl, List.length_append] at hb
        refine ⟨q, q3, _, _, rfl, rfl, s3 _ _ g2, g3, (by rw [List.length_append, vInts_len, vInts_len]; show 2 + _ + _ ≤ sizeLine; omega), ?_⟩
        refine ⟨_, rfl, fun b o e => ?_, ?_⟩
        · rw [upd_ne (ne_of_none e hq)]; exact s3 _ _ (s2 _ _ e)
        · rw [upd_same, efl, vInts_append, List.append_assoc]
    · rintro σ H' ⟨v, rfl, s2, g2⟩
      rw [List.length_map, hl, List.take_length] at g2
      refine ⟨_, rfl, k.asks' hH rfl s2 hq g2 ?_⟩
      show _ = (0 :: toInts (st.tasks.length :: st.tasks.flatMap taskRow)).map V.int
      rfl
open Vawctg (Task toInts toNats taskRow reading State Call isTask taskAt orderBy)
theorem Paired.fm {α β : Type} {F : α → β → Prop} {γ : Type} {g : α → Option γ} {k : β → γ} (h : ∀ a b, F a b → g a = some (k b)) : ∀ {l : List α} {m : List β}, Paired F l m → l.filterMap g = m.map k
  | _, _, .nil => rfl
  | _, _, .cons r t => by
    rw [List.filterMap_cons, h _ _ r, List.map_cons, Paired.fm h t]
theorem Post.setOrder {T : Top_ K mg} {H H1 H3 : Hp} {O R O1 : Addr → Prop} {a dx lt lo l q : Addr} {ts : List Addr} {st : State} {o : List Nat} {ans : List Int} {Q : VK} (k : Post T H O a ({ st with order := o }, ans) Q) (h : HeldIn T H O R a dx lt lo ts st)
    (kp : ∀ b u, H b = some u → b ≠ T.pt_Held_sort_order → H1 b = some u) (hl : H l = none) (gl : H1 l = some (.lst (vInts o))) (hT : TabAt H1 O1 T.pt_Held_sort_order lp_Held_sort_order lq_Held_sort_order) (hO1 : ∀ b, O1 b → ((O b ∧ ¬ R b) ∨ H b = none) ∧ b ≠ l)
    (s3 : Same (upd H1 a (.ins T.c_Held dx (putF "order" (.ref l) (heldF (.ref lt) (.ref lo) (.int st.reload))))) H3) (hq : upd H1 a (.ins T.c_Held dx (putF "order" (.ref l) (heldF (.ref lt) (.ref lo) (.int st.reload)))) q = none) (hqH : H q = none) (hq3 : H3 q = some (.lst (ans.map V.int))) : Q (.ref q) H3 := by
  have naq : a ≠ q := ne_of_none upd_same hq
  rw [upd_ne (Ne.symm naq)] at hq
  have nal : l ≠ a := fun z => by rw [z, h.ins] at hl; cases hl
  have nlq : l ≠ q := ne_of_none gl hq
  have nP : ∀ {b u}, H b = some u → (∀ z, u ≠ .tbl z) → b ≠ T.pt_Held_sort_order := fun {b u} e hz z => by
    rcases h.tab.2 with y | ⟨_, _, y, _⟩
    · rw [z, y] at e; exact hz _ (Option.some.inj e).symm
    · rw [z, y] at e; exact hz _ (Option.some.inj e).symm
  have go : ∀ b o', H b = some o' → b ≠ a → b ≠ T.pt_Held_sort_order → H3 b = some o' := fun b o' e h1 h2 => s3 _ _ (by rw [upd_ne h1]; exact kp _ _ e h2)
  have nq : ∀ b u, H1 b = some u → b ≠ q := fun b u e => ne_of_none e hq
  refine k _ (fun b => (O b ∨ H b = none) ∧ b ≠ q) q ⟨fun b => R b ∧ (∃ u, H b = some u) ∧ b ≠ q ∧ b ≠ l, dx, lt, l, ts, ?_⟩ (fun b hb => hb.1) (fun b o' e hb => go b o' e (fun z => hb (z ▸ h.oa)) fun z => hb (z ▸ h.tab.1.1)) hqH (fun z => z.2 rfl) hq3
  refine ⟨⟨.inl h.oa, naq⟩, ⟨.inl h.olt, ne_of_none h.lst hqH⟩, ⟨.inr hl, nlq⟩, fun b z => ⟨.inl (h.oR b z.1), z.2.2.1⟩, fun z => h.na z.1, fun z => h.nlt z.1, fun z => z.2.2.2 rfl, ne_of_none h.lst hl, s3 _ _ (by rw [upd_same]; rfl), go _ _ h.lst (Ne.symm h.nat.1) (nP h.lst fun z => by intro y; cases y), s3 _ _ (by rw [upd_ne nal]; exact gl), ?_, ?_⟩
  · refine Paired.mapP h.tsk fun p t ht => ht.keep fun b o' hb e => ⟨⟨hb, ⟨_, e⟩, ne_of_none e hqH, ne_of_none e hl⟩, go b o' e (fun z => h.na (z ▸ hb)) fun z => ?_⟩
    exact h.tab.1.2 (z ▸ hb)
  · refine hT.keep fun b o' hb e nl ni => ⟨⟨⟨(hO1 b hb).1.imp (fun z => z.1) id, nq _ _ e⟩, fun z => ?_⟩, s3 _ _ ?_⟩
    · rcases (hO1 b hb).1 with y | y
      · exact y.2 z.1
      · obtain ⟨u, eu⟩ := z.2.1
        rw [y] at eu; cases eu
    · have : b ≠ a := fun z => by
        have := kp _ _ h.ins (nP h.ins fun z => by intro y; cases y)
        rw [z, this] at e
        exact ni _ _ _ (Option.some.inj e).symm
      rw [upd_ne this]; exact e
def sp_Held_sort_order (T : Top_ K mg) : Sp := fun vs H Q _ => ∃ (a : Addr) (O : Addr → Prop) (st : State) (kind : Int), vs = [.ref a, .int kind] ∧ HeldAt T H O a st ∧ WF st ∧ Post T H O a (Vawctg.step st (.sorted kind)) Q
def fldOf (H : Hp) (f : Str) : V → Option V
  | .ref p => match H p with
    | some (.ins _ _ fs) => fs.lookup f
    | _ => none
  | _ => none
theorem vNats_vInts (l : List Nat) : vNats l = vInts l := by unfold vNats vInts toInts; rw [List.map_map]; rfl
theorem ok_Held_sort_order (T : Top_ K mg) (hB : BMod base mg) : FnOk P w K mg base CX0 1 T.a_Held_sort_order T.d_Held_sort_order ["self", "kind"] (sp_Held_sort_order T) := by
  refine Fun.okC T.F_Held_sort_order T.ce_Held_sort_order sc_Held_sort_order (fun vs H Q E h => ?_) (fun A outer s H vs Q E hr h => ?_)
  · obtain ⟨a, O, st, kind, rfl, _⟩ := h
    rfl
  · obtain ⟨a, O, st, kind, rfl, hH, wf, k⟩ := h
    have hcode : (cxOf CX0 P w K mg base ["self", "kind", "times", "task"] "Held.sort_order" (defScope s_Held_sort_order) T.a_Held_sort_order (.ref T.cc_Held_sort_order) A outer s H E).nox.env.code = .ref T.cc_Held_sort_order := rfl
    have hH' := hH
    obtain ⟨R, dx, lt, lo, ts, h⟩ := hH'
    have hl := h.len
    have h6 := wf.n6
    have hsl := sizeLine_eq
    have nP : ∀ {b : Addr} {u : HO}, H b = some u → (∀ z, u ≠ .tbl z) → b ≠ T.pt_Held_sort_order := fun {b u} e hz z => by
      rcases h.tab.2 with y | ⟨_, _, y, _⟩
      · rw [z, y] at e; exact hz _ (Option.some.inj e).symm
      · rw [z, y] at e; exact hz _ (Option.some.inj e).symm
    obtain ⟨t2, ht2, rd2⟩ : ∃ t, PSs (cxOf CX0 P w K mg base ["self", "kind", "times", "task"] "Held.sort_order" (defScope s_Held_sort_order) T.a_Held_sort_order (.ref T.cc_Held_sort_order) A outer s H E).nox (List.drop 1 (defBody s_Held_sort_order)) t ∧
        ∀ (H1 : Hp) (D : Addr) (v3 : Option V) (key : Task → Nat), Same H H1 → H D = none → H1 D = some (.lst ((st.tasks.map fun t => (key t : Int)).map V.int)) → Vawctg.step st (.sorted kind) = ({ st with order := orderBy st key }, 0 :: toInts (orderBy st key)) →
          t { nx := fun _ H' => Q .non H', rt := Q } [some (.ref a), some (.int kind), some (.ref D), v3] H1 := by
      refine ⟨_, (pss_cons (ps_fld (pv 0) (pe_sortedKey (it := 2) rfl hr rfl T.x_sorted (pe_callTy call_range1 (by rfl) T.x_range PyProof.Rows.boot_range (pa_cons (pe_callB call_len_seq (by rfl) T.x_len PySem.boot_len (pa_cons (pv 2) pa_nil)) pa_nil)) hB hcode T.hd_Held_sort_order rfl rfl rfl (fun _ _ _ _ _ _ => rfl) rfl rfl rfl rfl (by decide) (by decide) (by decide) (by decide) (by decide)) rfl)
      (pss_one (ps_ret (pe_op op_cat (pe_lst (pa_cons (pe_glob (v := .int (0)) rfl T.m_DONE ⟨_, rfl⟩) pa_nil)) (pe_fld (pv 0) rfl))))), fun H1 D v3 key s1 hD gD hst => ?_⟩
      rw [hst] at k
      have hkl : ((st.tasks.map fun t => (key t : Int)).map V.int).length = st.tasks.length := by rw [List.length_map, List.length_map]
      refine ⟨_, rfl, D, _, rfl, .inl (SqL.of gD), _, rfl, (by omega), (by rw [hkl]; omega), fun r nr => ?_⟩
      have s2 := Same.new (o := .rng 0 (((st.tasks.map fun t => (key t : Int)).map V.int).length : Nat)) nr
      have s12 := s1.trans s2
      refine ⟨r, D, st.tasks.length, st.tasks.map fun t => (key t : Int), (fun b => (O b ∧ ¬ R b)), rfl, (by rw [upd_same, hkl]), (by omega), rfl, SqL.of (s2 _ _ gD), (by rw [List.length_map]), ?_, fun out p H2 o1 o2 kp hT np gp => ?_⟩
      · exact h.tab.keep fun b o hb e _ _ => ⟨hb, s12 _ _ e⟩
      have eo : out = orderBy st key := orderBy_eq (kf := fun j => (st.tasks.map fun t => (key t : Int)).getD j 0) (fun j hj => by
        show (st.tasks.map fun t => (key t : Int)).getD j 0 = _
        unfold taskAt
        rw [List.getD_eq_getElem?_getD, List.getD_eq_getElem?_getD, List.getElem?_map, List.getElem?_eq_getElem hj]
        rfl) o1 o2
      subst eo
      have hpH : H p = none := s12.free np
      refine ⟨_, rfl, a, _, dx, _, rfl, kp _ _ (s12 _ _ h.ins) (nP h.ins fun z => by intro y; cases y), T.cl_Held, T.n_Held_order, (by show 3 < 1000; decide), ?_⟩
      have nap : a ≠ p := fun z => by rw [← z, s12 _ _ h.ins] at np; cases np
      have hol : (orderBy st key).length = st.tasks.length := by simpa using (orderBy_perm st key).length_eq
      have hvl := vInts_len (orderBy st key)
      rw [vNats_vInts] at gp
      refine ⟨(by show 1 ≤ sizeLine; decide), fun q1 nq1 => ?_⟩
      have s3 := Same.new (o := .lst [.int 0]) nq1
      refine ⟨_, rfl, a, _, dx, _, _, rfl, s3 _ _ upd_same, T.cl_Held, T.n_Held_order, rfl, q1, p, _, _, rfl, rfl, upd_same, s3 _ _ (by rw [upd_ne (Ne.symm nap)]; exact gp), (by show 1 + _ ≤ sizeLine; omega), fun q nq => ?_⟩
      have s4 := s3.trans (Same.new (o := .lst ([.int 0] ++ vInts (orderBy st key))) nq)
      have nq0 := s3.free nq
      have naq : a ≠ q := ne_of_none upd_same nq0
      have nq2 : H2 q = none := by rw [upd_ne (Ne.symm naq)] at nq0; exact nq0
      have nqH : H q = none := by
        cases e : H q with
        | none => rfl
        | some u =>
          by_cases z : q = T.pt_Held_sort_order
          · rcases hT.2 with y | ⟨_, _, y, _⟩
            · rw [z, y] at nq2; cases nq2
            · rw [z, y] at nq2; cases nq2
          · rw [kp _ _ (s12 _ _ e) z] at nq2; cases nq2
      refine k.setOrder h (fun b u e hb => kp _ _ (s12 _ _ e) hb) hpH gp hT (fun b hb => ⟨hb.1.imp id fun z => s12.free z, hb.2⟩) s4 nq0 nqH ?_
      rw [upd_same]
      rfl
    obtain ⟨t1, ht1, rd1⟩ : ∃ t, PS (cxOf CX0 P w K mg base ["self", "kind", "times", "task"] "Held.sort_order" (defScope s_Held_sort_order) T.a_Held_sort_order (.ref T.cc_Held_sort_order) A outer s H E).nox ((defBody s_Held_sort_order).getD 0 (.Pass ⟨0, 0, 0, 0⟩)) t ∧ t { nx := t2 { nx := fun _ H' => Q .non H', rt := Q }, rt := Q } [some (.ref a), some (.int kind), none, none] H := by
      refine ⟨_, (ps_if (pt_cmpR op_eq (pv 1) (pe_glob (v := .int (0)) rfl T.m_BY_PERIOD ⟨_, rfl⟩) (nomark _))
      (pss_one (ps_set (i := 2) sc_Held_sort_order.nd rfl (.inr rfl) (pe_lc rfl sc_Held_sort_order.nd (pi_list (pe_fld (pv 0) rfl)) (own := [("task", 3)]) (te := (tFld K (tVar 3) "period")) (blkOk_by (by rfl)) (fun _ _ _ _ _ => (pg_name (i := 3) sc_Held_sort_order.nd rfl (.inl rfl))) (fun _ _ _ _ _ => pts_nil) (fun _ _ _ _ _ => (pe_fld (pv 3) rfl)))))
      (pss_one (ps_if (pt_cmpR op_eq (pv 1) (pe_glob (v := .int (1)) rfl T.m_BY_DEADLINE ⟨_, rfl⟩) (nomark _))
      (pss_one (ps_set (i := 2) sc_Held_sort_order.nd rfl (.inr rfl) (pe_lc rfl sc_Held_sort_order.nd (pi_list (pe_fld (pv 0) rfl)) (own := [("task", 3)]) (te := (tFld K (tVar 3) "deadline")) (blkOk_by (by rfl)) (fun _ _ _ _ _ => (pg_name (i := 3) sc_Held_sort_order.nd rfl (.inl rfl))) (fun _ _ _ _ _ => pts_nil) (fun _ _ _ _ _ => (pe_fld (pv 3) rfl)))))
      (pss_one (ps_ret (pe_lst (pa_cons (pe_glob (v := .int (-5)) rfl T.m_NO_KIND ⟨_, rfl⟩) pa_nil))))))), ?_⟩
      have lc : ∀ (f : Str) (key : Task → Nat), (∀ p t, TaskAt T H R p t → fldOf H f (.ref p) = some (V.int (key t : Nat))) → (ts.map V.ref).filterMap (fldOf H f) = (st.tasks.map fun t => (key t : Int)).map V.int := fun f key hf => by
        rw [List.filterMap_map, List.map_map]
        exact Paired.fm (fun p t ht => hf p t ht) h.tsk
      refine ⟨_, rfl, rfl, _, rfl, ite_dV (fun h0 => ?_) fun h0 => ?_⟩
      · refine ⟨_, rfl, a, _, dx, _, _, rfl, h.ins, T.cl_Held, T.n_Held_tasks, rfl, lt, rfl, ⟨_, SqL.of h.lst⟩, fun D hD => lc_pure (K := K) (a := lt) (xs := ts.map V.ref) (fldOf H "period") (SqL.of h.lst) hD (by rw [List.length_map]; omega) (fun j x acc N hx n0 n1 => ?_) ?_⟩
        · rw [List.getElem?_map] at hx
          cases e : ts[j]? with
          | none => rw [e] at hx; cases hx
          | some p =>
            rw [e] at hx
            cases (Option.some.inj hx)
            obtain ⟨t, _, rp, dp, u, v, ru, rv, e1, e2, e3⟩ := Paired.at_ h.tsk e
            refine ⟨rfl, _, rfl, p, _, dp, _, _, rfl, Eq.trans (upd_ne (ne_of_none e1 hD)) e1, T.cl_Task, T.n_Task_period, rfl, n1 _ ?_⟩
            show (match H p with | some (.ins _ _ fs) => fs.lookup _ | _ => none) = _
            rw [e1]
            rfl
        · rw [lc "period" (fun t => t.period) fun p t ⟨_, dp, u, v, _, _, e1, _, _⟩ => by
            show (match H p with | some (.ins _ _ fs) => fs.lookup _ | _ => none) = _
            rw [e1]
            rfl]
          refine rd2 _ D none (fun t => t.period) (Same.new hD) hD upd_same ?_
          subst h0
          rfl
      · refine ⟨_, rfl, rfl, _, rfl, ite_dV (fun h1 => ?_) fun h1 => ?_⟩
        · refine ⟨_, rfl, a, _, dx, _, _, rfl, h.ins, T.cl_Held, T.n_Held_tasks, rfl, lt, rfl, ⟨_, SqL.of h.lst⟩, fun D hD => lc_pure (K := K) (a := lt) (xs := ts.map V.ref) (fldOf H "deadline") (SqL.of h.lst) hD (by rw [List.length_map]; omega) (fun j x acc N hx n0 n1 => ?_) ?_⟩
          · rw [List.getElem?_map] at hx
            cases e : ts[j]? with
            | none => rw [e] at hx; cases hx
            | some p =>
              rw [e] at hx
              cases (Option.some.inj hx)
              obtain ⟨t, _, rp, dp, u, v, ru, rv, e1, e2, e3⟩ := Paired.at_ h.tsk e
              refine ⟨rfl, _, rfl, p, _, dp, _, _, rfl, Eq.trans (upd_ne (ne_of_none e1 hD)) e1, T.cl_Task, T.n_Task_deadline, rfl, n1 _ ?_⟩
              show (match H p with | some (.ins _ _ fs) => fs.lookup _ | _ => none) = _
              rw [e1]
              rfl
          · rw [lc "deadline" (fun t => t.deadline) fun p t ⟨_, dp, u, v, _, _, e1, _, _⟩ => by
              show (match H p with | some (.ins _ _ fs) => fs.lookup _ | _ => none) = _
              rw [e1]
              rfl]
            refine rd2 _ D none (fun t => t.deadline) (Same.new hD) hD upd_same ?_
            subst h1
            rfl
        · have e : Vawctg.step st (.sorted kind) = (st, [-5]) := by
            unfold Vawctg.step
            simp only
            rw [if_pos]
            simp [h0, h1]
          rw [e] at k
          exact ⟨(by show 1 ≤ sizeLine; decide), fun p hp => k.asks hH rfl (Same.refl _) hp rfl⟩
    exact ⟨_, pss_cons ht1 ht2, rd1⟩
theorem Paired.at2 {α β : Type} {F : α → β → Prop} : ∀ {l : List α} {m : List β} {i : Nat} {b : β}, Paired F l m → m[i]? = some b → ∃ a, l[i]? = some a ∧ F a b
  | _, _, _, _, .nil, h => by simp at h
  | _, _, 0, _, .cons r _, h => by
    cases (Option.some.inj h)
    exact ⟨_, rfl, r⟩
  | _, _, i + 1, _, .cons _ t, h => Paired.at2 (i := i) t h
def CallAt (H : Hp) (N : Addr → Prop) (r : Addr) (c : List (List Int)) : Prop := ∃ (p : Nat) (name : String) (k : Nat) (b : Bool) (nums row : List Int) (a1 a2 : Addr), tbl[p]? = some (name, k, b) ∧ nums.length = k ∧ row.length ≤ 8200 ∧ c = ((p : Int) :: nums) :: (if b then [row] else []) ∧
  N r ∧ N a1 ∧ N a2 ∧ H r = some (.tup [.str (Str.ofString name), .ref a1, .ref a2]) ∧ H a1 = some (.lst (nums.map V.int)) ∧ H a2 = some (.lst (row.map V.int))
theorem CallAt.keep {H H' : Hp} {N N' : Addr → Prop} {r : Addr} {c : List (List Int)} (h : CallAt H N r c) (hk : ∀ b o, N b → H b = some o → N' b ∧ H' b = some o) : CallAt H' N' r c := by
  obtain ⟨p, name, k, b, nums, row, a1, a2, h1, h2, h3, h4, h5, h6, h7, h8, h9, h10⟩ := h
  exact ⟨p, name, k, b, nums, row, a1, a2, h1, h2, h3, h4, (hk _ _ h5 h8).1, (hk _ _ h6 h9).1, (hk _ _ h7 h10).1, (hk _ _ h5 h8).2, (hk _ _ h6 h9).2, (hk _ _ h7 h10).2⟩
theorem calls_row (T : Top_ K mg) (H : Hp) {p : Nat} {name : String} {k : Nat} {b : Bool} (h : tbl[p]? = some (name, k, b)) : ∃ r, T.r_CALLS[p]? = some r ∧ SqT K H r [V.str (Str.ofString name), V.int k, V.bl b] := by
  refine Paired.at2 (T.i_CALLS H) ?_
  have e : ([[V.str "reload", V.int (1), V.bl false], [V.str "task", V.int (0), V.bl true], [V.str "retask", V.int (1), V.bl true], [V.str "untask", V.int (1), V.bl false], [V.str "order", V.int (0), V.bl true], [V.str "sorted", V.int (1), V.bl false], [V.str "tasks", V.int (0), V.bl false], [V.str "ranks", V.int (0), V.bl false], [V.str "cost", V.int (2), V.bl false], [V.str "response", V.int (1), V.bl false], [V.str "all", V.int (0), V.bl false], [V.str "best", V.int (0), V.bl false], [V.str "course", V.int (1), V.bl false], [V.str "trace", V.int (2), V.bl false], [V.str "late", V.int (1), V.bl false]] : List (List V)) = tbl.map fun x => [V.str (Str.ofString x.1), V.int (x.2.1 : Nat), V.bl x.2.2] := rfl
  rw [e, List.getElem?_map, h]
  rfl
theorem cut_nat {l : List Int} {i j : Nat} (h1 : i ≤ j) (h2 : j ≤ l.length) : cutV (l.map V.int) (some (i : Int)) (some (j : Int)) = ((l.drop i).take (j - i)).map V.int := by
  rw [cut_int]
  congr 1
  rw [HT.sIx_nat, HT.sIx_nat, Nat.min_eq_left (by omega), Nat.min_eq_left (by omega)]
def sp_read_calls (T : Top_ K mg) : Sp := fun vs H Q _ => ∃ (a : Addr) (l : List Int) (raw : List (List (List Int))), vs = [.ref a] ∧ SqL K H a (l.map V.int) ∧ l.length ≤ 8200 ∧ PyFlat.calls PyVawctg.shape l.length l = some raw ∧
  ∀ (H' : Hp) (r : Addr) (rs : List Addr), Same H H' → H r = none → H' r = some (.lst (rs.map V.ref)) → Paired (fun p c => CallAt H' (fun b => H b = none) p c) rs raw → Q (.ref r) H'
theorem ok_read_calls (T : Top_ K mg) : FnOk P w K mg base CX0 1 T.a_read_calls T.d_read_calls ["calls"] (sp_read_calls T) := by
  refine T.F_read_calls.ok sc_read_calls (fun vs H Q E h => ?_) (fun cdv A outer s H vs Q E hr h => ?_)
  · obtain ⟨a, l, raw, rfl, _⟩ := h
    rfl
  · obtain ⟨a, l, raw, rfl, hS, hlen, hraw, k⟩ := h
    refine ⟨_, (pss_cons (ps_set (i := 1) sc_read_calls.nd rfl (.inl rfl) (pe_lst pa_nil))
      (pss_cons (ps_set (i := 2) sc_read_calls.nd rfl (.inl rfl) pe_int)
      (pss_cons (ps_while PassesOwn.never (pt_cmpR op_lt (pv 2) (pe_callB call_len_seq (by rfl) T.x_len PySem.boot_len (pa_cons (pv 0) pa_nil)) (nomark _))
      (pss_cons (ps_set (i := 3) sc_read_calls.nd rfl (.inl rfl) (pe_ix ix_tup (pe_glob (v := .ref T.a_CALLS) rfl T.m_CALLS rfl) (pe_ix ix_list (pv 0) (pv 2) (fun _ _ => rfl)) (fun _ _ => rfl)))
      (pss_cons (ps_aug (i := 2) sc_read_calls.nd rfl (.inl rfl) pe_int ip_add)
      (pss_cons (ps_set (i := 4) sc_read_calls.nd rfl (.inl rfl) (pe_slice sl_list (pv 0) (po_some (pv 2)) (po_some (pe_op op_add (pv 2) (pe_ix ix_tup (pv 3) pe_int (fun _ _ => rfl))))))
      (pss_cons (ps_aug (i := 2) sc_read_calls.nd rfl (.inl rfl) (pe_callB call_len_seq (by rfl) T.x_len PySem.boot_len (pa_cons (pv 4) pa_nil)) ip_add)
      (pss_cons (ps_set (i := 5) sc_read_calls.nd rfl (.inl rfl) (pe_lst pa_nil))
      (pss_cons (ps_if (pt_truth (pe_ix ix_tup (pv 3) pe_int (fun _ _ => rfl)) (fun _ => rfl))
      (pss_cons (ps_set (i := 5) sc_read_calls.nd rfl (.inl rfl) (pe_slice sl_list (pv 0) (po_some (pe_op op_add (pv 2) pe_int)) (po_some (pe_op op_add (pe_op op_add (pv 2) pe_int) (pe_ix ix_list (pv 0) (pv 2) (fun _ _ => rfl))))))
      (pss_one (ps_aug (i := 2) sc_read_calls.nd rfl (.inl rfl) (pe_op op_add pe_int (pe_callB call_len_seq (by rfl) T.x_len PySem.boot_len (pa_cons (pv 5) pa_nil))) ip_add)))
      pss_nil)
      (pss_one (ps_expr (pe_bm PySem.F.plainAttrs_list PySem.F.slot_list_append PySem.F.type_list_append mt_append (pv 1) (pa_cons (pe_tup (pa_cons (pe_ix ix_tup (pv 3) pe_int (fun _ _ => rfl)) (pa_cons (pv 4) (pa_cons (pv 5) pa_nil)))) pa_nil)))))))))))
      (pss_one (ps_ret (pv 1)))))), ?_⟩
    have hsl := sizeLine_eq
    refine ⟨Nat.zero_le _, fun r hr0 => ?_⟩
    have s0 := Same.new (o := .lst []) hr0
    refine while_by (fun σ H' => ∃ (n f : Nat) (rs : List Addr) (cs rest : List (List (List Int))) (x1 x2 x3 : Option V), σ = [some (.ref a), some (.ref r), some (.int n), x1, x2, x3] ∧ n ≤ l.length ∧ rs.length ≤ n ∧ Same H H' ∧ H' r = some (.lst (rs.map V.ref)) ∧
        raw = cs ++ rest ∧ PyFlat.calls PyVawctg.shape f (l.drop n) = some rest ∧ Paired (fun p c => CallAt H' (fun b => H b = none ∧ b ≠ r) p c) rs cs)
      (fun σ H' => match σ with | [_, _, some (.int n), _, _, _] => l.length - n.toNat | _ => 0)
      ⟨0, l.length, [], [], raw, none, none, none, rfl, Nat.zero_le _, Nat.le_refl _, s0, upd_same, rfl, hraw, .nil⟩ ?_ ?_
    · rintro σ H1 ⟨n, f, rs, cs, rest, x1, x2, x3, rfl, hn, hrs, s1, g1, e1, hc, hP⟩
      refine ⟨_, rfl, _, rfl, a, _, rfl, .inl (s1.seq hS), _, _, rfl, rfl, _, rfl, ite_d (fun hlt => ?_) fun hlt => ?_⟩
      · rw [List.length_map] at hlt
        have hlt : n < l.length := by omega
        obtain ⟨p, name, kk, b, f', c, rest', t1, t2, t3, t4, t5, t6⟩ := call_step hc hlt
        obtain ⟨rr, hrr, hq⟩ := calls_row T H1 t1
        refine ⟨_, rfl, _, rfl, a, _, _, _, rfl, rfl, s1.seq hS, atI_int rfl t2, T.a_CALLS, _, _, _, rfl, rfl, T.q_CALLS H1, atI_nat (j := p) (by rw [List.getElem?_map, hrr]; rfl), ?_⟩
        refine ⟨_, rfl, _, _, rfl, rfl, ?_⟩
        refine ⟨_, rfl, _, rfl, _, rfl, _, rfl, _, rfl, rr, _, _, _, rfl, rfl, hq, atI_nat (j := 1) rfl, _, _, rfl, rfl, _, rfl, a, _, rfl, s1.seq hS, fun q1 n1 => ?_⟩
        have ecut : cutV (l.map V.int) (some ((n : Int) + 1)) (some ((n : Int) + 1 + (kk : Int))) = ((l.drop (n + 1)).take kk).map V.int := by
          have := cut_nat (l := l) (i := n + 1) (j := n + 1 + kk) (by omega) t3
          rw [show n + 1 + kk - (n + 1) = kk by omega] at this
          rw [← this]
          congr 2 <;> omega
        have hnl : ((l.drop (n + 1)).take kk).length = kk := by rw [List.length_take, List.length_drop]; omega
        have s2 := Same.new (o := .lst (cutV (l.map V.int) (some ((n : Int) + 1)) (some ((n : Int) + 1 + (kk : Int))))) n1
        have g2 : upd H1 q1 (.lst (cutV (l.map V.int) (some ((n : Int) + 1)) (some ((n : Int) + 1 + (kk : Int))))) q1 = some (.lst (((l.drop (n + 1)).take kk).map V.int)) := by rw [upd_same, ecut]
        generalize upd H1 q1 (.lst (cutV (l.map V.int) (some ((n : Int) + 1)) (some ((n : Int) + 1 + (kk : Int))))) = H2 at s2 g2 ⊢
        have s02 := s1.trans s2
        refine ⟨_, rfl, _, rfl, q1, _, rfl, .inl (SqL.of g2), _, _, rfl, rfl, ?_⟩
        have e5 : (n : Int) + 1 + ((((l.drop (n + 1)).take kk).map V.int).length : Int) = ((n + 1 + kk : Nat) : Int) := by rw [List.length_map, hnl]; omega
        dsimp only
        rw [e5]
        refine ⟨Nat.zero_le _, fun q2 n2 => ?_⟩
        have s3 := Same.new (o := .lst []) n2
        have g3 : upd H2 q2 (.lst []) q2 = some (.lst (([] : List Int).map V.int)) := upd_same
        generalize upd H2 q2 (.lst []) = H3 at s3 g3 ⊢
        have hq3 : SqT K H3 rr [V.str (Str.ofString name), V.int kk, V.bl b] := (s2.trans s3).tupq hq
        have s03 := s02.trans s3
        have hrq1 : r ≠ q1 := ne_of_none g1 n1
        have hrq2 : r ≠ q2 := ne_of_none (s2 _ _ g1) n2
        have fin : ∀ (H4 : Hp) (row : List Int) (a2 : Addr) (n' : Nat) (t : Addr), Same H3 H4 → H2 a2 = none → H4 a2 = some (.lst (row.map V.int)) → row.length ≤ 8200 → c = ((p : Int) :: (l.drop (n + 1)).take kk) :: (if b then [row] else []) → n < n' → n' ≤ l.length →
            PyFlat.calls PyVawctg.shape f' (l.drop n') = some rest' → H4 t = none →
            (∃ (rs2 : List Addr) (cs2 : List (List (List Int))), rs2.length ≤ n' ∧ Same H (upd (upd H4 t (.tup [.str (Str.ofString name), .ref q1, .ref a2])) r (.lst (rs.map V.ref ++ [V.ref t]))) ∧
              upd (upd H4 t (.tup [.str (Str.ofString name), .ref q1, .ref a2])) r (.lst (rs.map V.ref ++ [V.ref t])) r = some (.lst (rs2.map V.ref)) ∧ raw = cs2 ++ rest' ∧
              Paired (fun p c => CallAt (upd (upd H4 t (.tup [.str (Str.ofString name), .ref q1, .ref a2])) r (.lst (rs.map V.ref ++ [V.ref t]))) (fun b => H b = none ∧ b ≠ r) p c) rs2 cs2) := fun H4 row a2 n' t s4 hn2 g4 hrow ec hn' hn'' hc' ht => by
          have s04 := s03.trans s4
          have go : ∀ b o, H4 b = some o → b ≠ r → upd (upd H4 t (.tup [.str (Str.ofString name), .ref q1, .ref a2])) r (.lst (rs.map V.ref ++ [V.ref t])) b = some o := fun b o e h => by
            rw [upd_ne h, upd_ne (ne_of_none e ht)]; exact e
          have tr : t ≠ r := fun z => by
            rw [z, s4 _ _ (s3 _ _ (s2 _ _ g1))] at ht; cases ht
          refine ⟨rs ++ [t], cs ++ [c], by rw [List.length_append]; show rs.length + 1 ≤ n'; omega, fun b o e => go b o (s04 _ _ e) (ne_of_none e hr0), by rw [upd_same, List.map_append]; rfl, by rw [e1, t4, List.append_assoc]; rfl, ?_⟩
          refine Paired.snoc (Paired.mapP hP fun p c hc => hc.keep fun b o hb e => ⟨hb, go b o (s4 _ _ (s3 _ _ (s2 _ _ e))) hb.2⟩) ?_
          refine ⟨p, name, kk, b, _, row, q1, a2, t1, hnl, hrow, ec, ⟨s04.free ht, tr⟩, ⟨s1.free n1, Ne.symm hrq1⟩, ⟨s02.free hn2, fun z => ?_⟩, ?_, ?_, ?_⟩
          · rw [z, s2 _ _ g1] at hn2; cases hn2
          · rw [upd_ne tr, upd_same]
          · exact go _ _ (s4 _ _ (s3 _ _ g2)) (Ne.symm hrq1)
          · exact go _ _ g4 fun z => by rw [z, s2 _ _ g1] at hn2; cases hn2
        refine ⟨_, rfl, rr, _, _, _, rfl, rfl, hq3, atI_nat (j := 2) rfl, b, rfl, ite_b (fun hb => ?_) fun hb => ?_⟩
        · obtain ⟨m, m1, m2, m3, m4⟩ := t6 hb
          have S3 : SqL K H3 a (l.map V.int) := s03.seq hS
          refine ⟨_, rfl, _, rfl, _, _, rfl, rfl, _, rfl, _, rfl, _, _, rfl, rfl, _, rfl, _, rfl, a, _, _, _, rfl, rfl, S3, atI_int rfl m1, _, _, rfl, rfl, _, rfl, a, _, rfl, S3, fun q3 n3 => ?_⟩
          have ecut2 : cutV (l.map V.int) (some (((n + 1 + kk : Nat) : Int) + 1)) (some (((n + 1 + kk : Nat) : Int) + 1 + (m : Int))) = ((l.drop (n + 1 + kk + 1)).take m).map V.int := by
            have := cut_nat (l := l) (i := n + 1 + kk + 1) (j := n + 1 + kk + 1 + m) (by omega) m2
            rw [show n + 1 + kk + 1 + m - (n + 1 + kk + 1) = m by omega] at this
            rw [← this]
            congr 2 <;> omega
          have hml : ((l.drop (n + 1 + kk + 1)).take m).length = m := by rw [List.length_take, List.length_drop]; omega
          have s4 := Same.new (o := .lst (cutV (l.map V.int) (some (((n + 1 + kk : Nat) : Int) + 1)) (some (((n + 1 + kk : Nat) : Int) + 1 + (m : Int))))) n3
          have g4 : upd H3 q3 (.lst (cutV (l.map V.int) (some (((n + 1 + kk : Nat) : Int) + 1)) (some (((n + 1 + kk : Nat) : Int) + 1 + (m : Int))))) q3 = some (.lst (((l.drop (n + 1 + kk + 1)).take m).map V.int)) := by rw [upd_same, ecut2]
          generalize upd H3 q3 (.lst (cutV (l.map V.int) (some (((n + 1 + kk : Nat) : Int) + 1)) (some (((n + 1 + kk : Nat) : Int) + 1 + (m : Int))))) = H4 at s4 g4 ⊢
          refine ⟨_, rfl, _, rfl, q3, _, rfl, .inl (SqL.of g4), _, _, rfl, rfl, _, _, rfl, rfl, ?_⟩
          have e6 : ((n + 1 + kk : Nat) : Int) + (1 + ((((l.drop (n + 1 + kk + 1)).take m).map V.int).length : Int)) = ((n + 1 + kk + 1 + m : Nat) : Int) := by rw [List.length_map, hml]; omega
          dsimp only
          rw [e6]
          refine ⟨_, rfl, .inl ⟨rfl, _, SqL.of (s4 _ _ (s3 _ _ (s2 _ _ g1)))⟩, _, rfl, rr, _, _, _, rfl, rfl, s4.tupq hq3, atI_nat (j := 0) rfl, _, rfl, _, rfl, (by show 3 ≤ sizeLine; decide), fun t ht => ?_⟩
          obtain ⟨rs2, cs2, f1, f2, f3, f4, f5⟩ := fin H4 _ q3 (n + 1 + kk + 1 + m) t s4 (s3.free n3) g4 (by omega) (by rw [m3, hb]; rfl) (by omega) m2 m4 ht
          refine ⟨r, _, _, rfl, rfl, Eq.trans (upd_ne (ne_of_none (s4 _ _ (s3 _ _ (s2 _ _ g1))) ht)) (s4 _ _ (s3 _ _ (s2 _ _ g1))), (by rw [List.length_map]; omega), ?_⟩
          refine ⟨⟨n + 1 + kk + 1 + m, f', rs2, cs2, rest', _, _, _, rfl, m2, f1, f2, f3, f4, m4, f5⟩, ?_⟩
          show l.length - (((n + 1 + kk + 1 + m : Nat) : Int)).toNat < l.length - ((n : Int)).toNat
          omega
        · obtain ⟨m3, m4⟩ := t5 hb
          refine ⟨_, rfl, .inl ⟨rfl, _, SqL.of (s3 _ _ (s2 _ _ g1))⟩, _, rfl, rr, _, _, _, rfl, rfl, hq3, atI_nat (j := 0) rfl, _, rfl, _, rfl, (by show 3 ≤ sizeLine; decide), fun t ht => ?_⟩
          obtain ⟨rs2, cs2, f1, f2, f3, f4, f5⟩ := fin H3 [] q2 (n + 1 + kk) t (Same.refl _) n2 g3 (by simp) (by rw [m3, hb]; rfl) (by omega) t3 m4 ht
          refine ⟨r, _, _, rfl, rfl, Eq.trans (upd_ne (ne_of_none (s3 _ _ (s2 _ _ g1)) ht)) (s3 _ _ (s2 _ _ g1)), (by rw [List.length_map]; omega), ?_⟩
          refine ⟨⟨n + 1 + kk, f', rs2, cs2, rest', _, _, _, rfl, t3, f1, f2, f3, f4, m4, f5⟩, ?_⟩
          show l.length - (((n + 1 + kk : Nat) : Int)).toNat < l.length - ((n : Int)).toNat
          omega
      · rw [List.length_map] at hlt
        have en : n = l.length := by omega
        rw [en, List.drop_length] at hc
        have er : rest = [] := by
          unfold PyFlat.calls at hc
          exact (Option.some.inj hc).symm
        subst er
        rw [List.append_nil] at e1
        subst e1
        refine ⟨_, rfl, k _ r rs s1 hr0 g1 (Paired.mapP hP fun p c hc => hc.keep fun b o hb e => ⟨hb.1, e⟩)⟩
    · rintro σ H' Q1 Q2 hm ⟨v1, h1, v2, h2, h3⟩
      obtain ⟨p, ys, e, hs, i, j, e1, e2, kk, e3, q⟩ := h3
      exact ⟨v1, h1, v2, h2, p, ys, e, hs, i, j, e1, e2, kk, e3, hm _ _ q⟩
abbrev TkAt (T : Top_ K mg) (H : Hp) (p : Addr) (t : Task) : Prop := TaskAt T H (fun _ => True) p t
theorem TaskAt.tk {T : Top_ K mg} {H : Hp} {R : Addr → Prop} {p : Addr} {t : Task} (h : TaskAt T H R p t) : TkAt T H p t := h.keep fun _ _ _ e => ⟨trivial, e⟩
theorem TaskAt.same {T : Top_ K mg} {H H' : Hp} {p : Addr} {t : Task} (h : TkAt T H p t) (s : Same H H') : TkAt T H' p t := h.keep fun _ _ _ e => ⟨trivial, s _ _ e⟩
def Keys (kvs : List (Key × V)) (l : List Nat) : Prop := ∃ ks : List Nat, kvs = ks.map (fun (n : Nat) => ((Sum.inl (n : Int) : Key), V.bl true)) ∧ ks.Nodup ∧ (∀ n ∈ ks, n < 32) ∧ ∀ n, n ∈ ks ↔ n ∈ l
theorem Keys.nil : Keys [] [] := ⟨[], rfl, by simp, by simp, by simp⟩
theorem Keys.congr {kvs : List (Key × V)} {l l' : List Nat} (h : Keys kvs l) (e : ∀ n, n ∈ l ↔ n ∈ l') : Keys kvs l' := by
  obtain ⟨ks, h1, h2, h3, h4⟩ := h
  exact ⟨ks, h1, h2, h3, fun n => (h4 n).trans (e n)⟩
theorem Keys.len {kvs : List (Key × V)} {l : List Nat} (h : Keys kvs l) : kvs.length ≤ 32 := by
  obtain ⟨ks, rfl, h2, h3, h4⟩ := h
  rw [List.length_map]
  exact nodup_le 32 ks h2 h3
theorem keys_any (n : Nat) : ∀ ks : List Nat, ((ks.map (fun (n : Nat) => ((Sum.inl (n : Int) : Key), V.bl true))).any fun kv => decide (kv.1 = Sum.inl (n : Int))) = ks.contains n
  | [] => rfl
  | a :: r => by
    rw [List.map_cons, List.any_cons, keys_any n r, List.contains_cons]
    congr 1
    rw [Bool.eq_iff_iff, decide_eq_true_eq, beq_iff_eq]
    constructor
    · intro h
      have h := Sum.inl.inj h
      omega
    · intro h
      rw [h]
theorem Keys.val {kvs : List (Key × V)} {l : List Nat} (h : Keys kvs l) (n : Nat) : (valV kvs (Sum.inl (n : Int))).isSome = l.contains n := by
  obtain ⟨ks, rfl, h2, h3, h4⟩ := h
  rw [← valV_any, keys_any, Bool.eq_iff_iff, List.contains_iff_mem, List.contains_iff_mem]
  exact h4 n
theorem Keys.put {kvs : List (Key × V)} {l : List Nat} (h : Keys kvs l) {n : Nat} (hn : n < 32) : Keys (putK kvs (Sum.inl (n : Int)) (V.bl true)) (l ++ [n]) := by
  obtain ⟨ks, rfl, h2, h3, h4⟩ := h
  unfold putK
  rw [keys_any]
  by_cases hc : n ∈ ks
  · rw [if_pos (by simpa using hc)]
    refine ⟨ks, ?_, h2, h3, fun m => ?_⟩
    · rw [List.map_map]
      refine List.map_congr_left fun a _ => ?_
      show (if ((Sum.inl (a : Int) : Key)) = Sum.inl (n : Int) then _ else _) = _
      split <;> rfl
    · rw [List.mem_append, List.mem_singleton, ← h4 m]
      constructor
      · exact .inl
      · rintro (h | rfl)
        · exact h
        · exact hc
  · rw [if_neg (by simpa using hc)]
    refine ⟨ks ++ [n], by rw [List.map_append]; rfl, ?_, fun m hm => ?_, fun m => ?_⟩
    · rw [List.nodup_append]
      refine ⟨h2, by simp, fun a ha b hb e => ?_⟩
      have : b = n := by simpa using hb
      subst this; subst e
      exact hc ha
    · rcases List.mem_append.mp hm with hm | hm
      · exact h3 m hm
      · have : m = n := by simpa using hm
        omega
    · rw [List.mem_append, List.mem_append, h4 m]
def among (t : Task) (l : List Nat) : Nat := (t.useful.filter fun x => l.contains x).length
theorem fm_among (l : List Nat) : ∀ u : List Nat, (vInts u).filterMap (fun v => match v with | .int k => if l.contains k.toNat = true then some (V.int k) else none | _ => none) = vInts (u.filter fun x => l.contains x)
  | [] => rfl
  | a :: r => by
    have ih := fm_among l r
    unfold vInts toInts at ih ⊢
    rw [List.map_cons, List.map_cons, List.filterMap_cons, List.filter_cons, ih]
    by_cases h : l.contains a = true
    · simp only [Int.toNat_natCast, h, if_true]; rfl
    · simp only [Int.toNat_natCast, h, if_false]
      rfl
def sp_Task_useful_among (T : Top_ K mg) : Sp := fun vs H Q _ => ∃ (a d : Addr) (t : Task) (kvs : List (Key × V)) (l : List Nat), vs = [.ref a, .ref d] ∧ TkAt T H a t ∧ H d = some (.dK kvs) ∧ Keys kvs l ∧ t.useful.length ≤ 32 ∧
  ∀ H', Same H H' → Q (.int (among t l : Nat)) H'
theorem ok_Task_useful_among (T : Top_ K mg) : FnOk P w K mg base CX0 1 T.a_Task_useful_among T.d_Task_useful_among ["self", "lines"] (sp_Task_useful_among T) := by
  refine T.F_Task_useful_among.ok sc_Task_useful_among (fun vs H Q E h => ?_) (fun cdv A outer s H vs Q E hr h => ?_)
  · obtain ⟨a, d, t, kvs, l, rfl, _⟩ := h
    rfl
  · obtain ⟨a, d, t, kvs, l, rfl, ⟨_, dx, u, v, _, _, ha, hu, hv⟩, hd, hk, hl, k⟩ := h
    refine ⟨_, (pss_one (ps_ret (pe_callB call_len_seq (by rfl) T.x_len PySem.boot_len (pa_cons (pe_lc rfl sc_Task_useful_among.nd (pi_list (pe_fld (pv 0) rfl)) (own := [("line", 2)]) (blkOk_by (by rfl)) (fun _ _ _ _ _ => (pg_name (i := 2) sc_Task_useful_among.nd rfl (.inl rfl))) (fun _ _ _ _ _ => (pts_one (pt_cmp (pc_din (hu_of hr) (pv 2) (pv 1))))) (fun _ _ _ _ _ => (pv 2))) pa_nil)))), ?_⟩
    have hl1 := vInts_len t.useful
    have hsl := sizeLine_eq
    refine ⟨_, rfl, a, _, dx, _, _, rfl, ha, T.cl_Task, T.n_Task_useful, rfl, u, rfl, ⟨_, SqL.of hu⟩, fun D hD => lc_pure (K := K) (a := u) (xs := vInts t.useful) (fun v => match v with | .int k => if l.contains k.toNat = true then some (V.int k) else none | _ => none) (SqL.of hu) hD (by omega) (fun j x acc N hx n0 n1 => ?_) ?_⟩
    · obtain ⟨z, hz, rfl⟩ := vInts_at hx
      have hd' : upd H D (.lst acc) d = some (.dK kvs) := by rw [upd_ne (ne_of_none hd hD)]; exact hd
      refine ⟨rfl, _, rfl, _, rfl, d, _, rfl, DGet.k (k := Sum.inl (z : Int)) hd', _, rfl, ite_b (fun hb => ⟨_, rfl, n1 _ ?_⟩) fun hb => n0 ?_⟩
      · rw [hk.val] at hb
        simp only [Int.toNat_natCast, hb, if_true]
      · rw [hk.val] at hb
        simp only [Int.toNat_natCast, hb]
        rfl
    · rw [fm_among]
      refine ⟨D, _, rfl, .inl (SqL.of upd_same), ?_⟩
      rw [vInts_len]
      exact k _ (Same.new hD)
def usedOf (ts : List Task) : List Nat := ts.flatMap fun t => t.used
def sp_used_by (T : Top_ K mg) : Sp := fun vs H Q _ => ∃ (a : Addr) (ps : List Addr) (ts : List Task), vs = [.ref a] ∧ SqL K H a (ps.map V.ref) ∧ Paired (fun p t => TkAt T H p t) ps ts ∧ (∀ t ∈ ts, ∀ x ∈ t.used, x < 32) ∧
  ∀ H' d kvs, Same H H' → H d = none → H' d = some (.dK kvs) → Keys kvs (usedOf ts) → Q (.ref d) H'
theorem ref_at {ps : List Addr} {i : Nat} {v : V} (h : (ps.map V.ref)[i]? = some v) : ∃ p, ps[i]? = some p ∧ v = V.ref p := by
  rw [List.getElem?_map] at h
  cases e : ps[i]? with
  | none => rw [e] at h; cases h
  | some z => rw [e] at h; exact ⟨z, rfl, (Option.some.inj h).symm⟩
theorem ok_used_by (T : Top_ K mg) : FnOk P w K mg base CX0 1 T.a_used_by T.d_used_by ["tasks"] (sp_used_by T) := by
  refine T.F_used_by.ok sc_used_by (fun vs H Q E h => ?_) (fun cdv A outer s H vs Q E hr h => ?_)
  · obtain ⟨a, ps, ts, rfl, _⟩ := h
    rfl
  · obtain ⟨a, ps, ts, rfl, hS, hP, hb, k⟩ := h
    refine ⟨_, (pss_cons (ps_set (i := 1) sc_used_by.nd rfl (.inl rfl) pe_dnewK)
      (pss_cons (ps_for PassesOwn.never rfl (pi_list (pv 0)) (pg_name (i := 2) sc_used_by.nd rfl (.inl rfl))
      (pss_one (ps_for PassesOwn.never rfl (pi_list (pe_fld (pv 2) rfl)) (pg_name (i := 3) sc_used_by.nd rfl (.inl rfl))
      (pss_one (ps_dput (hu_of hr) (pv 1) (pv 3) pe_bl rfl)))))
      (pss_one (ps_ret (pv 1))))), ?_⟩
    have hsl := sizeLine_eq
    have hlen : ps.length = ts.length := Paired.length hP
    intro d hd
    refine ⟨_, rfl, a, rfl, ⟨_, (Same.new hd).seq hS⟩, for_list (K := K) (a := a) (xs := ps.map V.ref) (fun i σ H' => Same H H' ∧ ∃ (v2 v3 : Option V) (kvs : List (Key × V)), σ = [some (.ref a), some (.ref d), v2, v3] ∧ H' d = some (.dK kvs) ∧ Keys kvs (usedOf (ts.take i)))
      ⟨Same.new hd, none, none, [], rfl, upd_same, by rw [List.take_zero]; exact Keys.nil⟩ (fun i σ H' _ ⟨s, _⟩ => s.seq hS) ?_ ?_⟩
    · rintro i y σ H1 hi ⟨s1, v2, v3, kvs, rfl, h1, hk1⟩
      obtain ⟨p, hp, rfl⟩ := ref_at hi
      obtain ⟨t, ht, hT⟩ := Paired.at_ hP hp
      obtain ⟨_, dx, u, v, _, _, h4, h5, h6⟩ := hT
      have hbt := hb t (List.mem_of_getElem? ht)
      refine ⟨_, rfl, p, _, dx, _, _, rfl, s1 _ _ h4, T.cl_Task, T.n_Task_used, rfl, v, rfl, ⟨_, SqL.of (s1 _ _ h6)⟩, for_list (K := K) (a := v) (xs := vInts t.used) (fun j σ H' => Same H H' ∧ ∃ (v3 : Option V) (kvs : List (Key × V)), σ = [some (.ref a), some (.ref d), some (.ref p), v3] ∧ H' d = some (.dK kvs) ∧ Keys kvs (usedOf (ts.take i) ++ t.used.take j))
        ⟨s1, v3, kvs, rfl, h1, by rw [List.take_zero, List.append_nil]; exact hk1⟩ (fun j σ H' _ ⟨s, _⟩ => SqL.of (s _ _ h6)) ?_ ?_⟩
      · rintro j y σ H2 hj ⟨s2, v3, kvs2, rfl, h2, hk2⟩
        obtain ⟨z, hz, rfl⟩ := vInts_at hj
        have hl2 := hk2.len
        refine ⟨_, rfl, _, rfl, d, _, rfl, DPut.k (k := Sum.inl (z : Int)) h2 (by omega), ?_⟩
        refine ⟨fun b o e => ?_, _, _, rfl, upd_same, ?_⟩
        · rw [upd_ne (ne_of_none e hd)]; exact s2 _ _ e
        · rw [take_snoc hz, ← List.append_assoc]
          exact hk2.put (hbt z (List.mem_of_getElem? hz))
      · rintro σ H2 ⟨s2, v3, kvs2, rfl, h2, hk2⟩
        rw [vInts_len, List.take_length] at hk2
        refine ⟨s2, _, _, kvs2, rfl, h2, ?_⟩
        rw [take_snoc ht]
        unfold usedOf at hk2 ⊢
        rw [List.flatMap_append]
        simpa using hk2
    · rintro σ H1 ⟨s1, v2, v3, kvs, rfl, h1, hk1⟩
      rw [List.length_map, hlen, List.take_length] at hk1
      exact ⟨_, rfl, k _ d kvs s1 hd h1 hk1⟩
open Vawctg (Task Set_ toInts toNats taskRow reading State Call isTask taskAt gamma greatest hurt goodTask)
structure Ord (s : Set_) : Prop where
  nd : s.order.Nodup
  len : s.order.length ≤ 6
  good : ∀ i ∈ s.order, goodTask (taskAt s i) = true
  rel : s.reload ≤ 20
def Ranked (T : Top_ K mg) (H : Hp) (a : Addr) (s : Set_) : Prop := ∃ ps : List Addr, H a = some (.lst (ps.map V.ref)) ∧ Paired (fun p t => TkAt T H p t) ps (s.order.map (taskAt s))
theorem Ranked.same {T : Top_ K mg} {H H' : Hp} {a : Addr} {s : Set_} (h : Ranked T H a s) (e : Same H H') : Ranked T H' a s := by
  obtain ⟨ps, h1, h2⟩ := h
  exact ⟨ps, e _ _ h1, Paired.mapP h2 fun p t ht => ht.same e⟩
theorem Paired.takeP {α β : Type} {F : α → β → Prop} : ∀ {l : List α} {m : List β} (n : Nat), Paired F l m → Paired F (l.take n) (m.take n)
  | _, _, 0, _ => by rw [List.take_zero, List.take_zero]; exact .nil
  | _, _, _ + 1, .nil => .nil
  | _, _, n + 1, .cons r t => .cons r (Paired.takeP n t)
theorem Paired.dropP {α β : Type} {F : α → β → Prop} : ∀ {l : List α} {m : List β} (n : Nat), Paired F l m → Paired F (l.drop n) (m.drop n)
  | _, _, 0, h => h
  | _, _, _ + 1, .nil => .nil
  | _, _, n + 1, .cons _ t => Paired.dropP n t
def sp_cost_seen (T : Top_ K mg) : Sp := fun vs H Q _ => ∃ (a : Addr) (s : Set_) (pa pb pr : List Nat) (i j : Nat) (low high : Nat), vs = [.ref a, .int s.reload, .int low, .int high] ∧ Ranked T H a s ∧ Ord s ∧ s.order = pa ++ j :: (pb ++ i :: pr) ∧ high = pa.length ∧ low = pa.length + 1 + pb.length ∧
  ∀ H', Same H H' → Q (.int (gamma s i j : Nat)) H'
theorem greatest_mem : ∀ {l : List Nat}, l ≠ [] → greatest l ∈ l
  | [], h => absurd rfl h
  | [x], _ => by simp [greatest]
  | x :: y :: r, _ => by
    have ih := greatest_mem (l := y :: r) (by simp)
    rw [greatest_cons]
    by_cases h : x ≤ greatest (y :: r)
    · rw [Nat.max_eq_right h]; exact List.mem_cons_of_mem _ ih
    · rw [Nat.max_eq_left (by omega)]; exact List.mem_cons_self
theorem le_greatest {l : List Nat} {x : Nat} (h : x ∈ l) : x ≤ greatest l := by
  induction l with
  | nil => cases h
  | cons a r ih =>
    rw [greatest_cons]
    rcases List.mem_cons.mp h with rfl | h
    · omega
    · have := ih h; omega
theorem ok_cost_seen (T : Top_ K mg) : FnOk P w K mg base CX0 2 T.a_cost_seen T.d_cost_seen ["ranked", "line_cost", "low", "high"] (sp_cost_seen T) := by
  refine T.F_cost_seen.ok sc_cost_seen (fun vs H Q E h => ?_) (fun cdv A outer s H vs Q E hr h => ?_)
  · obtain ⟨a, s, pa, pb, pr, i, j, low, high, rfl, _⟩ := h
    rfl
  · obtain ⟨a, s, pa, pb, pr, i, j, low, high, rfl, hR, ho, eo, eh, el, k⟩ := h
    refine ⟨_, (pss_cons (ps_set (i := 4) sc_cost_seen.nd rfl (.inr rfl) (pe_call (ok_used_by T) (hr.mono (by decide)) rfl T.m_used_by T.F_used_by.kp T.b_used_by .nil pass0 (pa_cons (pe_slice sl_list (pv 0) po_none (po_some (pe_op op_add (pv 3) pe_int))) pa_nil)))
      (pss_cons (ps_setLc (i := 5) rfl sc_cost_seen.nd rfl rfl (sw_true rfl rfl rfl rfl) (pi_list (pe_slice sl_list (pv 0) (po_some (pe_op op_add (pv 3) pe_int)) (po_some (pe_op op_add (pv 2) pe_int)))) (own := [("task", 6)]) (te := (tMeth T.c_Task "useful_among" (sp_Task_useful_among T) [] E0 (tVar 6) (tCons (tVar 4) tNil))) (blkOk_by (by rfl)) (fun _ _ _ _ _ => (pg_name (i := 6) sc_cost_seen.nd rfl (.inl rfl))) (fun _ _ _ _ _ => pts_nil) (fun _ _ _ _ _ => (pe_meth (pv 6) T.cl_Task T.M_Task_useful_among (ok_Task_useful_among T) (hr.mono (by decide)) T.b_Task_useful_among .nil pass0 (pa_cons (pv 4) pa_nil))))
      (pss_one (ps_ret (pe_op op_mul (pe_callB (cr_max rfl) (by rfl) T.x_max PyProof.Rows.boot_max (pa_cons (pv 5) pa_nil)) (pv 1)))))), ?_⟩
    have hsl := sizeLine_eq
    obtain ⟨ps, ha, hP⟩ := hR
    have hpl : ps.length = s.order.length := by have := Paired.length hP; rw [List.length_map] at this; exact this
    have hol := ho.len
    have eol : s.order.length = pa.length + 1 + pb.length + 1 + pr.length := by rw [eo]; simp; omega
    refine ⟨_, rfl, _, rfl, _, _, rfl, rfl, _, rfl, a, _, rfl, SqL.of ha, fun p1 n1 => ?_⟩
    rw [cutV_upto V.ref ps (j := high + 1) (by omega)]
    have s1 := Same.new (o := .lst ((ps.take (high + 1)).map V.ref)) n1
    have g1 : upd H p1 (.lst ((ps.take (high + 1)).map V.ref)) p1 = _ := upd_same
    generalize upd H p1 (.lst ((ps.take (high + 1)).map V.ref)) = H1 at s1 g1 ⊢
    have eT1 : (s.order.map (taskAt s)).take (high + 1) = (pa ++ [j]).map (taskAt s) := by
      rw [← List.map_take, eo, eh]
      congr 1
      rw [List.take_append]
      simp [List.take_of_length_le]
    have eT2 : ((s.order.map (taskAt s)).drop (high + 1)).take (low + 1 - (high + 1)) = (pb ++ [i]).map (taskAt s) := by
      rw [← List.map_drop, ← List.map_take, eo, eh, el]
      congr 1
      have e1 : pa ++ j :: (pb ++ i :: pr) = (pa ++ [j]) ++ ((pb ++ [i]) ++ pr) := by simp
      have e2 : pa.length + 1 = (pa ++ [j]).length := by simp
      have e3 : pa.length + 1 + pb.length + 1 - (pa.length + 1) = (pb ++ [i]).length := by simp; omega
      rw [e3, e1, e2, List.drop_left, List.take_left]
    have hg : ∀ k ∈ s.order, goodTask (taskAt s k) = true := ho.good
    have mem1 : ∀ k ∈ pa ++ [j], k ∈ s.order := fun k hk => by
      rw [eo]
      rcases List.mem_append.mp hk with h | h
      · exact List.mem_append_left _ h
      · have : k = j := by simpa using h
        subst this; simp
    have mem2 : ∀ k ∈ pb ++ [i], k ∈ s.order := fun k hk => by
      rw [eo]
      rcases List.mem_append.mp hk with h | h
      · simp [h]
      · have : k = i := by simpa using h
        subst this; simp
    refine ⟨p1, _, (pa ++ [j]).map (taskAt s), rfl, SqL.of g1, ?_, ?_, fun H2 d kvs s2 n2 g2 hk => ?_⟩
    · rw [← eT1]
      exact Paired.mapP (Paired.takeP _ hP) fun p t ht => ht.same s1
    · intro t ht x hx
      obtain ⟨k, hk, rfl⟩ := List.mem_map.mp ht
      exact (goodTask_iff.mp (hg k (mem1 k hk))).2.2.2.2.2.2.2.2 x hx
    have eU : usedOf ((pa ++ [j]).map (taskAt s)) = (pa ++ [j]).flatMap fun h => (taskAt s h).used := by
      unfold usedOf
      rw [List.flatMap_map]
    rw [eU] at hk
    have s12 := s1.trans s2
    refine ⟨_, rfl, _, rfl, _, _, rfl, rfl, _, rfl, _, rfl, _, _, rfl, rfl, _, rfl, a, _, rfl, SqL.of (s12 _ _ ha), fun p3 n3 => ?_⟩
    rw [cutV_mid V.ref ps (i := high + 1) (j := low + 1) (by omega) (by omega) (by omega)]
    generalize eps : (ps.drop (high + 1)).take (low + 1 - (high + 1)) = ps2 at n3 ⊢
    have s3 := Same.new (o := .lst (ps2.map V.ref)) n3
    have g3 : upd H2 p3 (.lst (ps2.map V.ref)) p3 = _ := upd_same
    generalize upd H2 p3 (.lst (ps2.map V.ref)) = H3 at s3 g3 ⊢
    have hP2 : Paired (fun p t => TkAt T H3 p t) ps2 ((pb ++ [i]).map (taskAt s)) := by
      rw [← eT2, ← eps]
      exact Paired.mapP (Paired.takeP _ (Paired.dropP _ hP)) fun p t ht => ht.same (s12.trans s3)
    have hl2 : ps2.length = pb.length + 1 := by have := Paired.length hP2; simpa using this
    have gd := s3 _ _ g2
    refine ⟨p3, rfl, ⟨_, SqL.of g3⟩, fun D hD => lc_list (K := K) (a := p3) (xs := ps2.map V.ref) (fun n H' => Same H3 H' ∧ H' D = some (.lst (vInts (((pb ++ [i]).take n).map fun k => hurt s k ((pa ++ [j]).flatMap fun h => (taskAt s h).used)))))
      ⟨Same.new hD, by rw [upd_same, List.take_zero]; rfl⟩ (fun n H' _ hh => SqL.of (hh.1 _ _ g3)) ?_ ?_⟩
    · rintro n y H4 hy ⟨s4, g4⟩
      obtain ⟨p, hp, rfl⟩ := ref_at hy
      obtain ⟨t, ht, hT⟩ := Paired.at_ hP2 hp
      rw [List.getElem?_map] at ht
      cases ek : (pb ++ [i])[n]? with
      | none => rw [ek] at ht; cases ht
      | some kk =>
        rw [ek] at ht
        cases (Option.some.inj ht)
        have hT4 := hT.same s4
        have hT5 := hT4
        obtain ⟨_, dx, u, v, _, _, h4, h5, h6⟩ := hT5
        refine ⟨rfl, _, rfl, p, dx, _, rfl, h4, rfl, _, rfl, p, d, _, kvs, _, rfl, hT4, s4 _ _ gd, hk, (good_len (hg kk (mem2 kk (List.mem_of_getElem? ek)))).1, fun H5 s5 => ?_⟩
        refine ⟨_, s5 _ _ g4, ?_, fun b o e => ?_, ?_⟩
        · rw [vInts_len, List.length_map, List.length_take]
          have : (pb ++ [i]).length ≤ 6 := by simp; omega
          omega
        · rw [upd_ne (ne_of_none e hD)]; exact s5 _ _ (s4 _ _ e)
        · rw [upd_same, take_snoc ek, List.map_append, vInts_append]
          rfl
    · rintro H4 ⟨s4, g4⟩
      rw [List.length_map, hl2, List.take_of_length_le (by simp)] at g4
      refine ⟨_, rfl, D, _, rfl, SqL.of g4, by simp [toInts], fun m hm hmx => ⟨_, rfl, _, _, rfl, rfl, .inr ⟨by have := ho.rel; omega, by have := ho.rel; omega⟩, ?_⟩⟩
      refine icast (Q := Q) ?_ (k H4 ((s12.trans s3).trans s4))
      rw [gamma_split eo ho.nd]
      generalize ((pb ++ [i]).map fun k => hurt s k ((pa ++ [j]).flatMap fun h => (taskAt s h).used)) = L at hm hmx
      have hL : L ≠ [] := by rintro rfl; simp [toInts] at hm
      unfold toInts at hm hmx
      obtain ⟨x, hx, rfl⟩ := List.mem_map.mp hm
      have h1 := le_greatest hx
      have h2 := hmx _ (List.mem_map.mpr ⟨_, greatest_mem hL, rfl⟩)
      have h3 : x = greatest L := by omega
      subst h3
      rw [Int.natCast_mul, Int.mul_comm]
open Vawctg (Task Set_ toInts toNats taskRow reading State Call isTask taskAt gamma greatest hurt goodTask demand responseOf rounded inTime)
theorem gamma_le {s : Set_} (ho : Ord s) {pa pb pr : List Nat} {i j : Nat} (eo : s.order = pa ++ j :: (pb ++ i :: pr)) : gamma s i j ≤ 640 := by
  rw [gamma_split eo ho.nd]
  have h1 : greatest ((pb ++ [i]).map fun k => hurt s k ((pa ++ [j]).flatMap fun h => (taskAt s h).used)) ≤ 32 := by
    refine greatest_le fun x hx => ?_
    obtain ⟨k, hk, rfl⟩ := List.mem_map.mp hx
    have hm : k ∈ s.order := by
      rw [eo]
      rcases List.mem_append.mp hk with h | h
      · simp [h]
      · have : k = i := by simpa using h
        subst this; simp
    have h2 := (good_len (ho.good k hm)).1
    have h3 := List.length_filter_le (fun x => List.contains ((pa ++ [j]).flatMap fun h => (taskAt s h).used) x) (taskAt s k).useful
    show ((taskAt s k).useful.filter _).length ≤ 32
    omega
  have h2 := ho.rel
  calc s.reload * _ ≤ 20 * 32 := Nat.mul_le_mul h2 h1
    _ = 640 := rfl
def loadV (x : Nat × Nat) : List V := [.int (x.1 : Nat), .int (x.2 : Nat)]
def loadsOf (s : Set_) (i : Nat) (p : List Nat) : List (Nat × Nat) := p.map fun j => ((taskAt s j).period, (taskAt s j).cycles + gamma s i j)
theorem ranked_at {T : Top_ K mg} {H : Hp} {s : Set_} {ps : List Addr} (hP : Paired (fun p t => TkAt T H p t) ps (s.order.map (taskAt s))) {n j : Nat} (e : s.order[n]? = some j) : ∃ q, ps[n]? = some q ∧ TkAt T H q (taskAt s j) := by
  have hpl : ps.length = s.order.length := by have := Paired.length hP; rw [List.length_map] at this; exact this
  have hn : n < s.order.length := (List.getElem?_eq_some_iff.mp e).1
  obtain ⟨q, hq⟩ : ∃ q, ps[n]? = some q := ⟨_, List.getElem?_eq_getElem (by omega)⟩
  obtain ⟨t, ht, hT⟩ := Paired.at_ hP hq
  rw [List.getElem?_map, e] at ht
  cases (Option.some.inj ht)
  exact ⟨q, hq, hT⟩
def sp_loads_above (T : Top_ K mg) : Sp := fun vs H Q _ => ∃ (a : Addr) (s : Set_) (p r : List Nat) (i place : Nat), vs = [.ref a, .int s.reload, .int place] ∧ Ranked T H a s ∧ Ord s ∧ s.order = p ++ i :: r ∧ place = p.length ∧
  ∀ H' l rs, Same H H' → H l = none → H' l = some (.lst (rs.map V.ref)) → Paired (fun q x => H' q = some (.tup (loadV x))) rs (loadsOf s i p) → Q (.ref l) H'
theorem ok_loads_above (T : Top_ K mg) : FnOk P w K mg base CX0 3 T.a_loads_above T.d_loads_above ["ranked", "line_cost", "place"] (sp_loads_above T) := by
  refine T.F_loads_above.ok sc_loads_above (fun vs H Q E h => ?_) (fun cdv A outer s H vs Q E hr h => ?_)
  · obtain ⟨a, s, p, r, i, place, rfl, _⟩ := h
    rfl
  · obtain ⟨a, s, p, r, i, place, rfl, hR, ho, eo, epl, k⟩ := h
    refine ⟨_, (pss_cons (ps_set (i := 3) sc_loads_above.nd rfl (.inl rfl) (pe_lst pa_nil))
      (pss_cons (ps_for PassesOwn.never rfl (pi_range1 rfl T.x_range (pa_cons (pv 2) pa_nil)) (pg_name (i := 4) sc_loads_above.nd rfl (.inl rfl))
      (pss_cons (ps_set (i := 5) sc_loads_above.nd rfl (.inl rfl) (pe_call (ok_cost_seen T) (hr.mono (by decide)) rfl T.m_cost_seen T.F_cost_seen.kp T.b_cost_seen .nil pass0 (pa_cons (pv 0) (pa_cons (pv 1) (pa_cons (pv 2) (pa_cons (pv 4) pa_nil))))))
      (pss_one (ps_expr (pe_bm PySem.F.plainAttrs_list PySem.F.slot_list_append PySem.F.type_list_append mt_append (pv 3) (pa_cons (pe_tup (pa_cons (pe_fld (pe_ix ix_list (pv 0) (pv 4) (fun _ _ => rfl)) rfl) (pa_cons (pe_op op_add (pe_fld (pe_ix ix_list (pv 0) (pv 4) (fun _ _ => rfl)) rfl) (pv 5)) pa_nil))) pa_nil))))))
      (pss_one (ps_ret (pv 3))))), ?_⟩
    have hsl := sizeLine_eq
    have hol := ho.len
    have eol : s.order.length = p.length + 1 + r.length := by rw [eo]; simp; omega
    refine ⟨Nat.zero_le _, fun l hl => ?_⟩
    refine ⟨_, rfl, (place : Int), rfl, by omega, by omega, for_range (n := place) (fun n σ H' => ∃ (v4 v5 : Option V) (rs : List Addr), σ = [some (.ref a), some (.int s.reload), some (.int place), some (.ref l), v4, v5] ∧ Same H H' ∧ H' l = some (.lst (rs.map V.ref)) ∧ Paired (fun q x => H' q = some (.tup (loadV x))) rs (loadsOf s i (p.take n)))
      ⟨none, none, [], rfl, Same.new hl, upd_same, by rw [List.take_zero]; exact .nil⟩ ?_ ?_⟩
    · rintro n σ H1 hn ⟨v4, v5, rs, rfl, s1, g1, hP1⟩
      have hrl : rs.length = n := by have := Paired.length hP1; unfold loadsOf at this; rw [List.length_map, List.length_take] at this; omega
      have e0 : (0 : Int) + (n : Int) = ((n : Nat) : Int) := by omega
      rw [e0]
      obtain ⟨j, hj⟩ : ∃ j, p[n]? = some j := ⟨_, List.getElem?_eq_getElem (by omega)⟩
      have hjp := List.mem_of_getElem? hj
      have hjo : s.order[n]? = some j := by rw [eo, List.getElem?_append_left (by omega)]; exact hj
      have ep : p = p.take n ++ j :: p.drop (n + 1) := by
        have := List.take_append_drop n p
        rw [List.drop_eq_getElem_cons (by omega)] at this
        rw [List.getElem?_eq_getElem (by omega)] at hj
        rw [Option.some.inj hj] at this
        exact this.symm
      have eo2 : s.order = p.take n ++ j :: (p.drop (n + 1) ++ i :: r) := by
        rw [eo]
        conv => lhs; rw [ep]
        simp
      refine ⟨_, rfl, _, rfl, _, rfl, _, rfl, a, s, p.take n, p.drop (n + 1), r, i, j, place, n, rfl, hR.same s1, ho, eo2, by rw [List.length_take]; omega, by rw [List.length_take, List.length_drop]; omega, fun H2 s2 => ?_⟩
      have s12 := s1.trans s2
      obtain ⟨ps, ha, hP⟩ := hR.same s12
      obtain ⟨q, hq, hT⟩ := ranked_at hP hjo
      obtain ⟨_, dx, u, v, _, _, h4, h5, h6⟩ := hT
      have hat : atI (ps.map V.ref) (n : Int) = some (V.ref q) := atI_nat (by rw [List.getElem?_map, hq]; rfl)
      refine ⟨_, rfl, .inl ⟨rfl, _, SqL.of (s2 _ _ g1)⟩, _, rfl, _, rfl, a, _, _, _, rfl, rfl, SqL.of ha, hat, q, _, dx, _, _, rfl, h4, T.cl_Task, T.n_Task_period, rfl,
        _, rfl, _, rfl, a, _, _, _, rfl, rfl, SqL.of ha, hat, q, _, dx, _, _, rfl, h4, T.cl_Task, T.n_Task_cycles, rfl, _, rfl, _, _, rfl, rfl, (by show 2 ≤ sizeLine; decide), fun t ht => ?_⟩
      have s3 := Same.new (o := .tup [.int (taskAt s j).period, .int (((taskAt s j).cycles : Int) + (gamma s i j : Nat))]) ht
      refine ⟨l, _, _, rfl, rfl, s3 _ _ (s2 _ _ g1), (by rw [List.length_map]; omega), ?_⟩
      have go : ∀ b o, H2 b = some o → b ≠ l → upd (upd H2 t (.tup [.int (taskAt s j).period, .int (((taskAt s j).cycles : Int) + (gamma s i j : Nat))])) l (.lst (rs.map V.ref ++ [V.ref t])) b = some o := fun b o e hb => by
        rw [upd_ne hb]; exact s3 _ _ e
      refine ⟨_, _, rs ++ [t], rfl, fun b o e => go b o (s12 _ _ e) (ne_of_none e hl), by rw [upd_same, List.map_append]; rfl, ?_⟩
      rw [take_snoc hj]
      unfold loadsOf at hP1 ⊢
      rw [List.map_append]
      refine Paired.snoc (Paired.mapP hP1 fun q x hx => go _ _ (s2 _ _ hx) fun z => by rw [z, g1] at hx; cases hx) ?_
      rw [upd_ne (fun z => by rw [z, s2 _ _ g1] at ht; cases ht), upd_same]
      unfold loadV
      simp only [Int.natCast_add]
    · rintro σ H1 ⟨v4, v5, rs, rfl, s1, g1, hP1⟩
      rw [epl, List.take_length] at hP1
      exact ⟨_, rfl, k _ l rs s1 hl g1 hP1⟩
def fitsOf (cyc r : Nat) (L : List (Nat × Nat)) : Nat := cyc + Vawctg.sum (L.map fun x => rounded r x.1 * x.2)
def sp_what_fits (T : Top_ K mg) : Sp := fun vs H Q _ => ∃ (l : Addr) (cyc r : Nat) (rs : List Addr) (L : List (Nat × Nat)), vs = [.int cyc, .ref l, .int r] ∧ H l = some (.lst (rs.map V.ref)) ∧ Paired (fun q x => H q = some (.tup (loadV x))) rs L ∧ (∀ x ∈ L, 1 ≤ x.1 ∧ x.1 ≤ 500 ∧ x.2 ≤ 100000) ∧
  Q (.int (fitsOf cyc r L : Nat)) H
theorem ok_what_fits (T : Top_ K mg) : FnOk P w K mg base CX0 1 T.a_what_fits T.d_what_fits ["cycles", "loads", "r"] (sp_what_fits T) := by
  refine T.F_what_fits.ok sc_what_fits (fun vs H Q E h => ?_) (fun cdv A outer s H vs Q E hr h => ?_)
  · obtain ⟨l, cyc, r, rs, L, rfl, _⟩ := h
    rfl
  · obtain ⟨l, cyc, r, rs, L, rfl, hl, hP, hb, k⟩ := h
    refine ⟨_, (pss_cons (ps_set (i := 3) sc_what_fits.nd rfl (.inl rfl) (pv 0))
      (pss_cons (ps_for PassesOwn.never rfl (pi_list (pv 1)) (pg_tup rfl (pgs_cons (pg_name (i := 4) sc_what_fits.nd rfl (.inl rfl)) (pgs_cons (pg_name (i := 5) sc_what_fits.nd rfl (.inl rfl)) pgs_nil)))
      (pss_one (ps_aug (i := 3) sc_what_fits.nd rfl (.inl rfl) (pe_op op_mul (pe_op op_fdiv (pe_op op_sub (pe_op op_add (pv 2) (pv 4)) pe_int) (pv 4)) (pv 5)) ip_add)))
      (pss_one (ps_ret (pv 3))))), ?_⟩
    have hrl : rs.length = L.length := Paired.length hP
    refine ⟨_, rfl, _, rfl, l, rfl, ⟨_, SqL.of hl⟩, for_list (K := K) (a := l) (xs := rs.map V.ref) (fun n σ H' => H' = H ∧ ∃ (v4 v5 : Option V), σ = [some (.int cyc), some (.ref l), some (.int r), some (.int (fitsOf cyc r (L.take n) : Nat)), v4, v5])
      ⟨rfl, none, none, by rw [List.take_zero]; rfl⟩ (fun n σ H' _ ⟨e, _⟩ => e ▸ SqL.of hl) ?_ ?_⟩
    · rintro n y σ H1 hy ⟨rfl, v4, v5, rfl⟩
      obtain ⟨q, hq, rfl⟩ := ref_at hy
      obtain ⟨x, hx, hT⟩ := Paired.at_ hP hq
      obtain ⟨b1, b2, b3⟩ := hb x (List.mem_of_getElem? hx)
      refine ⟨q, _, rfl, SqT.of hT, rfl, _, _, rfl, _, _, rfl, rfl, _, rfl, _, rfl, _, rfl, _, _, rfl, rfl, _, _, rfl, rfl, _, rfl, _, _, rfl, rfl, ⟨by omega, by omega⟩, _, rfl, _, _, rfl, rfl, .inr ⟨by omega, by omega⟩, _, _, rfl, rfl, rfl, some (.int (x.1 : Nat)), some (.int (x.2 : Nat)), ?_⟩
      have e1 : (r : Int) + x.1 - 1 = ((r + x.1 - 1 : Nat) : Int) := by omega
      have e2 : fitsOf cyc r (L.take (n + 1)) = fitsOf cyc r (L.take n) + (r + x.1 - 1) / x.1 * x.2 := by
        unfold fitsOf
        rw [take_snoc hx, List.map_append, sum_append]
        show _ + (_ + Vawctg.sum [rounded r x.1 * x.2]) = _
        rw [sum_cons, sum_nil]
        unfold rounded
        omega
      rw [e2, Int.natCast_add, Int.natCast_mul, Int.natCast_ediv, ← e1]
      rfl
    · rintro σ H1 ⟨rfl, v4, v5, rfl⟩
      refine ⟨_, rfl, ?_⟩
      rw [List.length_map, hrl, List.take_length]
      exact k
theorem not_mem_split {s : Set_} (ho : s.order.Nodup) {p r : List Nat} {i : Nat} (eo : s.order = p ++ i :: r) : i ∉ p := by
  intro h
  rw [eo, List.nodup_append] at ho
  exact ho.2.2 i h i List.mem_cons_self rfl
theorem fits_demand {s : Set_} (ho : Ord s) {p r : List Nat} {i : Nat} (eo : s.order = p ++ i :: r) (x : Nat) : fitsOf (taskAt s i).cycles x (loadsOf s i p) = demand s i x := by
  unfold fitsOf demand loadsOf
  rw [above_split eo (not_mem_split ho.nd eo), List.map_map]
  rfl
theorem loads_ok {s : Set_} (ho : Ord s) {p r : List Nat} {i : Nat} (eo : s.order = p ++ i :: r) : ∀ x ∈ loadsOf s i p, 1 ≤ x.1 ∧ x.1 ≤ 500 ∧ x.2 ≤ 100000 := by
  intro x hx
  unfold loadsOf at hx
  obtain ⟨j, hj, rfl⟩ := List.mem_map.mp hx
  obtain ⟨pa, pb, e1, _, _⟩ := order_split hj
  have eo2 : s.order = pa ++ j :: (pb ++ i :: r) := by rw [eo, e1]; simp
  have h1 := gamma_le ho eo2
  have h2 := goodTask_iff.mp (ho.good j (by rw [eo2]; simp))
  refine ⟨?_, ?_, ?_⟩
  · show 1 ≤ (taskAt s j).period; omega
  · show (taskAt s j).period ≤ 500; omega
  · show (taskAt s j).cycles + gamma s i j ≤ 100000; omega
def sp_rounds_made (T : Top_ K mg) : Sp := fun vs H Q _ => ∃ (a : Addr) (s : Set_) (p r : List Nat) (i place : Nat), vs = [.ref a, .int s.reload, .int place] ∧ Ranked T H a s ∧ Ord s ∧ s.order = p ++ i :: r ∧ place = p.length ∧
  ∀ H' l (M : List Nat) (x : Nat), Same H H' → H l = none → H' l = some (.lst (vInts M ++ [V.int x])) → responseOf s i = (x, M.length + 1) → Q (.ref l) H'
theorem ok_rounds_made (T : Top_ K mg) : FnOk P w K mg base CX0 4 T.a_rounds_made T.d_rounds_made ["ranked", "line_cost", "place"] (sp_rounds_made T) := by
  refine T.F_rounds_made.ok sc_rounds_made (fun vs H Q E h => ?_) (fun cdv A outer s H vs Q E hr h => ?_)
  · obtain ⟨a, s, p, r, i, place, rfl, _⟩ := h
    rfl
  · obtain ⟨a, s, p, r, i, place, rfl, hR, ho, eo, epl, k⟩ := h
    refine ⟨_, (pss_cons (ps_set (i := 3) sc_rounds_made.nd rfl (.inl rfl) (pe_ix ix_list (pv 0) (pv 2) (fun _ _ => rfl)))
      (pss_cons (ps_set (i := 4) sc_rounds_made.nd rfl (.inl rfl) (pe_call (ok_loads_above T) (hr.mono (by decide)) rfl T.m_loads_above T.F_loads_above.kp T.b_loads_above .nil pass0 (pa_cons (pv 0) (pa_cons (pv 1) (pa_cons (pv 2) pa_nil)))))
      (pss_cons (ps_set (i := 5) sc_rounds_made.nd rfl (.inl rfl) (pe_fld (pv 3) rfl))
      (pss_cons (ps_set (i := 6) sc_rounds_made.nd rfl (.inl rfl) (pe_lst (pa_cons (pe_call (ok_what_fits T) (hr.mono (by decide)) rfl T.m_what_fits T.F_what_fits.kp T.b_what_fits .nil pass0 (pa_cons (pe_fld (pv 3) rfl) (pa_cons (pv 4) (pa_cons (pv 5) pa_nil)))) pa_nil)))
      (pss_cons (ps_while PassesOwn.never (PW.pt (pw_and (pt_cmpR op_ne (pe_ix ix_list (pv 6) (pe_un un_neg pe_int) (fun _ _ => rfl)) (pv 5) (nomark _)) (pw_and1 (pt_cmpR op_le (pe_ix ix_list (pv 6) (pe_un un_neg pe_int) (fun _ _ => rfl)) (pe_fld (pv 3) rfl) (nomark _)))))
      (pss_cons (ps_set (i := 5) sc_rounds_made.nd rfl (.inl rfl) (pe_ix ix_list (pv 6) (pe_un un_neg pe_int) (fun _ _ => rfl)))
      (pss_one (ps_expr (pe_bm PySem.F.plainAttrs_list PySem.F.slot_list_append PySem.F.type_list_append mt_append (pv 6) (pa_cons (pe_call (ok_what_fits T) (hr.mono (by decide)) rfl T.m_what_fits T.F_what_fits.kp T.b_what_fits .nil pass0 (pa_cons (pe_fld (pv 3) rfl) (pa_cons (pv 4) (pa_cons (pv 5) pa_nil)))) pa_nil))))))
      (pss_one (ps_ret (pv 6)))))))), ?_⟩
    have hsl := sizeLine_eq
    have hio : s.order[place]? = some i := by rw [eo, epl]; simp
    have hg := goodTask_iff.mp (ho.good i (List.mem_of_getElem? hio))
    have hR' := hR
    obtain ⟨ps, ha, hP⟩ := hR'
    obtain ⟨q, hq, hT⟩ := ranked_at hP hio
    refine ⟨_, rfl, _, rfl, a, _, _, _, rfl, rfl, SqL.of ha, atI_nat (by rw [List.getElem?_map, hq]; rfl), ?_⟩
    refine ⟨_, rfl, _, rfl, _, rfl, a, s, p, r, i, place, rfl, hR, ho, eo, epl, fun H1 l rs s1 n1 g1 hP1 => ?_⟩
    have hT1 := hT.same s1
    obtain ⟨_, dx, u, v, _, _, h4, h5, h6⟩ := hT1
    have dle := loads_ok ho eo
    refine ⟨_, rfl, q, _, dx, _, _, rfl, h4, T.cl_Task, T.n_Task_cycles, rfl, ?_⟩
    refine ⟨_, rfl, q, _, dx, _, _, rfl, h4, T.cl_Task, T.n_Task_cycles, rfl, _, rfl, _, rfl, l, _, _, rs, _, rfl, g1, hP1, dle, ?_⟩
    refine ⟨(by show 1 ≤ sizeLine; decide), fun m nm => ?_⟩
    dsimp only
    rw [fits_demand ho eo]
    have sm := Same.new (o := .lst [V.int (demand s i (taskAt s i).cycles : Nat)]) nm
    have inv : ∃ W : Nat → L2.St → Hp → Prop, W = fun mm σ H' => ∃ (b : Nat) (M : List Nat), mm = 500 - b ∧ σ = [some (.ref a), some (.int s.reload), some (.int place), some (.ref q), some (.ref l), some (.int b), some (.ref m)] ∧ Same H1 H' ∧
        H' m = some (.lst (vInts M ++ [V.int (demand s i b : Nat)])) ∧ b ≤ demand s i b ∧ b ≤ (taskAt s i).deadline ∧ M.length + 1 ≤ b ∧ responseOf s i = roundsFrom s i b M.length := ⟨_, rfl⟩
    obtain ⟨W, hW⟩ := inv
    refine ⟨W, ⟨500 - (taskAt s i).cycles, ?_⟩, ?_⟩
    · rw [hW]
      exact ⟨(taskAt s i).cycles, [], rfl, rfl, sm, upd_same, cycles_le_demand s i _, hg.2.1, hg.1, rfl⟩
    · rintro mm σ H2 w2
      rw [hW] at w2
      obtain ⟨b, M, rfl, rfl, s2, g2, hb1, hb2, hb3, hres⟩ := w2
      have hM := vInts_len M
      refine ⟨_, rfl, _, rfl, m, _, _, _, rfl, rfl, SqL.of g2, atI_end, _, rfl, rfl, _, rfl, ite_ndV (fun he => ?_) fun he => ?_⟩
      · -- nothing changed
        have he' : demand s i b = b := by omega
        refine ⟨_, rfl, k H2 m M _ (s1.trans s2) (s1.free nm) g2 ?_⟩
        rw [hres, roundsFrom_end (.inl he')]
      · have he' : demand s i b ≠ b := fun z => he (by rw [z])
        refine ⟨_, rfl, _, rfl, m, _, _, _, rfl, rfl, SqL.of g2, atI_end, _, rfl, q, _, dx, _, _, rfl, s2 _ _ h4, T.cl_Task, T.n_Task_deadline, rfl, _, _, rfl, rfl, _, rfl, ite_d (fun hd => ?_) fun hd => ?_⟩
        · have hd' : demand s i b ≤ (taskAt s i).deadline := by omega
          refine ⟨fun σ' H' => ∃ m', m' < 500 - b ∧ W m' σ' H', fun _ _ z => z, ?_⟩
          refine ⟨_, rfl, _, rfl, m, _, _, _, rfl, rfl, SqL.of g2, atI_end, ?_⟩
          refine ⟨_, rfl, .inl ⟨rfl, _, SqL.of g2⟩, _, rfl, q, _, dx, _, _, rfl, s2 _ _ h4, T.cl_Task, T.n_Task_cycles, rfl, _, rfl, _, rfl, l, _, _, rs, _, rfl, s2 _ _ g1, Paired.mapP hP1 (fun q x hx => s2 _ _ hx), dle, ?_⟩
          dsimp only
          rw [fits_demand ho eo]
          refine ⟨m, _, _, rfl, rfl, g2, (by rw [List.length_append, hM]; show M.length + 1 < sizeLine; omega), ?_⟩
          refine ⟨500 - demand s i b, by omega, ?_⟩
          rw [hW]
          refine ⟨demand s i b, M ++ [demand s i b], rfl, rfl, fun b' o e => ?_, ?_, demand_mono s i hb1, hd', by rw [List.length_append, List.length_singleton]; omega, ?_⟩
          · rw [upd_ne (ne_of_none e nm)]; exact s2 _ _ e
          · rw [upd_same, vInts_append]; rfl
          · rw [hres, roundsFrom_step hb1 (by omega) he' hd', List.length_append, List.length_singleton]
        · refine ⟨_, rfl, k H2 m M _ (s1.trans s2) (s1.free nm) g2 ?_⟩
          rw [hres, roundsFrom_end (.inr (by omega))]
def sp_lowest_in_time (T : Top_ K mg) : Sp := fun vs H Q _ => ∃ (a : Addr) (s : Set_), vs = [.ref a, .int s.reload] ∧ Ranked T H a s ∧ Ord s ∧ ∀ H', Same H H' → Q (.bl (lastOk s)) H'
theorem ok_lowest_in_time (T : Top_ K mg) : FnOk P w K mg base CX0 5 T.a_lowest_in_time T.d_lowest_in_time ["ranked", "line_cost"] (sp_lowest_in_time T) := by
  refine T.F_lowest_in_time.ok sc_lowest_in_time (fun vs H Q E h => ?_) (fun cdv A outer s H vs Q E hr h => ?_)
  · obtain ⟨a, s, rfl, _⟩ := h
    rfl
  · obtain ⟨a, s, rfl, hR, ho, k⟩ := h
    refine ⟨_, (pss_cons (ps_if (pt_not (pt_truth (pv 0) (fun _ => rfl)))
      (pss_one (ps_ret pe_bl))
      pss_nil)
      (pss_cons (ps_set (i := 2) sc_lowest_in_time.nd rfl (.inl rfl) (pe_call (ok_rounds_made T) (hr.mono (by decide)) rfl T.m_rounds_made T.F_rounds_made.kp T.b_rounds_made .nil pass0 (pa_cons (pv 0) (pa_cons (pv 1) (pa_cons (pe_op op_sub (pe_callB call_len_seq (by rfl) T.x_len PySem.boot_len (pa_cons (pv 0) pa_nil)) pe_int) pa_nil)))))
      (pss_one (ps_ret (pe_cmpR op_le (pe_ix ix_list (pv 2) (pe_un un_neg pe_int) (fun _ _ => rfl)) (pe_fld (pe_ix ix_list (pv 0) (pe_un un_neg pe_int) (fun _ _ => rfl)) rfl) (nomark _)))))), ?_⟩
    have hR' := hR
    obtain ⟨ps, ha, hP⟩ := hR'
    have hpl : ps.length = s.order.length := by have := Paired.length hP; rw [List.length_map] at this; exact this
    refine ⟨_, rfl, _, .inl ⟨_, SqL.of ha, rfl⟩, ite_nb (fun hb => ?_) fun hb => ?_⟩
    · have hne : s.order ≠ [] := fun z => by
        rw [z] at hpl
        have : ps = [] := List.length_eq_zero_iff.mp hpl
        rw [this] at hb; simp at hb
      obtain ⟨p, i, eo⟩ := (snoc_or s.order).resolve_left hne
      have hpl2 : ps.length = p.length + 1 := by rw [hpl, eo]; simp
      refine ⟨_, rfl, _, rfl, _, rfl, a, _, rfl, .inl (SqL.of ha), _, _, rfl, rfl, ?_⟩
      have e1 : (((ps.map V.ref).length : Nat) : Int) - 1 = (p.length : Nat) := by rw [List.length_map]; omega
      dsimp only
      rw [e1]
      refine ⟨a, s, p, [], i, p.length, rfl, hR, ho, eo, rfl, fun H1 l M x s1 n1 g1 hres => ?_⟩
      obtain ⟨ps', ha', hP'⟩ := hR.same s1
      have hpl3 : ps'.length = p.length + 1 := by have := Paired.length hP'; rw [List.length_map, eo] at this; simpa using this
      obtain ⟨qs, q, eqs⟩ := (snoc_or ps').resolve_left (by rintro rfl; simp at hpl3)
      have hqs : qs.length = p.length := by rw [eqs] at hpl3; simpa using hpl3
      have hio : s.order[p.length]? = some i := by rw [eo]; simp
      obtain ⟨q', hq', hT⟩ := ranked_at hP' hio
      have : q' = q := by
        rw [eqs, ← hqs] at hq'
        simp at hq'
        exact hq'.symm
      subst this
      obtain ⟨_, dx, u, v, _, _, h4, h5, h6⟩ := hT
      have e2 : ps'.map V.ref = qs.map V.ref ++ [V.ref q'] := by rw [eqs, List.map_append]; rfl
      rw [e2] at ha'
      refine ⟨_, rfl, _, rfl, l, _, _, _, rfl, rfl, SqL.of g1, atI_end, _, rfl, _, rfl, a, _, _, _, rfl, rfl, SqL.of ha', atI_end, q', _, dx, _, _, rfl, h4, T.cl_Task, T.n_Task_deadline, rfl, _, _, rfl, rfl, ?_⟩
      refine bcast (Q := Q) ?_ (k H1 s1)
      rw [lastOk_snoc eo]
      unfold inTime
      rw [hres]
      rw [Bool.eq_iff_iff, decide_eq_true_eq, decide_eq_true_eq]
      omega
    · have hn : s.order = [] := by
        have : ps = [] := by simpa using hb
        rw [this] at hpl
        exact List.length_eq_zero_iff.mp hpl.symm
      exact bcast (Q := Q) (lastOk_nil hn).symm (k H (Same.refl _))
open Vawctg (Task Set_ toInts toNats taskRow reading State Call isTask taskAt gamma greatest hurt goodTask demand responseOf rounded inTime bestOrder allInTime)
theorem inV_ints (a : Nat) : ∀ h : List Nat, inV (.int (a : Nat)) (vInts h) = h.contains a
  | [] => rfl
  | b :: r => by
    have ih := inV_ints a r
    unfold inV vInts toInts at ih ⊢
    rw [List.map_cons, List.map_cons, List.any_cons, ih, List.contains_cons]
    congr 1
    show ((b : Int) == (a : Int)) = (a == b)
    rw [Bool.eq_iff_iff, beq_iff_eq, beq_iff_eq]
    omega
theorem flat_ints : ∀ h : List Nat, (vInts h).all flatV = true
  | [] => rfl
  | b :: r => by
    have ih := flat_ints r
    unfold vInts toInts at ih ⊢
    rw [List.map_cons, List.map_cons, List.all_cons, ih]
    rfl
theorem tasks_at {T : Top_ K mg} {H : Hp} {st : Set_} {ps : List Addr} (hP : Paired (fun p t => TkAt T H p t) ps st.tasks) {n : Nat} (hn : n < st.tasks.length) : ∃ q, ps[n]? = some q ∧ TkAt T H q (taskAt st n) := by
  have hpl := Paired.length hP
  obtain ⟨q, hq⟩ : ∃ q, ps[n]? = some q := ⟨_, List.getElem?_eq_getElem (by omega)⟩
  obtain ⟨t, ht, hT⟩ := Paired.at_ hP hq
  refine ⟨q, hq, ?_⟩
  have : taskAt st n = t := by unfold taskAt; rw [List.getD_eq_getElem?_getD, ht]; rfl
  rw [this]; exact hT
def rankF (ps : List Addr) (v : V) : Option V := match v with | .int k => (ps[k.toNat]?).map V.ref | _ => none
theorem fm_ranked (ps : List Addr) : ∀ h : List Nat, (∀ x ∈ h, x < ps.length) → (vInts h).filterMap (rankF ps) = (h.map fun k => ps.getD k 0).map V.ref
  | [], _ => rfl
  | a :: r, hb => by
    have ih := fm_ranked ps r fun x hx => hb x (List.mem_cons_of_mem _ hx)
    have ha := hb a List.mem_cons_self
    unfold vInts toInts at ih ⊢
    rw [List.map_cons, List.map_cons, List.filterMap_cons, ih, List.map_cons, List.map_cons]
    simp only [rankF, Int.toNat_natCast, List.getD_eq_getElem?_getD]
    rw [List.getElem?_eq_getElem ha]
    rfl
theorem ranked_paired {T : Top_ K mg} {H : Hp} {st : Set_} {ps : List Addr} (hP : Paired (fun p t => TkAt T H p t) ps st.tasks) : ∀ h : List Nat, (∀ x ∈ h, x < st.tasks.length) → Paired (fun p t => TkAt T H p t) (h.map fun k => ps.getD k 0) (h.map (taskAt st))
  | [], _ => .nil
  | a :: r, hb => by
    refine .cons ?_ (ranked_paired hP r fun x hx => hb x (List.mem_cons_of_mem _ hx))
    obtain ⟨q, hq, hT⟩ := tasks_at hP (hb a List.mem_cons_self)
    show TkAt T H (ps.getD a 0) _
    rw [List.getD_eq_getElem?_getD, hq]; exact hT
def pushed (n t : Nat) (h : List Nat) : List Nat := ((List.range' (n - t) t).filter fun a => !h.contains a).reverse
theorem pushed_zero (n : Nat) (h : List Nat) : pushed n 0 h = [] := rfl
theorem pushed_all (n : Nat) (h : List Nat) : pushed n n h = (left n h).reverse := by
  unfold pushed left
  rw [Nat.sub_self, List.range_eq_range']
theorem pushed_succ {n t : Nat} (ht : t < n) (h : List Nat) : pushed n (t + 1) h = pushed n t h ++ (if h.contains (n - 1 - t) then [] else [n - 1 - t]) := by
  unfold pushed
  rw [List.range'_succ, show n - (t + 1) + 1 = n - t by omega, show n - (t + 1) = n - 1 - t by omega, List.filter_cons]
  by_cases hc : h.contains (n - 1 - t) = true
  · rw [hc]; simp
  · have hf : h.contains (n - 1 - t) = false := by simpa using hc
    rw [hf]; simp
theorem pushed_len (n t : Nat) (h : List Nat) : (pushed n t h).length ≤ t := by
  unfold pushed
  rw [List.length_reverse]
  have := List.length_filter_le (fun a => !h.contains a) (List.range' (n - t) t)
  rw [List.length_range'] at this
  exact this
def sp_first_order (T : Top_ K mg) : Sp := fun vs H Q _ => ∃ (a : Addr) (st : State) (ps : List Addr), vs = [.ref a, .int st.reload] ∧ H a = some (.lst (ps.map V.ref)) ∧ Paired (fun p t => TkAt T H p t) ps st.tasks ∧ WF st ∧
  (bestOrder st = none → ∀ H', Same H H' → Q .non H') ∧ ∀ o, bestOrder st = some o → ∀ H' l, Same H H' → H l = none → H' l = some (.lst (vInts o)) → Q (.ref l) H'
theorem ok_first_order (T : Top_ K mg) : FnOk P w K mg base CX0 6 T.a_first_order T.d_first_order ["tasks", "line_cost"] (sp_first_order T) := by
  refine T.F_first_order.ok sc_first_order (fun vs H Q E h => ?_) (fun cdv A outer s H vs Q E hr h => ?_)
  · obtain ⟨a, st, ps, rfl, _⟩ := h
    rfl
  · obtain ⟨a, st, ps, rfl, ha, hP, wf, k0, k1⟩ := h
    refine ⟨_, (pss_cons (ps_set (i := 2) sc_first_order.nd rfl (.inl rfl) (pe_lst (pa_cons (pe_lst pa_nil) pa_nil)))
      (pss_cons (ps_while PassesOwn.never (pt_truth (pv 2) (fun _ => rfl))
      (pss_cons (ps_set (i := 3) sc_first_order.nd rfl (.inl rfl) (pe_bm0 PySem.F.plainAttrs_list PySem.F.slot_list_pop PySem.F.type_list_pop mt_pop (pv 2)))
      (pss_cons (ps_if (pt_not (pt_val (pe_call (ok_lowest_in_time T) (hr.mono (by decide)) rfl T.m_lowest_in_time T.F_lowest_in_time.kp T.b_lowest_in_time .nil pass0 (pa_cons (pe_lc rfl sc_first_order.nd (pi_list (pv 3)) (own := [("number", 4)]) (te := (tOp (rIxL K) (tVar 0) (tVar 4))) (blkOk_by (by rfl)) (fun _ _ _ _ _ => (pg_name (i := 4) sc_first_order.nd rfl (.inl rfl))) (fun _ _ _ _ _ => pts_nil) (fun _ _ _ _ _ => (pe_ix ix_list (pv 0) (pv 4) (fun _ _ => rfl)))) (pa_cons (pv 1) pa_nil)))))
      (pss_one ps_continue)
      pss_nil)
      (pss_cons (ps_if (pt_cmpR op_eq (pe_callB call_len_seq (by rfl) T.x_len PySem.boot_len (pa_cons (pv 3) pa_nil)) (pe_callB call_len_seq (by rfl) T.x_len PySem.boot_len (pa_cons (pv 0) pa_nil)) (nomark _))
      (pss_one (ps_ret (pv 3)))
      pss_nil)
      (pss_one (ps_for PassesOwn.never rfl (pi_range3 rfl T.x_range (pa_cons (pe_op op_sub (pe_callB call_len_seq (by rfl) T.x_len PySem.boot_len (pa_cons (pv 0) pa_nil)) pe_int) (pa_cons (pe_un un_neg pe_int) (pa_cons (pe_un un_neg pe_int) pa_nil)))) (pg_name (i := 4) sc_first_order.nd rfl (.inl rfl))
      (pss_one (ps_if (pt_cmpR op_notIn_seq (pv 4) (pv 3) (by with_unfolding_all rfl))
      (pss_one (ps_expr (pe_bm PySem.F.plainAttrs_list PySem.F.slot_list_append PySem.F.type_list_append mt_append (pv 2) (pa_cons (pe_op op_cat (pv 3) (pe_lst (pa_cons (pv 4) pa_nil))) pa_nil))))
      pss_nil))))))))
      (pss_one (ps_ret pe_non)))), ?_⟩
    have hsl := sizeLine_eq
    have hpl : ps.length = st.tasks.length := Paired.length hP
    have h6 := wf.n6
    refine ⟨Nat.zero_le _, fun h0 n0 => ?_⟩
    have s0 := Same.new (o := .lst []) n0
    refine ⟨(by show 1 ≤ sizeLine; decide), fun l nl => ?_⟩
    have hl : H l = none := s0.free nl
    have s1 := s0.trans (Same.new (o := .lst [V.ref h0]) nl)
    have n01 : h0 ≠ l := ne_of_none upd_same nl
    have inv : ∃ W : Nat → L2.St → Hp → Prop, W = fun mm σ H' => ∃ (hs : List (List Nat)) (rs : List Addr) (v3 v4 : Option V), mm = wsum st.tasks.length hs ∧ σ = [some (.ref a), some (.int st.reload), some (.ref l), v3, v4] ∧ Same H H' ∧
        H' l = some (.lst (rs.map V.ref)) ∧ Paired (fun r h => H r = none ∧ r ≠ l ∧ H' r = some (.lst (vInts h))) rs hs ∧ (∀ h ∈ hs, HeadOk st h) ∧ search st hs = bestOrder st ∧ wsum st.tasks.length hs ≤ 1957 := ⟨_, rfl⟩
    obtain ⟨W, hW⟩ := inv
    refine ⟨W, ⟨wsum st.tasks.length [[]], ?_⟩, ?_⟩
    · rw [hW]
      refine ⟨[[]], [h0], none, none, rfl, rfl, s1, upd_same, .cons ⟨n0, n01, ?_⟩ .nil, fun h hh => ?_, search_start st, ?_⟩
      · rw [upd_ne n01, upd_same]; rfl
      · have : h = [] := by simpa using hh
        subst this
        exact ⟨by simp, by simp, by simp⟩
      · rw [wsum_one]; exact nodes_le h6
    · rintro mm σ H1 w1
      rw [hW] at w1
      obtain ⟨hs, rs, v3, v4, rfl, rfl, s1, g1, hP1, hok, hse, hwt⟩ := w1
      have hrl : rs.length = hs.length := Paired.length hP1
      refine ⟨_, rfl, _, .inl ⟨_, SqL.of g1, rfl⟩, ite_nb (fun hb => ?_) fun hb => ?_⟩
      · -- nothing is left
        have : rs = [] := by simpa using hb
        subst this
        have : hs = [] := List.length_eq_zero_iff.mp hrl.symm
        subst this
        exact k0 (by rw [← hse]; rfl) _ s1
      · refine ⟨fun σ' H' => ∃ m', m' < wsum st.tasks.length hs ∧ W m' σ' H', fun _ _ z => z, ?_⟩
        obtain ⟨rs', r, rfl⟩ := (snoc_or rs).resolve_left (by rintro rfl; simp at hb)
        obtain ⟨hs', h, rfl⟩ := (snoc_or hs).resolve_left (by rintro rfl; simp at hrl)
        have hrl' : rs'.length = hs'.length := by simpa using hrl
        have hPl : Paired (fun r h => H r = none ∧ r ≠ l ∧ H1 r = some (.lst (vInts h))) rs' hs' := by
          have := Paired.takeP rs'.length hP1
          rw [List.take_left, hrl', List.take_left] at this
          exact this
        have hPr : H r = none ∧ r ≠ l ∧ H1 r = some (.lst (vInts h)) := by
          obtain ⟨x, hx, hq⟩ := Paired.at_ (i := rs'.length) (a := r) hP1 (by simp)
          rw [hrl'] at hx
          have : x = h := by simpa using hx.symm
          rw [this] at hq; exact hq
        have hkh : HeadOk st h := hok h (by simp)
        have hdl : ((rs' ++ [r]).map V.ref).dropLast = rs'.map V.ref := by rw [List.map_append]; exact List.dropLast_concat
        refine ⟨_, rfl, .inl ⟨rfl, _, SqL.of g1⟩, l, _, V.ref r, rfl, rfl, g1, by simp, ?_⟩
        rw [hdl]
        have g2 : upd H1 l (.lst (rs'.map V.ref)) l = _ := upd_same
        have go : ∀ b o, H1 b = some o → b ≠ l → upd H1 l (.lst (rs'.map V.ref)) b = some o := fun b o e hb => by rw [upd_ne hb]; exact e
        generalize upd H1 l (.lst (rs'.map V.ref)) = H2 at g2 go ⊢
        have s2 : Same H H2 := fun b o e => go b o (s1 _ _ e) (ne_of_none e hl)
        have gr := go _ _ hPr.2.2 hPr.2.1
        have hhl : h.length ≤ 6 := by have := left_len hkh.nd hkh.lt; omega
        have hvl := vInts_len h
        refine ⟨_, rfl, r, rfl, ⟨_, SqL.of gr⟩, fun D hD => lc_pure (K := K) (a := r) (xs := vInts h) (rankF ps) (SqL.of gr) hD (by omega) (fun j x acc N hx n0' n1' => ?_) ?_⟩
        · obtain ⟨z, hz, rfl⟩ := vInts_at hx
          obtain ⟨q, hq, hT⟩ := tasks_at hP (hkh.lt z (List.mem_of_getElem? hz))
          refine ⟨rfl, _, rfl, _, rfl, a, _, _, _, rfl, rfl, SqL.of ?_, atI_nat (j := z) (v := V.ref q) (by rw [List.getElem?_map, hq]; rfl), n1' _ ?_⟩
          · rw [upd_ne (ne_of_none (s2 _ _ ha) hD)]; exact s2 _ _ ha
          · simp only [rankF, Int.toNat_natCast, hq]; rfl
        rw [fm_ranked ps h (by rw [hpl]; exact hkh.lt)]
        have s3' := Same.new (o := .lst ((h.map fun k => ps.getD k 0).map V.ref)) hD
        have g3 : upd H2 D (.lst ((h.map fun k => ps.getD k 0).map V.ref)) D = _ := upd_same
        generalize upd H2 D (.lst ((h.map fun k => ps.getD k 0).map V.ref)) = H3 at s3' g3 ⊢
        have s3 := s2.trans s3'
        have hO : Ord { st with order := h } := ⟨hkh.nd, hhl, fun i hi => wf.task (hkh.lt i hi), wf.rel⟩
        refine ⟨_, rfl, D, { st with order := h }, rfl, ⟨_, g3, Paired.mapP (ranked_paired hP h hkh.lt) fun p t ht => ht.same s3⟩, hO, fun H4 s4' => ⟨_, rfl, ite_nb (fun hlo => ?_) fun hlo => ?_⟩⟩
        rotate_left
        · -- the beginning fails
          have s4 := s3.trans s4'
          have hsub : wsum st.tasks.length hs' < wsum st.tasks.length (hs' ++ [h]) := by rw [wsum_append, wsum_one]; have := nodes_pos (st.tasks.length - h.length); omega
          refine ⟨wsum st.tasks.length hs', hsub, ?_⟩
          rw [hW]
          exact ⟨hs', rs', _, _, rfl, rfl, s4, s4' _ _ (s3' _ _ g2), Paired.mapP hPl fun r h hq => ⟨hq.1, hq.2.1, s4' _ _ (s3' _ _ (go _ _ hq.2.2 hq.2.1))⟩, fun x hx => hok x (List.mem_append_left _ hx), by rw [← hse, search_fail hkh hlo], by omega⟩
        have s4 := s3.trans s4'
        have gr4 := s4' _ _ (s3' _ _ gr)
        have gl4 := s4' _ _ (s3' _ _ g2)
        refine ⟨_, rfl, r, _, rfl, .inl (SqL.of gr4), _, rfl, a, _, rfl, .inl (SqL.of (s4 _ _ ha)), rfl, _, rfl, ite_dV (fun he => ?_) fun he => ?_⟩
        · -- found
          rw [hvl, List.length_map, hpl] at he
          have hfo := search_found hkh hlo (by omega) hs'
          exact ⟨_, rfl, k1 h (by rw [← hse, hfo]) _ r s4 hPr.1 gr4⟩
        · rw [hvl, List.length_map, hpl] at he
          have hlt : h.length < st.tasks.length := by
            have := left_len hkh.nd hkh.lt
            omega
          refine ⟨_, rfl, a, _, rfl, .inl (SqL.of (s4 _ _ ha)), _, _, rfl, rfl, _, rfl, _, rfl, _, _, _, st.tasks.length, rfl, ?_, for_rangeC (n := st.tasks.length) (fun t σ H' => ∃ (rs2 : List Addr) (v4 : Option V), σ = [some (.ref a), some (.int st.reload), some (.ref l), some (.ref r), v4] ∧ Same H H' ∧
              H' l = some (.lst ((rs' ++ rs2).map V.ref)) ∧ H' r = some (.lst (vInts h)) ∧ Paired (fun r h => H r = none ∧ r ≠ l ∧ H' r = some (.lst (vInts h))) (rs' ++ rs2) (hs' ++ (pushed st.tasks.length t h).map fun a => h ++ [a]))
            ⟨[], _, rfl, s4, by rw [List.append_nil]; exact gl4, gr4, ?_⟩ ?_ ?_⟩
          · have := RgC.neg (i := (((ps.map V.ref).length : Nat) : Int) - 1) (j := -1) (by rw [List.length_map]; omega) (by rw [List.length_map]; omega) (by omega) (by omega)
            have e : ((((ps.map V.ref).length : Nat) : Int) - 1 - (-1)).toNat = st.tasks.length := by rw [List.length_map]; omega
            rw [e] at this
            exact this
          · rw [pushed_zero, List.append_nil, List.map_nil, List.append_nil]
            exact Paired.mapP hPl fun r h hq => ⟨hq.1, hq.2.1, s4' _ _ (s3' _ _ (go _ _ hq.2.2 hq.2.1))⟩
          · rintro t σ H5 ht ⟨rs2, v4', rfl, s5, g5, gr5, hP5⟩
            have ez : (((ps.map V.ref).length : Nat) : Int) - 1 + (t : Nat) * (-1 : Int) = ((st.tasks.length - 1 - t : Nat) : Int) := by rw [List.length_map]; omega
            have hpl5 := Paired.length hP5
            rw [List.length_append, List.length_append, List.length_map] at hpl5
            have hpu := pushed_len st.tasks.length t h
            have hlw := len_wsum st.tasks.length (hs' ++ [h])
            rw [List.length_append] at hlw
            rw [ez]
            refine ⟨_, rfl, _, rfl, r, _, rfl, .inl (SqL.of gr5), rfl, flat_ints h, _, rfl, ?_⟩
            rw [inV_ints]
            refine ite_nb (fun hc => ?_) fun hc => ?_
            · refine ⟨rs2, _, rfl, s5, g5, gr5, ?_⟩
              rw [pushed_succ ht, hc]
              simp only [if_true, List.append_nil]
              exact hP5
            · refine ⟨_, rfl, .inl ⟨rfl, _, SqL.of g5⟩, _, rfl, _, rfl, (by show 1 ≤ sizeLine; decide), fun q1 nq1 => ?_⟩
              have s6 := Same.new (o := .lst [V.int ((st.tasks.length - 1 - t : Nat) : Int)]) nq1
              refine ⟨r, q1, _, _, rfl, rfl, s6 _ _ gr5, upd_same, (by rw [hvl]; show _ + 1 ≤ sizeLine; omega), fun q2 nq2 => ?_⟩
              have s7 := s6.trans (Same.new (o := .lst (vInts h ++ [V.int ((st.tasks.length - 1 - t : Nat) : Int)])) nq2)
              have g7 : upd (upd H5 q1 (.lst [V.int ((st.tasks.length - 1 - t : Nat) : Int)])) q2 (.lst (vInts h ++ [V.int ((st.tasks.length - 1 - t : Nat) : Int)])) q2 = _ := upd_same
              generalize upd (upd H5 q1 (.lst [V.int ((st.tasks.length - 1 - t : Nat) : Int)])) q2 (.lst (vInts h ++ [V.int ((st.tasks.length - 1 - t : Nat) : Int)])) = H7 at s7 g7 ⊢
              have nl2 : q2 ≠ l := fun z => by
                have := s6.free nq2
                rw [z, g5] at this; cases this
              have hq2 : H q2 = none := s5.free (s6.free nq2)
              refine ⟨l, _, _, rfl, rfl, s7 _ _ g5, (by rw [List.length_map, List.length_append]; simp only [List.length_singleton] at hlw; omega), ?_⟩
              have go7 : ∀ b o, H7 b = some o → b ≠ l → upd H7 l (.lst ((rs' ++ rs2).map V.ref ++ [V.ref q2])) b = some o := fun b o e hb => by rw [upd_ne hb]; exact e
              refine ⟨rs2 ++ [q2], _, rfl, fun b o e => go7 b o (s7 _ _ (s5 _ _ e)) (ne_of_none e hl), by rw [upd_same, ← List.append_assoc, List.map_append (l₂ := [q2])]; rfl, go7 _ _ (s7 _ _ gr5) hPr.2.1, ?_⟩
              rw [pushed_succ ht, hc, ← List.append_assoc, List.map_append (l₂ := if false = true then [] else _), ← List.append_assoc]
              refine Paired.snoc (Paired.mapP hP5 fun r h hq => ⟨hq.1, hq.2.1, go7 _ _ (s7 _ _ hq.2.2) hq.2.1⟩) ⟨hq2, nl2, ?_⟩
              rw [go7 _ _ g7 nl2, vInts_append]
              rfl
          · rintro σ H5 ⟨rs2, v4', rfl, s5, g5, gr5, hP5⟩
            rw [pushed_all] at hP5
            have hless := wsum_less hkh.nd hkh.lt hlt hs' (left st.tasks.length h).reverse (by rw [List.length_reverse])
            refine ⟨_, hless, ?_⟩
            rw [hW]
            refine ⟨_, _, _, _, rfl, rfl, s5, g5, hP5, fun x hx => ?_, by rw [search_kids hlt, hse], by omega⟩
            rcases List.mem_append.mp hx with hx | hx
            · exact hok x (List.mem_append_left _ hx)
            · obtain ⟨b, hb', rfl⟩ := List.mem_map.mp hx
              exact head_more hkh hlo (List.mem_reverse.mp hb')
open Vawctg (Task Set_ toInts toNats taskRow reading State Call isTask taskAt gamma greatest hurt goodTask demand responseOf rounded inTime bestOrder allInTime rankOf answerOf)
def Asks (H : Hp) (ans : List Int) (Q : VK) : Prop := ∀ (H' : Hp) (p : Addr), Same H H' → H p = none → H' p = some (.lst (ans.map V.int)) → Q (.ref p) H'
theorem Post.toAsks {T : Top_ K mg} {H : Hp} {O : Addr → Prop} {a : Addr} {st : State} {ans : List Int} {Q : VK} (k : Post T H O a (st, ans) Q) (h : HeldAt T H O a st) : Asks H ans Q := fun H' p s hp hq => k.asks' h rfl s hp hq rfl
theorem Asks.new {H H1 : Hp} {ans : List Int} {Q : VK} (k : Asks H ans Q) (s : Same H H1) {p : Addr} (hp : H1 p = none) {xs : List V} (ex : xs = ans.map V.int) : Q (.ref p) (upd H1 p (.lst xs)) := by
  subst ex
  exact k _ p (s.trans (Same.new hp)) (s.free hp) upd_same
theorem WF.toOrd {st : State} (wf : WF st) : Ord st := by
  have hl : st.order.length = st.tasks.length := by simpa using wf.ord.length_eq
  refine ⟨wf.ord.nodup_iff.mpr List.nodup_range, by have := wf.n6; omega, fun i hi => wf.task ?_, wf.rel⟩
  simpa using wf.ord.mem_iff.mp hi
theorem WF.mem {st : State} (wf : WF st) {i : Int} (h : isTask st i = true) : i.toNat ∈ st.order := by
  have := isTask_iff.mp h
  exact wf.ord.mem_iff.mpr (by rw [List.mem_range]; omega)
theorem int_toNat {st : State} {i : Int} (h : isTask st i = true) : i = ((i.toNat : Nat) : Int) := by
  have := isTask_iff.mp h
  omega
theorem idx_at {o p r : List Nat} {i : Nat} (e : o = p ++ i :: r) : (vInts o)[p.length]? = some (V.int (i : Nat)) := by
  subst e
  rw [vInts_append, List.getElem?_append_right (by rw [vInts_len]; exact Nat.le_refl _), vInts_len, Nat.sub_self]
  rfl
theorem idx_no {o p r : List Nat} {i : Nat} (e : o = p ++ i :: r) (hi : i ∉ p) : ∀ (m : Nat) (z' : V), m < p.length → (vInts o)[m]? = some z' → eqV z' (V.int (i : Nat)) = false := by
  intro m z' hm hz
  obtain ⟨q, hq, rfl⟩ := vInts_at hz
  subst e
  rw [List.getElem?_append_left hm] at hq
  have hne : q ≠ i := fun e => hi (e ▸ List.mem_of_getElem? hq)
  show ((q : Int) == (i : Int)) = false
  rw [beq_eq_false_iff_ne]
  omega
def sp_Held_ranked (T : Top_ K mg) : Sp := fun vs H Q _ => ∃ (a : Addr) (O : Addr → Prop) (st : State), vs = [.ref a] ∧ HeldAt T H O a st ∧ WF st ∧ ∀ H' l, Same H H' → H l = none → Ranked T H' l st → Q (.ref l) H'
theorem ok_Held_ranked (T : Top_ K mg) : FnOk P w K mg base CX0 1 T.a_Held_ranked T.d_Held_ranked ["self"] (sp_Held_ranked T) := by
  refine T.F_Held_ranked.ok sc_Held_ranked (fun vs H Q E h => ?_) (fun cdv A outer s H vs Q E hr h => ?_)
  · obtain ⟨a, O, st, rfl, _⟩ := h
    rfl
  · obtain ⟨a, O, st, rfl, ⟨R, dx, lt, lo, ts, h⟩, wf, k⟩ := h
    refine ⟨_, (pss_one (ps_ret (pe_lc rfl sc_Held_ranked.nd (pi_list (pe_fld (pv 0) rfl)) (own := [("i", 1)]) (te := (tOp (rIxL K) (tFld K (tVar 0) "tasks") (tVar 1))) (blkOk_by (by rfl)) (fun _ _ _ _ _ => (pg_name (i := 1) sc_Held_ranked.nd rfl (.inl rfl))) (fun _ _ _ _ _ => pts_nil) (fun _ _ _ _ _ => (pe_ix ix_list (pe_fld (pv 0) rfl) (pv 1) (fun _ _ => rfl)))))), ?_⟩
    have hl := h.len
    have hsl := sizeLine_eq
    have ho := wf.toOrd
    have hol := ho.len
    have hvl := vInts_len st.order
    have hlt : ∀ x ∈ st.order, x < st.tasks.length := fun x hx => by simpa using wf.ord.mem_iff.mp hx
    have hP : Paired (fun p t => TkAt T H p t) ts st.tasks := Paired.mapP h.tsk fun p t ht => ht.tk
    refine ⟨_, rfl, a, _, dx, _, _, rfl, h.ins, T.cl_Held, T.n_Held_order, rfl, lo, rfl, ⟨_, SqL.of h.ord⟩, fun D hD => lc_pure (K := K) (a := lo) (xs := vInts st.order) (rankF ts) (SqL.of h.ord) hD (by omega) (fun j x acc N hx n0 n1 => ?_) ?_⟩
    · obtain ⟨z, hz, rfl⟩ := vInts_at hx
      obtain ⟨q, hq, hT⟩ := tasks_at hP (hlt z (List.mem_of_getElem? hz))
      have sD := Same.new (o := .lst acc) hD
      refine ⟨rfl, _, rfl, a, _, dx, _, _, rfl, sD _ _ h.ins, T.cl_Held, T.n_Held_tasks, rfl, _, rfl, lt, _, _, _, rfl, rfl, SqL.of (sD _ _ h.lst), atI_nat (j := z) (v := V.ref q) (by rw [List.getElem?_map, hq]; rfl), n1 _ ?_⟩
      simp only [rankF, Int.toNat_natCast, hq]; rfl
    rw [fm_ranked ts st.order (by rw [hl]; exact hlt)]
    exact k _ D (Same.new hD) hD ⟨_, upd_same, Paired.mapP (ranked_paired hP st.order hlt) fun p t ht => ht.same (Same.new hD)⟩
def sp_Held_tell_cost (T : Top_ K mg) : Sp := fun vs H Q _ => ∃ (a : Addr) (O : Addr → Prop) (st : State) (i j : Int), vs = [.ref a, .int i, .int j] ∧ HeldAt T H O a st ∧ WF st ∧ Asks H (answerOf st (.cost i j)) Q
theorem ok_Held_tell_cost (T : Top_ K mg) : FnOk P w K mg base CX0 3 T.a_Held_tell_cost T.d_Held_tell_cost ["self", "i", "j"] (sp_Held_tell_cost T) := by
  refine T.F_Held_tell_cost.ok sc_Held_tell_cost (fun vs H Q E h => ?_) (fun cdv A outer s H vs Q E hr h => ?_)
  · obtain ⟨a, O, st, i, j, rfl, _⟩ := h
    rfl
  · obtain ⟨a, O, st, i, j, rfl, hH, wf, k⟩ := h
    refine ⟨_, (pss_cons (ps_if (PW.pt (pw_or (pt_not (pt_val (pe_meth (pv 0) T.cl_Held T.M_Held_has_task (ok_Held_has_task T) (hr.mono (by decide)) T.b_Held_has_task .nil pass0 (pa_cons (pv 1) pa_nil)))) (pw_or1 (pt_not (pt_val (pe_meth (pv 0) T.cl_Held T.M_Held_has_task (ok_Held_has_task T) (hr.mono (by decide)) T.b_Held_has_task .nil pass0 (pa_cons (pv 2) pa_nil)))))))
      (pss_one (ps_ret (pe_lst (pa_cons (pe_glob (v := .int (-3)) rfl T.m_NO_TASK ⟨_, rfl⟩) pa_nil))))
      pss_nil)
      (pss_cons (ps_set (i := 3) sc_Held_tell_cost.nd rfl (.inl rfl) (pe_bm PySem.F.plainAttrs_list PySem.F.slot_list_index PySem.F.type_list_index mt_index (pe_fld (pv 0) rfl) (pa_cons (pv 1) pa_nil)))
      (pss_cons (ps_set (i := 4) sc_Held_tell_cost.nd rfl (.inl rfl) (pe_bm PySem.F.plainAttrs_list PySem.F.slot_list_index PySem.F.type_list_index mt_index (pe_fld (pv 0) rfl) (pa_cons (pv 2) pa_nil)))
      (pss_cons (ps_if (pt_cmpR op_ge (pv 4) (pv 3) (nomark _))
      (pss_one (ps_ret (pe_lst (pa_cons (pe_glob (v := .int (-4)) rfl T.m_NOT_ABOVE ⟨_, rfl⟩) pa_nil))))
      pss_nil)
      (pss_one (ps_ret (pe_lst (pa_cons (pe_glob (v := .int (0)) rfl T.m_DONE ⟨_, rfl⟩) (pa_cons (pe_call (ok_cost_seen T) (hr.mono (by decide)) rfl T.m_cost_seen T.F_cost_seen.kp T.b_cost_seen .nil pass0 (pa_cons (pe_meth0 (pv 0) T.cl_Held T.M_Held_ranked (ok_Held_ranked T) (hr.mono (by decide)) T.b_Held_ranked .nil pass0) (pa_cons (pe_fld (pv 0) rfl) (pa_cons (pv 3) (pa_cons (pv 4) pa_nil))))) pa_nil))))))))), ?_⟩
    have hH' := hH
    obtain ⟨R, dx, lt, lo, ts, h⟩ := hH'
    have ho := wf.toOrd
    have kf : (isTask st i = false ∨ isTask st j = false) → ∀ p, H p = none → Q (.ref p) (upd H p (.lst [.int (-3)])) := fun hb p hp => by
      refine k.new (Same.refl _) hp ?_
      unfold answerOf
      dsimp only
      rw [if_pos (by rcases hb with hb | hb <;> rw [hb] <;> simp)]
      rfl
    refine ⟨_, rfl, a, dx, _, rfl, h.ins, rfl, _, rfl, a, O, st, i, rfl, hH, _, rfl, ite_nb (fun hi => ?_) fun hi => ?_⟩
    rotate_left
    · exact iteT ⟨(by show 1 ≤ sizeLine; decide), kf (.inl hi)⟩
    refine ⟨_, rfl, a, dx, _, rfl, h.ins, rfl, _, rfl, a, O, st, j, rfl, hH, _, rfl, ite_nb (fun hj => ?_) fun hj => ?_⟩
    rotate_left
    · exact ⟨(by show 1 ≤ sizeLine; decide), kf (.inr hj)⟩
    obtain ⟨pi, ri, ei, ni, xi⟩ := order_split (wf.mem hi)
    obtain ⟨pj, rj, ej, nj, xj⟩ := order_split (wf.mem hj)
    have zi := int_toNat hi
    have zj := int_toNat hj
    refine ⟨_, rfl, a, _, dx, _, _, rfl, h.ins, T.cl_Held, T.n_Held_order, rfl, .inl ⟨rfl, _, SqL.of h.ord⟩, _, rfl, lo, _, _, pi.length, _, rfl, rfl, SqL.of h.ord, rfl, flat_ints _, idx_at ei, ?_, ?_, ?_⟩
    · show ((i.toNat : Int) == i) = true
      rw [← zi]; simp
    · rw [zi]; exact idx_no ei ni
    refine ⟨_, rfl, a, _, dx, _, _, rfl, h.ins, T.cl_Held, T.n_Held_order, rfl, .inl ⟨rfl, _, SqL.of h.ord⟩, _, rfl, lo, _, _, pj.length, _, rfl, rfl, SqL.of h.ord, rfl, flat_ints _, idx_at ej, ?_, ?_, ?_⟩
    · show ((j.toNat : Int) == j) = true
      rw [← zj]; simp
    · rw [zj]; exact idx_no ej nj
    have ri' := rank_split ei ni
    have rj' := rank_split ej nj
    refine ⟨_, rfl, _, rfl, _, _, rfl, rfl, _, rfl, ite_d (fun hge => ?_) fun hge => ?_⟩
    · refine ⟨(by show 1 ≤ sizeLine; decide), fun p hp => k.new (Same.refl _) hp ?_⟩
      unfold answerOf
      dsimp only
      rw [if_neg (by rw [hi, hj]; simp), if_neg (by rw [ri', rj']; omega)]
      rfl
    · have hlt : pj.length < pi.length := by omega
      obtain ⟨pb, eb⟩ : ∃ pb, st.order = pj ++ j.toNat :: (pb ++ i.toNat :: ri) ∧ pi.length = pj.length + 1 + pb.length := by
        refine ⟨pi.drop (pj.length + 1), ?_, by rw [List.length_drop]; omega⟩
        have e1 : st.order.take pi.length = pi := by rw [ei, List.take_left]
        have e2 : pi = pj ++ j.toNat :: pi.drop (pj.length + 1) := by
          have e3 : pi.take (pj.length + 1) = pj ++ [j.toNat] := by
            rw [← e1, List.take_take, Nat.min_eq_left (by omega), ej, List.take_append]
            simp [List.take_of_length_le]
          exact (List.take_append_drop (pj.length + 1) pi).symm.trans (by rw [e3, List.append_assoc]; rfl)
        have e4 : st.order = (pj ++ j.toNat :: pi.drop (pj.length + 1)) ++ i.toNat :: ri := by rw [← e2]; exact ei
        rw [e4, List.append_assoc]
        rfl
      refine ⟨_, rfl, a, dx, _, rfl, h.ins, rfl, a, O, st, rfl, hH, wf, fun H1 l s1 n1 hR => ?_⟩
      refine ⟨_, rfl, a, _, dx, _, _, rfl, s1 _ _ h.ins, T.cl_Held, T.n_Held_line_cost, rfl, _, rfl, _, rfl, l, st, pj, pb, ri, i.toNat, j.toNat, pi.length, pj.length, rfl, hR, ho, eb.1, rfl, eb.2, fun H2 s2 => ?_⟩
      refine ⟨(by show 2 ≤ sizeLine; decide), fun p hp => k.new (s1.trans s2) hp ?_⟩
      unfold answerOf
      dsimp only
      rw [if_neg (by rw [hi, hj]; simp), if_pos (by rw [ri', rj']; omega)]
      rfl
def sp_Held_tell_response (T : Top_ K mg) : Sp := fun vs H Q _ => ∃ (a : Addr) (O : Addr → Prop) (st : State) (i : Int), vs = [.ref a, .int i] ∧ HeldAt T H O a st ∧ WF st ∧ Asks H (answerOf st (.response i)) Q
theorem ok_Held_tell_response (T : Top_ K mg) : FnOk P w K mg base CX0 5 T.a_Held_tell_response T.d_Held_tell_response ["self", "i"] (sp_Held_tell_response T) := by
  refine T.F_Held_tell_response.ok sc_Held_tell_response (fun vs H Q E h => ?_) (fun cdv A outer s H vs Q E hr h => ?_)
  · obtain ⟨a, O, st, i, rfl, _⟩ := h
    rfl
  · obtain ⟨a, O, st, i, rfl, hH, wf, k⟩ := h
    refine ⟨_, (pss_cons (ps_if (pt_not (pt_val (pe_meth (pv 0) T.cl_Held T.M_Held_has_task (ok_Held_has_task T) (hr.mono (by decide)) T.b_Held_has_task .nil pass0 (pa_cons (pv 1) pa_nil))))
      (pss_one (ps_ret (pe_lst (pa_cons (pe_glob (v := .int (-3)) rfl T.m_NO_TASK ⟨_, rfl⟩) pa_nil))))
      pss_nil)
      (pss_cons (ps_set (i := 2) sc_Held_tell_response.nd rfl (.inl rfl) (pe_call (ok_rounds_made T) (hr.mono (by decide)) rfl T.m_rounds_made T.F_rounds_made.kp T.b_rounds_made .nil pass0 (pa_cons (pe_meth0 (pv 0) T.cl_Held T.M_Held_ranked (ok_Held_ranked T) (hr.mono (by decide)) T.b_Held_ranked .nil pass0) (pa_cons (pe_fld (pv 0) rfl) (pa_cons (pe_bm PySem.F.plainAttrs_list PySem.F.slot_list_index PySem.F.type_list_index mt_index (pe_fld (pv 0) rfl) (pa_cons (pv 1) pa_nil)) pa_nil)))))
      (pss_one (ps_ret (pe_lst (pa_cons (pe_ifExp (pt_cmpR op_le (pe_ix ix_list (pv 2) (pe_un un_neg pe_int) (fun _ _ => rfl)) (pe_fld (pe_ix ix_list (pe_fld (pv 0) rfl) (pv 1) (fun _ _ => rfl)) rfl) (nomark _)) (pe_glob (v := .int (0)) rfl T.m_DONE ⟨_, rfl⟩) (pe_glob (v := .int (1)) rfl T.m_NOT_SO ⟨_, rfl⟩)) (pa_cons (pe_ix ix_list (pv 2) (pe_un un_neg pe_int) (fun _ _ => rfl)) (pa_cons (pe_callB call_len_seq (by rfl) T.x_len PySem.boot_len (pa_cons (pv 2) pa_nil)) pa_nil)))))))), ?_⟩
    have hH' := hH
    obtain ⟨R, dx, lt, lo, ts, h⟩ := hH'
    have ho := wf.toOrd
    refine ⟨_, rfl, a, dx, _, rfl, h.ins, rfl, _, rfl, a, O, st, i, rfl, hH, _, rfl, ite_nb (fun hi => ?_) fun hi => ?_⟩
    rotate_left
    · refine ⟨(by show 1 ≤ sizeLine; decide), fun p hp => k.new (Same.refl _) hp ?_⟩
      unfold answerOf
      dsimp only
      rw [if_pos (by rw [hi]; simp)]
      rfl
    obtain ⟨pi, ri, ei, ni, xi⟩ := order_split (wf.mem hi)
    have zi := int_toNat hi
    have hi' := isTask_iff.mp hi
    refine ⟨_, rfl, a, dx, _, rfl, h.ins, rfl, a, O, st, rfl, hH, wf, fun H1 l s1 n1 hR => ?_⟩
    refine ⟨_, rfl, a, _, dx, _, _, rfl, s1 _ _ h.ins, T.cl_Held, T.n_Held_line_cost, rfl, _, rfl, a, _, dx, _, _, rfl, s1 _ _ h.ins, T.cl_Held, T.n_Held_order, rfl, .inl ⟨rfl, _, SqL.of (s1 _ _ h.ord)⟩, _, rfl, lo, _, _, pi.length, _, rfl, rfl, SqL.of (s1 _ _ h.ord), rfl, flat_ints _, idx_at ei, ?_, ?_, ?_⟩
    · show ((i.toNat : Int) == i) = true
      rw [← zi]; simp
    · rw [zi]; exact idx_no ei ni
    refine ⟨l, st, pi, ri, i.toNat, pi.length, rfl, hR, ho, ei, rfl, fun H2 m M x s2 n2 g2 hres => ?_⟩
    have s12 := s1.trans s2
    have hP : Paired (fun p t => TkAt T H p t) ts st.tasks := Paired.mapP h.tsk fun p t ht => ht.tk
    obtain ⟨q, hq, hT⟩ := tasks_at hP (n := i.toNat) (by omega)
    obtain ⟨_, dx', u, v, _, _, h4, h5, h6⟩ := hT.same s12
    have hat : atI (ts.map V.ref) i = some (V.ref q) := at_of zi (by rw [List.getElem?_map, hq]; rfl)
    have hvl := vInts_len M
    have hin : inTime st i.toNat = decide (x ≤ (taskAt st i.toNat).deadline) := by unfold inTime; rw [hres]
    have fin : ∀ (f : Int) (p : Addr), H2 p = none → (f = if inTime st i.toNat = true then 0 else 1) → Q (.ref p) (upd H2 p (.lst [.int f, .int (x : Nat), .int ((vInts M ++ [V.int (x : Nat)]).length : Nat)])) := fun f p hp hf => by
      refine k.new s12 hp ?_
      unfold answerOf
      dsimp only
      rw [if_neg (by rw [hi]; simp), hres, hf, List.length_append, hvl]
      rfl
    refine ⟨_, rfl, _, rfl, m, _, _, _, rfl, rfl, SqL.of g2, atI_end, _, rfl, a, _, dx, _, _, rfl, s12 _ _ h.ins, T.cl_Held, T.n_Held_tasks, rfl, _, rfl, lt, _, _, _, rfl, rfl, SqL.of (s12 _ _ h.lst), hat, q, _, dx', _, _, rfl, h4, T.cl_Task, T.n_Task_deadline, rfl, _, _, rfl, rfl, _, rfl, ite_d (fun hd => ?_) fun hd => ?_⟩
    · refine ⟨_, rfl, _, rfl, m, _, _, _, rfl, rfl, SqL.of g2, atI_end, _, rfl, m, _, rfl, .inl (SqL.of g2), (by show 3 ≤ sizeLine; decide), fun p hp => fin _ p hp ?_⟩
      rw [hin, decide_eq_true (by omega)]
      rfl
    · refine ⟨_, rfl, _, rfl, m, _, _, _, rfl, rfl, SqL.of g2, atI_end, _, rfl, m, _, rfl, .inl (SqL.of g2), (by show 3 ≤ sizeLine; decide), fun p hp => fin _ p hp ?_⟩
      rw [hin, decide_eq_false (by omega)]
      rfl
theorem answer_response {st : State} {i : Nat} (h : i < st.tasks.length) : answerOf st (.response (i : Nat)) = ([if inTime st i = true then (0 : Int) else 1, (((responseOf st i).1 : Nat) : Int), (((responseOf st i).2 : Nat) : Int)] : List Int) := by
  have hi : isTask st (i : Nat) = true := isTask_iff.mpr ⟨by omega, by omega⟩
  unfold answerOf
  dsimp only
  rw [if_neg (by rw [hi]; simp), Int.toNat_natCast]
  rfl
def sp_Held_tell_all (T : Top_ K mg) : Sp := fun vs H Q _ => ∃ (a : Addr) (O : Addr → Prop) (st : State), vs = [.ref a] ∧ HeldAt T H O a st ∧ WF st ∧ Asks H (answerOf st .all) Q
theorem ok_Held_tell_all (T : Top_ K mg) : FnOk P w K mg base CX0 6 T.a_Held_tell_all T.d_Held_tell_all ["self"] (sp_Held_tell_all T) := by
  refine T.F_Held_tell_all.ok sc_Held_tell_all (fun vs H Q E h => ?_) (fun cdv A outer s H vs Q E hr h => ?_)
  · obtain ⟨a, O, st, rfl, _⟩ := h
    rfl
  · obtain ⟨a, O, st, rfl, hH, wf, k⟩ := h
    refine ⟨_, (pss_cons (ps_set (i := 1) sc_Held_tell_all.nd rfl (.inl rfl) (pe_glob (v := .int (0)) rfl T.m_DONE ⟨_, rfl⟩))
      (pss_cons (ps_set (i := 2) sc_Held_tell_all.nd rfl (.inl rfl) (pe_lst pa_nil))
      (pss_cons (ps_for PassesOwn.never rfl (pi_list (pe_fld (pv 0) rfl)) (pg_name (i := 3) sc_Held_tell_all.nd rfl (.inl rfl))
      (pss_cons (ps_set (i := 4) sc_Held_tell_all.nd rfl (.inl rfl) (pe_meth (pv 0) T.cl_Held T.M_Held_tell_response (ok_Held_tell_response T) (hr.mono (by decide)) T.b_Held_tell_response .nil pass0 (pa_cons (pv 3) pa_nil)))
      (pss_cons (ps_if (pt_cmpR op_eq (pe_ix ix_list (pv 4) pe_int (fun _ _ => rfl)) (pe_glob (v := .int (1)) rfl T.m_NOT_SO ⟨_, rfl⟩) (nomark _))
      (pss_one (ps_set (i := 1) sc_Held_tell_all.nd rfl (.inl rfl) (pe_glob (v := .int (1)) rfl T.m_NOT_SO ⟨_, rfl⟩)))
      pss_nil)
      (pss_one (ps_expr (pe_bm PySem.F.plainAttrs_list PySem.F.slot_list_extend PySem.F.type_list_extend mt_extend (pv 2) (pa_cons (pe_lst (pa_cons (pv 3) (pa_cons (pe_ix ix_list (pv 4) pe_int (fun _ _ => rfl)) pa_nil))) pa_nil)))))))
      (pss_one (ps_ret (pe_op op_cat (pe_lst (pa_cons (pv 1) pa_nil)) (pv 2))))))), ?_⟩
    have hH' := hH
    obtain ⟨R, dx, lt, lo, ts, h⟩ := hH'
    have hsl := sizeLine_eq
    have ho := wf.toOrd
    have hol := ho.len
    have hvl := vInts_len st.order
    have hlt : ∀ x ∈ st.order, x < st.tasks.length := fun x hx => by simpa using wf.ord.mem_iff.mp hx
    refine ⟨Nat.zero_le _, fun l nl => ?_⟩
    have s0 := Same.new (o := .lst []) nl
    refine ⟨_, rfl, a, _, dx, _, _, rfl, s0 _ _ h.ins, T.cl_Held, T.n_Held_order, rfl, lo, rfl, ⟨_, SqL.of (s0 _ _ h.ord)⟩, for_list (K := K) (a := lo) (xs := vInts st.order) (fun n σ H' => ∃ (v3 v4 : Option V), σ = [some (.ref a), some (.int (if (st.order.take n).all (inTime st) = true then 0 else 1)), some (.ref l), v3, v4] ∧ Same H H' ∧
        H' l = some (.lst (vInts ((st.order.take n).flatMap fun i => [i, (responseOf st i).1]))))
      ⟨none, none, rfl, s0, by rw [upd_same, List.take_zero]; rfl⟩ (fun n σ H' _ ⟨_, _, _, s, _⟩ => SqL.of (s _ _ h.ord)) ?_ ?_⟩
    · rintro n y σ H1 hy ⟨v3, v4, rfl, s1, g1⟩
      obtain ⟨i, hi, rfl⟩ := vInts_at hy
      have hit := hlt i (List.mem_of_getElem? hi)
      have hn : n < st.order.length := (List.getElem?_eq_some_iff.mp hi).1
      refine ⟨_, rfl, a, dx, _, rfl, s1 _ _ h.ins, rfl, _, rfl, a, O, st, i, rfl, hH.keep (fun b o hb e => ⟨hb, s1 _ _ e⟩), wf, fun H2 r s2 n2 g2 => ?_⟩
      rw [answer_response hit] at g2
      have gr : H2 r = some (.lst [.int (if inTime st i = true then 0 else 1), .int ((responseOf st i).1 : Nat), .int ((responseOf st i).2 : Nat)]) := g2
      have s12 := s1.trans s2
      have hll : (vInts ((st.order.take n).flatMap fun i => [i, (responseOf st i).1])).length ≤ 12 := by
        rw [vInts_len, List.length_flatMap]
        have e : (List.map (fun i => [i, (responseOf st i).1].length) (st.order.take n)) = List.replicate n 2 := by
          rw [List.eq_replicate_iff]
          refine ⟨by rw [List.length_map, List.length_take]; omega, fun b hb => ?_⟩
          obtain ⟨x, _, rfl⟩ := List.mem_map.mp hb
          rfl
        rw [e, List.sum_replicate_nat]
        omega
      have fin : ∀ (f : Int) (p : Addr), H2 p = none → f = (if (st.order.take (n + 1)).all (inTime st) = true then 0 else 1) → ∃ (v3 v4 : Option V), [some (V.ref a), some (.int f), some (.ref l), some (.int (i : Nat)), some (.ref r)] = [some (.ref a), some (.int (if (st.order.take (n + 1)).all (inTime st) = true then 0 else 1)), some (.ref l), v3, v4] ∧ Same H (upd (upd H2 p (.lst [.int (i : Nat), .int ((responseOf st i).1 : Nat)])) l (.lst (vInts ((st.order.take n).flatMap fun i => [i, (responseOf st i).1]) ++ [.int (i : Nat), .int ((responseOf st i).1 : Nat)]))) ∧
          upd (upd H2 p (.lst [.int (i : Nat), .int ((responseOf st i).1 : Nat)])) l (.lst (vInts ((st.order.take n).flatMap fun i => [i, (responseOf st i).1]) ++ [.int (i : Nat), .int ((responseOf st i).1 : Nat)])) l = some (.lst (vInts ((st.order.take (n + 1)).flatMap fun i => [i, (responseOf st i).1]))) := fun f p hp hf => by
        subst hf
        refine ⟨_, _, rfl, fun b o e => ?_, ?_⟩
        · rw [upd_ne (ne_of_none e nl), upd_ne (ne_of_none (s12 _ _ e) hp)]; exact s12 _ _ e
        · rw [upd_same, take_snoc hi, List.flatMap_append, vInts_append]
          rfl
      have eall : ∀ b, inTime st i = b → (st.order.take (n + 1)).all (inTime st) = ((st.order.take n).all (inTime st) && b) := fun b hb => by
        rw [take_snoc hi, List.all_append, List.all_cons, hb]
        simp
      refine ⟨_, rfl, r, _, _, _, rfl, rfl, SqL.of gr, atI_nat (j := 0) rfl, rfl, _, rfl, ite_dV (fun hq => ?_) fun hq => ?_⟩
      · have hin : inTime st i = false := by
          cases e : inTime st i with
          | false => rfl
          | true => rw [e] at hq; simp at hq
        refine ⟨_, rfl, .inl ⟨rfl, _, SqL.of (s2 _ _ g1)⟩, _, rfl, _, rfl, r, _, _, _, rfl, rfl, SqL.of gr, atI_nat (j := 1) rfl, (by show 2 ≤ sizeLine; decide), fun p hp => ?_⟩
        have np : p ≠ l := fun z => by rw [z, s2 _ _ g1] at hp; cases hp
        refine ⟨l, p, _, _, rfl, rfl, Eq.trans (upd_ne (Ne.symm np)) (s2 _ _ g1), upd_same, (by show _ + 2 ≤ sizeLine; omega), ?_⟩
        refine fin 1 p hp ?_
        rw [eall false hin]
        simp
      · have hin : inTime st i = true := by
          cases e : inTime st i with
          | true => rfl
          | false => rw [e] at hq; simp at hq
        refine ⟨_, rfl, .inl ⟨rfl, _, SqL.of (s2 _ _ g1)⟩, _, rfl, _, rfl, r, _, _, _, rfl, rfl, SqL.of gr, atI_nat (j := 1) rfl, (by show 2 ≤ sizeLine; decide), fun p hp => ?_⟩
        have np : p ≠ l := fun z => by rw [z, s2 _ _ g1] at hp; cases hp
        refine ⟨l, p, _, _, rfl, rfl, Eq.trans (upd_ne (Ne.symm np)) (s2 _ _ g1), upd_same, (by show _ + 2 ≤ sizeLine; omega), ?_⟩
        refine fin _ p hp ?_
        rw [eall true hin, Bool.and_true]
    · rintro σ H1 ⟨v3, v4, rfl, s1, g1⟩
      rw [hvl, List.take_length] at g1 ⊢
      refine ⟨_, rfl, (by show 1 ≤ sizeLine; decide), fun p hp => ?_⟩
      have s2 := Same.new (o := .lst [.int (if st.order.all (inTime st) = true then 0 else 1)]) hp
      refine ⟨_, rfl, p, l, _, _, rfl, rfl, upd_same, s2 _ _ g1, ?_, fun q hq => k.new (s1.trans s2) hq ?_⟩
      · have e : (List.map (fun i => [i, (responseOf st i).1].length) st.order) = List.replicate st.order.length 2 := by
          rw [List.eq_replicate_iff]
          refine ⟨by rw [List.length_map], fun b hb => ?_⟩
          obtain ⟨x, _, rfl⟩ := List.mem_map.mp hb
          rfl
        show 1 + _ ≤ sizeLine
        rw [vInts_len, List.length_flatMap, e, List.sum_replicate_nat]
        omega
      · unfold answerOf allInTime
        rfl
def sp_Held_tell_best (T : Top_ K mg) : Sp := fun vs H Q _ => ∃ (a : Addr) (O : Addr → Prop) (st : State), vs = [.ref a] ∧ HeldAt T H O a st ∧ WF st ∧ Asks H (answerOf st .best) Q
theorem best_len {st : State} {o : List Nat} (h : bestOrder st = some o) : o.length = st.tasks.length := by
  unfold bestOrder at h
  have h1 := List.mem_of_find?_eq_some h
  have := (ordersOf_mem _ _ (by simp [Vawctg.numbers]) (by unfold Vawctg.numbers; exact List.nodup_range) o).mp h1
  have := this.length_eq
  simpa [Vawctg.numbers] using this
theorem ok_Held_tell_best (T : Top_ K mg) : FnOk P w K mg base CX0 7 T.a_Held_tell_best T.d_Held_tell_best ["self"] (sp_Held_tell_best T) := by
  refine T.F_Held_tell_best.ok sc_Held_tell_best (fun vs H Q E h => ?_) (fun cdv A outer s H vs Q E hr h => ?_)
  · obtain ⟨a, O, st, rfl, _⟩ := h
    rfl
  · obtain ⟨a, O, st, rfl, hH, wf, k⟩ := h
    refine ⟨_, (pss_cons (ps_set (i := 1) sc_Held_tell_best.nd rfl (.inl rfl) (pe_call (ok_first_order T) (hr.mono (by decide)) rfl T.m_first_order T.F_first_order.kp T.b_first_order .nil pass0 (pa_cons (pe_fld (pv 0) rfl) (pa_cons (pe_fld (pv 0) rfl) pa_nil))))
      (pss_one (ps_ret (pe_ifExp (pt_cmpR op_isN (pv 1) pe_non (nomark _)) (pe_lst (pa_cons (pe_glob (v := .int (1)) rfl T.m_NOT_SO ⟨_, rfl⟩) pa_nil)) (pe_op op_cat (pe_lst (pa_cons (pe_glob (v := .int (0)) rfl T.m_DONE ⟨_, rfl⟩) pa_nil)) (pv 1)))))), ?_⟩
    obtain ⟨R, dx, lt, lo, ts, h⟩ := hH
    have hsl := sizeLine_eq
    have h6 := wf.n6
    have hP : Paired (fun p t => TkAt T H p t) ts st.tasks := Paired.mapP h.tsk fun p t ht => ht.tk
    refine ⟨_, rfl, a, _, dx, _, _, rfl, h.ins, T.cl_Held, T.n_Held_tasks, rfl, _, rfl, a, _, dx, _, _, rfl, h.ins, T.cl_Held, T.n_Held_line_cost, rfl, lt, st, ts, rfl, h.lst, hP, wf, fun hb H1 s1 => ?_, fun o hb H1 l s1 n1 g1 => ?_⟩
    · refine ⟨_, rfl, rfl, _, rfl, iteT ⟨(by show 1 ≤ sizeLine; decide), fun p hp => k.new s1 hp ?_⟩⟩
      unfold answerOf
      dsimp only
      rw [hb]
      rfl
    · refine ⟨_, rfl, rfl, _, rfl, iteF ⟨(by show 1 ≤ sizeLine; decide), fun p hp => ?_⟩⟩
      have s2 := Same.new (o := .lst [.int 0]) hp
      have hbl := best_len hb
      refine ⟨_, rfl, p, l, _, _, rfl, rfl, upd_same, s2 _ _ g1, (by rw [vInts_len]; show 1 + _ ≤ sizeLine; omega), fun q hq => k.new (s1.trans s2) hq ?_⟩
      unfold answerOf
      dsimp only
      rw [hb]
      rfl
open Vawctg (Task Set_ toInts toNats taskRow reading State Call isTask taskAt goodTask)
structure JS where
  came : Nat
  due : Nat
  done : Nat
  late : Nat
  most : Nat
  least : Nat
  reloads : Nat
  begun : Bool
  left : Nat
  lost : List Nat
def JS.init (c : Nat) : JS := ⟨0, 0, 0, 0, 0, 0, 0, false, c, []⟩
def jobF (tp : V) (r : JS) (d : V) : List (Str × V) := [("task", tp), ("came", .int r.came), ("due", .int r.due), ("done", .int r.done), ("late", .int r.late), ("greatest", .int r.most), ("least", .int r.least), ("reloads", .int r.reloads), ("begun", .bl r.begun), ("left", .int r.left), ("lost", d)]
structure JobIn (T : Top_ K mg) (H : Hp) (x dx d tp : Addr) (t : Task) (r : JS) : Prop where
  ins : H x = some (.ins T.c_Jobs dx (jobF (.ref tp) r (.ref d)))
  dct : ∃ kvs, H d = some (.dK kvs) ∧ Keys kvs r.lost
  tsk : TkAt T H tp t
theorem JobIn.nd {T : Top_ K mg} {H : Hp} {x dx d tp : Addr} {t : Task} {r : JS} (h : JobIn T H x dx d tp t r) : d ≠ x := by
  obtain ⟨kvs, h1, _⟩ := h.dct
  intro z
  rw [z, h.ins] at h1; cases h1
theorem task_ne {T : Top_ K mg} {H : Hp} {x dx tp : Addr} {t : Task} {tp' : V} {r : JS} {d : V} (h : H x = some (.ins T.c_Jobs dx (jobF tp' r d))) (ht : TkAt T H tp t) : ∀ b o, (b = tp ∨ ∃ xs, o = HO.lst xs) → H b = some o → b ≠ x := by
  obtain ⟨_, dx', u, v, _, _, h1, h2, h3⟩ := ht
  rintro b o hb e rfl
  rcases hb with rfl | ⟨xs, rfl⟩
  · rw [h1] at h
    have := (HO.ins.inj (Option.some.inj h)).2.2
    have : (6 : Nat) = 11 := congrArg List.length this
    exact absurd this (by decide)
  · rw [e] at h; cases h
theorem TaskAt.upd {T : Top_ K mg} {H : Hp} {x dx tp : Addr} {t : Task} {tp' : V} {r : JS} {d : V} {o' : HO} (h : H x = some (.ins T.c_Jobs dx (jobF tp' r d))) (ht : TkAt T H tp t) : TkAt T (upd H x o') tp t := by
  have hn := task_ne h ht
  obtain ⟨_, dx', u, v, _, _, h1, h2, h3⟩ := ht
  refine ⟨trivial, dx', u, v, trivial, trivial, ?_, ?_, ?_⟩
  · rw [upd_ne (hn _ _ (.inl rfl) h1)]; exact h1
  · rw [upd_ne (hn _ _ (.inr ⟨_, rfl⟩) h2)]; exact h2
  · rw [upd_ne (hn _ _ (.inr ⟨_, rfl⟩) h3)]; exact h3
theorem JobIn.set {T : Top_ K mg} {H : Hp} {x dx d tp : Addr} {t : Task} {r : JS} (h : JobIn T H x dx d tp t r) (r' : JS) (e : r'.lost = r.lost) : JobIn T (upd H x (.ins T.c_Jobs dx (jobF (.ref tp) r' (.ref d)))) x dx d tp t r' := by
  obtain ⟨kvs, h1, h2⟩ := h.dct
  refine ⟨upd_same, ⟨kvs, ?_, e ▸ h2⟩, TaskAt.upd h.ins h.tsk⟩
  rw [upd_ne h.nd]; exact h1
def sp_Jobs___init__ (T : Top_ K mg) : Sp := fun vs H Q _ => ∃ (x dx tp : Addr) (t : Task), vs = [.ref x, .ref tp] ∧ H x = some (.ins T.c_Jobs dx []) ∧ TkAt T H tp t ∧
  ∀ H' d, H' x = some (.ins T.c_Jobs dx (jobF (.ref tp) (JS.init t.cycles) (.ref d))) → H' d = some (.dK []) → H d = none → (∀ b o, H b = some o → b ≠ x → H' b = some o) → Q .non H'
theorem ok_Jobs___init__ (T : Top_ K mg) : FnOk P w K mg base CX0 1 T.a_Jobs___init__ T.d_Jobs___init__ ["self", "task"] (sp_Jobs___init__ T) := by
  refine T.F_Jobs___init__.ok sc_Jobs___init__ (fun vs H Q E h => ?_) (fun cdv A outer s H vs Q E hr h => ?_)
  · obtain ⟨x, dx, tp, t, rfl, _⟩ := h
    rfl
  · obtain ⟨x, dx, tp, t, rfl, hx, ⟨_, dx', u, v, _, _, h1, h2, h3⟩, k⟩ := h
    refine ⟨_, (pss_cons (ps_fld (pv 0) (pv 1) rfl)
      (pss_cons (ps_fld (pv 0) pe_int rfl)
      (pss_cons (ps_fld (pv 0) pe_int rfl)
      (pss_cons (ps_fld (pv 0) pe_int rfl)
      (pss_cons (ps_fld (pv 0) pe_int rfl)
      (pss_cons (ps_fld (pv 0) pe_int rfl)
      (pss_cons (ps_fld (pv 0) pe_int rfl)
      (pss_cons (ps_fld (pv 0) pe_int rfl)
      (pss_cons (ps_fld (pv 0) pe_bl rfl)
      (pss_cons (ps_fld (pv 0) (pe_fld (pv 1) rfl) rfl)
      (pss_one (ps_fld (pv 0) pe_dnewK rfl)))))))))))), ?_⟩
    have ntp : tp ≠ x := by
      rintro rfl
      rw [h1] at hx
      have : (6 : Nat) = 0 := congrArg List.length (HO.ins.inj (Option.some.inj hx)).2.2
      exact absurd this (by decide)
    refine ⟨_, rfl, _, rfl, x, _, dx, _, rfl, hx, T.cl_Jobs, T.n_Jobs_task, (by show 0 < 1000; decide), ?_⟩
    refine ⟨_, rfl, x, _, dx, _, rfl, upd_same, T.cl_Jobs, T.n_Jobs_came, (by show 1 < 1000; decide), ?_⟩
    rw [upd_upd]
    refine ⟨_, rfl, x, _, dx, _, rfl, upd_same, T.cl_Jobs, T.n_Jobs_due, (by show 2 < 1000; decide), ?_⟩
    rw [upd_upd]
    refine ⟨_, rfl, x, _, dx, _, rfl, upd_same, T.cl_Jobs, T.n_Jobs_done, (by show 3 < 1000; decide), ?_⟩
    rw [upd_upd]
    refine ⟨_, rfl, x, _, dx, _, rfl, upd_same, T.cl_Jobs, T.n_Jobs_late, (by show 4 < 1000; decide), ?_⟩
    rw [upd_upd]
    refine ⟨_, rfl, x, _, dx, _, rfl, upd_same, T.cl_Jobs, T.n_Jobs_greatest, (by show 5 < 1000; decide), ?_⟩
    rw [upd_upd]
    refine ⟨_, rfl, x, _, dx, _, rfl, upd_same, T.cl_Jobs, T.n_Jobs_least, (by show 6 < 1000; decide), ?_⟩
    rw [upd_upd]
    refine ⟨_, rfl, x, _, dx, _, rfl, upd_same, T.cl_Jobs, T.n_Jobs_reloads, (by show 7 < 1000; decide), ?_⟩
    rw [upd_upd]
    refine ⟨_, rfl, x, _, dx, _, rfl, upd_same, T.cl_Jobs, T.n_Jobs_begun, (by show 8 < 1000; decide), ?_⟩
    rw [upd_upd]
    refine ⟨_, rfl, tp, _, dx', _, _, rfl, Eq.trans (upd_ne ntp) h1, T.cl_Task, T.n_Task_cycles, rfl, _, rfl, x, _, dx, _, rfl, upd_same, T.cl_Jobs, T.n_Jobs_left, (by show 9 < 1000; decide), ?_⟩
    rw [upd_upd]
    intro d hd
    have nd : x ≠ d := ne_of_none upd_same hd
    refine ⟨_, rfl, x, _, dx, _, rfl, Eq.trans (upd_ne nd) upd_same, T.cl_Jobs, T.n_Jobs_lost, (by show 10 < 1000; decide), ?_⟩
    rw [upd_ne (Ne.symm nd)] at hd
    refine k _ d upd_same ?_ hd fun b o e hb => ?_
    · rw [upd_ne (Ne.symm nd), upd_same]
    · rw [upd_ne hb, upd_ne (ne_of_none e hd), upd_ne hb]; exact e
def sp_Jobs_comes_at (T : Top_ K mg) : Sp := fun vs H Q _ => ∃ (x dx d tp : Addr) (t : Task) (r : JS) (n : Nat), vs = [.ref x, .int n] ∧ JobIn T H x dx d tp t r ∧ t.period ≤ 500 ∧ Q (.int (t.offset + n * t.period : Nat)) H
theorem ok_Jobs_comes_at (T : Top_ K mg) : FnOk P w K mg base CX0 1 T.a_Jobs_comes_at T.d_Jobs_comes_at ["self", "number"] (sp_Jobs_comes_at T) := by
  refine T.F_Jobs_comes_at.ok sc_Jobs_comes_at (fun vs H Q E h => ?_) (fun cdv A outer s H vs Q E hr h => ?_)
  · obtain ⟨x, dx, d, tp, t, r, n, rfl, _⟩ := h
    rfl
  · obtain ⟨x, dx, d, tp, t, r, n, rfl, h, hp, k⟩ := h
    refine ⟨_, (pss_one (ps_ret (pe_op op_add (pe_fld (pe_fld (pv 0) rfl) rfl) (pe_op op_mul (pv 1) (pe_fld (pe_fld (pv 0) rfl) rfl))))), ?_⟩
    obtain ⟨_, dx', u, v, _, _, h1, h2, h3⟩ := h.tsk
    refine ⟨_, rfl, x, _, dx, _, _, rfl, h.ins, T.cl_Jobs, T.n_Jobs_task, rfl, tp, _, dx', _, _, rfl, h1, T.cl_Task, T.n_Task_offset, rfl,
      _, rfl, _, rfl, x, _, dx, _, _, rfl, h.ins, T.cl_Jobs, T.n_Jobs_task, rfl, tp, _, dx', _, _, rfl, h1, T.cl_Task, T.n_Task_period, rfl, _, _, rfl, rfl, .inr ⟨by omega, by omega⟩, _, _, rfl, rfl, ?_⟩
    refine icast (Q := Q) ?_ k
    rw [Int.natCast_add, Int.natCast_mul]
def sp_Jobs_waits (T : Top_ K mg) : Sp := fun vs H Q _ => ∃ (x dx d tp : Addr) (t : Task) (r : JS), vs = [.ref x] ∧ JobIn T H x dx d tp t r ∧ Q (.bl (decide (r.done < r.came))) H
theorem ok_Jobs_waits (T : Top_ K mg) : FnOk P w K mg base CX0 1 T.a_Jobs_waits T.d_Jobs_waits ["self"] (sp_Jobs_waits T) := by
  refine T.F_Jobs_waits.ok sc_Jobs_waits (fun vs H Q E h => ?_) (fun cdv A outer s H vs Q E hr h => ?_)
  · obtain ⟨x, dx, d, tp, t, r, rfl, _⟩ := h
    rfl
  · obtain ⟨x, dx, d, tp, t, r, rfl, h, k⟩ := h
    refine ⟨_, (pss_one (ps_ret (pe_cmpR op_lt (pe_fld (pv 0) rfl) (pe_fld (pv 0) rfl) (nomark _)))), ?_⟩
    refine ⟨_, rfl, x, _, dx, _, _, rfl, h.ins, T.cl_Jobs, T.n_Jobs_done, rfl, _, rfl, x, _, dx, _, _, rfl, h.ins, T.cl_Jobs, T.n_Jobs_came, rfl, _, _, rfl, rfl, ?_⟩
    refine bcast (Q := Q) ?_ k
    rw [Bool.eq_iff_iff, decide_eq_true_eq, decide_eq_true_eq]
    omega
def sp_Jobs_counted (T : Top_ K mg) : Sp := fun vs H Q _ => ∃ (x dx d tp : Addr) (t : Task) (r : JS), vs = [.ref x] ∧ JobIn T H x dx d tp t r ∧ ∀ H' p, Same H H' → H p = none → H' p = some (.lst (vInts [r.came, r.done, r.late, r.most, r.least, r.reloads])) → Q (.ref p) H'
theorem ok_Jobs_counted (T : Top_ K mg) : FnOk P w K mg base CX0 1 T.a_Jobs_counted T.d_Jobs_counted ["self"] (sp_Jobs_counted T) := by
  refine T.F_Jobs_counted.ok sc_Jobs_counted (fun vs H Q E h => ?_) (fun cdv A outer s H vs Q E hr h => ?_)
  · obtain ⟨x, dx, d, tp, t, r, rfl, _⟩ := h
    rfl
  · obtain ⟨x, dx, d, tp, t, r, rfl, h, k⟩ := h
    refine ⟨_, (pss_one (ps_ret (pe_lst (pa_cons (pe_fld (pv 0) rfl) (pa_cons (pe_fld (pv 0) rfl) (pa_cons (pe_fld (pv 0) rfl) (pa_cons (pe_fld (pv 0) rfl) (pa_cons (pe_fld (pv 0) rfl) (pa_cons (pe_fld (pv 0) rfl) pa_nil))))))))), ?_⟩
    refine ⟨_, rfl, x, _, dx, _, _, rfl, h.ins, T.cl_Jobs, T.n_Jobs_came, rfl, _, rfl, x, _, dx, _, _, rfl, h.ins, T.cl_Jobs, T.n_Jobs_done, rfl, _, rfl, x, _, dx, _, _, rfl, h.ins, T.cl_Jobs, T.n_Jobs_late, rfl,
      _, rfl, x, _, dx, _, _, rfl, h.ins, T.cl_Jobs, T.n_Jobs_greatest, rfl, _, rfl, x, _, dx, _, _, rfl, h.ins, T.cl_Jobs, T.n_Jobs_least, rfl, _, rfl, x, _, dx, _, _, rfl, h.ins, T.cl_Jobs, T.n_Jobs_reloads, rfl, (by show 6 ≤ sizeLine; decide), fun p hp => ?_⟩
    exact k _ p (Same.new hp) hp upd_same
def sp_Jobs_lose (T : Top_ K mg) : Sp := fun vs H Q _ => ∃ (x dx d tp u : Addr) (t : Task) (r : JS) (l : List Nat), vs = [.ref x, .ref u] ∧ JobIn T H x dx d tp t r ∧ H u = some (.lst (vInts l)) ∧ (∀ z ∈ l, z < 32) ∧
  ∀ H' kvs, H' d = some (.dK kvs) → Keys kvs (if r.begun = true then r.lost ++ l else r.lost) → (∀ b o, H b = some o → b ≠ d → H' b = some o) → Q .non H'
theorem ok_Jobs_lose (T : Top_ K mg) : FnOk P w K mg base CX0 1 T.a_Jobs_lose T.d_Jobs_lose ["self", "lines"] (sp_Jobs_lose T) := by
  refine T.F_Jobs_lose.ok sc_Jobs_lose (fun vs H Q E h => ?_) (fun cdv A outer s H vs Q E hr h => ?_)
  · obtain ⟨x, dx, d, tp, u, t, r, l, rfl, _⟩ := h
    rfl
  · obtain ⟨x, dx, d, tp, u, t, r, l, rfl, h, hu, hl, k⟩ := h
    refine ⟨_, (pss_one (ps_if (pt_val (pe_fld (pv 0) rfl))
      (pss_one (ps_for PassesOwn.never rfl (pi_list (pv 1)) (pg_name (i := 2) sc_Jobs_lose.nd rfl (.inl rfl))
      (pss_one (ps_dput (hu_of hr) (pe_fld (pv 0) rfl) (pv 2) pe_bl rfl))))
      pss_nil)), ?_⟩
    have hsl := sizeLine_eq
    obtain ⟨kvs, hd, hk⟩ := h.dct
    have nu : u ≠ d := fun z => by rw [z, hd] at hu; cases hu
    refine ⟨_, rfl, x, _, dx, _, _, rfl, h.ins, T.cl_Jobs, T.n_Jobs_begun, rfl, r.begun, rfl, ite_b (fun hb => ?_) fun hb => ?_⟩
    · refine ⟨_, rfl, u, rfl, ⟨_, SqL.of hu⟩, for_list (K := K) (a := u) (xs := vInts l) (fun n σ H' => ∃ (v2 : Option V) (kvs : List (Key × V)), σ = [some (.ref x), some (.ref u), v2] ∧ H' d = some (.dK kvs) ∧ Keys kvs (r.lost ++ l.take n) ∧ ∀ b o, H b = some o → b ≠ d → H' b = some o)
        ⟨none, kvs, rfl, hd, by rw [List.take_zero, List.append_nil]; exact hk, fun b o e _ => e⟩ (fun n σ H' _ ⟨_, _, _, _, _, g⟩ => SqL.of (g _ _ hu nu)) ?_ ?_⟩
      · rintro n y σ H1 hy ⟨v2, kvs1, rfl, g1, hk1, go⟩
        obtain ⟨z, hz, rfl⟩ := vInts_at hy
        have hlen := hk1.len
        refine ⟨_, rfl, x, _, dx, _, _, rfl, go _ _ h.ins (Ne.symm h.nd), T.cl_Jobs, T.n_Jobs_lost, rfl, _, rfl, d, _, rfl, DPut.k (k := Sum.inl (z : Int)) g1 (by omega), ?_⟩
        refine ⟨_, _, rfl, upd_same, ?_, fun b o e hb => ?_⟩
        · rw [take_snoc hz, ← List.append_assoc]
          exact hk1.put (hl z (List.mem_of_getElem? hz))
        · rw [upd_ne hb]; exact go _ _ e hb
      · rintro σ H1 ⟨v2, kvs1, rfl, g1, hk1, go⟩
        rw [vInts_len, List.take_length] at hk1
        exact k H1 kvs1 g1 (by rw [if_pos hb]; exact hk1) go
    · exact k H kvs hd (by rw [hb]; exact hk) fun b o e _ => e
def dueJS (t : Task) (now : Nat) (r : JS) : JS := if t.offset + r.due * t.period + t.deadline = now then { r with due := r.due + 1, late := r.late + (if r.done < r.due + 1 then 1 else 0) } else r
def cameJS (t : Task) (now : Nat) (r : JS) : JS := if t.offset + r.came * t.period = now then { r with came := r.came + 1 } else r
def sp_Jobs_reach (T : Top_ K mg) : Sp := fun vs H Q _ => ∃ (x dx d tp : Addr) (t : Task) (r : JS) (now : Nat), vs = [.ref x, .int now] ∧ JobIn T H x dx d tp t r ∧ t.period ≤ 500 ∧
  ∀ H', H' x = some (.ins T.c_Jobs dx (jobF (.ref tp) (cameJS t now (dueJS t now r)) (.ref d))) → (∀ b o, H b = some o → b ≠ x → H' b = some o) → Q .non H'
theorem ok_Jobs_reach (T : Top_ K mg) : FnOk P w K mg base CX0 2 T.a_Jobs_reach T.d_Jobs_reach ["self", "now"] (sp_Jobs_reach T) := by
  refine T.F_Jobs_reach.ok sc_Jobs_reach (fun vs H Q E h => ?_) (fun cdv A outer s H vs Q E hr h => ?_)
  · obtain ⟨x, dx, d, tp, t, r, now, rfl, _⟩ := h
    rfl
  · obtain ⟨x, dx, d, tp, t, r, now, rfl, h, hp, k⟩ := h
    refine ⟨_, (pss_cons (ps_if (pt_cmpR op_eq (pe_op op_add (pe_meth (pv 0) T.cl_Jobs T.M_Jobs_comes_at (ok_Jobs_comes_at T) (hr.mono (by decide)) T.b_Jobs_comes_at .nil pass0 (pa_cons (pe_fld (pv 0) rfl) pa_nil)) (pe_fld (pe_fld (pv 0) rfl) rfl)) (pv 1) (nomark _))
      (pss_cons (ps_fldaug (pv 0) pe_int in_add)
      (pss_one (ps_if (pt_cmpR op_lt (pe_fld (pv 0) rfl) (pe_fld (pv 0) rfl) (nomark _))
      (pss_one (ps_fldaug (pv 0) pe_int in_add))
      pss_nil)))
      pss_nil)
      (pss_one (ps_if (pt_cmpR op_eq (pe_meth (pv 0) T.cl_Jobs T.M_Jobs_comes_at (ok_Jobs_comes_at T) (hr.mono (by decide)) T.b_Jobs_comes_at .nil pass0 (pa_cons (pe_fld (pv 0) rfl) pa_nil)) (pv 1) (nomark _))
      (pss_one (ps_fldaug (pv 0) pe_int in_add))
      pss_nil))), ?_⟩
    obtain ⟨_, dx', u, v, _, _, h1, h2, h3⟩ := h.tsk
    have e0 : ∀ r1 : JS, dueJS t now r = r1 → r1.lost = r.lost → ∀ H1, JobIn T H1 x dx d tp t r1 → (∀ b o, H b = some o → b ≠ x → H1 b = some o) →
        (t.offset + r1.came * t.period = now → ∀ H2, H2 x = some (.ins T.c_Jobs dx (jobF (.ref tp) { r1 with came := r1.came + 1 } (.ref d))) → (∀ b o, H1 b = some o → b ≠ x → H2 b = some o) → Q .non H2) ∧ (¬ t.offset + r1.came * t.period = now → Q .non H1) := fun r1 e1 el H1 hJ go => by
      refine ⟨fun hc H2 g2 go2 => k H2 ?_ fun b o e hb => go2 _ _ (go _ _ e hb) hb, fun hc => k H1 ?_ go⟩
      · rw [g2, e1]; unfold cameJS; rw [if_pos hc]
      · rw [hJ.ins, e1]; unfold cameJS; rw [if_neg hc]
    refine ⟨_, rfl, x, dx, _, rfl, h.ins, rfl, _, rfl, x, _, dx, _, _, rfl, h.ins, T.cl_Jobs, T.n_Jobs_due, rfl, x, dx, d, tp, t, r, r.due, rfl, h, hp,
      _, rfl, x, _, dx, _, _, rfl, h.ins, T.cl_Jobs, T.n_Jobs_task, rfl, tp, _, dx', _, _, rfl, h1, T.cl_Task, T.n_Task_deadline, rfl, _, _, rfl, rfl, _, rfl, rfl, _, rfl, ite_dV (fun hd => ?_) fun hd => ?_⟩
    · have hd' : t.offset + r.due * t.period + t.deadline = now := by omega
      refine ⟨_, rfl, x, _, dx, _, _, rfl, h.ins, T.cl_Jobs, T.n_Jobs_due, rfl, _, _, rfl, rfl, dx, _, h.ins, (by show 11 < 1000; decide), ?_⟩
      have hJ1 : JobIn T (upd H x (.ins T.c_Jobs dx (putF "due" (.int ((r.due : Int) + 1)) (jobF (.ref tp) r (.ref d))))) x dx d tp t { r with due := r.due + 1 } := h.set { r with due := r.due + 1 } rfl
      have go1 : ∀ b o, H b = some o → b ≠ x → upd H x (.ins T.c_Jobs dx (putF "due" (.int ((r.due : Int) + 1)) (jobF (.ref tp) r (.ref d)))) b = some o := fun b o e hb => by rw [upd_ne hb]; exact e
      generalize upd H x (.ins T.c_Jobs dx (putF "due" (.int ((r.due : Int) + 1)) (jobF (.ref tp) r (.ref d)))) = H1 at hJ1 go1
      refine ⟨_, rfl, x, _, dx, _, _, rfl, hJ1.ins, T.cl_Jobs, T.n_Jobs_done, rfl, _, rfl, x, _, dx, _, _, rfl, hJ1.ins, T.cl_Jobs, T.n_Jobs_due, rfl, _, _, rfl, rfl, _, rfl, ite_d (fun hl => ?_) fun hl => ?_⟩
      · have hl' : r.done < r.due + 1 := by
          have : (r.done : Int) < ((r.due + 1 : Nat) : Int) := hl
          omega
        refine ⟨_, rfl, x, _, dx, _, _, rfl, hJ1.ins, T.cl_Jobs, T.n_Jobs_late, rfl, _, _, rfl, rfl, dx, _, hJ1.ins, (by show 11 < 1000; decide), ?_⟩
        have hJ2 := hJ1.set { r with due := r.due + 1, late := r.late + 1 } rfl
        have go2 : ∀ b o, H b = some o → b ≠ x → upd H1 x (.ins T.c_Jobs dx (jobF (.ref tp) { r with due := r.due + 1, late := r.late + 1 } (.ref d))) b = some o := fun b o e hb => by rw [upd_ne hb]; exact go1 _ _ e hb
        obtain ⟨f1, f2⟩ := e0 { r with due := r.due + 1, late := r.late + 1 } (by unfold dueJS; rw [if_pos hd', if_pos hl']) rfl _ hJ2 go2
        refine ⟨_, rfl, x, dx, _, rfl, upd_same, rfl, _, rfl, x, _, dx, _, _, rfl, upd_same, T.cl_Jobs, T.n_Jobs_came, rfl, x, dx, d, tp, t, { r with due := r.due + 1, late := r.late + 1 }, r.came, rfl, hJ2, hp, _, rfl, rfl, _, rfl, ite_dV (fun hc => ?_) fun hc => ?_⟩
        · refine ⟨_, rfl, x, _, dx, _, _, rfl, upd_same, T.cl_Jobs, T.n_Jobs_came, rfl, _, _, rfl, rfl, dx, _, upd_same, (by show 11 < 1000; decide), f1 (Int.ofNat.inj hc) _ upd_same fun b o e hb => by rw [upd_ne hb]; exact e⟩
        · exact f2 fun z => hc (congrArg Int.ofNat z)
      · have hl' : ¬ r.done < r.due + 1 := by
          intro z
          refine hl ?_
          show (r.done : Int) < ((r.due + 1 : Nat) : Int)
          omega
        obtain ⟨f1, f2⟩ := e0 { r with due := r.due + 1 } (by unfold dueJS; rw [if_pos hd', if_neg hl']; rfl) rfl H1 hJ1 go1
        refine ⟨_, rfl, x, dx, _, rfl, hJ1.ins, rfl, _, rfl, x, _, dx, _, _, rfl, hJ1.ins, T.cl_Jobs, T.n_Jobs_came, rfl, x, dx, d, tp, t, _, r.came, rfl, hJ1, hp, _, rfl, rfl, _, rfl, ite_dV (fun hc => ?_) fun hc => ?_⟩
        · refine ⟨_, rfl, x, _, dx, _, _, rfl, hJ1.ins, T.cl_Jobs, T.n_Jobs_came, rfl, _, _, rfl, rfl, dx, _, hJ1.ins, (by show 11 < 1000; decide), f1 (Int.ofNat.inj hc) _ upd_same fun b o e hb => by rw [upd_ne hb]; exact e⟩
        · exact f2 fun z => hc (congrArg Int.ofNat z)
    · have hd' : ¬ t.offset + r.due * t.period + t.deadline = now := by omega
      obtain ⟨f1, f2⟩ := e0 r (by unfold dueJS; rw [if_neg hd']) rfl H h fun b o e _ => e
      refine ⟨_, rfl, x, dx, _, rfl, h.ins, rfl, _, rfl, x, _, dx, _, _, rfl, h.ins, T.cl_Jobs, T.n_Jobs_came, rfl, x, dx, d, tp, t, _, r.came, rfl, h, hp, _, rfl, rfl, _, rfl, ite_dV (fun hc => ?_) fun hc => ?_⟩
      · refine ⟨_, rfl, x, _, dx, _, _, rfl, h.ins, T.cl_Jobs, T.n_Jobs_came, rfl, _, _, rfl, rfl, dx, _, h.ins, (by show 11 < 1000; decide), f1 (Int.ofNat.inj hc) _ upd_same fun b o e hb => by rw [upd_ne hb]; exact e⟩
      · exact f2 fun z => hc (congrArg Int.ofNat z)
def finJS (t : Task) (now : Nat) (r : JS) : JS := { r with most := max r.most (now - (t.offset + r.done * t.period)), least := if r.done = 0 then now - (t.offset + r.done * t.period) else min r.least (now - (t.offset + r.done * t.period)), done := r.done + 1, begun := false, left := t.cycles }
def sp_Jobs_finish (T : Top_ K mg) : Sp := fun vs H Q _ => ∃ (x dx d tp : Addr) (t : Task) (r : JS) (now : Nat), vs = [.ref x, .int now] ∧ JobIn T H x dx d tp t r ∧ t.period ≤ 500 ∧ t.offset + r.done * t.period ≤ now ∧
  ∀ H', H' x = some (.ins T.c_Jobs dx (jobF (.ref tp) (finJS t now r) (.ref d))) → (∀ b o, H b = some o → b ≠ x → H' b = some o) → Q .non H'
theorem ok_Jobs_finish (T : Top_ K mg) : FnOk P w K mg base CX0 2 T.a_Jobs_finish T.d_Jobs_finish ["self", "now"] (sp_Jobs_finish T) := by
  refine T.F_Jobs_finish.ok sc_Jobs_finish (fun vs H Q E h => ?_) (fun cdv A outer s H vs Q E hr h => ?_)
  · obtain ⟨x, dx, d, tp, t, r, now, rfl, _⟩ := h
    rfl
  · obtain ⟨x, dx, d, tp, t, r, now, rfl, h, hp, hle, k⟩ := h
    refine ⟨_, (pss_cons (ps_set (i := 2) sc_Jobs_finish.nd rfl (.inl rfl) (pe_op op_sub (pv 1) (pe_meth (pv 0) T.cl_Jobs T.M_Jobs_comes_at (ok_Jobs_comes_at T) (hr.mono (by decide)) T.b_Jobs_comes_at .nil pass0 (pa_cons (pe_fld (pv 0) rfl) pa_nil))))
      (pss_cons (ps_fld (pv 0) (pe_callB (call_max2 rfl) (by rfl) T.x_max PyProof.Rows.boot_max (pa_cons (pe_fld (pv 0) rfl) (pa_cons (pv 2) pa_nil))) rfl)
      (pss_cons (ps_fld (pv 0) (pe_ifExp (pt_cmpR op_eq (pe_fld (pv 0) rfl) pe_int (nomark _)) (pv 2) (pe_callB (call_min2 rfl) (by rfl) T.x_min PyProof.Rows.boot_min (pa_cons (pe_fld (pv 0) rfl) (pa_cons (pv 2) pa_nil)))) rfl)
      (pss_cons (ps_fldaug (pv 0) pe_int in_add)
      (pss_cons (ps_fld (pv 0) pe_bl rfl)
      (pss_one (ps_fld (pv 0) (pe_fld (pe_fld (pv 0) rfl) rfl) rfl))))))), ?_⟩
    obtain ⟨_, dx', u, v, _, _, h1, h2, h3⟩ := h.tsk
    have ntp : tp ≠ x := task_ne h.ins h.tsk _ _ (.inl rfl) h1
    refine ⟨_, rfl, _, rfl, x, dx, _, rfl, h.ins, rfl, _, rfl, x, _, dx, _, _, rfl, h.ins, T.cl_Jobs, T.n_Jobs_done, rfl, x, dx, d, tp, t, r, r.done, rfl, h, hp, _, _, rfl, rfl, ?_⟩
    have et : (now : Int) - ((t.offset + r.done * t.period : Nat) : Int) = ((now - (t.offset + r.done * t.period) : Nat) : Int) := by omega
    dsimp only
    rw [et]
    generalize eT : now - (t.offset + r.done * t.period) = took
    refine ⟨_, rfl, x, _, dx, _, _, rfl, h.ins, T.cl_Jobs, T.n_Jobs_greatest, rfl, _, rfl, _, _, rfl, ?_⟩
    have em : (if (took : Int) > (r.most : Int) then (took : Int) else (r.most : Int)) = ((max r.most took : Nat) : Int) := by
      split <;> omega
    rw [em]
    refine ⟨_, rfl, x, _, dx, _, rfl, h.ins, T.cl_Jobs, T.n_Jobs_greatest, (by show 11 < 1000; decide), ?_⟩
    have hJ1 : JobIn T (upd H x (.ins T.c_Jobs dx (putF "greatest" (.int ((max r.most took : Nat) : Int)) (jobF (.ref tp) r (.ref d))))) x dx d tp t { r with most := max r.most took } := h.set { r with most := max r.most took } rfl
    have go1 : ∀ b o, H b = some o → b ≠ x → upd H x (.ins T.c_Jobs dx (putF "greatest" (.int ((max r.most took : Nat) : Int)) (jobF (.ref tp) r (.ref d)))) b = some o := fun b o e hb => by rw [upd_ne hb]; exact e
    generalize upd H x (.ins T.c_Jobs dx (putF "greatest" (.int ((max r.most took : Nat) : Int)) (jobF (.ref tp) r (.ref d)))) = H1 at hJ1 go1 ⊢
    have tail : ∀ (z : Nat), z = (if r.done = 0 then took else min r.least took) → ∀ H3, H3 x = some (.ins T.c_Jobs dx (jobF (.ref tp) { r with most := max r.most took, least := z, done := r.done + 1, begun := false, left := t.cycles } (.ref d))) → (∀ b o, H1 b = some o → b ≠ x → H3 b = some o) → Q .non H3 := fun z hz H3 g3 go3 => by
      refine k H3 ?_ fun b o e hb => go3 _ _ (go1 _ _ e hb) hb
      rw [g3]
      unfold finJS
      rw [eT, hz]
    refine ⟨_, rfl, x, _, dx, _, _, rfl, hJ1.ins, T.cl_Jobs, T.n_Jobs_done, rfl, rfl, _, rfl, ite_dV (fun h0 => ?_) fun h0 => ?_⟩
    · refine ⟨_, rfl, _, rfl, x, _, dx, _, rfl, hJ1.ins, T.cl_Jobs, T.n_Jobs_least, (by show 11 < 1000; decide), ?_⟩
      refine ⟨_, rfl, x, _, dx, _, _, rfl, upd_same, T.cl_Jobs, T.n_Jobs_done, rfl, _, _, rfl, rfl, dx, _, upd_same, (by show 11 < 1000; decide), ?_⟩
      rw [upd_upd]
      refine ⟨_, rfl, x, _, dx, _, rfl, upd_same, T.cl_Jobs, T.n_Jobs_begun, (by show 11 < 1000; decide), ?_⟩
      rw [upd_upd]
      refine ⟨_, rfl, x, _, dx, _, _, rfl, upd_same, T.cl_Jobs, T.n_Jobs_task, rfl, tp, _, dx', _, _, rfl, Eq.trans (upd_ne ntp) (go1 _ _ h1 ntp), T.cl_Task, T.n_Task_cycles, rfl, _, rfl, x, _, dx, _, rfl, upd_same, T.cl_Jobs, T.n_Jobs_left, (by show 11 < 1000; decide), ?_⟩
      rw [upd_upd]
      exact tail took (by rw [if_pos (show r.done = 0 by have h0' : (r.done : Int) = 0 := h0; omega)]) _ upd_same fun b o e hb => by rw [upd_ne hb]; exact e
    · refine ⟨_, rfl, x, _, dx, _, _, rfl, hJ1.ins, T.cl_Jobs, T.n_Jobs_least, rfl, _, rfl, _, _, rfl, ?_⟩
      have em2 : (if (took : Int) < (r.least : Int) then (took : Int) else (r.least : Int)) = ((min r.least took : Nat) : Int) := by
        split <;> omega
      have em3 : (if (took : Int) < (({ r with most := max r.most took } : JS).least : Int) then (took : Int) else (({ r with most := max r.most took } : JS).least : Int)) = ((min r.least took : Nat) : Int) := em2
      rw [em3]
      refine ⟨_, rfl, x, _, dx, _, rfl, hJ1.ins, T.cl_Jobs, T.n_Jobs_least, (by show 11 < 1000; decide), ?_⟩
      refine ⟨_, rfl, x, _, dx, _, _, rfl, upd_same, T.cl_Jobs, T.n_Jobs_done, rfl, _, _, rfl, rfl, dx, _, upd_same, (by show 11 < 1000; decide), ?_⟩
      rw [upd_upd]
      refine ⟨_, rfl, x, _, dx, _, rfl, upd_same, T.cl_Jobs, T.n_Jobs_begun, (by show 11 < 1000; decide), ?_⟩
      rw [upd_upd]
      refine ⟨_, rfl, x, _, dx, _, _, rfl, upd_same, T.cl_Jobs, T.n_Jobs_task, rfl, tp, _, dx', _, _, rfl, Eq.trans (upd_ne ntp) (go1 _ _ h1 ntp), T.cl_Task, T.n_Task_cycles, rfl, _, rfl, x, _, dx, _, rfl, upd_same, T.cl_Jobs, T.n_Jobs_left, (by show 11 < 1000; decide), ?_⟩
      rw [upd_upd]
      exact tail (min r.least took) (by rw [if_neg (show ¬ r.done = 0 by have h0' : ¬ (r.done : Int) = 0 := h0; omega)]) _ upd_same fun b o e hb => by rw [upd_ne hb]; exact e
def ran1JS (t : Task) (c : Nat) (r : JS) : JS := { r with reloads := r.reloads + among t r.lost * c, lost := [], begun := true, left := r.left + among t r.lost * c - 1 }
def runJS (t : Task) (now c : Nat) (r : JS) : JS := if r.left + among t r.lost * c - 1 = 0 then finJS t (now + 1) (ran1JS t c r) else ran1JS t c r
def sp_Jobs_run (T : Top_ K mg) : Sp := fun vs H Q _ => ∃ (x dx d tp : Addr) (t : Task) (r : JS) (now c : Nat), vs = [.ref x, .int now, .int c] ∧ JobIn T H x dx d tp t r ∧ t.period ≤ 500 ∧ t.useful.length ≤ 32 ∧ c ≤ 20 ∧ 1 ≤ r.left ∧ t.offset + r.done * t.period ≤ now + 1 ∧
  ∀ H' d', H' x = some (.ins T.c_Jobs dx (jobF (.ref tp) (runJS t now c r) (.ref d'))) → H' d' = some (.dK []) → H d' = none → (∀ b o, H b = some o → b ≠ x → H' b = some o) → Q .non H'
theorem ok_Jobs_run (T : Top_ K mg) : FnOk P w K mg base CX0 3 T.a_Jobs_run T.d_Jobs_run ["self", "now", "line_cost"] (sp_Jobs_run T) := by
  refine T.F_Jobs_run.ok sc_Jobs_run (fun vs H Q E h => ?_) (fun cdv A outer s H vs Q E hr h => ?_)
  · obtain ⟨x, dx, d, tp, t, r, now, c, rfl, _⟩ := h
    rfl
  · obtain ⟨x, dx, d, tp, t, r, now, c, rfl, h, hp, hu, hc, hl, hle, k⟩ := h
    refine ⟨_, (pss_cons (ps_set (i := 3) sc_Jobs_run.nd rfl (.inl rfl) (pe_op op_mul (pe_meth (pe_fld (pv 0) rfl) T.cl_Task T.M_Task_useful_among (ok_Task_useful_among T) (hr.mono (by decide)) T.b_Task_useful_among .nil pass0 (pa_cons (pe_fld (pv 0) rfl) pa_nil)) (pv 2)))
      (pss_cons (ps_fldaug (pv 0) (pv 3) in_add)
      (pss_cons (ps_fld (pv 0) pe_dnewK rfl)
      (pss_cons (ps_fld (pv 0) pe_bl rfl)
      (pss_cons (ps_fldaug (pv 0) (pe_op op_sub (pv 3) pe_int) in_add)
      (pss_one (ps_if (pt_cmpR op_eq (pe_fld (pv 0) rfl) pe_int (nomark _))
      (pss_one (ps_expr (pe_meth (pv 0) T.cl_Jobs T.M_Jobs_finish (ok_Jobs_finish T) (hr.mono (by decide)) T.b_Jobs_finish .nil pass0 (pa_cons (pe_op op_add (pv 1) pe_int) pa_nil))))
      pss_nil))))))), ?_⟩
    have htk := h.tsk
    obtain ⟨_, dx', u, v, _, _, h1, h2, h3⟩ := htk
    obtain ⟨kvs, hd, hk⟩ := h.dct
    have hn := task_ne h.ins h.tsk
    refine ⟨_, rfl, x, _, dx, _, _, rfl, h.ins, T.cl_Jobs, T.n_Jobs_task, rfl, tp, dx', _, rfl, h1, rfl, _, rfl, x, _, dx, _, _, rfl, h.ins, T.cl_Jobs, T.n_Jobs_lost, rfl, tp, d, t, kvs, r.lost, rfl, h.tsk, hd, hk, hu, fun H1 s1 => ⟨_, rfl, _, _, rfl, rfl, .inr ⟨by omega, by omega⟩, ?_⟩⟩
    have erl : ((among t r.lost : Nat) : Int) * (c : Int) = ((among t r.lost * c : Nat) : Int) := by rw [Int.natCast_mul]
    dsimp only
    rw [erl]
    generalize eR : among t r.lost * c = rl
    refine ⟨_, rfl, x, _, dx, _, _, rfl, s1 _ _ h.ins, T.cl_Jobs, T.n_Jobs_reloads, rfl, _, rfl, _, _, rfl, rfl, dx, _, s1 _ _ h.ins, (by show 11 < 1000; decide), ?_⟩
    intro d' hd'
    have nd' : x ≠ d' := ne_of_none upd_same hd'
    have hd1 : H1 d' = none := by rw [upd_ne (Ne.symm nd')] at hd'; exact hd'
    refine ⟨_, rfl, x, _, dx, _, rfl, Eq.trans (upd_ne nd') upd_same, T.cl_Jobs, T.n_Jobs_lost, (by show 11 < 1000; decide), ?_⟩
    refine ⟨_, rfl, x, _, dx, _, rfl, upd_same, T.cl_Jobs, T.n_Jobs_begun, (by show 11 < 1000; decide), ?_⟩
    rw [upd_upd]
    refine ⟨_, rfl, x, _, dx, _, _, rfl, upd_same, T.cl_Jobs, T.n_Jobs_left, rfl, _, rfl, _, _, rfl, rfl, _, _, rfl, rfl, dx, _, upd_same, (by show 11 < 1000; decide), ?_⟩
    rw [upd_upd]
    have eL : (r.left : Int) + ((rl : Int) - 1) = ((r.left + rl - 1 : Nat) : Int) := by omega
    have go : ∀ (o1 o2 : HO) b o, H b = some o → b ≠ x → upd (upd (upd H1 x o1) d' (.dK [])) x o2 b = some o := fun o1 o2 b o e hb => by
      rw [upd_ne hb, upd_ne (ne_of_none (s1 _ _ e) hd1), upd_ne hb]; exact s1 _ _ e
    have r1 : ∃ r1 : JS, r1 = ran1JS t c r := ⟨_, rfl⟩
    obtain ⟨r1, er1⟩ := r1
    have er2 : r1 = { r with reloads := r.reloads + rl, lost := [], begun := true, left := r.left + rl - 1 } := by rw [er1]; unfold ran1JS; rw [eR]
    have hF : ∀ o1 : HO, JobIn T (upd (upd (upd H1 x o1) d' (.dK [])) x (.ins T.c_Jobs dx (putF "left" (.int ((r.left : Int) + ((rl : Int) - 1))) (putF "begun" (.bl true) (putF "lost" (.ref d') (putF "reloads" (.int ((r.reloads : Int) + (rl : Int))) (jobF (.ref tp) r (.ref d)))))))) x dx d' tp t r1 := fun o1 => by
      refine ⟨?_, ⟨[], ?_, ?_⟩, ?_⟩
      · rw [upd_same, eL, er2]
        rfl
      · rw [upd_ne (Ne.symm nd'), upd_same]
      · rw [er2]; exact Keys.nil
      · exact ⟨trivial, dx', u, v, trivial, trivial, go _ _ _ _ h1 (hn _ _ (.inl rfl) h1), go _ _ _ _ h2 (hn _ _ (.inr ⟨_, rfl⟩) h2), go _ _ _ _ h3 (hn _ _ (.inr ⟨_, rfl⟩) h3)⟩
    have hJ := hF (.ins T.c_Jobs dx (putF "reloads" (.int ((r.reloads : Int) + (rl : Int))) (jobF (.ref tp) r (.ref d))))
    have hd0 : H d' = none := s1.free hd1
    refine ⟨_, rfl, x, _, dx, _, _, rfl, upd_same, T.cl_Jobs, T.n_Jobs_left, rfl, rfl, _, rfl, ite_dV (fun h0 => ?_) fun h0 => ?_⟩
    · have h0' : r.left + rl - 1 = 0 := by omega
      refine ⟨_, rfl, x, dx, _, rfl, upd_same, rfl, _, rfl, _, _, rfl, rfl, x, dx, d', tp, t, r1, now + 1, rfl, hJ, hp, ?_, fun H' g' go' => ?_⟩
      · rw [er2]; exact hle
      · refine k H' d' ?_ (go' _ _ ?_ (Ne.symm nd')) hd0 fun b o e hb => go' _ _ (go _ _ _ _ e hb) hb
        · rw [g']
          unfold runJS
          rw [eR, if_pos h0', ← er1]
        · rw [upd_ne (Ne.symm nd'), upd_same]
    · have h0' : ¬ r.left + rl - 1 = 0 := by omega
      refine k _ d' ?_ ?_ hd0 fun b o e hb => go _ _ _ _ e hb
      · refine Eq.trans hJ.ins ?_
        unfold runJS
        rw [eR, if_neg h0', ← er1]
      · rw [upd_ne (Ne.symm nd'), upd_same]
end
end My
namespace My
open Vawctg
def hdJ (cyc : Nat) : List Job → Job
  | [] => { came := 0, left := cyc, begun := false, lost := [] }
  | j :: _ => j
def rowOf (cyc due : Nat) (q : List Job) (t : Tally) : JS := { came := t.came, due := due, done := t.done, late := t.late, most := t.most, least := t.least, reloads := t.reloads, begun := (hdJ cyc q).begun, left := (hdJ cyc q).left, lost := (hdJ cyc q).lost }
def DueOk (t : Task) (now due : Nat) : Prop := ∀ k, k < due ↔ t.offset + k * t.period + t.deadline < now
theorem DueOk.start (t : Task) (h : 1 ≤ t.deadline) : DueOk t 0 0 := fun k => by omega
theorem DueOk.uniq {t : Task} {now due k : Nat} (h : DueOk t now due) (hp : 1 ≤ t.period) (e : t.offset + k * t.period + t.deadline = now) : k = due := by
  have h1 : ¬ k < due := fun z => by have := (h k).mp z; omega
  have h2 : ¬ due < k := fun z => by
    have h3 : ¬ t.offset + due * t.period + t.deadline < now := fun y => Nat.lt_irrefl _ ((h due).mpr y)
    have h4 : (due + 1) * t.period ≤ k * t.period := Nat.mul_le_mul_right _ z
    rw [Nat.add_mul] at h4
    omega
  omega
theorem DueOk.next {t : Task} {now due : Nat} (h : DueOk t now due) (hp : 1 ≤ t.period) : DueOk t (now + 1) (if t.offset + due * t.period + t.deadline = now then due + 1 else due) := by
  intro k
  by_cases e : t.offset + due * t.period + t.deadline = now
  · rw [if_pos e]
    constructor
    · intro hk
      have : k * t.period ≤ due * t.period := Nat.mul_le_mul_right _ (by omega)
      omega
    · intro hk
      by_cases hk' : k ≤ due
      · omega
      · have h4 : (due + 1) * t.period ≤ k * t.period := Nat.mul_le_mul_right _ (by omega)
        rw [Nat.add_mul] at h4
        omega
  · rw [if_neg e, h k]
    constructor
    · omega
    · intro hk
      have : t.offset + k * t.period + t.deadline ≠ now := fun z => e (by rw [← h.uniq hp z]; exact z)
      omega
theorem filter_range_one (d : Nat) : ∀ (n a : Nat), ((List.range' a n).filter fun k => k == d).length = if a ≤ d ∧ d < a + n then 1 else 0
  | 0, a => by rw [List.range'_zero, if_neg (by omega)]; rfl
  | n + 1, a => by
    rw [List.range'_succ, List.filter_cons]
    have ih := filter_range_one d n (a + 1)
    by_cases h : a = d
    · subst h
      rw [if_pos (by simp), List.length_cons, ih, if_neg (by omega), if_pos (by omega)]
    · rw [if_neg (by simpa using h), ih]
      by_cases h2 : a + 1 ≤ d ∧ d < a + 1 + n
      · rw [if_pos h2, if_pos (by omega)]
      · rw [if_neg h2, if_neg (by omega)]
theorem lateAt_eq {s : Set_} {i now due : Nat} {q : List Job} {t : Tally} (h : RowOk s i now q t) (hd : DueOk (taskAt s i) now due) (hp : 1 ≤ (taskAt s i).period) (hdl : 1 ≤ (taskAt s i).deadline) :
    lateAt s i now q = if (taskAt s i).offset + due * (taskAt s i).period + (taskAt s i).deadline = now then (if t.done < due + 1 then 1 else 0) else 0 := by
  have e1 : lateAt s i now q = ((q.map Job.came).filter fun x => x + (taskAt s i).deadline == now).length := by
    unfold lateAt
    rw [List.filter_map, List.length_map]
    rfl
  rw [e1, h.came, List.filter_map, List.length_map]
  by_cases e : (taskAt s i).offset + due * (taskAt s i).period + (taskAt s i).deadline = now
  · rw [if_pos e]
    have e2 : (List.range' t.done q.length).filter ((fun x => x + (taskAt s i).deadline == now) ∘ fun k => (taskAt s i).offset + k * (taskAt s i).period) = (List.range' t.done q.length).filter fun k => k == due := by
      refine List.filter_congr fun k _ => ?_
      show ((taskAt s i).offset + k * (taskAt s i).period + (taskAt s i).deadline == now) = (k == due)
      rw [Bool.eq_iff_iff, beq_iff_eq, beq_iff_eq]
      constructor
      · exact hd.uniq hp
      · rintro rfl; exact e
    rw [e2, filter_range_one]
    have h1 : due < t.came := (h.upto due).mpr (by omega)
    have h2 := h.cnt
    by_cases h3 : t.done < due + 1
    · rw [if_pos h3, if_pos (by omega)]
    · rw [if_neg h3, if_neg (by omega)]
  · rw [if_neg e]
    rw [List.length_eq_zero_iff, List.filter_eq_nil_iff]
    intro k hk
    show ¬ (((taskAt s i).offset + k * (taskAt s i).period + (taskAt s i).deadline == now) = true)
    rw [beq_iff_eq]
    intro z
    exact e (by rw [← hd.uniq hp z]; exact z)
theorem hdJ_snoc (cyc : Nat) (q : List Job) (s : Set_) (i now : Nat) (e : (taskAt s i).cycles = cyc) : (hdJ cyc (q ++ [freshJob s i now])).begun = (hdJ cyc q).begun ∧ (hdJ cyc (q ++ [freshJob s i now])).left = (hdJ cyc q).left ∧ (hdJ cyc (q ++ [freshJob s i now])).lost = (hdJ cyc q).lost := by
  cases q with
  | nil => exact ⟨rfl, e, rfl⟩
  | cons j r => exact ⟨rfl, rfl, rfl⟩
theorem cameJS_pos {t : Task} {now : Nat} {r : JS} (h : t.offset + r.came * t.period = now) : cameJS t now r = { r with came := r.came + 1 } := if_pos h
theorem cameJS_neg {t : Task} {now : Nat} {r : JS} (h : ¬ t.offset + r.came * t.period = now) : cameJS t now r = r := if_neg h
theorem reach_row {s : Set_} {i now due : Nat} {q : List Job} {t : Tally} (h : RowOk s i now q t) (hd : DueOk (taskAt s i) now due) (hp : 1 ≤ (taskAt s i).period) (hdl : 1 ≤ (taskAt s i).deadline) :
    cameJS (taskAt s i) now (dueJS (taskAt s i) now (rowOf (taskAt s i).cycles due q t)) =
      rowOf (taskAt s i).cycles (if (taskAt s i).offset + due * (taskAt s i).period + (taskAt s i).deadline = now then due + 1 else due) (if comes (taskAt s i) now then q ++ [freshJob s i now] else q) { t with came := t.came + (if comes (taskAt s i) now then 1 else 0), late := t.late + lateAt s i now q } := by
  have hl := lateAt_eq h hd hp hdl
  have hc := comes_iff hp h.upto
  have e1 : dueJS (taskAt s i) now (rowOf (taskAt s i).cycles due q t) = rowOf (taskAt s i).cycles (if (taskAt s i).offset + due * (taskAt s i).period + (taskAt s i).deadline = now then due + 1 else due) q { t with late := t.late + lateAt s i now q } := by
    unfold dueJS
    by_cases e : (taskAt s i).offset + due * (taskAt s i).period + (taskAt s i).deadline = now
    · rw [if_pos e, hl, if_pos e, if_pos (show (taskAt s i).offset + (rowOf (taskAt s i).cycles due q t).due * (taskAt s i).period + (taskAt s i).deadline = now from e)]
      rfl
    · rw [if_neg e, hl, if_neg e, if_neg (show ¬ (taskAt s i).offset + (rowOf (taskAt s i).cycles due q t).due * (taskAt s i).period + (taskAt s i).deadline = now from e)]
      rfl
  rw [e1]
  by_cases c : comes (taskAt s i) now = true
  · have e := hc.mp c
    obtain ⟨b1, b2, b3⟩ := hdJ_snoc (taskAt s i).cycles q s i now rfl
    rw [if_pos c, if_pos c]
    refine (cameJS_pos e.symm).trans ?_
    unfold rowOf
    rw [b1, b2, b3]
  · rw [if_neg c, if_neg c]
    exact cameJS_neg fun z => c (hc.mpr (Eq.symm z))
theorem lose_row {s : Set_} {i k cyc due : Nat} {q : List Job} {t : Tally} :
    ∃ l, (∀ n, n ∈ l ↔ n ∈ (if (rowOf cyc due q t).begun = true then (rowOf cyc due q t).lost ++ (taskAt s i).used else (rowOf cyc due q t).lost)) ∧ rowOf cyc due (firstJob (loses s i) q) t = { rowOf cyc due q t with lost := l } := by
  cases q with
  | nil => exact ⟨[], by simp [rowOf, hdJ], rfl⟩
  | cons j r =>
    refine ⟨(loses s i j).lost, fun n => ?_, ?_⟩
    · show n ∈ (loses s i j).lost ↔ n ∈ (if j.begun = true then j.lost ++ (taskAt s i).used else j.lost)
      by_cases hb : j.begun = true
      · rw [if_pos hb, mem_loses hb, List.mem_append]
      · rw [if_neg hb, loses_fresh (by simpa using hb)]
    · unfold rowOf
      show JS.mk _ _ _ _ _ _ _ (loses s i j).begun (loses s i j).left (loses s i j).lost = _
      rw [loses_begun, loses_left]
      rfl
theorem run_row {s : Set_} {i n now due : Nat} {j : Job} {r : List Job} {t : Tally} (h : RowOk s i n (j :: r) t) :
    runJS (taskAt s i) now s.reload (rowOf (taskAt s i).cycles due (j :: r) t) = rowOf (taskAt s i).cycles due (ranRow s i (j :: r)) (ranTally s i now j t) := by
  have hx : among (taskAt s i) j.lost * s.reload = reloadOf s i j := by
    unfold reloadOf
    by_cases hb : j.begun = true
    · rw [if_pos hb, Nat.mul_comm]; rfl
    · have := (h.fresh j List.mem_cons_self (by simpa using hb)).2
      rw [if_neg hb, this]
      have e : among (taskAt s i) [] = 0 := by simp [among]
      rw [e, Nat.zero_mul]
  have hcame : j.came = (taskAt s i).offset + t.done * (taskAt s i).period := by
    have := h.came
    rw [List.map_cons, List.length_cons, List.range'_succ, List.map_cons] at this
    exact (List.cons.inj this).1
  unfold runJS
  have ex : (rowOf (taskAt s i).cycles due (j :: r) t).left + among (taskAt s i) (rowOf (taskAt s i).cycles due (j :: r) t).lost * s.reload - 1 = j.left + reloadOf s i j - 1 := by
    show j.left + among (taskAt s i) j.lost * s.reload - 1 = _
    rw [hx]
  rw [ex]
  have er : ran1JS (taskAt s i) s.reload (rowOf (taskAt s i).cycles due (j :: r) t) = { rowOf (taskAt s i).cycles due (j :: r) t with reloads := t.reloads + reloadOf s i j, lost := [], begun := true, left := j.left + reloadOf s i j - 1 } := by
    unfold ran1JS
    rw [ex]
    show JS.mk _ _ _ _ _ _ (t.reloads + among (taskAt s i) j.lost * s.reload) _ _ _ = _
    rw [hx]
  rw [er]
  unfold ranRow ranTally
  dsimp only
  by_cases hd : j.left + reloadOf s i j - 1 = 0
  · rw [if_pos hd, if_pos hd, if_pos hd]
    unfold finJS rowOf
    dsimp only
    have h1 : (hdJ (taskAt s i).cycles r).begun = false ∧ (hdJ (taskAt s i).cycles r).left = (taskAt s i).cycles ∧ (hdJ (taskAt s i).cycles r).lost = [] := by
      cases r with
      | nil => exact ⟨rfl, rfl, rfl⟩
      | cons j' r' =>
        have hb := h.tail j' (by simp)
        have hf := h.fresh j' (by simp) hb
        exact ⟨hb, hf.1, hf.2⟩
    rw [h1.1, h1.2.1, h1.2.2, hcame]
    congr 1
    by_cases h0 : t.done = 0
    · rw [if_pos h0, if_pos (.inl h0)]
    · rw [if_neg h0]
      by_cases h2 : now + 1 - ((taskAt s i).offset + t.done * (taskAt s i).period) < t.least
      · rw [if_pos (.inr h2)]; omega
      · rw [if_neg (by omega)]; omega
  · rw [if_neg hd, if_neg hd, if_neg hd]
    rfl
theorem traceFor_snoc (s : Set_) : ∀ (n : Nat) (c : Course), traceFor s (n + 1) c = traceFor s n c ++ [(cycleOf s (courseFor s n c)).2]
  | 0, _ => rfl
  | n + 1, c => by
    show (cycleOf s c).2 :: traceFor s (n + 1) (cycleOf s c).1 = (cycleOf s c).2 :: (traceFor s n (cycleOf s c).1 ++ [(cycleOf s (courseFor s n (cycleOf s c).1)).2])
    rw [traceFor_snoc s n]
theorem traceFor_len (s : Set_) : ∀ (n : Nat) (c : Course), (traceFor s n c).length = n
  | 0, _ => rfl
  | n + 1, c => by
    show (traceFor s n (cycleOf s c).1).length + 1 = n + 1
    rw [traceFor_len s n]
theorem traceFor_add (s : Set_) : ∀ (a n : Nat) (c : Course), traceFor s (a + n) c = traceFor s a c ++ traceFor s n (courseFor s a c)
  | 0, n, c => by rw [Nat.zero_add]; rfl
  | a + 1, n, c => by
    rw [show a + 1 + n = (a + n) + 1 by omega]
    show (cycleOf s c).2 :: traceFor s (a + n) (cycleOf s c).1 = (cycleOf s c).2 :: (traceFor s a (cycleOf s c).1 ++ traceFor s n (courseFor s a (cycleOf s c).1))
    rw [traceFor_add s a n]
theorem cycle_none {s : Set_} {c : Course} (e : chosen s (arrived s c) = none) : cycleOf s c = ({ arrived s c with now := (arrived s c).now + 1, idle := (arrived s c).idle + 1 }, none) := by
  unfold cycleOf
  simp only [e]
theorem cycle_some {s : Set_} {c : Course} {i : Nat} (e : chosen s (arrived s c) = some i) : cycleOf s c = (ranOn s (arrived s c) i, some i) := by
  unfold cycleOf
  simp only [e]
theorem cycle_idle (s : Set_) (c : Course) : (cycleOf s c).1.idle = c.idle + if optRow (cycleOf s c).2 = 0 then 1 else 0 := by
  cases e : chosen s (arrived s c) with
  | none => rw [cycle_none e]; rfl
  | some i =>
    rw [cycle_some e]
    show (ranOn s (arrived s c) i).idle = _
    rw [ranOn_idle]
    rfl
theorem idle_count (s : Set_) : ∀ n, (courseFor s n (startCourse s)).idle = ((traceFor s n (startCourse s)).map optRow).countP fun x => x == 0
  | 0 => rfl
  | n + 1 => by
    rw [courseFor_snoc, cycle_idle, idle_count s n, traceFor_snoc, List.map_append, List.countP_append]
    congr 1
    show _ = List.countP _ [optRow (cycleOf s (courseFor s n (startCourse s))).2]
    rw [List.countP_singleton]
    by_cases h : optRow (cycleOf s (courseFor s n (startCourse s))).2 = 0
    · rw [if_pos h, if_pos (by simpa using h)]
    · rw [if_neg h, if_neg (by simpa using h)]
end My
set_option maxHeartbeats 2000000
namespace My
open PySem PySem.Spec PyProof.Rows L2
open Vawctg (Task Set_ toInts toNats taskRow reading State Call isTask taskAt goodTask optRow)
section
variable {P : Program} {w : World} {K : PySem.W.Frag} {mg : Str → Option Value} {base : Heap}
def playF (j o c : V) : List (Str × V) := [("jobs", j), ("order", o), ("line_cost", c)]
structure PS_ where
  a : Addr
  dx : Addr
  jl : Addr
  lo : Addr
  js : Nat → Addr
  dxs : Nat → Addr
  tp : Nat → Addr
structure Stat (T : Top_ K mg) (B : Hp) (S : PS_) (st : State) : Prop where
  ins : B S.a = some (.ins T.c_Play S.dx (playF (.ref S.jl) (.ref S.lo) (.int st.reload)))
  lst : B S.jl = some (.lst (((List.range st.tasks.length).map S.js).map V.ref))
  ord : B S.lo = some (.lst (vInts st.order))
  tsk : ∀ i, i < st.tasks.length → TkAt T B (S.tp i) (taskAt st i)
  inj : ∀ i k, i < st.tasks.length → k < st.tasks.length → S.js i = S.js k → i = k
theorem Stat.mono {T : Top_ K mg} {B B' : Hp} {S : PS_} {st : State} (h : Stat T B S st) (s : Same B B') : Stat T B' S st := ⟨s _ _ h.ins, s _ _ h.lst, s _ _ h.ord, fun i hi => (h.tsk i hi).same s, h.inj⟩
structure RowAt (T : Top_ K mg) (B H : Hp) (S : PS_) (d : Addr) (i : Nat) (r : JS) : Prop where
  fx : B (S.js i) = none
  fd : B d = none
  ins : H (S.js i) = some (.ins T.c_Jobs (S.dxs i) (jobF (.ref (S.tp i)) r (.ref d)))
  dct : ∃ kvs, H d = some (.dK kvs) ∧ Keys kvs r.lost
structure DynIn (T : Top_ K mg) (B H : Hp) (S : PS_) (st : State) (dd : Nat → Addr) (r : Nat → JS) : Prop where
  same : Same B H
  inj : ∀ i k, i < st.tasks.length → k < st.tasks.length → dd i = dd k → i = k
  row : ∀ i, i < st.tasks.length → RowAt T B H S (dd i) i (r i)
def Dyn (T : Top_ K mg) (B H : Hp) (S : PS_) (st : State) (r : Nat → JS) : Prop := ∃ dd, DynIn T B H S st dd r
theorem DynIn.job {T : Top_ K mg} {B H : Hp} {S : PS_} {st : State} {dd : Nat → Addr} {r : Nat → JS} (h : DynIn T B H S st dd r) (hs : Stat T B S st) {i : Nat} (hi : i < st.tasks.length) : JobIn T H (S.js i) (S.dxs i) (dd i) (S.tp i) (taskAt st i) (r i) :=
  ⟨(h.row i hi).ins, (h.row i hi).dct, (hs.tsk i hi).same h.same⟩
theorem Dyn.congr {T : Top_ K mg} {B H : Hp} {S : PS_} {st : State} {r r' : Nat → JS} (h : Dyn T B H S st r) (e : ∀ i, i < st.tasks.length → ∃ l, (∀ n, n ∈ l ↔ n ∈ (r i).lost) ∧ r' i = { r i with lost := l }) : Dyn T B H S st r' := by
  obtain ⟨dd, h⟩ := h
  refine ⟨dd, h.same, h.inj, fun i hi => ?_⟩
  obtain ⟨l, hl, er⟩ := e i hi
  obtain ⟨f1, f2, f3, kvs, f4, f5⟩ := h.row i hi
  rw [er]
  exact ⟨f1, f2, f3, kvs, f4, f5.congr fun n => (hl n).symm⟩
theorem Dyn.eq {T : Top_ K mg} {B H : Hp} {S : PS_} {st : State} {r r' : Nat → JS} (h : Dyn T B H S st r) (e : ∀ i, i < st.tasks.length → r' i = r i) : Dyn T B H S st r' :=
  h.congr fun i hi => ⟨(r i).lost, fun _ => Iff.rfl, e i hi⟩
theorem DynIn.put {T : Top_ K mg} {B H H' : Hp} {S : PS_} {st : State} {dd : Nat → Addr} {r : Nat → JS} (h : DynIn T B H S st dd r) (hs : Stat T B S st) {k : Nat} (hk : k < st.tasks.length) {d' : Addr} {r' : JS} {kvs : List (Key × V)}
    (g1 : H' (S.js k) = some (.ins T.c_Jobs (S.dxs k) (jobF (.ref (S.tp k)) r' (.ref d')))) (g2 : H' d' = some (.dK kvs)) (g3 : Keys kvs r'.lost) (g4 : d' = dd k ∨ H d' = none)
    (go : ∀ b o, H b = some o → b ≠ S.js k → b ≠ dd k → H' b = some o) : DynIn T B H' S st (fun i => if i = k then d' else dd i) (fun i => if i = k then r' else r i) := by
  have hR := h.row k hk
  have nB : B d' = none := by
    rcases g4 with g4 | g4
    · rw [g4]; exact hR.fd
    · exact h.same.free g4
  refine ⟨fun b o e => go b o (h.same _ _ e) (fun z => by rw [z, hR.fx] at e; cases e) (fun z => by rw [z, hR.fd] at e; cases e), fun i m hi hm e => ?_, fun i hi => ?_⟩
  · by_cases h1 : i = k <;> by_cases h2 : m = k
    · rw [h1, h2]
    · rw [if_pos h1, if_neg h2] at e
      rcases g4 with g4 | g4
      · have := h.inj _ _ hk hm (g4 ▸ e)
        exact absurd this.symm h2
      · obtain ⟨kv, q, _⟩ := (h.row m hm).dct
        rw [← e, g4] at q; cases q
    · rw [if_neg h1, if_pos h2] at e
      rcases g4 with g4 | g4
      · have := h.inj _ _ hi hk (g4 ▸ e)
        exact absurd this h1
      · obtain ⟨kv, q, _⟩ := (h.row i hi).dct
        rw [e, g4] at q; cases q
    · rw [if_neg h1, if_neg h2] at e
      exact h.inj _ _ hi hm e
  · by_cases h1 : i = k
    · subst h1
      simp only [if_true]
      exact ⟨hR.fx, nB, g1, kvs, g2, g3⟩
    · simp only [h1, if_false]
      have hi' := h.row i hi
      obtain ⟨kv, q1, q2⟩ := hi'.dct
      obtain ⟨kv', q3, _⟩ := hR.dct
      refine ⟨hi'.fx, hi'.fd, go _ _ hi'.ins (fun z => h1 (hs.inj _ _ hi hk z)) (fun z => ?_), kv, go _ _ q1 (fun z => ?_) fun z => h1 (h.inj _ _ hi hk z), q2⟩
      · have := hi'.ins
        rw [z, q3] at this; cases this
      · have := hR.ins
        rw [← z, q1] at this; cases this
theorem Dyn.beside {T : Top_ K mg} {B H : Hp} {S : PS_} {st : State} {r : Nat → JS} (h : Dyn T B H S st r) {p : Addr} {xs : List V} (hb : B p = none) (hp : H p = some (.lst xs)) : Dyn T (upd B p (.lst xs)) H S st r := by
  obtain ⟨dd, h⟩ := h
  refine ⟨dd, fun b o e => ?_, h.inj, fun i hi => ?_⟩
  · by_cases hbp : b = p
    · rw [hbp, upd_same] at e; rw [hbp, hp]; exact e
    · rw [upd_ne hbp] at e; exact h.same _ _ e
  · obtain ⟨f1, f2, f3, kvs, f4, f5⟩ := h.row i hi
    refine ⟨?_, ?_, f3, kvs, f4, f5⟩
    · rw [upd_ne (fun z => by rw [z, hp] at f3; cases f3)]; exact f1
    · rw [upd_ne (fun z => by rw [z, hp] at f4; cases f4)]; exact f2
theorem Dyn.back {T : Top_ K mg} {B H : Hp} {S : PS_} {st : State} {r : Nat → JS} {p : Addr} {o : HO} (h : Dyn T (upd B p o) H S st r) (hb : B p = none) : Dyn T B H S st r ∧ H p = some o := by
  obtain ⟨dd, h⟩ := h
  have key : ∀ b, upd B p o b = none → B b = none := fun b e => by
    by_cases hbp : b = p
    · rw [hbp]; exact hb
    · rw [upd_ne hbp] at e; exact e
  refine ⟨⟨dd, (Same.new hb).trans h.same, h.inj, fun i hi => ?_⟩, h.same _ _ upd_same⟩
  obtain ⟨f1, f2, f3, kvs, f4, f5⟩ := h.row i hi
  exact ⟨key _ f1, key _ f2, f3, kvs, f4, f5⟩
theorem Dyn.same {T : Top_ K mg} {B H H' : Hp} {S : PS_} {st : State} {r : Nat → JS} (h : Dyn T B H S st r) (s : Same H H') : Dyn T B H' S st r := by
  obtain ⟨dd, h⟩ := h
  refine ⟨dd, h.same.trans s, h.inj, fun i hi => ?_⟩
  obtain ⟨f1, f2, f3, kvs, f4, f5⟩ := h.row i hi
  exact ⟨f1, f2, s _ _ f3, kvs, s _ _ f4, f5⟩
theorem js_at {S : PS_} {n i : Nat} {v : V} (h : (((List.range n).map S.js).map V.ref)[i]? = some v) : i < n ∧ v = V.ref (S.js i) := by
  obtain ⟨p, hp, rfl⟩ := ref_at h
  rw [List.getElem?_map] at hp
  have hi : i < n := by
    have := (List.getElem?_eq_some_iff.mp (show ((List.range n).map S.js)[i]? = some p by rw [List.getElem?_map]; exact hp)).1
    simpa using this
  rw [List.getElem?_range hi] at hp
  exact ⟨hi, by rw [← Option.some.inj hp]⟩
theorem at_js {S : PS_} {n i : Nat} (h : i < n) : (((List.range n).map S.js).map V.ref)[i]? = some (V.ref (S.js i)) := by
  rw [List.getElem?_map, List.getElem?_map, List.getElem?_range h]
  rfl
def reachJS (t : Task) (now : Nat) (r : JS) : JS := cameJS t now (dueJS t now r)
theorem reachJS_lost (t : Task) (now : Nat) (r : JS) : (reachJS t now r).lost = r.lost := by
  have h1 : ∀ r : JS, (cameJS t now r).lost = r.lost := fun r => by unfold cameJS; split <;> rfl
  have h2 : (dueJS t now r).lost = r.lost := by unfold dueJS; split <;> rfl
  unfold reachJS
  rw [h1, h2]
def sp_Play_reach (T : Top_ K mg) : Sp := fun vs H Q _ => ∃ (S : PS_) (B : Hp) (st : State) (r : Nat → JS) (now : Nat), vs = [.ref S.a, .int now] ∧ Stat T B S st ∧ Dyn T B H S st r ∧ WF st ∧
  ∀ H', Dyn T B H' S st (fun i => reachJS (taskAt st i) now (r i)) → Q .non H'
theorem ok_Play_reach (T : Top_ K mg) : FnOk P w K mg base CX0 3 T.a_Play_reach T.d_Play_reach ["self", "now"] (sp_Play_reach T) := by
  refine T.F_Play_reach.ok sc_Play_reach (fun vs H Q E h => ?_) (fun cdv A outer s H vs Q E hr h => ?_)
  · obtain ⟨S, B, st, r, now, rfl, _⟩ := h
    rfl
  · obtain ⟨S, B, st, r, now, rfl, hs, ⟨dd, h⟩, wf, k⟩ := h
    refine ⟨_, (pss_one (ps_for PassesOwn.never rfl (pi_list (pe_fld (pv 0) rfl)) (pg_name (i := 2) sc_Play_reach.nd rfl (.inl rfl))
      (pss_one (ps_expr (pe_meth (pv 2) T.cl_Jobs T.M_Jobs_reach (ok_Jobs_reach T) (hr.mono (by decide)) T.b_Jobs_reach .nil pass0 (pa_cons (pv 1) pa_nil)))))), ?_⟩
    refine ⟨_, rfl, S.a, _, S.dx, _, _, rfl, h.same _ _ hs.ins, T.cl_Play, T.n_Play_jobs, rfl, S.jl, rfl, ⟨_, SqL.of (h.same _ _ hs.lst)⟩, for_list (K := K) (a := S.jl) (xs := ((List.range st.tasks.length).map S.js).map V.ref) (fun m σ H' => ∃ (v2 : Option V), σ = [some (.ref S.a), some (.int now), v2] ∧ Dyn T B H' S st (fun i => if i < m then reachJS (taskAt st i) now (r i) else r i))
      ⟨none, rfl, dd, h⟩ (fun m σ H' _ ⟨_, _, _, hd⟩ => SqL.of (hd.same _ _ hs.lst)) ?_ ?_⟩
    · rintro m y σ H1 hy ⟨v2, rfl, dd1, hd⟩
      obtain ⟨hm, rfl⟩ := js_at hy
      have hJ := hd.job hs hm
      have hg := goodTask_iff.mp (wf.task hm)
      rw [if_neg (Nat.lt_irrefl m)] at hJ
      refine ⟨_, rfl, S.js m, S.dxs m, _, rfl, hJ.ins, rfl, _, rfl, S.js m, S.dxs m, dd1 m, S.tp m, taskAt st m, r m, now, rfl, hJ, hg.2.2.2.1, fun H2 g2 go2 => ?_⟩
      obtain ⟨kvs, q1, q2⟩ := hJ.dct
      have nd := hJ.nd
      have hp := hd.put hs hm (H' := H2) (r' := reachJS (taskAt st m) now (r m)) g2 (go2 _ _ q1 nd) (by rw [reachJS_lost]; exact q2) (.inl rfl) fun b o e h1 _ => go2 b o e h1
      refine ⟨_, rfl, Dyn.eq ⟨_, hp⟩ fun i hi => ?_⟩
      by_cases h1 : i = m
      · subst h1
        simp only [if_true, Nat.lt_succ_self]
      · simp only [h1, if_false]
        by_cases h2 : i < m
        · rw [if_pos (by omega), if_pos h2]
        · rw [if_neg (by omega), if_neg h2]
    · rintro σ H1 ⟨v2, rfl, hd⟩
      rw [List.length_map, List.length_map, List.length_range] at hd
      exact k H1 (hd.eq fun i hi => by rw [if_pos hi])
def waitsJ (r : Nat → JS) (i : Nat) : Bool := decide ((r i).done < (r i).came)
def optV (o : Option Nat) : V := match o with | none => .non | some i => .int (i : Nat)
theorem find_at {p : Nat → Bool} : ∀ {l : List Nat} {i z : Nat}, (∀ k ∈ l.take i, p k = false) → l[i]? = some z → p z = true → l.find? p = some z
  | [], _, _, _, h, _ => by simp at h
  | a :: r, 0, z, _, h, hp => by
    have : a = z := by simpa using h
    subst this
    rw [List.find?_cons, hp]
  | a :: r, i + 1, z, hf, h, hp => by
    rw [List.find?_cons, hf a (by simp)]
    exact find_at (l := r) (i := i) (fun k hk => hf k (by rw [List.take_succ_cons]; exact List.mem_cons_of_mem _ hk)) (by simpa using h) hp
def sp_Play_highest (T : Top_ K mg) : Sp := fun vs H Q _ => ∃ (S : PS_) (B : Hp) (st : State) (r : Nat → JS), vs = [.ref S.a] ∧ Stat T B S st ∧ Dyn T B H S st r ∧ WF st ∧ Q (optV (st.order.find? (waitsJ r))) H
theorem ok_Play_highest (T : Top_ K mg) : FnOk P w K mg base CX0 2 T.a_Play_highest T.d_Play_highest ["self"] (sp_Play_highest T) := by
  refine T.F_Play_highest.ok sc_Play_highest (fun vs H Q E h => ?_) (fun cdv A outer s H vs Q E hr h => ?_)
  · obtain ⟨S, B, st, r, rfl, _⟩ := h
    rfl
  · obtain ⟨S, B, st, r, rfl, hs, ⟨dd, h⟩, wf, k⟩ := h
    refine ⟨_, (pss_cons (ps_for PassesOwn.never rfl (pi_list (pe_fld (pv 0) rfl)) (pg_name (i := 1) sc_Play_highest.nd rfl (.inl rfl))
      (pss_one (ps_if (pt_val (pe_meth0 (pe_ix ix_list (pe_fld (pv 0) rfl) (pv 1) (fun _ _ => rfl)) T.cl_Jobs T.M_Jobs_waits (ok_Jobs_waits T) (hr.mono (by decide)) T.b_Jobs_waits .nil pass0))
      (pss_one (ps_ret (pv 1)))
      pss_nil)))
      (pss_one (ps_ret pe_non))), ?_⟩
    have hlt : ∀ x ∈ st.order, x < st.tasks.length := fun x hx => by simpa using wf.ord.mem_iff.mp hx
    refine ⟨_, rfl, S.a, _, S.dx, _, _, rfl, h.same _ _ hs.ins, T.cl_Play, T.n_Play_order, rfl, S.lo, rfl, ⟨_, SqL.of (h.same _ _ hs.ord)⟩, for_list (K := K) (a := S.lo) (xs := vInts st.order) (fun m σ H' => H' = H ∧ ∃ (v1 : Option V), σ = [some (.ref S.a), v1] ∧ ∀ z ∈ st.order.take m, waitsJ r z = false)
      ⟨rfl, none, rfl, by simp⟩ (fun m σ H' _ ⟨e, _⟩ => e ▸ SqL.of (h.same _ _ hs.ord)) ?_ ?_⟩
    · rintro m y σ H1 hy ⟨rfl, v1, rfl, hf⟩
      obtain ⟨i, hi, rfl⟩ := vInts_at hy
      have hin := hlt i (List.mem_of_getElem? hi)
      have hJ := h.job hs hin
      refine ⟨_, rfl, S.a, _, S.dx, _, _, rfl, h.same _ _ hs.ins, T.cl_Play, T.n_Play_jobs, rfl, _, rfl, S.jl, _, _, _, rfl, rfl, SqL.of (h.same _ _ hs.lst), atI_nat (at_js hin), S.js i, S.dxs i, _, rfl, hJ.ins, rfl, S.js i, S.dxs i, dd i, S.tp i, taskAt st i, r i, rfl, hJ, waitsJ r i, rfl, ite_b (fun hb => ?_) fun hb => ?_⟩
      · rw [find_at hf hi hb] at k
        exact ⟨_, rfl, k⟩
      · refine ⟨rfl, _, rfl, fun z hz => ?_⟩
        rw [take_snoc hi, List.mem_append] at hz
        rcases hz with hz | hz
        · exact hf z hz
        · have : z = i := by simpa using hz
          subst this; exact hb
    · rintro σ H1 ⟨rfl, v1, rfl, hf⟩
      rw [vInts_len, List.take_length] at hf
      have : st.order.find? (waitsJ r) = none := by
        rw [List.find?_eq_none]
        intro x hx
        rw [hf x hx]; simp
      rw [this] at k
      exact k
def loseJS (t : Task) (r : JS) : JS := { r with lost := if r.begun = true then r.lost ++ t.used else r.lost }
def sp_Play_run (T : Top_ K mg) : Sp := fun vs H Q _ => ∃ (S : PS_) (B : Hp) (st : State) (r : Nat → JS) (now : Nat), vs = [.ref S.a, .int now] ∧ Stat T B S st ∧ Dyn T B H S st r ∧ WF st ∧
  (∀ i, st.order.find? (waitsJ r) = some i → 1 ≤ (r i).left ∧ (taskAt st i).offset + (r i).done * (taskAt st i).period ≤ now + 1) ∧
  (st.order.find? (waitsJ r) = none → Q (.int 0) H) ∧
  ∀ i, st.order.find? (waitsJ r) = some i → ∀ H', Dyn T B H' S st (fun k => if k = i then runJS (taskAt st i) now st.reload (r i) else loseJS (taskAt st i) (r k)) → Q (.int (i + 1 : Nat)) H'
theorem ok_Play_run (T : Top_ K mg) : FnOk P w K mg base CX0 4 T.a_Play_run T.d_Play_run ["self", "now"] (sp_Play_run T) := by
  refine T.F_Play_run.ok sc_Play_run (fun vs H Q E h => ?_) (fun cdv A outer s H vs Q E hr h => ?_)
  · obtain ⟨S, B, st, r, now, rfl, _⟩ := h
    rfl
  · obtain ⟨S, B, st, r, now, rfl, hs, hD, wf, hpre, k0, k1⟩ := h
    refine ⟨_, (pss_cons (ps_set (i := 2) sc_Play_run.nd rfl (.inl rfl) (pe_meth0 (pv 0) T.cl_Play T.M_Play_highest (ok_Play_highest T) (hr.mono (by decide)) T.b_Play_highest .nil pass0))
      (pss_cons (ps_if (pt_cmpR op_isN (pv 2) pe_non (nomark _))
      (pss_one (ps_ret pe_int))
      pss_nil)
      (pss_cons (ps_set (i := 3) sc_Play_run.nd rfl (.inl rfl) (pe_ix ix_list (pe_fld (pv 0) rfl) (pv 2) (fun _ _ => rfl)))
      (pss_cons (ps_for PassesOwn.never rfl (pi_enum rfl T.x_enumerate (pa_cons (pe_fld (pv 0) rfl) pa_nil)) (pg_tup rfl (pgs_cons (pg_name (i := 4) sc_Play_run.nd rfl (.inl rfl)) (pgs_cons (pg_name (i := 5) sc_Play_run.nd rfl (.inl rfl)) pgs_nil)))
      (pss_one (ps_if (pt_cmpR op_ne (pv 4) (pv 2) (nomark _))
      (pss_one (ps_expr (pe_meth (pv 5) T.cl_Jobs T.M_Jobs_lose (ok_Jobs_lose T) (hr.mono (by decide)) T.b_Jobs_lose .nil pass0 (pa_cons (pe_fld (pe_fld (pv 3) rfl) rfl) pa_nil))))
      pss_nil)))
      (pss_cons (ps_expr (pe_meth (pv 3) T.cl_Jobs T.M_Jobs_run (ok_Jobs_run T) (hr.mono (by decide)) T.b_Jobs_run .nil pass0 (pa_cons (pv 1) (pa_cons (pe_fld (pv 0) rfl) pa_nil))))
      (pss_one (ps_ret (pe_op op_add (pv 2) pe_int)))))))), ?_⟩
    have hD' := hD
    obtain ⟨dd, h⟩ := hD'
    have hlt : ∀ x ∈ st.order, x < st.tasks.length := fun x hx => by simpa using wf.ord.mem_iff.mp hx
    refine ⟨_, rfl, S.a, S.dx, _, rfl, h.same _ _ hs.ins, rfl, S, B, st, r, rfl, hs, hD, wf, ?_⟩
    cases e : st.order.find? (waitsJ r) with
    | none => exact ⟨_, rfl, rfl, _, rfl, iteT (k0 e)⟩
    | some i =>
      obtain ⟨p1, p2⟩ := hpre i e
      have hi : i < st.tasks.length := hlt i (List.mem_of_find?_eq_some e)
      have hg := goodTask_iff.mp (wf.task hi)
      have hul := good_len (wf.task hi)
      refine ⟨_, rfl, rfl, _, rfl, iteF ?_⟩
      refine ⟨_, rfl, S.a, _, S.dx, _, _, rfl, h.same _ _ hs.ins, T.cl_Play, T.n_Play_jobs, rfl, _, rfl, S.jl, _, _, _, rfl, rfl, SqL.of (h.same _ _ hs.lst), atI_nat (at_js hi), ?_⟩
      obtain ⟨_, dxt, u, v, _, _, t1, t2, t3⟩ := hs.tsk i hi
      refine ⟨_, rfl, S.a, _, S.dx, _, _, rfl, h.same _ _ hs.ins, T.cl_Play, T.n_Play_jobs, rfl, S.jl, _, rfl, SqL.of (h.same _ _ hs.lst), for_enum (K := K) (a := S.jl) (xs := ((List.range st.tasks.length).map S.js).map V.ref)
        (fun m σ H' => ∃ (v4 v5 : Option V), σ = [some (.ref S.a), some (.int now), some (.int (i : Nat)), some (.ref (S.js i)), v4, v5] ∧ Dyn T B H' S st (fun k => if k < m ∧ k ≠ i then loseJS (taskAt st i) (r k) else r k))
        ⟨none, none, rfl, hD.eq fun k hk => by rw [if_neg (by omega)]⟩ (fun m σ H' _ ⟨_, _, _, _, hd⟩ => SqL.of (hd.same _ _ hs.lst)) ?_ ?_⟩
      · rintro m y σ H1 tt hy ⟨v4, v5, rfl, hd⟩ htt
        obtain ⟨hm, rfl⟩ := js_at hy
        have hd2 := hd.same (Same.new (o := .tup [.int (m : Nat), V.ref (S.js m)]) htt)
        have hq : SqT K (upd H1 tt (.tup [.int (m : Nat), V.ref (S.js m)])) tt [.int (m : Nat), V.ref (S.js m)] := SqT.of upd_same
        generalize upd H1 tt (.tup [.int (m : Nat), V.ref (S.js m)]) = H2 at hd2 hq ⊢
        refine ⟨tt, _, rfl, hq, rfl, _, _, rfl, _, _, rfl, rfl, _, rfl, _, rfl, rfl, _, rfl, ite_ndV (fun he => ?_) fun he => ?_⟩
        · have he' : m = i := by omega
          refine ⟨_, _, rfl, hd2.eq fun k hk => ?_⟩
          by_cases h1 : k < m ∧ k ≠ i
          · rw [if_pos h1, if_pos (by omega)]
          · rw [if_neg h1, if_neg (by omega)]
        · have he' : m ≠ i := fun z => he (by rw [z])
          obtain ⟨dd2, hd3⟩ := hd2
          have hJ := hd3.job hs hm
          have hJi := hd3.job hs hi
          rw [if_neg (by omega)] at hJ
          rw [if_neg (by omega)] at hJi
          refine ⟨_, rfl, S.js m, S.dxs m, _, rfl, hJ.ins, rfl, _, rfl, S.js i, _, S.dxs i, _, _, rfl, hJi.ins, T.cl_Jobs, T.n_Jobs_task, rfl, S.tp i, _, dxt, _, _, rfl, hd3.same _ _ t1, T.cl_Task, T.n_Task_used, rfl,
            S.js m, S.dxs m, dd2 m, S.tp m, v, taskAt st m, r m, (taskAt st i).used, rfl, hJ, hd3.same _ _ t3, hg.2.2.2.2.2.2.2.2, fun H3 kvs g3 hk3 go3 => ?_⟩
          have hp := hd3.put hs hm (H' := H3) (r' := loseJS (taskAt st i) (r m)) (d' := dd2 m) (go3 _ _ hJ.ins (Ne.symm hJ.nd)) g3 hk3 (.inl rfl) fun b o e _ h2 => go3 b o e h2
          refine ⟨_, _, rfl, Dyn.eq ⟨_, hp⟩ fun k hk => ?_⟩
          by_cases h1 : k = m
          · subst h1
            simp only [if_true]
            rw [if_pos ⟨by omega, he'⟩]
          · simp only [h1, if_false]
            by_cases h2 : k < m ∧ k ≠ i
            · rw [if_pos h2, if_pos (by omega)]
            · rw [if_neg h2, if_neg (by omega)]
      · rintro σ H1 ⟨v4, v5, rfl, hd⟩
        rw [List.length_map, List.length_map, List.length_range] at hd
        obtain ⟨dd1, hd1⟩ := hd
        have hJ := hd1.job hs hi
        rw [if_neg (by omega)] at hJ
        have hrel := wf.rel
        refine ⟨_, rfl, S.js i, S.dxs i, _, rfl, hJ.ins, rfl, _, rfl, _, rfl, S.a, _, S.dx, _, _, rfl, hd1.same _ _ hs.ins, T.cl_Play, T.n_Play_line_cost, rfl,
          S.js i, S.dxs i, dd1 i, S.tp i, taskAt st i, r i, now, st.reload, rfl, hJ, hg.2.2.2.1, hul.1, hrel, p1, p2, fun H2 d' g1 g2 g3 go => ?_⟩
        have hp := hd1.put hs hi (H' := H2) (r' := runJS (taskAt st i) now st.reload (r i)) (d' := d') g1 g2 (by
          have : (runJS (taskAt st i) now st.reload (r i)).lost = [] := by unfold runJS; split <;> rfl
          rw [this]; exact Keys.nil) (.inr g3) fun b o e h1 _ => go b o e h1
        refine ⟨_, rfl, _, _, rfl, rfl, ?_⟩
        refine icast (Q := Q) (by rw [Int.natCast_add]; rfl) (k1 i e H2 (Dyn.eq ⟨_, hp⟩ fun k hk => ?_))
        by_cases h1 : k = i
        · simp only [h1, if_true]
        · simp only [h1, if_false]
          rw [if_pos ⟨hk, h1⟩]
open Vawctg (Task Set_ Course Tally toInts toNats taskRow reading State Call isTask taskAt goodTask optRow jobsAt tallyAt arrived chosen cycleOf courseFor traceFor startCourse firstLate tallyRow numbers ranOn)
def rowsOf (st : State) (c : Course) (due : Nat → Nat) (i : Nat) : JS := rowOf (taskAt st i).cycles (due i) (jobsAt c i) (tallyAt c i)
def CourseAt (T : Top_ K mg) (B H : Hp) (S : PS_) (st : State) (c : Course) : Prop := CInv st c ∧ ∃ due : Nat → Nat, (∀ i, i < st.tasks.length → DueOk (taskAt st i) c.now (due i)) ∧ Dyn T B H S st (rowsOf st c due)
def Reached (T : Top_ K mg) (B H : Hp) (S : PS_) (st : State) (c : Course) (due : Nat → Nat) : Prop := CInv st c ∧ (∀ i, i < st.tasks.length → DueOk (taskAt st i) (c.now + 1) (due i)) ∧ Dyn T B H S st (rowsOf st (arrived st c) due)
theorem CInv.arr {s : State} {c : Course} (hw : WF s) (h : CInv s c) : ∀ i, i < s.tasks.length → RowOk s i (c.now + 1) (jobsAt (arrived s c) i) (tallyAt (arrived s c) i) := fun i hi => by
  rw [jobsAt_arrived (by rw [h.jn]; exact hi), tallyAt_arrived (by rw [h.tn]; exact hi)]
  have g := goodTask_iff.mp (hw.task hi)
  exact (h.row i hi).arrived (by omega) g.1 _
theorem CourseAt.reach {T : Top_ K mg} {B H : Hp} {S : PS_} {st : State} {c : Course} (wf : WF st) (h : CourseAt T B H S st c) : ∃ r : Nat → JS, Dyn T B H S st r ∧ ∃ due, ∀ (B' H' : Hp), Dyn T B' H' S st (fun i => reachJS (taskAt st i) c.now (r i)) → Reached T B' H' S st c due := by
  obtain ⟨hI, due, hd, hD⟩ := h
  refine ⟨_, hD, fun i => if (taskAt st i).offset + due i * (taskAt st i).period + (taskAt st i).deadline = c.now then due i + 1 else due i, fun B' H' hD' => ⟨hI, fun i hi => ?_, hD'.eq fun i hi => ?_⟩⟩
  · have g := goodTask_iff.mp (wf.task hi)
    exact (hd i hi).next (by omega)
  · have g := goodTask_iff.mp (wf.task hi)
    unfold rowsOf reachJS
    rw [jobsAt_arrived (by rw [hI.jn]; exact hi), tallyAt_arrived (by rw [hI.tn]; exact hi)]
    exact (reach_row (hI.row i hi) (hd i hi) (by omega) (by omega)).symm
theorem find_congr {α : Type} {p q : α → Bool} : ∀ {l : List α}, (∀ x ∈ l, p x = q x) → l.find? p = l.find? q
  | [], _ => rfl
  | a :: r, h => by
    rw [List.find?_cons, List.find?_cons, h a List.mem_cons_self, find_congr (l := r) fun x hx => h x (List.mem_cons_of_mem _ hx)]
theorem WF.lt {st : State} (wf : WF st) {x : Nat} (hx : x ∈ st.order) : x < st.tasks.length := by simpa using wf.ord.mem_iff.mp hx
theorem Reached.chosen {T : Top_ K mg} {B H : Hp} {S : PS_} {st : State} {c : Course} {due : Nat → Nat} (wf : WF st) (h : Reached T B H S st c due) : st.order.find? (waitsJ (rowsOf st (arrived st c) due)) = Vawctg.chosen st (arrived st c) := by
  unfold Vawctg.chosen
  refine find_congr fun i hi => ?_
  have hr := (h.1.arr wf i (wf.lt hi)).cnt
  show decide ((tallyAt (arrived st c) i).done < (tallyAt (arrived st c) i).came) = _
  cases e : jobsAt (arrived st c) i with
  | nil => rw [e] at hr; simp at hr ⊢; omega
  | cons j r => rw [e] at hr; simp at hr ⊢; omega
theorem Reached.pre {T : Top_ K mg} {B H : Hp} {S : PS_} {st : State} {c : Course} {due : Nat → Nat} (wf : WF st) (h : Reached T B H S st c due) (i : Nat) (e : st.order.find? (waitsJ (rowsOf st (arrived st c) due)) = some i) :
    1 ≤ (rowsOf st (arrived st c) due i).left ∧ (taskAt st i).offset + (rowsOf st (arrived st c) due i).done * (taskAt st i).period ≤ c.now + 1 := by
  rw [h.chosen wf] at e
  obtain ⟨hi, j, r, ej⟩ := chosen_some e
  have hr := h.1.arr wf i (wf.lt hi)
  have hc := hr.cnt
  have hu := (hr.upto (tallyAt (arrived st c) i).done).mp (by rw [ej] at hc; simp at hc; omega)
  refine ⟨?_, ?_⟩
  · show 1 ≤ (hdJ _ (jobsAt (arrived st c) i)).left
    rw [ej]
    exact hr.left j (by rw [ej]; exact List.mem_cons_self)
  · show (taskAt st i).offset + (tallyAt (arrived st c) i).done * (taskAt st i).period ≤ c.now + 1
    omega
theorem Reached.idle {T : Top_ K mg} {B H : Hp} {S : PS_} {st : State} {c : Course} {due : Nat → Nat} (wf : WF st) (h : Reached T B H S st c due) (e : st.order.find? (waitsJ (rowsOf st (arrived st c) due)) = none) : CourseAt T B H S st (cycleOf st c).1 ∧ optRow (cycleOf st c).2 = 0 := by
  rw [h.chosen wf] at e
  obtain ⟨h1, h2⟩ := h.1.cycle wf
  refine ⟨⟨h1, due, by rw [h2]; exact h.2.1, ?_⟩, by rw [cycle_none e]; rfl⟩
  rw [cycle_none e]
  exact h.2.2
theorem Reached.runs {T : Top_ K mg} {B B' H H' : Hp} {S : PS_} {st : State} {c : Course} {due : Nat → Nat} (wf : WF st) (h : Reached T B' H S st c due) {i : Nat} (e : st.order.find? (waitsJ (rowsOf st (arrived st c) due)) = some i)
    (hD : Dyn T B H' S st (fun k => if k = i then runJS (taskAt st i) c.now st.reload (rowsOf st (arrived st c) due i) else loseJS (taskAt st i) (rowsOf st (arrived st c) due k))) : CourseAt T B H' S st (cycleOf st c).1 ∧ optRow (cycleOf st c).2 = i + 1 := by
  rw [h.chosen wf] at e
  obtain ⟨h1, h2⟩ := h.1.cycle wf
  obtain ⟨hi, j, r, ej⟩ := chosen_some e
  have hil := wf.lt hi
  have hI := h.1
  refine ⟨⟨h1, due, by rw [h2]; exact h.2.1, ?_⟩, by rw [cycle_some e]; rfl⟩
  rw [cycle_some e]
  refine hD.congr fun k hk => ?_
  unfold rowsOf
  rw [jobsAt_ranOn ej (by rw [arrived_jobs_len, hI.jn]; exact hk), tallyAt_ranOn ej (by rw [arrived_tallies_len, hI.tn]; exact hil)]
  by_cases hki : k = i
  · subst hki
    simp only [if_true]
    have hr := hI.arr wf k hk
    rw [ej] at hr ⊢
    have hrow := run_row (now := c.now) (due := due k) hr
    exact ⟨_, fun n => Iff.rfl, hrow.symm⟩
  · simp only [hki, if_false]
    obtain ⟨l, hl, er⟩ := lose_row (s := st) (i := i) (k := k) (cyc := (taskAt st k).cycles) (due := due k) (q := jobsAt (arrived st c) k) (t := tallyAt (arrived st c) k)
    exact ⟨l, hl, er⟩
theorem course_now (st : State) (wf : WF st) (n : Nat) : CInv st (courseFor st n (startCourse st)) ∧ (courseFor st n (startCourse st)).now = n := by
  obtain ⟨h1, h2⟩ := CInv.course wf n (CInv.start st wf)
  refine ⟨h1, ?_⟩
  rw [h2]
  show 0 + n = n
  omega
theorem Dyn.setList {T : Top_ K mg} {B H : Hp} {S : PS_} {st : State} {r : Nat → JS} (h : Dyn T B H S st r) {p : Addr} {xs ys : List V} (hb : B p = none) (hp : H p = some (.lst xs)) : Dyn T B (upd H p (.lst ys)) S st r := by
  obtain ⟨dd, h⟩ := h
  refine ⟨dd, fun b o e => ?_, h.inj, fun i hi => ?_⟩
  · rw [upd_ne (ne_of_none e hb)]; exact h.same _ _ e
  · obtain ⟨f1, f2, f3, kvs, f4, f5⟩ := h.row i hi
    refine ⟨f1, f2, ?_, kvs, ?_, f5⟩
    · rw [upd_ne (fun z => by rw [z, hp] at f3; cases f3)]; exact f3
    · rw [upd_ne (fun z => by rw [z, hp] at f4; cases f4)]; exact f4
theorem CourseAt.setList {T : Top_ K mg} {B H : Hp} {S : PS_} {st : State} {c : Course} (h : CourseAt T B H S st c) {p : Addr} {xs ys : List V} (hb : B p = none) (hp : H p = some (.lst xs)) : CourseAt T B (upd H p (.lst ys)) S st c := by
  obtain ⟨h1, due, h2, h3⟩ := h
  exact ⟨h1, due, h2, h3.setList hb hp⟩
theorem CourseAt.same {T : Top_ K mg} {B H H' : Hp} {S : PS_} {st : State} {c : Course} (h : CourseAt T B H S st c) (s : Same H H') : CourseAt T B H' S st c := by
  obtain ⟨h1, due, h2, h3⟩ := h
  exact ⟨h1, due, h2, h3.same s⟩
theorem CourseAt.beside {T : Top_ K mg} {B H : Hp} {S : PS_} {st : State} {c : Course} (h : CourseAt T B H S st c) {p : Addr} {xs : List V} (hb : B p = none) (hp : H p = some (.lst xs)) : CourseAt T (upd B p (.lst xs)) H S st c := by
  obtain ⟨h1, due, h2, h3⟩ := h
  exact ⟨h1, due, h2, h3.beside hb hp⟩
theorem CourseAt.back {T : Top_ K mg} {B H : Hp} {S : PS_} {st : State} {c : Course} {p : Addr} {o : HO} (h : CourseAt T (upd B p o) H S st c) (hb : B p = none) : CourseAt T B H S st c ∧ H p = some o := by
  obtain ⟨h1, due, h2, h3⟩ := h
  exact ⟨⟨h1, due, h2, (h3.back hb).1⟩, (h3.back hb).2⟩
theorem CourseAt.under {T : Top_ K mg} {B H : Hp} {S : PS_} {st : State} {c : Course} (h : CourseAt T B H S st c) : Same B H := by
  obtain ⟨h1, due, h2, dd, h3⟩ := h
  exact h3.same
def told (st : State) (n : Nat) : List Nat := (traceFor st n (startCourse st)).map optRow
theorem told_len (st : State) (n : Nat) : (told st n).length = n := by unfold told; rw [List.length_map, traceFor_len]
theorem told_succ (st : State) (n : Nat) : told st (n + 1) = told st n ++ [optRow (cycleOf st (courseFor st n (startCourse st))).2] := by
  unfold told
  rw [traceFor_snoc, List.map_append]
  rfl
def sp_Play_ran (T : Top_ K mg) : Sp := fun vs H Q _ => ∃ (S : PS_) (B : Hp) (st : State) (e : Nat), vs = [.ref S.a, .int e] ∧ e ≤ 3000 ∧ Stat T B S st ∧ CourseAt T B H S st (startCourse st) ∧ WF st ∧
  ∀ H' p, CourseAt T B H' S st (courseFor st e (startCourse st)) → B p = none → H' p = some (.lst (vInts (told st e))) → Q (.ref p) H'
theorem ok_Play_ran (T : Top_ K mg) : FnOk P w K mg base CX0 5 T.a_Play_ran T.d_Play_ran ["self", "end"] (sp_Play_ran T) := by
  refine T.F_Play_ran.ok sc_Play_ran (fun vs H Q E h => ?_) (fun cdv A outer s H vs Q E hr h => ?_)
  · obtain ⟨S, B, st, e, rfl, _⟩ := h
    rfl
  · obtain ⟨S, B, st, en, rfl, hen, hs, hC, wf, k⟩ := h
    refine ⟨_, (pss_cons (ps_set (i := 2) sc_Play_ran.nd rfl (.inl rfl) (pe_lst pa_nil))
      (pss_cons (ps_for PassesOwn.never rfl (pi_range1 rfl T.x_range (pa_cons (pv 1) pa_nil)) (pg_name (i := 3) sc_Play_ran.nd rfl (.inl rfl))
      (pss_cons (ps_expr (pe_meth (pv 0) T.cl_Play T.M_Play_reach (ok_Play_reach T) (hr.mono (by decide)) T.b_Play_reach .nil pass0 (pa_cons (pv 3) pa_nil)))
      (pss_one (ps_expr (pe_bm PySem.F.plainAttrs_list PySem.F.slot_list_append PySem.F.type_list_append mt_append (pv 2) (pa_cons (pe_meth (pv 0) T.cl_Play T.M_Play_run (ok_Play_run T) (hr.mono (by decide)) T.b_Play_run .nil pass0 (pa_cons (pv 3) pa_nil)) pa_nil))))))
      (pss_one (ps_ret (pv 2))))), ?_⟩
    have hsl := sizeLine_eq
    refine ⟨Nat.zero_le _, fun p hp => ?_⟩
    have hbp : B p = none := hC.under.free hp
    refine ⟨_, rfl, (en : Int), rfl, by omega, by omega, for_range (n := en) (fun m σ H' => ∃ (v3 : Option V), σ = [some (.ref S.a), some (.int en), some (.ref p), v3] ∧ CourseAt T B H' S st (courseFor st m (startCourse st)) ∧ H' p = some (.lst (vInts (told st m))))
      ⟨none, rfl, hC.same (Same.new hp), upd_same⟩ ?_ ?_⟩
    · rintro m σ H1 hm ⟨v3, rfl, hC1, g1⟩
      have e0 : (0 : Int) + (m : Int) = ((m : Nat) : Int) := by omega
      rw [e0]
      obtain ⟨hcI, hcn⟩ := course_now st wf m
      have hC2 := hC1.beside hbp g1
      have hs2 : Stat T (upd B p (.lst (vInts (told st m)))) S st := hs.mono (Same.new hbp)
      obtain ⟨r, hD, due, hre⟩ := hC2.reach wf
      rw [hcn] at hre
      have u1 := hC2.under
      refine ⟨_, rfl, S.a, S.dx, _, rfl, u1 _ _ hs2.ins, rfl, _, rfl, S, _, st, r, m, rfl, hs2, hD, wf, fun H2 hD2 => ?_⟩
      have hR := hre _ H2 hD2
      have g2 : H2 p = some (.lst (vInts (told st m))) := (hR.2.2.back hbp).2
      obtain ⟨dd2, hdd2⟩ := hR.2.2
      have hll := vInts_len (told st m)
      have htl := told_len st m
      have fin : ∀ (H3 : Hp) (z : Nat), CourseAt T (upd B p (.lst (vInts (told st m)))) H3 S st (cycleOf st (courseFor st m (startCourse st))).1 → optRow (cycleOf st (courseFor st m (startCourse st))).2 = z →
          H3 p = some (.lst (vInts (told st m))) ∧ CourseAt T B (upd H3 p (.lst (vInts (told st m) ++ [V.int (z : Nat)]))) S st (courseFor st (m + 1) (startCourse st)) ∧ upd H3 p (.lst (vInts (told st m) ++ [V.int (z : Nat)])) p = some (.lst (vInts (told st (m + 1)))) := fun H3 z h3 hz => by
        obtain ⟨h4, h5⟩ := h3.back hbp
        refine ⟨h5, ?_, ?_⟩
        · rw [courseFor_snoc]; exact h4.setList hbp h5
        · rw [upd_same, told_succ, hz, vInts_append]; rfl
      refine ⟨_, rfl, .inl ⟨rfl, _, SqL.of g2⟩, _, rfl, S.a, S.dx, _, rfl, hdd2.same _ _ hs2.ins, rfl, _, rfl, S, _, st, _, m, rfl, hs2, hR.2.2, wf, ?_, fun ec => ?_, fun i ec H3 hD3 => ?_⟩
      · intro i ei
        have := hR.pre wf i ei
        rw [hcn] at this
        exact this
      · obtain ⟨q1, q2⟩ := hR.idle wf ec
        obtain ⟨f1, f2, f3⟩ := fin H2 0 q1 q2
        exact ⟨p, _, _, rfl, rfl, f1, (by omega), _, rfl, f2, f3⟩
      · have hru := hR.runs wf ec (H' := H3) (B := upd B p (.lst (vInts (told st m)))) (by rw [hcn]; exact hD3)
        obtain ⟨f1, f2, f3⟩ := fin H3 (i + 1) hru.1 hru.2
        exact ⟨p, _, _, rfl, rfl, f1, (by omega), _, rfl, f2, f3⟩
    · rintro σ H1 ⟨v3, rfl, hC1, g1⟩
      exact ⟨_, rfl, k H1 p hC1 hbp g1⟩
theorem count_ints (l : List Nat) : ((vInts l).countP fun z => eqV z (V.int 0)) = l.countP fun x => x == 0 := by
  induction l with
  | nil => rfl
  | cons a r ih =>
    have e : vInts (a :: r) = V.int (a : Nat) :: vInts r := rfl
    rw [e, List.countP_cons, List.countP_cons, ih]
    congr 1
    show (if ((a : Int) == 0) = true then 1 else 0) = _
    by_cases h : a = 0
    · subst h; rfl
    · rw [if_neg (by simpa using h), if_neg (by simpa using h)]
theorem tallies_eq {s : Set_} {c : Course} (h : CInv s c) : c.tallies = (List.range s.tasks.length).map (tallyAt c) := by
  refine List.ext_getElem? fun i => ?_
  by_cases hi : i < s.tasks.length
  · rw [List.getElem?_map, List.getElem?_range hi, List.getElem?_eq_getElem (by rw [h.tn]; exact hi)]
    show _ = some (tallyAt c i)
    unfold tallyAt
    rw [List.getD_eq_getElem?_getD, List.getElem?_eq_getElem (by rw [h.tn]; exact hi)]
    rfl
  · rw [List.getElem?_eq_none (by rw [h.tn]; omega), List.getElem?_eq_none (by simp; omega)]
def countsOf (c : Course) (n : Nat) : List Nat := c.idle :: (List.range n).flatMap fun i => tallyRow (tallyAt c i)
theorem countsOf_len (c : Course) (n : Nat) : (countsOf c n).length = 1 + 6 * n := by
  unfold countsOf
  rw [List.length_cons, List.length_flatMap]
  have e : (List.map (fun i => (tallyRow (tallyAt c i)).length) (List.range n)) = List.replicate n 6 := by
    rw [List.eq_replicate_iff]
    refine ⟨by simp, fun b hb => ?_⟩
    obtain ⟨x, _, rfl⟩ := List.mem_map.mp hb
    rfl
  rw [e, List.sum_replicate_nat]
  omega
theorem countsOf_succ (c : Course) (n : Nat) : countsOf c (n + 1) = countsOf c n ++ tallyRow (tallyAt c n) := by
  unfold countsOf
  rw [List.range_succ, List.flatMap_append]
  simp
def sp_Play_counted (T : Top_ K mg) : Sp := fun vs H Q _ => ∃ (S : PS_) (B : Hp) (st : State) (e : Nat), vs = [.ref S.a, .int e] ∧ e ≤ 3000 ∧ Stat T B S st ∧ CourseAt T B H S st (startCourse st) ∧ WF st ∧
  ∀ H' p, Same B H' → B p = none → H' p = some (.lst (vInts (countsOf (courseFor st e (startCourse st)) st.tasks.length))) → Q (.ref p) H'
theorem ok_Play_counted (T : Top_ K mg) : FnOk P w K mg base CX0 6 T.a_Play_counted T.d_Play_counted ["self", "end"] (sp_Play_counted T) := by
  refine T.F_Play_counted.ok sc_Play_counted (fun vs H Q E h => ?_) (fun cdv A outer s H vs Q E hr h => ?_)
  · obtain ⟨S, B, st, e, rfl, _⟩ := h
    rfl
  · obtain ⟨S, B, st, en, rfl, hen, hs, hC, wf, k⟩ := h
    refine ⟨_, (pss_cons (ps_set (i := 2) sc_Play_counted.nd rfl (.inl rfl) (pe_lst (pa_cons (pe_bm PySem.F.plainAttrs_list PySem.F.slot_list_count PySem.F.type_list_count mt_lcount (pe_meth (pv 0) T.cl_Play T.M_Play_ran (ok_Play_ran T) (hr.mono (by decide)) T.b_Play_ran .nil pass0 (pa_cons (pv 1) pa_nil)) (pa_cons pe_int pa_nil)) pa_nil)))
      (pss_cons (ps_for PassesOwn.never rfl (pi_list (pe_fld (pv 0) rfl)) (pg_name (i := 3) sc_Play_counted.nd rfl (.inl rfl))
      (pss_one (ps_expr (pe_bm PySem.F.plainAttrs_list PySem.F.slot_list_extend PySem.F.type_list_extend mt_extend (pv 2) (pa_cons (pe_meth0 (pv 3) T.cl_Jobs T.M_Jobs_counted (ok_Jobs_counted T) (hr.mono (by decide)) T.b_Jobs_counted .nil pass0) pa_nil)))))
      (pss_one (ps_ret (pv 2))))), ?_⟩
    have hsl := sizeLine_eq
    have h6 := wf.n6
    have u0 := hC.under
    refine ⟨_, rfl, S.a, S.dx, _, rfl, u0 _ _ hs.ins, rfl, _, rfl, S, B, st, en, rfl, hen, hs, hC, wf, fun H1 q hC1 nq gq => ?_⟩
    refine ⟨.inl ⟨rfl, _, SqL.of gq⟩, q, _, _, rfl, rfl, SqL.of gq, rfl, flat_ints _, (by show 1 ≤ sizeLine; decide), fun p hp => ?_⟩
    have hbp : B p = none := hC1.under.free hp
    have ei : (((vInts (told st en)).countP fun z => eqV z (V.int 0) : Nat) : Int) = ((courseFor st en (startCourse st)).idle : Nat) := by
      rw [count_ints, idle_count]
      rfl
    dsimp only
    rw [ei]
    generalize hc : courseFor st en (startCourse st) = c at hC1 k
    obtain ⟨hI, due, hdue, hD⟩ := hC1
    have hD1 := hD.same (Same.new (o := .lst [V.int (c.idle : Nat)]) hp)
    have g1 : upd H1 p (.lst [V.int (c.idle : Nat)]) p = some (.lst (vInts (countsOf c 0))) := upd_same
    generalize upd H1 p (.lst [V.int (c.idle : Nat)]) = H2 at hD1 g1 ⊢
    have u2 : Same B H2 := by obtain ⟨dd, h⟩ := hD1; exact h.same
    refine ⟨_, rfl, S.a, _, S.dx, _, _, rfl, u2 _ _ hs.ins, T.cl_Play, T.n_Play_jobs, rfl, S.jl, rfl, ⟨_, SqL.of (u2 _ _ hs.lst)⟩, for_list (K := K) (a := S.jl) (xs := ((List.range st.tasks.length).map S.js).map V.ref) (fun m σ H' => ∃ (v3 : Option V), σ = [some (.ref S.a), some (.int en), some (.ref p), v3] ∧ Dyn T B H' S st (rowsOf st c due) ∧ H' p = some (.lst (vInts (countsOf c m))))
      ⟨none, rfl, hD1, g1⟩ (fun m σ H' _ ⟨_, _, ⟨_, hd⟩, _⟩ => SqL.of (hd.same _ _ hs.lst)) ?_ ?_⟩
    · rintro m y σ H3 hy ⟨v3, rfl, hD3, g3⟩
      obtain ⟨hm, rfl⟩ := js_at hy
      have hD3' := hD3
      obtain ⟨dd, h⟩ := hD3'
      have hJ := h.job hs hm
      have hcl := countsOf_len c m
      have hvl := vInts_len (countsOf c m)
      refine ⟨_, rfl, .inl ⟨rfl, _, SqL.of g3⟩, _, rfl, S.js m, S.dxs m, _, rfl, hJ.ins, rfl, S.js m, S.dxs m, dd m, S.tp m, taskAt st m, _, rfl, hJ, fun H4 q4 s4 n4 g4 => ?_⟩
      refine ⟨p, q4, _, _, rfl, rfl, s4 _ _ g3, g4, (by rw [vInts_len (l := [_, _, _, _, _, _])]; show _ + 6 ≤ sizeLine; omega), ?_⟩
      refine ⟨_, rfl, (hD3.same s4).setList hbp (s4 _ _ g3), ?_⟩
      rw [upd_same, countsOf_succ, vInts_append]
      rfl
    · rintro σ H3 ⟨v3, rfl, hD3, g3⟩
      rw [List.length_map, List.length_map, List.length_range] at g3
      obtain ⟨dd, h⟩ := hD3
      exact ⟨_, rfl, k H3 p h.same hbp g3⟩
def lateJ (r : Nat → JS) (i : Nat) : Bool := decide (0 < (r i).late)
def sp_Play_late_task (T : Top_ K mg) : Sp := fun vs H Q _ => ∃ (S : PS_) (B : Hp) (st : State) (r : Nat → JS), vs = [.ref S.a] ∧ Stat T B S st ∧ Dyn T B H S st r ∧
  ∀ H', Same H H' → Q (optV ((List.range st.tasks.length).find? (lateJ r))) H'
theorem ok_Play_late_task (T : Top_ K mg) : FnOk P w K mg base CX0 1 T.a_Play_late_task T.d_Play_late_task ["self"] (sp_Play_late_task T) := by
  refine T.F_Play_late_task.ok sc_Play_late_task (fun vs H Q E h => ?_) (fun cdv A outer s H vs Q E hr h => ?_)
  · obtain ⟨S, B, st, r, rfl, _⟩ := h
    rfl
  · obtain ⟨S, B, st, r, rfl, hs, ⟨dd, h⟩, k⟩ := h
    refine ⟨_, (pss_cons (ps_for PassesOwn.never rfl (pi_enum rfl T.x_enumerate (pa_cons (pe_fld (pv 0) rfl) pa_nil)) (pg_tup rfl (pgs_cons (pg_name (i := 1) sc_Play_late_task.nd rfl (.inl rfl)) (pgs_cons (pg_name (i := 2) sc_Play_late_task.nd rfl (.inl rfl)) pgs_nil)))
      (pss_one (ps_if (pt_cmpR op_gt (pe_fld (pv 2) rfl) pe_int (nomark _))
      (pss_one (ps_ret (pv 1)))
      pss_nil)))
      (pss_one (ps_ret pe_non))), ?_⟩
    refine ⟨_, rfl, S.a, _, S.dx, _, _, rfl, h.same _ _ hs.ins, T.cl_Play, T.n_Play_jobs, rfl, S.jl, _, rfl, SqL.of (h.same _ _ hs.lst), for_enum (K := K) (a := S.jl) (xs := ((List.range st.tasks.length).map S.js).map V.ref) (fun m σ H' => Same H H' ∧ ∃ (v1 v2 : Option V), σ = [some (.ref S.a), v1, v2] ∧ ∀ z ∈ (List.range st.tasks.length).take m, lateJ r z = false)
      ⟨Same.refl _, none, none, rfl, by simp⟩ (fun m σ H' _ ⟨e, _⟩ => SqL.of (e _ _ (h.same _ _ hs.lst))) ?_ ?_⟩
    · rintro m y σ H1 tt hy ⟨s1, v1, v2, rfl, hf⟩ htt
      obtain ⟨hm, rfl⟩ := js_at hy
      have s2 := s1.trans (Same.new (o := .tup [.int (m : Nat), V.ref (S.js m)]) htt)
      have hq : SqT K (upd H1 tt (.tup [.int (m : Nat), V.ref (S.js m)])) tt [.int (m : Nat), V.ref (S.js m)] := SqT.of upd_same
      generalize upd H1 tt (.tup [.int (m : Nat), V.ref (S.js m)]) = H2 at s2 hq ⊢
      have hJ := h.job hs hm
      refine ⟨tt, _, rfl, hq, rfl, _, _, rfl, _, _, rfl, rfl, _, rfl, S.js m, _, S.dxs m, _, _, rfl, s2 _ _ hJ.ins, T.cl_Jobs, T.n_Jobs_late, rfl, _, _, rfl, rfl, _, rfl, ite_d (fun hb => ?_) fun hb => ?_⟩
      · have hb' : lateJ r m = true := by unfold lateJ; exact decide_eq_true (by omega)
        have k' := k H2 s2
        rw [find_at hf (List.getElem?_range hm) hb'] at k'
        exact ⟨_, rfl, k'⟩
      · have hb' : lateJ r m = false := by unfold lateJ; exact decide_eq_false (by omega)
        refine ⟨s2, _, _, rfl, fun z hz => ?_⟩
        rw [take_snoc (List.getElem?_range hm), List.mem_append] at hz
        rcases hz with hz | hz
        · exact hf z hz
        · have : z = m := by simpa using hz
          subst this; exact hb'
    · rintro σ H1 ⟨s1, v1, v2, rfl, hf⟩
      have el : ((((List.range st.tasks.length).map S.js).map V.ref)).length = (List.range st.tasks.length).length := by rw [List.length_map, List.length_map]
      rw [el, List.take_length] at hf
      have k' := k H1 s1
      have : (List.range st.tasks.length).find? (lateJ r) = none := by
        rw [List.find?_eq_none]
        intro x hx
        rw [hf x hx]; simp
      rw [this] at k'
      exact k'
theorem lateJ_eq {st : State} {c : Course} (hI : CInv st c) (hz : ∀ i, i < st.tasks.length → (tallyAt c i).late = 0) (due : Nat → Nat) : (List.range st.tasks.length).find? (lateJ (rowsOf st (arrived st c) due)) = (numbers st).find? fun i => (jobsAt c i).any fun j => j.came + (taskAt st i).deadline == c.now := by
  unfold numbers
  refine find_congr fun i hi => ?_
  have hi' : i < st.tasks.length := List.mem_range.mp hi
  show decide (0 < (tallyAt (arrived st c) i).late) = _
  rw [tallyAt_arrived (by rw [hI.tn]; exact hi')]
  show decide (0 < (tallyAt c i).late + lateAt st i c.now (jobsAt c i)) = _
  rw [hz i hi', Nat.zero_add]
  unfold lateAt
  rw [Bool.eq_iff_iff, decide_eq_true_eq, List.any_eq_true, List.length_pos_iff_exists_mem]
  constructor
  · rintro ⟨j, hj⟩
    rw [List.mem_filter] at hj
    exact ⟨j, hj.1, hj.2⟩
  · rintro ⟨j, hj, hb⟩
    exact ⟨j, List.mem_filter.mpr ⟨hj, hb⟩⟩
theorem late_next {st : State} {c : Course} (wf : WF st) (hI : CInv st c) (hz : ∀ i, i < st.tasks.length → (tallyAt (arrived st c) i).late = 0) : ∀ i, i < st.tasks.length → (tallyAt (cycleOf st c).1 i).late = 0 := by
  intro i hi
  cases e : Vawctg.chosen st (arrived st c) with
  | none => rw [cycle_none e]; exact hz i hi
  | some m =>
    rw [cycle_some e]
    obtain ⟨hm, j, r, ej⟩ := chosen_some e
    show (tallyAt (ranOn st (arrived st c) m) i).late = 0
    rw [tallyAt_ranOn ej (by rw [arrived_tallies_len, hI.tn]; exact wf.lt hm)]
    by_cases h : i = m
    · rw [if_pos h]
      subst h
      unfold ranTally
      split
      · exact hz i hi
      · exact hz i hi
    · rw [if_neg h]; exact hz i hi
theorem firstLate_some {st : State} {c : Course} {n i : Nat} (h : ((numbers st).find? fun i => (jobsAt c i).any fun j => j.came + (taskAt st i).deadline == c.now) = some i) : firstLate st (n + 1) c = some (c.now, i) := by
  unfold firstLate
  rw [h]
theorem firstLate_none {st : State} {c : Course} {n : Nat} (h : ((numbers st).find? fun i => (jobsAt c i).any fun j => j.came + (taskAt st i).deadline == c.now) = none) : firstLate st (n + 1) c = firstLate st n (cycleOf st c).1 := by
  conv => lhs; unfold firstLate
  rw [h]
def sp_Play_first_late (T : Top_ K mg) : Sp := fun vs H Q _ => ∃ (S : PS_) (B : Hp) (st : State) (e : Nat), vs = [.ref S.a, .int e] ∧ e ≤ 3000 ∧ Stat T B S st ∧ CourseAt T B H S st (startCourse st) ∧ WF st ∧
  (firstLate st e (startCourse st) = none → ∀ H', Same B H' → Q .non H') ∧ ∀ q, firstLate st e (startCourse st) = some q → ∀ H' p, Same B H' → H' p = some (.lst (vInts [q.1, q.2])) → Q (.ref p) H'
theorem ok_Play_first_late (T : Top_ K mg) : FnOk P w K mg base CX0 5 T.a_Play_first_late T.d_Play_first_late ["self", "end"] (sp_Play_first_late T) := by
  refine T.F_Play_first_late.ok sc_Play_first_late (fun vs H Q E h => ?_) (fun cdv A outer s H vs Q E hr h => ?_)
  · obtain ⟨S, B, st, e, rfl, _⟩ := h
    rfl
  · obtain ⟨S, B, st, en, rfl, hen, hs, hC, wf, k0, k1⟩ := h
    refine ⟨_, (pss_cons (ps_for PassesOwn.never rfl (pi_range1 rfl T.x_range (pa_cons (pv 1) pa_nil)) (pg_name (i := 2) sc_Play_first_late.nd rfl (.inl rfl))
      (pss_cons (ps_expr (pe_meth (pv 0) T.cl_Play T.M_Play_reach (ok_Play_reach T) (hr.mono (by decide)) T.b_Play_reach .nil pass0 (pa_cons (pv 2) pa_nil)))
      (pss_cons (ps_set (i := 3) sc_Play_first_late.nd rfl (.inl rfl) (pe_meth0 (pv 0) T.cl_Play T.M_Play_late_task (ok_Play_late_task T) (hr.mono (by decide)) T.b_Play_late_task .nil pass0))
      (pss_cons (ps_if (pt_cmpR op_notN (pv 3) pe_non (nomark _))
      (pss_one (ps_ret (pe_lst (pa_cons (pv 2) (pa_cons (pv 3) pa_nil)))))
      pss_nil)
      (pss_one (ps_expr (pe_meth (pv 0) T.cl_Play T.M_Play_run (ok_Play_run T) (hr.mono (by decide)) T.b_Play_run .nil pass0 (pa_cons (pv 2) pa_nil))))))))
      (pss_one (ps_ret pe_non))), ?_⟩
    have hsl := sizeLine_eq
    have hz0 : ∀ i, i < st.tasks.length → (tallyAt (startCourse st) i).late = 0 := fun i hi => by
      unfold tallyAt startCourse
      rw [List.getD_eq_getElem?_getD, List.getElem?_map, List.getElem?_eq_getElem hi]
      rfl
    refine ⟨_, rfl, (en : Int), rfl, by omega, by omega, for_range (n := en) (fun m σ H' => ∃ (v2 v3 : Option V), σ = [some (.ref S.a), some (.int en), v2, v3] ∧ CourseAt T B H' S st (courseFor st m (startCourse st)) ∧ (∀ i, i < st.tasks.length → (tallyAt (courseFor st m (startCourse st)) i).late = 0) ∧
        firstLate st en (startCourse st) = firstLate st (en - m) (courseFor st m (startCourse st)))
      ⟨none, none, rfl, hC, hz0, rfl⟩ ?_ ?_⟩
    · rintro m σ H1 hm ⟨v2, v3, rfl, hC1, hz, hfl⟩
      have e0 : (0 : Int) + (m : Int) = ((m : Nat) : Int) := by omega
      rw [e0]
      obtain ⟨hcI, hcn⟩ := course_now st wf m
      obtain ⟨r, hD, due, hre⟩ := hC1.reach wf
      rw [hcn] at hre
      have u1 := hC1.under
      refine ⟨_, rfl, S.a, S.dx, _, rfl, u1 _ _ hs.ins, rfl, _, rfl, S, B, st, r, m, rfl, hs, hD, wf, fun H2 hD2 => ?_⟩
      have hR := hre _ H2 hD2
      have u2 : Same B H2 := by obtain ⟨dd, h⟩ := hD2; exact h.same
      have elate := lateJ_eq hcI hz due
      have esub : en - m = (en - (m + 1)) + 1 := by omega
      rw [esub] at hfl
      refine ⟨_, rfl, S.a, S.dx, _, rfl, u2 _ _ hs.ins, rfl, S, B, st, _, rfl, hs, hR.2.2, fun H3 s3 => ?_⟩
      cases e : (List.range st.tasks.length).find? (lateJ (rowsOf st (arrived st (courseFor st m (startCourse st))) due)) with
      | some i =>
        rw [elate] at e
        rw [firstLate_some e, hcn] at hfl
        refine ⟨_, rfl, rfl, _, rfl, iteT ⟨_, rfl, _, rfl, (by show 2 ≤ sizeLine; decide), fun p hp => ?_⟩⟩
        exact k1 _ hfl _ p (u2.trans (s3.trans (Same.new hp))) upd_same
      | none =>
        have e' := e
        rw [elate] at e'
        rw [firstLate_none e', ← courseFor_snoc] at hfl
        have hR3 : Reached T B H3 S st (courseFor st m (startCourse st)) due := ⟨hR.1, hR.2.1, hR.2.2.same s3⟩
        have u3 := u2.trans s3
        have hza : ∀ i, i < st.tasks.length → (tallyAt (arrived st (courseFor st m (startCourse st))) i).late = 0 := fun i hi => by
          have := List.find?_eq_none.mp e i (List.mem_range.mpr hi)
          have h2 : ¬ (0 < (tallyAt (arrived st (courseFor st m (startCourse st))) i).late) := fun z => this (decide_eq_true z)
          omega
        have hz' := late_next wf hcI hza
        rw [← courseFor_snoc] at hz'
        refine ⟨_, rfl, rfl, _, rfl, iteF ?_⟩
        refine ⟨_, rfl, S.a, S.dx, _, rfl, u3 _ _ hs.ins, rfl, _, rfl, S, B, st, _, m, rfl, hs, hR3.2.2, wf, ?_, fun ec => ?_, fun i ec H4 hD4 => ?_⟩
        · intro i ei
          have := hR3.pre wf i ei
          rw [hcn] at this
          exact this
        · obtain ⟨q1, q2⟩ := hR3.idle wf ec
          rw [← courseFor_snoc] at q1
          exact ⟨_, _, rfl, q1, hz', hfl⟩
        · have hru := hR3.runs wf ec (H' := H4) (B := B) (by rw [hcn]; exact hD4)
          rw [← courseFor_snoc] at hru
          exact ⟨_, _, rfl, hru.1, hz', hfl⟩
    · rintro σ H1 ⟨v2, v3, rfl, hC1, hz, hfl⟩
      rw [Nat.sub_self] at hfl
      exact k0 hfl H1 hC1.under
open Vawctg (Task Set_ Course Tally toInts toNats taskRow reading State Call isTask taskAt goodTask optRow jobsAt tallyAt arrived chosen cycleOf courseFor traceFor startCourse firstLate tallyRow numbers ranOn answerOf)
theorem start_row (st : State) {i : Nat} (hi : i < st.tasks.length) : rowsOf st (startCourse st) (fun _ => 0) i = JS.init (taskAt st i).cycles := by
  have e1 : jobsAt (startCourse st) i = [] := by
    unfold jobsAt startCourse
    rw [List.getD_eq_getElem?_getD, List.getElem?_map, List.getElem?_eq_getElem hi]
    rfl
  have e2 : tallyAt (startCourse st) i = Vawctg.noTally := by
    unfold tallyAt startCourse
    rw [List.getD_eq_getElem?_getD, List.getElem?_map, List.getElem?_eq_getElem hi]
    rfl
  unfold rowsOf
  rw [e1, e2]
  rfl
def sp_Play___init__ (T : Top_ K mg) : Sp := fun vs H Q _ => ∃ (x dx lt lo : Addr) (ts : List Addr) (st : State), vs = [.ref x, .ref lt, .ref lo, .int st.reload] ∧ H x = some (.ins T.c_Play dx []) ∧ H lt = some (.lst (ts.map V.ref)) ∧ Paired (fun p t => TkAt T H p t) ts st.tasks ∧ H lo = some (.lst (vInts st.order)) ∧ WF st ∧
  ∀ H' B S, S.a = x → Stat T B S st → CourseAt T B H' S st (startCourse st) → (∀ b o, H b = some o → b ≠ x → B b = some o) → Q .non H'
open Classical in
theorem ok_Play___init__ (T : Top_ K mg) : FnOk P w K mg base CX0 3 T.a_Play___init__ T.d_Play___init__ ["self", "tasks", "order", "line_cost"] (sp_Play___init__ T) := by
  refine T.F_Play___init__.ok sc_Play___init__ (fun vs H Q E h => ?_) (fun cdv A outer s H vs Q E hr h => ?_)
  · obtain ⟨x, dx, lt, lo, ts, st, rfl, _⟩ := h
    rfl
  · obtain ⟨x, dx, lt, lo, ts, st, rfl, hx, hlt, hP, hlo, wf, k⟩ := h
    refine ⟨_, (pss_cons (ps_fld (pv 0) (pe_lc rfl sc_Play___init__.nd (pi_list (pv 1)) (own := [("task", 4)]) (te := (tMake T.c_Jobs (sp_Jobs___init__ T) [] E0 (tCons (tVar 4) tNil))) (blkOk_by (by rfl)) (fun _ _ _ _ _ => (pg_name (i := 4) sc_Play___init__.nd rfl (.inl rfl))) (fun _ _ _ _ _ => pts_nil) (fun _ _ _ _ _ => (pe_make T.mk_Jobs (ok_Jobs___init__ T) (hr.mono (by decide)) rfl T.m_Jobs T.b_Jobs___init__ .nil pass0 (pa_cons (pv 4) pa_nil)))) rfl)
      (pss_cons (ps_fld (pv 0) (pv 2) rfl)
      (pss_one (ps_fld (pv 0) (pv 3) rfl)))), ?_⟩
    have hsl := sizeLine_eq
    have h6 := wf.n6
    have htl : ts.length = st.tasks.length := Paired.length hP
    refine ⟨_, rfl, lt, rfl, ⟨_, SqL.of hlt⟩, fun D hD => lc_list (K := K) (a := lt) (xs := ts.map V.ref) (fun m H' => ∃ js dxs dd : Nat → Addr, Same H H' ∧ H' D = some (.lst (((List.range m).map js).map V.ref)) ∧
        (∀ i, i < m → H (js i) = none ∧ H (dd i) = none ∧ H' (js i) = some (.ins T.c_Jobs (dxs i) (jobF (.ref (ts.getD i 0)) (JS.init (taskAt st i).cycles) (.ref (dd i)))) ∧ H' (dd i) = some (.dK [])) ∧
        (∀ i n, i < m → n < m → js i = js n → i = n) ∧ ∀ i n, i < m → n < m → dd i = dd n → i = n)
      ⟨fun _ => 0, fun _ => 0, fun _ => 0, Same.new hD, upd_same, fun i hi => absurd hi (Nat.not_lt_zero _), fun i _ hi => absurd hi (Nat.not_lt_zero _), fun i _ hi => absurd hi (Nat.not_lt_zero _)⟩ (fun m H' _ ⟨_, _, _, s1, _⟩ => SqL.of (s1 _ _ hlt)) ?_ ?_⟩
    · rintro m v H1 hv ⟨js, dxs, dd, s1, g1, hrow, ij, id_⟩
      obtain ⟨p, hp, rfl⟩ := ref_at hv
      have hm : m < st.tasks.length := by
        have := (List.getElem?_eq_some_iff.mp hp).1
        omega
      obtain ⟨q, hq, hT⟩ := tasks_at hP hm
      have epq : p = q := by rw [hp] at hq; exact Option.some.inj hq
      subst epq
      have egD : ts.getD m 0 = p := by rw [List.getD_eq_getElem?_getD, hp]; rfl
      refine ⟨rfl, _, rfl, fun y dy ny ndy ne => ?_⟩
      have s2 : Same H1 (upd (upd H1 dy (.own y)) y (.ins T.c_Jobs dy [])) := fun b o e => by
        rw [upd_ne (ne_of_none e ny), upd_ne (ne_of_none e ndy)]; exact e
      refine ⟨y, dy, p, taskAt st m, rfl, upd_same, hT.same (s1.trans s2), fun H3 d q1 q2 q3 go => ⟨rfl, ?_⟩⟩
      have nyd : d ≠ y := fun z => by rw [z, upd_same] at q3; cases q3
      have ndyd : d ≠ dy := fun z => by rw [z, upd_ne ne, upd_same] at q3; cases q3
      have hd1 : H1 d = none := by rw [upd_ne nyd, upd_ne ndyd] at q3; exact q3
      have s3 : Same H1 H3 := fun b o e => go _ _ (s2 _ _ e) (ne_of_none e ny)
      have yD : y ≠ D := fun z => by rw [z, g1] at ny; cases ny
      have dD : d ≠ D := fun z => by rw [z, g1] at hd1; cases hd1
      refine ⟨_, s3 _ _ g1, (by rw [List.length_map, List.length_map, List.length_range]; omega), fun i => if i = m then y else js i, fun i => if i = m then dy else dxs i, fun i => if i = m then d else dd i, fun b o e => ?_, ?_, fun i hi => ?_, fun i n hi hn e => ?_, fun i n hi hn e => ?_⟩
      · rw [upd_ne (ne_of_none e hD)]; exact s3 _ _ (s1 _ _ e)
      · rw [upd_same, List.range_succ, List.map_append, List.map_append]
        congr 3
        · refine congrArg (List.map V.ref) (List.map_congr_left fun i hi => ?_)
          have : i ≠ m := by have := List.mem_range.mp hi; omega
          rw [if_neg this]
        · simp
      · by_cases h1 : i = m
        · subst h1
          simp only [if_true]
          refine ⟨s1.free ny, s1.free hd1, ?_, ?_⟩
          · rw [upd_ne yD, q1, egD]
          · rw [upd_ne dD, q2]
        · simp only [h1, if_false]
          obtain ⟨f1, f2, f3, f4⟩ := hrow i (by omega)
          refine ⟨f1, f2, ?_, ?_⟩
          · rw [upd_ne (fun z => by rw [z, g1] at f3; cases f3)]; exact s3 _ _ f3
          · rw [upd_ne (fun z => by rw [z, g1] at f4; cases f4)]; exact s3 _ _ f4
      · by_cases h1 : i = m <;> by_cases h2 : n = m
        · rw [h1, h2]
        · simp only [h1, h2, if_true, if_false] at e
          have := (hrow n (by omega)).2.2.1
          rw [← e, ny] at this; cases this
        · simp only [h1, h2, if_true, if_false] at e
          have := (hrow i (by omega)).2.2.1
          rw [e, ny] at this; cases this
        · simp only [h1, h2, if_false] at e
          exact ij i n (by omega) (by omega) e
      · by_cases h1 : i = m <;> by_cases h2 : n = m
        · rw [h1, h2]
        · simp only [h1, h2, if_true, if_false] at e
          have := (hrow n (by omega)).2.2.2
          rw [← e, hd1] at this; cases this
        · simp only [h1, h2, if_true, if_false] at e
          have := (hrow i (by omega)).2.2.2
          rw [e, hd1] at this; cases this
        · simp only [h1, h2, if_false] at e
          exact id_ i n (by omega) (by omega) e
    · rintro H1 ⟨js, dxs, dd, s1, g1, hrow, ij, id_⟩
      rw [List.length_map, htl] at g1 hrow ij id_
      refine ⟨_, rfl, x, _, dx, _, rfl, s1 _ _ hx, T.cl_Play, T.n_Play_jobs, (by show 0 < 1000; decide), ?_⟩
      refine ⟨_, rfl, _, rfl, x, _, dx, _, rfl, upd_same, T.cl_Play, T.n_Play_order, (by show 1 < 1000; decide), ?_⟩
      rw [upd_upd]
      refine ⟨_, rfl, _, rfl, x, _, dx, _, rfl, upd_same, T.cl_Play, T.n_Play_line_cost, (by show 2 < 1000; decide), ?_⟩
      rw [upd_upd]
      show Q .non (upd H1 x (.ins T.c_Play dx (playF (.ref D) (.ref lo) (.int st.reload))))
      have gx : upd H1 x (.ins T.c_Play dx (playF (.ref D) (.ref lo) (.int st.reload))) x = _ := upd_same
      have go : ∀ b o, H1 b = some o → b ≠ x → upd H1 x (.ins T.c_Play dx (playF (.ref D) (.ref lo) (.int st.reload))) b = some o := fun b o e hb => by rw [upd_ne hb]; exact e
      generalize upd H1 x (.ins T.c_Play dx (playF (.ref D) (.ref lo) (.int st.reload))) = HF at gx go ⊢
      have Dx : D ≠ x := fun z => by rw [z, hx] at hD; cases hD
      have nx : ∀ i, i < st.tasks.length → js i ≠ x ∧ dd i ≠ x := fun i hi => by
        obtain ⟨f1, f2, _, _⟩ := hrow i hi
        exact ⟨(fun z => by rw [z, hx] at f1; cases f1), (fun z => by rw [z, hx] at f2; cases f2)⟩
      have hBB : ∃ B : Hp, B = fun b => if (∃ i, i < st.tasks.length ∧ (b = js i ∨ b = dd i)) then none else HF b := ⟨_, rfl⟩
      obtain ⟨B, hB⟩ := hBB
      have B1 : ∀ b o, HF b = some o → (∀ i, i < st.tasks.length → b ≠ js i ∧ b ≠ dd i) → B b = some o := fun b o e hn => by
        rw [hB]
        show (if _ then none else HF b) = some o
        rw [if_neg (fun ⟨i, hi, z⟩ => z.elim (hn i hi).1 (hn i hi).2)]
        exact e
      have B2 : ∀ b o, H b = some o → b ≠ x → B b = some o := fun b o e hb => B1 b o (go _ _ (s1 _ _ e) hb) fun i hi => by
        obtain ⟨f1, f2, _, _⟩ := hrow i hi
        exact ⟨ne_of_none e f1, ne_of_none e f2⟩
      have B3 : Same B HF := fun b o e => by
        rw [hB] at e
        have e : (if (∃ i, i < st.tasks.length ∧ (b = js i ∨ b = dd i)) then none else HF b) = some o := e
        split at e
        · cases e
        · exact e
      have B4 : ∀ i, i < st.tasks.length → B (js i) = none ∧ B (dd i) = none := fun i hi => by
        rw [hB]
        exact ⟨if_pos ⟨i, hi, .inl rfl⟩, if_pos ⟨i, hi, .inr rfl⟩⟩
      refine k HF B ⟨x, dx, D, lo, js, dxs, fun i => ts.getD i 0⟩ rfl ⟨?_, ?_, ?_, fun i hi => ?_, ij⟩ ⟨CInv.start st wf, fun _ => 0, fun i hi => ?_, dd, B3, id_, fun i hi => ?_⟩ B2
      · exact B1 _ _ gx fun i hi => ⟨Ne.symm (nx i hi).1, Ne.symm (nx i hi).2⟩
      · refine B1 _ _ (go _ _ g1 Dx) fun i hi => ?_
        obtain ⟨_, _, f3, f4⟩ := hrow i hi
        exact ⟨(fun z => by rw [← z, g1] at f3; cases f3), (fun z => by rw [← z, g1] at f4; cases f4)⟩
      · have nlo : lo ≠ x := fun z => by rw [z, hx] at hlo; cases hlo
        exact B2 _ _ hlo nlo
      · obtain ⟨q, hq, hT⟩ := tasks_at hP hi
        have egD : ts.getD i 0 = q := by rw [List.getD_eq_getElem?_getD, hq]; rfl
        show TkAt T B (ts.getD i 0) _
        rw [egD]
        obtain ⟨_, dx', u, v, _, _, h1, h2, h3⟩ := hT
        refine ⟨trivial, dx', u, v, trivial, trivial, B2 _ _ h1 ?_, B2 _ _ h2 ?_, B2 _ _ h3 ?_⟩
        · rintro rfl
          rw [h1] at hx
          have : (6 : Nat) = 0 := congrArg List.length (HO.ins.inj (Option.some.inj hx)).2.2
          exact absurd this (by decide)
        · rintro rfl; rw [h2] at hx; cases hx
        · rintro rfl; rw [h3] at hx; cases hx
      · have g := goodTask_iff.mp (wf.task hi)
        exact DueOk.start _ (by omega)
      · obtain ⟨f1, f2, f3, f4⟩ := hrow i hi
        rw [start_row st hi]
        exact ⟨(B4 i hi).1, (B4 i hi).2, go _ _ f3 (nx i hi).1, [], go _ _ f4 (nx i hi).2, Keys.nil⟩
def sp_Held_new_play (T : Top_ K mg) : Sp := fun vs H Q _ => ∃ (a : Addr) (O : Addr → Prop) (st : State), vs = [.ref a] ∧ HeldAt T H O a st ∧ WF st ∧ ∀ H' B S, Same H B → Stat T B S st → CourseAt T B H' S st (startCourse st) → Q (.ref S.a) H'
theorem ok_Held_new_play (T : Top_ K mg) : FnOk P w K mg base CX0 5 T.a_Held_new_play T.d_Held_new_play ["self"] (sp_Held_new_play T) := by
  refine T.F_Held_new_play.ok sc_Held_new_play (fun vs H Q E h => ?_) (fun cdv A outer s H vs Q E hr h => ?_)
  · obtain ⟨a, O, st, rfl, _⟩ := h
    rfl
  · obtain ⟨a, O, st, rfl, ⟨R, dx, lt, lo, ts, h⟩, wf, k⟩ := h
    refine ⟨_, (pss_one (ps_ret (pe_make T.mk_Play (ok_Play___init__ T) (hr.mono (by decide)) rfl T.m_Play T.b_Play___init__ .nil pass0 (pa_cons (pe_fld (pv 0) rfl) (pa_cons (pe_fld (pv 0) rfl) (pa_cons (pe_fld (pv 0) rfl) pa_nil)))))), ?_⟩
    have hP : Paired (fun p t => TkAt T H p t) ts st.tasks := Paired.mapP h.tsk fun p t ht => ht.tk
    refine ⟨_, rfl, a, _, dx, _, _, rfl, h.ins, T.cl_Held, T.n_Held_tasks, rfl, _, rfl, a, _, dx, _, _, rfl, h.ins, T.cl_Held, T.n_Held_order, rfl, _, rfl, a, _, dx, _, _, rfl, h.ins, T.cl_Held, T.n_Held_line_cost, rfl, fun y dy ny ndy ne => ?_⟩
    have s2 : Same H (upd (upd H dy (.own y)) y (.ins T.c_Play dy [])) := fun b o e => by
      rw [upd_ne (ne_of_none e ny), upd_ne (ne_of_none e ndy)]; exact e
    refine ⟨y, dy, lt, lo, ts, st, rfl, upd_same, s2 _ _ h.lst, Paired.mapP hP fun p t ht => ht.same s2, s2 _ _ h.ord, wf, fun H' B S ea hs hC hB => ⟨rfl, ?_⟩⟩
    subst ea
    exact k H' B S (fun b o e => hB _ _ (s2 _ _ e) (ne_of_none e ny)) hs hC
def sp_Held_tell_course (T : Top_ K mg) : Sp := fun vs H Q _ => ∃ (a : Addr) (O : Addr → Prop) (st : State) (h : Int), vs = [.ref a, .int h] ∧ HeldAt T H O a st ∧ WF st ∧ Asks H (answerOf st (.course h)) Q
theorem ok_Held_tell_course (T : Top_ K mg) : FnOk P w K mg base CX0 7 T.a_Held_tell_course T.d_Held_tell_course ["self", "h"] (sp_Held_tell_course T) := by
  refine T.F_Held_tell_course.ok sc_Held_tell_course (fun vs H Q E h => ?_) (fun cdv A outer s H vs Q E hr h => ?_)
  · obtain ⟨a, O, st, h, rfl, _⟩ := h
    rfl
  · obtain ⟨a, O, st, z, rfl, hH, wf, k⟩ := h
    refine ⟨_, (pss_cons (ps_if (pt_not (pt_chain op_le op_le pe_int (pv 1) (pe_glob (v := .int (3000)) rfl T.m_LAST_TIME ⟨_, rfl⟩)))
      (pss_one (ps_ret (pe_lst (pa_cons (pe_glob (v := .int (-7)) rfl T.m_OUT_OF_RANGE ⟨_, rfl⟩) pa_nil))))
      pss_nil)
      (pss_one (ps_ret (pe_op op_cat (pe_lst (pa_cons (pe_glob (v := .int (0)) rfl T.m_DONE ⟨_, rfl⟩) pa_nil)) (pe_meth (pe_meth0 (pv 0) T.cl_Held T.M_Held_new_play (ok_Held_new_play T) (hr.mono (by decide)) T.b_Held_new_play .nil pass0) T.cl_Play T.M_Play_counted (ok_Play_counted T) (hr.mono (by decide)) T.b_Play_counted .nil pass0 (pa_cons (pv 1) pa_nil)))))), ?_⟩
    have hsl := sizeLine_eq
    have h6 := wf.n6
    have e3 : (Vawctg.WHILE_ : Int) = 3000 := rfl
    have kf : ¬ (0 ≤ z ∧ z ≤ 3000) → ∀ p, H p = none → Q (.ref p) (upd H p (.lst [.int (-7)])) := fun hb p hp => by
      refine k.new (Same.refl _) hp ?_
      unfold answerOf
      dsimp only
      rw [if_pos (by omega)]
      rfl
    refine ⟨_, rfl, _, _, rfl, rfl, _, rfl, ite_d (fun h1 => ?_) fun h1 => ⟨_, rfl, iteT ⟨(by show 1 ≤ sizeLine; decide), kf (by omega)⟩⟩⟩
    refine ⟨_, _, rfl, rfl, _, rfl, ite_nd (fun h2 => ?_) fun h2 => ⟨(by show 1 ≤ sizeLine; decide), kf (by omega)⟩⟩
    obtain ⟨n, rfl⟩ : ∃ n : Nat, z = (n : Int) := ⟨z.toNat, by omega⟩
    refine ⟨(by show 1 ≤ sizeLine; decide), fun p hp => ?_⟩
    have s1 := Same.new (o := .lst [.int 0]) hp
    have g1 : upd H p (.lst [.int 0]) p = _ := upd_same
    have hH1 : HeldAt T (upd H p (.lst [.int 0])) O a st := hH.keep fun b o hb e => ⟨hb, s1 _ _ e⟩
    generalize upd H p (.lst [.int 0]) = H1 at s1 g1 hH1 ⊢
    have hH1' := hH1
    obtain ⟨R, dx, lt, lo, ts, h⟩ := hH1'
    refine ⟨_, rfl, a, dx, _, rfl, h.ins, rfl, a, O, st, rfl, hH1, wf, fun H2 B S sB hs hC => ?_⟩
    refine ⟨S.a, S.dx, _, rfl, hC.under _ _ hs.ins, rfl, _, rfl, S, B, st, n, rfl, by omega, hs, hC, wf, fun H3 q s3 nq gq => ?_⟩
    have hcl := countsOf_len (courseFor st n (startCourse st)) st.tasks.length
    refine ⟨p, q, _, _, rfl, rfl, s3 _ _ (sB _ _ g1), gq, (by rw [vInts_len]; show 1 + _ ≤ sizeLine; omega), fun y hy => k.new (s1.trans (sB.trans s3)) hy ?_⟩
    have hI := (course_now st wf n).1
    unfold answerOf
    dsimp only
    rw [if_neg (by omega), Int.toNat_natCast, tallies_eq hI, List.flatMap_map]
    rfl
theorem cut_ints (l : List Nat) {t : Nat} (h : t ≤ l.length) : cutV (vInts l) (some (t : Int)) none = vInts (l.drop t) := by
  unfold vInts
  rw [cutV_from V.int (toInts l) rfl (by unfold toInts; rw [List.length_map]; exact h)]
  unfold toInts
  rw [List.map_drop, List.map_drop, List.map_drop]
def sp_Held_tell_trace (T : Top_ K mg) : Sp := fun vs H Q _ => ∃ (a : Addr) (O : Addr → Prop) (st : State) (t n : Int), vs = [.ref a, .int t, .int n] ∧ HeldAt T H O a st ∧ WF st ∧ Asks H (answerOf st (.trace t n)) Q
theorem ok_Held_tell_trace (T : Top_ K mg) : FnOk P w K mg base CX0 6 T.a_Held_tell_trace T.d_Held_tell_trace ["self", "t", "n"] (sp_Held_tell_trace T) := by
  refine T.F_Held_tell_trace.ok sc_Held_tell_trace (fun vs H Q E h => ?_) (fun cdv A outer s H vs Q E hr h => ?_)
  · obtain ⟨a, O, st, t, n, rfl, _⟩ := h
    rfl
  · obtain ⟨a, O, st, t, n, rfl, hH, wf, k⟩ := h
    refine ⟨_, (pss_cons (ps_if (PW.pt (pw_or (pt_cmpR op_lt (pv 1) pe_int (nomark _)) (pw_or (pt_not (pt_chain op_le op_le pe_int (pv 2) (pe_glob (v := .int (200)) rfl T.m_MOST_TRACED ⟨_, rfl⟩))) (pw_or1 (pt_cmpR op_gt (pe_op op_add (pv 1) (pv 2)) (pe_glob (v := .int (3000)) rfl T.m_LAST_TIME ⟨_, rfl⟩) (nomark _))))))
      (pss_one (ps_ret (pe_lst (pa_cons (pe_glob (v := .int (-7)) rfl T.m_OUT_OF_RANGE ⟨_, rfl⟩) pa_nil))))
      pss_nil)
      (pss_one (ps_ret (pe_op op_cat (pe_lst (pa_cons (pe_glob (v := .int (0)) rfl T.m_DONE ⟨_, rfl⟩) pa_nil)) (pe_slice sl_list (pe_meth (pe_meth0 (pv 0) T.cl_Held T.M_Held_new_play (ok_Held_new_play T) (hr.mono (by decide)) T.b_Held_new_play .nil pass0) T.cl_Play T.M_Play_ran (ok_Play_ran T) (hr.mono (by decide)) T.b_Play_ran .nil pass0 (pa_cons (pe_op op_add (pv 1) (pv 2)) pa_nil)) (po_some (pv 1)) po_none))))), ?_⟩
    have hsl := sizeLine_eq
    have e3 : (Vawctg.WHILE_ : Int) = 3000 := rfl
    have e2 : (Vawctg.TRACE : Int) = 200 := rfl
    have kf : ¬ (0 ≤ t ∧ 0 ≤ n ∧ n ≤ 200 ∧ t + n ≤ 3000) → ∀ p, H p = none → Q (.ref p) (upd H p (.lst [.int (-7)])) := fun hb p hp => by
      refine k.new (Same.refl _) hp ?_
      unfold answerOf
      dsimp only
      rw [if_pos (by omega)]
      rfl
    refine ⟨_, rfl, _, _, rfl, rfl, _, rfl, ite_d (fun h1 => iteT ⟨(by show 1 ≤ sizeLine; decide), kf (by omega)⟩) fun h1 => ?_⟩
    refine ⟨_, rfl, _, _, rfl, rfl, _, rfl, ite_d (fun h2 => ?_) fun h2 => ?_⟩
    rotate_left
    · exact ⟨_, rfl, iteT (iteT ⟨(by show 1 ≤ sizeLine; decide), kf (by omega)⟩)⟩
    refine ⟨_, _, rfl, rfl, _, rfl, ite_nd (fun h3 => ?_) fun h3 => ?_⟩
    rotate_left
    · exact iteT ⟨(by show 1 ≤ sizeLine; decide), kf (by omega)⟩
    refine ⟨_, rfl, _, rfl, _, _, rfl, rfl, _, _, rfl, rfl, _, rfl, ite_d (fun h4 => ⟨(by show 1 ≤ sizeLine; decide), kf (by omega)⟩) fun h4 => ?_⟩
    obtain ⟨t, rfl⟩ : ∃ m : Nat, t = (m : Int) := ⟨t.toNat, by omega⟩
    obtain ⟨n, rfl⟩ : ∃ m : Nat, n = (m : Int) := ⟨n.toNat, by omega⟩
    refine ⟨(by show 1 ≤ sizeLine; decide), fun p hp => ?_⟩
    have s1 := Same.new (o := .lst [.int 0]) hp
    have g1 : upd H p (.lst [.int 0]) p = _ := upd_same
    have hH1 : HeldAt T (upd H p (.lst [.int 0])) O a st := hH.keep fun b o hb e => ⟨hb, s1 _ _ e⟩
    generalize upd H p (.lst [.int 0]) = H1 at s1 g1 hH1 ⊢
    have hH1' := hH1
    obtain ⟨R, dx, lt, lo, ts, h⟩ := hH1'
    refine ⟨_, rfl, a, dx, _, rfl, h.ins, rfl, a, O, st, rfl, hH1, wf, fun H2 B S sB hs hC => ?_⟩
    refine ⟨S.a, S.dx, _, rfl, hC.under _ _ hs.ins, rfl, _, rfl, _, rfl, _, _, rfl, rfl, S, B, st, t + n, rfl, by omega, hs, hC, wf, fun H3 q hC3 nq gq => ?_⟩
    have s3 := hC3.under
    have htl := told_len st (t + n)
    refine ⟨_, rfl, _, rfl, q, _, rfl, SqL.of gq, fun q2 n2 => ?_⟩
    rw [cut_ints _ (by omega)]
    have s4 := Same.new (o := .lst (vInts ((told st (t + n)).drop t))) n2
    refine ⟨p, q2, _, _, rfl, rfl, s4 _ _ (s3 _ _ (sB _ _ g1)), upd_same, (by rw [vInts_len, List.length_drop]; show 1 + _ ≤ sizeLine; omega), fun y hy => k.new (s1.trans (sB.trans (s3.trans s4))) hy ?_⟩
    have ed : (told st (t + n)).drop t = (traceFor st n (courseFor st t (startCourse st))).map optRow := by
      unfold told
      rw [traceFor_add, List.map_append, List.drop_append_of_le_length (by rw [List.length_map, traceFor_len]; exact Nat.le_refl _), List.drop_of_length_le (by rw [List.length_map, traceFor_len]; exact Nat.le_refl _), List.nil_append]
    unfold answerOf
    dsimp only
    rw [if_neg (by omega), Int.toNat_natCast, Int.toNat_natCast, ed]
    rfl
def sp_Held_tell_late (T : Top_ K mg) : Sp := fun vs H Q _ => ∃ (a : Addr) (O : Addr → Prop) (st : State) (h : Int), vs = [.ref a, .int h] ∧ HeldAt T H O a st ∧ WF st ∧ Asks H (answerOf st (.late h)) Q
theorem ok_Held_tell_late (T : Top_ K mg) : FnOk P w K mg base CX0 6 T.a_Held_tell_late T.d_Held_tell_late ["self", "h"] (sp_Held_tell_late T) := by
  refine T.F_Held_tell_late.ok sc_Held_tell_late (fun vs H Q E h => ?_) (fun cdv A outer s H vs Q E hr h => ?_)
  · obtain ⟨a, O, st, h, rfl, _⟩ := h
    rfl
  · obtain ⟨a, O, st, z, rfl, hH, wf, k⟩ := h
    refine ⟨_, (pss_cons (ps_if (pt_not (pt_chain op_le op_le pe_int (pv 1) (pe_glob (v := .int (3000)) rfl T.m_LAST_TIME ⟨_, rfl⟩)))
      (pss_one (ps_ret (pe_lst (pa_cons (pe_glob (v := .int (-7)) rfl T.m_OUT_OF_RANGE ⟨_, rfl⟩) pa_nil))))
      pss_nil)
      (pss_cons (ps_set (i := 2) sc_Held_tell_late.nd rfl (.inl rfl) (pe_meth (pe_meth0 (pv 0) T.cl_Held T.M_Held_new_play (ok_Held_new_play T) (hr.mono (by decide)) T.b_Held_new_play .nil pass0) T.cl_Play T.M_Play_first_late (ok_Play_first_late T) (hr.mono (by decide)) T.b_Play_first_late .nil pass0 (pa_cons (pv 1) pa_nil)))
      (pss_one (ps_ret (pe_ifExp (pt_cmpR op_isN (pv 2) pe_non (nomark _)) (pe_lst (pa_cons (pe_glob (v := .int (0)) rfl T.m_DONE ⟨_, rfl⟩) pa_nil)) (pe_op op_cat (pe_lst (pa_cons (pe_glob (v := .int (1)) rfl T.m_NOT_SO ⟨_, rfl⟩) pa_nil)) (pv 2))))))), ?_⟩
    have hsl := sizeLine_eq
    have e3 : (Vawctg.WHILE_ : Int) = 3000 := rfl
    have kf : ¬ (0 ≤ z ∧ z ≤ 3000) → ∀ p, H p = none → Q (.ref p) (upd H p (.lst [.int (-7)])) := fun hb p hp => by
      refine k.new (Same.refl _) hp ?_
      unfold answerOf
      dsimp only
      rw [if_pos (by omega)]
      rfl
    refine ⟨_, rfl, _, _, rfl, rfl, _, rfl, ite_d (fun h1 => ?_) fun h1 => ⟨_, rfl, iteT ⟨(by show 1 ≤ sizeLine; decide), kf (by omega)⟩⟩⟩
    refine ⟨_, _, rfl, rfl, _, rfl, ite_nd (fun h2 => ?_) fun h2 => ⟨(by show 1 ≤ sizeLine; decide), kf (by omega)⟩⟩
    obtain ⟨n, rfl⟩ : ∃ n : Nat, z = (n : Int) := ⟨z.toNat, by omega⟩
    have hH' := hH
    obtain ⟨R, dx, lt, lo, ts, h⟩ := hH'
    refine ⟨_, rfl, a, dx, _, rfl, h.ins, rfl, a, O, st, rfl, hH, wf, fun H2 B S sB hs hC => ?_⟩
    refine ⟨S.a, S.dx, _, rfl, hC.under _ _ hs.ins, rfl, _, rfl, S, B, st, n, rfl, by omega, hs, hC, wf, fun hf H3 s3 => ?_, fun q hf H3 l s3 gl => ?_⟩
    · refine ⟨_, rfl, rfl, _, rfl, iteT ⟨(by show 1 ≤ sizeLine; decide), fun p hp => k.new (sB.trans s3) hp ?_⟩⟩
      unfold answerOf
      dsimp only
      rw [if_neg (by omega), Int.toNat_natCast, hf]
      rfl
    · refine ⟨_, rfl, rfl, _, rfl, iteF ⟨(by show 1 ≤ sizeLine; decide), fun p hp => ?_⟩⟩
      have s4 := Same.new (o := .lst [.int 1]) hp
      refine ⟨_, rfl, p, l, _, _, rfl, rfl, upd_same, s4 _ _ gl, (by rw [vInts_len]; show 1 + 2 ≤ sizeLine; omega), fun y hy => k.new (sB.trans (s3.trans s4)) hy ?_⟩
      unfold answerOf
      dsimp only
      rw [if_neg (by omega), Int.toNat_natCast, hf]
      rfl
open Vawctg (Task toInts toNats taskRow reading State Call isTask)
theorem ite_neS {x y : Str} {A B : Prop} (h : ¬ x = y) (hb : B) : if decide (V.str x = V.str y) = true then A else B := ite_d (fun e => absurd (V.str.inj e) h) fun _ => hb
theorem ite_eqS {x : Str} {A B : Prop} (ha : A) : if decide (V.str x = V.str x) = true then A else B := ite_d (fun _ => ha) fun e => absurd rfl e
def sp_answer (T : Top_ K mg) : Sp := fun vs H Q _ => ∃ (a a1 a2 : Addr) (O : Addr → Prop) (st : State) (p : Nat) (name : String) (kk : Nat) (b : Bool) (nums row : List Int), vs = [.ref a, .str (Str.ofString name), .ref a1, .ref a2] ∧ HeldAt T H O a st ∧ WF st ∧
  tbl[p]? = some (name, kk, b) ∧ nums.length = kk ∧ H a1 = some (.lst (nums.map V.int)) ∧ H a2 = some (.lst (row.map V.int)) ∧ row.length ≤ 8200 ∧ VawctgNeutral.asked1 (PyVawctg.whole (((p : Int) :: nums) :: (if b then [row] else []))) = true ∧
  Post T H O a (nstep st (PyVawctg.whole (((p : Int) :: nums) :: (if b then [row] else [])))) Q
theorem one {α : Type} {l : List α} (h : l.length = 1) : ∃ x, l = [x] := by
  match l, h with
  | [x], _ => exact ⟨x, rfl⟩
theorem two {α : Type} {l : List α} (h : l.length = 2) : ∃ x y, l = [x, y] := by
  match l, h with
  | [x, y], _ => exact ⟨x, y, rfl⟩
theorem ok_answer (T : Top_ K mg) (hB : BMod base mg) : FnOk P w K mg base CX0 8 T.a_answer T.d_answer ["held", "name", "numbers", "row"] (sp_answer T) := by
  refine T.F_answer.ok sc_answer (fun vs H Q E h => ?_) (fun cdv A outer s H vs Q E hr h => ?_)
  · obtain ⟨a, a1, a2, O, st, p, name, kk, b, nums, row, rfl, _⟩ := h
    rfl
  · obtain ⟨a, a1, a2, O, st, p, name, kk, b, nums, row, rfl, hH, wf, ht, hn, g1, g2, hrow, hask, k⟩ := h
    refine ⟨_, (pss_cons (ps_if (pt_cmpR op_eq (pv 1) pe_str (nomark _))
      (pss_one (ps_ret (pe_meth (pv 0) T.cl_Held T.M_Held_set_reload (ok_Held_set_reload T) (hr.mono (by decide)) T.b_Held_set_reload .nil pass0 (pa_cons (pe_ix ix_list (pv 2) pe_int (fun _ _ => rfl)) pa_nil))))
      pss_nil)
      (pss_cons (ps_if (pt_cmpR op_eq (pv 1) pe_str (nomark _))
      (pss_one (ps_ret (pe_meth (pv 0) T.cl_Held T.M_Held_add_task (ok_Held_add_task T) (hr.mono (by decide)) T.b_Held_add_task .nil pass0 (pa_cons (pv 3) pa_nil))))
      pss_nil)
      (pss_cons (ps_if (pt_cmpR op_eq (pv 1) pe_str (nomark _))
      (pss_one (ps_ret (pe_meth (pv 0) T.cl_Held T.M_Held_change_task (ok_Held_change_task T) (hr.mono (by decide)) T.b_Held_change_task .nil pass0 (pa_cons (pe_ix ix_list (pv 2) pe_int (fun _ _ => rfl)) (pa_cons (pv 3) pa_nil)))))
      pss_nil)
      (pss_cons (ps_if (pt_cmpR op_eq (pv 1) pe_str (nomark _))
      (pss_one (ps_ret (pe_meth (pv 0) T.cl_Held T.M_Held_drop_task (ok_Held_drop_task T) (hr.mono (by decide)) T.b_Held_drop_task .nil pass0 (pa_cons (pe_ix ix_list (pv 2) pe_int (fun _ _ => rfl)) pa_nil))))
      pss_nil)
      (pss_cons (ps_if (pt_cmpR op_eq (pv 1) pe_str (nomark _))
      (pss_one (ps_ret (pe_meth (pv 0) T.cl_Held T.M_Held_set_order (ok_Held_set_order T) (hr.mono (by decide)) T.b_Held_set_order .nil pass0 (pa_cons (pv 3) pa_nil))))
      pss_nil)
      (pss_cons (ps_if (pt_cmpR op_eq (pv 1) pe_str (nomark _))
      (pss_one (ps_ret (pe_meth (pv 0) T.cl_Held T.M_Held_sort_order (ok_Held_sort_order T hB) (hr.mono (by decide)) T.b_Held_sort_order .nil pass0 (pa_cons (pe_ix ix_list (pv 2) pe_int (fun _ _ => rfl)) pa_nil))))
      pss_nil)
      (pss_cons (ps_if (pt_cmpR op_eq (pv 1) pe_str (nomark _))
      (pss_one (ps_ret (pe_meth0 (pv 0) T.cl_Held T.M_Held_tell_tasks (ok_Held_tell_tasks T) (hr.mono (by decide)) T.b_Held_tell_tasks .nil pass0)))
      pss_nil)
      (pss_cons (ps_if (pt_cmpR op_eq (pv 1) pe_str (nomark _))
      (pss_one (ps_ret (pe_meth0 (pv 0) T.cl_Held T.M_Held_tell_order (ok_Held_tell_order T) (hr.mono (by decide)) T.b_Held_tell_order .nil pass0)))
      pss_nil)
      (pss_cons (ps_if (pt_cmpR op_eq (pv 1) pe_str (nomark _))
      (pss_one (ps_ret (pe_meth (pv 0) T.cl_Held T.M_Held_tell_cost (ok_Held_tell_cost T) (hr.mono (by decide)) T.b_Held_tell_cost .nil pass0 (pa_cons (pe_ix ix_list (pv 2) pe_int (fun _ _ => rfl)) (pa_cons (pe_ix ix_list (pv 2) pe_int (fun _ _ => rfl)) pa_nil)))))
      pss_nil)
      (pss_cons (ps_if (pt_cmpR op_eq (pv 1) pe_str (nomark _))
      (pss_one (ps_ret (pe_meth (pv 0) T.cl_Held T.M_Held_tell_response (ok_Held_tell_response T) (hr.mono (by decide)) T.b_Held_tell_response .nil pass0 (pa_cons (pe_ix ix_list (pv 2) pe_int (fun _ _ => rfl)) pa_nil))))
      pss_nil)
      (pss_cons (ps_if (pt_cmpR op_eq (pv 1) pe_str (nomark _))
      (pss_one (ps_ret (pe_meth0 (pv 0) T.cl_Held T.M_Held_tell_all (ok_Held_tell_all T) (hr.mono (by decide)) T.b_Held_tell_all .nil pass0)))
      pss_nil)
      (pss_cons (ps_if (pt_cmpR op_eq (pv 1) pe_str (nomark _))
      (pss_one (ps_ret (pe_meth0 (pv 0) T.cl_Held T.M_Held_tell_best (ok_Held_tell_best T) (hr.mono (by decide)) T.b_Held_tell_best .nil pass0)))
      pss_nil)
      (pss_cons (ps_if (pt_cmpR op_eq (pv 1) pe_str (nomark _))
      (pss_one (ps_ret (pe_meth (pv 0) T.cl_Held T.M_Held_tell_course (ok_Held_tell_course T) (hr.mono (by decide)) T.b_Held_tell_course .nil pass0 (pa_cons (pe_ix ix_list (pv 2) pe_int (fun _ _ => rfl)) pa_nil))))
      pss_nil)
      (pss_cons (ps_if (pt_cmpR op_eq (pv 1) pe_str (nomark _))
      (pss_one (ps_ret (pe_meth (pv 0) T.cl_Held T.M_Held_tell_trace (ok_Held_tell_trace T) (hr.mono (by decide)) T.b_Held_tell_trace .nil pass0 (pa_cons (pe_ix ix_list (pv 2) pe_int (fun _ _ => rfl)) (pa_cons (pe_ix ix_list (pv 2) pe_int (fun _ _ => rfl)) pa_nil)))))
      pss_nil)
      (pss_one (ps_ret (pe_meth (pv 0) T.cl_Held T.M_Held_tell_late (ok_Held_tell_late T) (hr.mono (by decide)) T.b_Held_tell_late .nil pass0 (pa_cons (pe_ix ix_list (pv 2) pe_int (fun _ _ => rfl)) pa_nil)))))))))))))))))), ?_⟩
    have hH' := hH
    obtain ⟨R, dx, lt, lo, ts, h⟩ := hH'
    match p, ht with
    | 0, ht =>
      obtain ⟨rfl, rfl, rfl⟩ : "reload" = name ∧ 1 = kk ∧ false = b := by simpa [tbl] using ht
      obtain ⟨x, rfl⟩ := one hn
      refine ⟨_, rfl, rfl, _, rfl, ite_eqS ?_⟩
      exact ⟨_, rfl, a, dx, _, rfl, h.ins, rfl, _, rfl, a1, _, _, _, rfl, rfl, SqL.of g1, atI_nat (j := 0) rfl, a, O, st, x, rfl, hH, wf, k⟩
    | 1, ht =>
      obtain ⟨rfl, rfl, rfl⟩ : "task" = name ∧ 0 = kk ∧ true = b := by simpa [tbl] using ht
      obtain rfl := List.length_eq_zero_iff.mp hn
      have hl : row.length ≤ 200 := by
        have : (row.all (fun (z : Int) => VawctgNeutral.whole60 z) && decide (row.length ≤ 200)) = true := hask
        rw [Bool.and_eq_true] at this
        exact of_decide_eq_true this.2
      refine ⟨_, rfl, rfl, _, rfl, ite_neS (by decide +kernel) ?_⟩
      refine ⟨_, rfl, rfl, _, rfl, ite_eqS ?_⟩
      exact ⟨_, rfl, a, dx, _, rfl, h.ins, rfl, _, rfl, a, a2, O, st, row, rfl, hH, wf, SqL.of g2, (by omega), k⟩
    | 2, ht =>
      obtain ⟨rfl, rfl, rfl⟩ : "retask" = name ∧ 1 = kk ∧ true = b := by simpa [tbl] using ht
      obtain ⟨x, rfl⟩ := one hn
      have hl : row.length ≤ 200 := by
        have : (VawctgNeutral.whole60 x && (row.all (fun (z : Int) => VawctgNeutral.whole60 z) && decide (row.length ≤ 200))) = true := hask
        rw [Bool.and_eq_true, Bool.and_eq_true] at this
        exact of_decide_eq_true this.2.2
      refine ⟨_, rfl, rfl, _, rfl, ite_neS (by decide +kernel) ?_⟩
      refine ⟨_, rfl, rfl, _, rfl, ite_neS (by decide +kernel) ?_⟩
      refine ⟨_, rfl, rfl, _, rfl, ite_eqS ?_⟩
      exact ⟨_, rfl, a, dx, _, rfl, h.ins, rfl, _, rfl, a1, _, _, _, rfl, rfl, SqL.of g1, atI_nat (j := 0) rfl, _, rfl, a, a2, O, st, x, row, rfl, hH, wf, SqL.of g2, (by omega), k⟩
    | 3, ht =>
      obtain ⟨rfl, rfl, rfl⟩ : "untask" = name ∧ 1 = kk ∧ false = b := by simpa [tbl] using ht
      obtain ⟨x, rfl⟩ := one hn
      iterate 3 refine ⟨_, rfl, rfl, _, rfl, ite_neS (by decide +kernel) ?_⟩
      refine ⟨_, rfl, rfl, _, rfl, ite_eqS ?_⟩
      exact ⟨_, rfl, a, dx, _, rfl, h.ins, rfl, _, rfl, a1, _, _, _, rfl, rfl, SqL.of g1, atI_nat (j := 0) rfl, a, O, st, x, rfl, hH, wf, k⟩
    | 4, ht =>
      obtain ⟨rfl, rfl, rfl⟩ : "order" = name ∧ 0 = kk ∧ true = b := by simpa [tbl] using ht
      obtain rfl := List.length_eq_zero_iff.mp hn
      have hl : row.length ≤ 200 := by
        have : (row.all (fun (z : Int) => VawctgNeutral.whole60 z) && decide (row.length ≤ 200)) = true := hask
        rw [Bool.and_eq_true] at this
        exact of_decide_eq_true this.2
      iterate 4 refine ⟨_, rfl, rfl, _, rfl, ite_neS (by decide +kernel) ?_⟩
      refine ⟨_, rfl, rfl, _, rfl, ite_eqS ?_⟩
      exact ⟨_, rfl, a, dx, _, rfl, h.ins, rfl, _, rfl, a, a2, O, st, row, rfl, hH, wf, SqL.of g2, (by omega), k⟩
    | 5, ht =>
      obtain ⟨rfl, rfl, rfl⟩ : "sorted" = name ∧ 1 = kk ∧ false = b := by simpa [tbl] using ht
      obtain ⟨x, rfl⟩ := one hn
      iterate 5 refine ⟨_, rfl, rfl, _, rfl, ite_neS (by decide +kernel) ?_⟩
      refine ⟨_, rfl, rfl, _, rfl, ite_eqS ?_⟩
      exact ⟨_, rfl, a, dx, _, rfl, h.ins, rfl, _, rfl, a1, _, _, _, rfl, rfl, SqL.of g1, atI_nat (j := 0) rfl, a, O, st, x, rfl, hH, wf, k⟩
    | 6, ht =>
      obtain ⟨rfl, rfl, rfl⟩ : "tasks" = name ∧ 0 = kk ∧ false = b := by simpa [tbl] using ht
      obtain rfl := List.length_eq_zero_iff.mp hn
      iterate 6 refine ⟨_, rfl, rfl, _, rfl, ite_neS (by decide +kernel) ?_⟩
      refine ⟨_, rfl, rfl, _, rfl, ite_eqS ?_⟩
      exact ⟨_, rfl, a, dx, _, rfl, h.ins, rfl, a, O, st, rfl, hH, wf, k⟩
    | 7, ht =>
      obtain ⟨rfl, rfl, rfl⟩ : "ranks" = name ∧ 0 = kk ∧ false = b := by simpa [tbl] using ht
      obtain rfl := List.length_eq_zero_iff.mp hn
      iterate 7 refine ⟨_, rfl, rfl, _, rfl, ite_neS (by decide +kernel) ?_⟩
      refine ⟨_, rfl, rfl, _, rfl, ite_eqS ?_⟩
      exact ⟨_, rfl, a, dx, _, rfl, h.ins, rfl, a, O, st, rfl, hH, wf, k⟩
    | 8, ht =>
      obtain ⟨rfl, rfl, rfl⟩ : "cost" = name ∧ 2 = kk ∧ false = b := by simpa [tbl] using ht
      obtain ⟨x, y, rfl⟩ := two hn
      iterate 8 refine ⟨_, rfl, rfl, _, rfl, ite_neS (by decide +kernel) ?_⟩
      refine ⟨_, rfl, rfl, _, rfl, ite_eqS ?_⟩
      exact ⟨_, rfl, a, dx, _, rfl, h.ins, rfl, _, rfl, a1, _, _, _, rfl, rfl, SqL.of g1, atI_nat (j := 0) rfl, _, rfl, a1, _, _, _, rfl, rfl, SqL.of g1, atI_nat (j := 1) rfl, a, O, st, x, y, rfl, hH, wf, Post.toAsks (ans := Vawctg.answerOf st (.cost x y)) k hH⟩
    | 9, ht =>
      obtain ⟨rfl, rfl, rfl⟩ : "response" = name ∧ 1 = kk ∧ false = b := by simpa [tbl] using ht
      obtain ⟨x, rfl⟩ := one hn
      iterate 9 refine ⟨_, rfl, rfl, _, rfl, ite_neS (by decide +kernel) ?_⟩
      refine ⟨_, rfl, rfl, _, rfl, ite_eqS ?_⟩
      exact ⟨_, rfl, a, dx, _, rfl, h.ins, rfl, _, rfl, a1, _, _, _, rfl, rfl, SqL.of g1, atI_nat (j := 0) rfl, a, O, st, x, rfl, hH, wf, Post.toAsks (ans := Vawctg.answerOf st (.response x)) k hH⟩
    | 10, ht =>
      obtain ⟨rfl, rfl, rfl⟩ : "all" = name ∧ 0 = kk ∧ false = b := by simpa [tbl] using ht
      obtain rfl := List.length_eq_zero_iff.mp hn
      iterate 10 refine ⟨_, rfl, rfl, _, rfl, ite_neS (by decide +kernel) ?_⟩
      refine ⟨_, rfl, rfl, _, rfl, ite_eqS ?_⟩
      exact ⟨_, rfl, a, dx, _, rfl, h.ins, rfl, a, O, st, rfl, hH, wf, Post.toAsks (ans := Vawctg.answerOf st (.all)) k hH⟩
    | 11, ht =>
      obtain ⟨rfl, rfl, rfl⟩ : "best" = name ∧ 0 = kk ∧ false = b := by simpa [tbl] using ht
      obtain rfl := List.length_eq_zero_iff.mp hn
      iterate 11 refine ⟨_, rfl, rfl, _, rfl, ite_neS (by decide +kernel) ?_⟩
      refine ⟨_, rfl, rfl, _, rfl, ite_eqS ?_⟩
      exact ⟨_, rfl, a, dx, _, rfl, h.ins, rfl, a, O, st, rfl, hH, wf, Post.toAsks (ans := Vawctg.answerOf st (.best)) k hH⟩
    | 12, ht =>
      obtain ⟨rfl, rfl, rfl⟩ : "course" = name ∧ 1 = kk ∧ false = b := by simpa [tbl] using ht
      obtain ⟨x, rfl⟩ := one hn
      iterate 12 refine ⟨_, rfl, rfl, _, rfl, ite_neS (by decide +kernel) ?_⟩
      refine ⟨_, rfl, rfl, _, rfl, ite_eqS ?_⟩
      exact ⟨_, rfl, a, dx, _, rfl, h.ins, rfl, _, rfl, a1, _, _, _, rfl, rfl, SqL.of g1, atI_nat (j := 0) rfl, a, O, st, x, rfl, hH, wf, Post.toAsks (ans := Vawctg.answerOf st (.course x)) k hH⟩
    | 13, ht =>
      obtain ⟨rfl, rfl, rfl⟩ : "trace" = name ∧ 2 = kk ∧ false = b := by simpa [tbl] using ht
      obtain ⟨x, y, rfl⟩ := two hn
      iterate 13 refine ⟨_, rfl, rfl, _, rfl, ite_neS (by decide +kernel) ?_⟩
      refine ⟨_, rfl, rfl, _, rfl, ite_eqS ?_⟩
      exact ⟨_, rfl, a, dx, _, rfl, h.ins, rfl, _, rfl, a1, _, _, _, rfl, rfl, SqL.of g1, atI_nat (j := 0) rfl, _, rfl, a1, _, _, _, rfl, rfl, SqL.of g1, atI_nat (j := 1) rfl, a, O, st, x, y, rfl, hH, wf, Post.toAsks (ans := Vawctg.answerOf st (.trace x y)) k hH⟩
    | 14, ht =>
      obtain ⟨rfl, rfl, rfl⟩ : "late" = name ∧ 1 = kk ∧ false = b := by simpa [tbl] using ht
      obtain ⟨x, rfl⟩ := one hn
      iterate 14 refine ⟨_, rfl, rfl, _, rfl, ite_neS (by decide +kernel) ?_⟩
      exact ⟨_, rfl, a, dx, _, rfl, h.ins, rfl, _, rfl, a1, _, _, _, rfl, rfl, SqL.of g1, atI_nat (j := 0) rfl, a, O, st, x, rfl, hH, wf, Post.toAsks (ans := Vawctg.answerOf st (.late x)) k hH⟩
    | p + 15, ht => exact absurd ht (by simp [tbl])
def sp_answers (Pt : Addr) (K : PySem.W.Frag) : Sp := fun vs H Q _ => ∃ (a : Addr) (l : List Int), vs = [.ref a] ∧ SqL K H a (l.map V.int) ∧ l.length ≤ 8200 ∧ PyVawctg.answers_asked l = true ∧ H Pt = some (.tbl #[]) ∧
  ∀ (H' : Hp) (p : Addr), H' p = some (.lst ((PyVawctg.answers l).map V.int)) → Q (.ref p) H'
theorem HeldAt.trim {T : Top_ K mg} {H : Hp} {O : Addr → Prop} {a : Addr} {st : State} (h : HeldAt T H O a st) : HeldAt T H (fun b => O b ∧ ∃ o, H b = some o) a st := h.keep fun b o hb e => ⟨⟨hb, o, e⟩, e⟩
theorem ok_answers {Pt : Addr} (T : Top_ K mg) (hB : BMod base mg) (hPt : T.pt_Held_sort_order = Pt) : FnOk P w K mg base CX0 9 T.a_answers T.d_answers ["calls"] (sp_answers Pt K) := by
  refine T.F_answers.ok sc_answers (fun vs H Q E h => ?_) (fun cdv A outer s H vs Q E hr h => ?_)
  · obtain ⟨a, l, rfl, _⟩ := h
    rfl
  · obtain ⟨a, l, rfl, hS, hlen, hask, hP0, k⟩ := h
    refine ⟨_, (pss_cons (ps_set (i := 1) sc_answers.nd rfl (.inl rfl) (pe_make0 T.mk_Held (ok_Held___init__ T) (hr.mono (by decide)) rfl T.m_Held T.b_Held___init__ .nil pass0))
      (pss_cons (ps_set (i := 2) sc_answers.nd rfl (.inl rfl) (pe_lst pa_nil))
      (pss_cons (ps_for PassesOwn.never rfl (pi_list (pe_call (ok_read_calls T) (hr.mono (by decide)) rfl T.m_read_calls T.F_read_calls.kp T.b_read_calls .nil pass0 (pa_cons (pv 0) pa_nil))) (pg_tup rfl (pgs_cons (pg_name (i := 3) sc_answers.nd rfl (.inl rfl)) (pgs_cons (pg_name (i := 4) sc_answers.nd rfl (.inl rfl)) (pgs_cons (pg_name (i := 5) sc_answers.nd rfl (.inl rfl)) pgs_nil))))
      (pss_cons (ps_set (i := 6) sc_answers.nd rfl (.inl rfl) (pe_call (ok_answer T hB) (hr.mono (by decide)) rfl T.m_answer T.F_answer.kp T.b_answer .nil pass0 (pa_cons (pv 1) (pa_cons (pv 3) (pa_cons (pv 4) (pa_cons (pv 5) pa_nil))))))
      (pss_cons (ps_expr (pe_bm PySem.F.plainAttrs_list PySem.F.slot_list_append PySem.F.type_list_append mt_append (pv 2) (pa_cons (pe_callB call_len_seq (by rfl) T.x_len PySem.boot_len (pa_cons (pv 6) pa_nil)) pa_nil)))
      (pss_one (ps_expr (pe_bm PySem.F.plainAttrs_list PySem.F.slot_list_extend PySem.F.type_list_extend mt_extend (pv 2) (pa_cons (pv 6) pa_nil)))))))
      (pss_one (ps_ret (pv 2)))))), ?_⟩
    obtain ⟨raw, hraw, hrng, hans, hsz⟩ := asked_raw hask
    have hsl := sizeLine_eq
    intro x dx nx ndx nex
    refine ⟨x, dx, fun b => b = Pt, rfl, upd_same, ⟨hPt, .inl ?_⟩, fun H0 O0 hH0 hO0 k0 => ⟨rfl, ?_⟩⟩
    · rw [hPt, upd_ne (ne_of_none hP0 nx), upd_ne (ne_of_none hP0 ndx)]; exact hP0
    have s0 : Same H H0 := Same.made nx ndx k0
    refine ⟨Nat.zero_le _, fun g ng => ?_⟩
    have s1 := Same.new (o := .lst []) ng
    have hH1 : HeldAt T (upd H0 g (.lst [])) (fun b => O0 b ∧ ∃ o, H0 b = some o) x Vawctg.start := hH0.keep fun b o hb e => ⟨⟨hb, o, e⟩, s1 _ _ e⟩
    have g1 : upd H0 g (.lst []) g = some (.lst (([] : List Int).map V.int)) := upd_same
    generalize upd H0 g (.lst []) = H1 at s1 hH1 g1 ⊢
    refine ⟨_, rfl, a, l, raw, rfl, (s0.trans s1).seq hS, hlen, hraw, fun H2 r rs s2 nr gr hP => ?_⟩
    have hO1 : ∀ b, (O0 b ∧ ∃ o, H0 b = some o) → ∃ o, H1 b = some o := fun b ⟨_, o, e⟩ => ⟨o, s1 _ _ e⟩
    have nOg : ¬ (O0 g ∧ ∃ o, H0 g = some o) := fun ⟨_, o, e⟩ => by rw [ng] at e; cases e
    have hlr : rs.length = raw.length := Paired.length hP
    refine ⟨r, rfl, ⟨_, SqL.of gr⟩, for_list (K := K) (a := r) (xs := rs.map V.ref) (fun i σ H' => ∃ (O : Addr → Prop) (v3 v4 v5 v6 : Option V), σ = [some (.ref a), some (.ref x), some (.ref g), v3, v4, v5, v6] ∧
        HeldAt T H' O x (after Vawctg.start ((raw.take i).map PyVawctg.whole)) ∧ (∀ b, O b → ∃ o, H' b = some o) ∧ ¬ O g ∧ H' g = some (.lst ((PyFlat.told (PyFlat.played nstep Vawctg.start ((raw.take i).map PyVawctg.whole))).map V.int)) ∧
        ∀ b o, H1 b = none → H2 b = some o → H' b = some o ∧ ¬ O b)
      ⟨_, none, none, none, none, rfl, hH1.keep fun b o hb e => ⟨hb, s2 _ _ e⟩, fun b hb => (hO1 b hb).imp fun o e => s2 _ _ e, nOg, s2 _ _ g1, fun b o hn e => ⟨e, fun hb => ?_⟩⟩ ?_ ?_ ?_⟩
    · obtain ⟨o', e'⟩ := hO1 b hb
      rw [hn] at e'; cases e'
    · rintro i σ H' _ ⟨O, v3, v4, v5, v6, _, _, _, _, _, hk⟩
      exact SqL.of (hk _ _ nr gr).1
    · rintro i y σ H' hi ⟨O, v3, v4, v5, v6, rfl, hH, hOa, nO, gg, hk⟩
      rw [List.getElem?_map] at hi
      cases e : rs[i]? with
      | none => rw [e] at hi; cases hi
      | some t =>
        rw [e] at hi
        cases (Option.some.inj hi)
        obtain ⟨c, hc, hC⟩ := Paired.at_ hP e
        have hcm := hrng c (List.mem_of_getElem? hc)
        obtain ⟨p, name, kk, b, nums, row, a1, a2, t1, t2, t3, rfl, t5, t6, t7, t8, t9, t10⟩ := hC
        have etk : (raw.take (i + 1)).map PyVawctg.whole = (raw.take i).map PyVawctg.whole ++ [PyVawctg.whole (((p : Int) :: nums) :: (if b then [row] else []))] := by rw [take_snoc hc, List.map_append]; rfl
        refine ⟨t, _, rfl, SqT.of (hk _ _ t5 t8).1, rfl, _, _, rfl, _, _, rfl, _, _, rfl, rfl, ?_⟩
        refine ⟨_, rfl, _, rfl, _, rfl, _, rfl, x, a1, a2, O, _, p, name, kk, b, nums, row, rfl, hH, WF.start.after _, t1, t2, (hk _ _ t6 t9).1, (hk _ _ t7 t10).1, t3, hcm, fun H3 O3 q hH3 hO3 k3 nq nOq gq => ?_⟩
        have hwf := told_snoc Vawctg.start ((raw.take i).map PyVawctg.whole) (PyVawctg.whole (((p : Int) :: nums) :: (if b then [row] else [])))
        have hbound : (PyFlat.told (PyFlat.played nstep Vawctg.start ((raw.take (i + 1)).map PyVawctg.whole))).length ≤ 10000000 := by
          have := told_le Vawctg.start ((raw.take (i + 1)).map PyVawctg.whole) ((raw.drop (i + 1)).map PyVawctg.whole)
          rw [← List.map_append, List.take_append_drop] at this
          omega
        rw [etk, hwf, List.length_append, List.length_cons] at hbound
        have gg3 := k3 _ _ gg nO
        have ngq : g ≠ q := ne_of_none gg nq
        have nO3g : ¬ O3 g := fun z => by
          rcases hO3 g z with z | z
          · exact nO z
          · rw [gg] at z; cases z
        refine ⟨_, rfl, .inl ⟨rfl, _, SqL.of gg3⟩, _, rfl, q, _, rfl, .inl (SqL.of gq), g, _, _, rfl, rfl, gg3, (by rw [List.length_map]; omega), ?_⟩
        refine ⟨_, rfl, .inl ⟨rfl, _, SqL.of upd_same⟩, _, rfl, g, q, _, _, rfl, rfl, upd_same, Eq.trans (upd_ne (Ne.symm ngq)) gq, (by rw [List.length_append, List.length_map, List.length_map]; show _ + 1 + _ ≤ sizeLine; omega), ?_⟩
        refine ⟨fun b => O3 b ∧ ∃ o, H3 b = some o, _, _, _, _, rfl, ?_, fun b hb => ?_, fun z => nO3g z.1, ?_, fun b' o hn e' => ?_⟩
        · rw [etk, after_snoc]
          refine hH3.keep fun b o hb e => ⟨⟨hb, o, e⟩, ?_⟩
          have : b ≠ g := fun z => nO3g (z ▸ hb)
          rw [upd_ne this, upd_ne this]; exact e
        · obtain ⟨hb, o, e⟩ := hb
          have : b ≠ g := fun z => nO3g (z ▸ hb)
          exact ⟨o, by rw [upd_ne this, upd_ne this]; exact e⟩
        · rw [upd_same, etk, hwf, List.map_append, List.map_cons, List.length_map, List.append_assoc]
          rfl
        · obtain ⟨e1, e2⟩ := hk b' o hn e'
          have : b' ≠ g := fun z => by rw [z, g1] at hn; cases hn
          refine ⟨by rw [upd_ne this, upd_ne this]; exact k3 _ _ e1 e2, fun z => ?_⟩
          rcases hO3 b' z.1 with z | z
          · exact e2 z
          · rw [e1] at z; cases z
    · rintro σ H' ⟨O, v3, v4, v5, v6, rfl, hH, hOa, nO, gg, hk⟩
      rw [List.length_map, hlr, List.take_length] at gg
      exact ⟨_, rfl, k _ g (by rw [gg, hans])⟩
end
end My
set_option maxHeartbeats 2000000
namespace My
open PySem PySem.Spec PyProof.Rows L2
open PySem.W (Codec)
theorem binds0 {K : PySem.W.Frag} {x qual : Str} {st : Stmt} {f : Addr} {fd : FuncData} {ps : List Str} (F : Fun K x qual st f fd)
    (h : ∀ (kV doc pm : Value) (an : Option Addr) (cdv ct : Value) (us : List Value), us.length = ps.length → bindArgs (PySem.W.fnOf x qual (defArgs st) (defBody st) (defScope st) .none kV doc pm an cdv ct) ⟨us, []⟩ = pure (ps.zip us)) :
    ∀ (s : Shared) (us : List Value), us.length = ps.length → BindsTo s fd ⟨us, []⟩ (ps.zip us) := by
  obtain ⟨oc, od, kV, doc, pm, an, cdv, ct, osl, rfl, lk, hcd⟩ := F.ex
  exact fun s us hl => .of_eq (h kV doc pm an cdv ct us hl)
end My
def PySem.W.Fast.tw7801089040818513941 : Unit := ()
def PySem.W.Fast.tw8179457969390916922 : Unit := ()
def PySem.W.Fast.tw7876006520069777241 : Unit := ()
def PySem.W.Fast.tw14003010488782748821 : Unit := ()
def PySem.W.Fast.tw1041301346448374502 : Unit := ()
def PySem.W.Fast.tw10008045252174096195 : Unit := ()
def PySem.W.Fast.tw10504623662980404576 : Unit := ()
def PySem.W.Fast.tw14824407890125346081 : Unit := ()
def PySem.W.Fast.tw1394119923800635778 : Unit := ()
def PySem.W.Fast.tw2904182033720436116 : Unit := ()
def PySem.W.Fast.tw3794307102064966633 : Unit := ()
def PySem.W.Fast.tw2455634487989571105 : Unit := ()
def PySem.W.Fast.tw13367013921343378504 : Unit := ()
def PySem.W.Fast.tw9966046869543896971 : Unit := ()
def PySem.W.Fast.tw9520890234109843703 : Unit := ()
open PySem PySem.W PyProof.Rows
local macro_rules | `(tactic| o_headS ($f $K $as $e)) => `(tactic| o_headS (PySem.W.kmHook $K $as $e [337]))
set_option maxHeartbeats 0 in
theorem PySem.Challenge.cw_cachetasks_s01_answers_holds : PySem.Challenge.rw_cachetasks_s01_answers.Holds := by
  w_on
  k_headS
  (case hw => exact ⟨[.list [.int 6]], by decide +kernel, by decide +kernel⟩)
  k_fillS
  refine L2.walk_specT (r := PySem.Challenge.rw_cachetasks_s01_answers) (k := 9) (CX := L2.CX0) (ps := ["calls"]) (sp := My.sp_answers 337) (c := 339) (Pt := 337) (by decide +kernel) rfl rfl ⟨rfl, by decide, by decide⟩ (fun w h Y => PySem.W.km_in_of Y) (fun w h Y => PySem.W.km_tabs_of Y _ (by simp)) (fun _ => rfl) (fun _ => rfl) ?F ?S (fun _ _ _ _ z => z)
  case F =>
    intro w mg fa h Y KX G hmg
    refine' (fun (hT : ∃ T : My.Top_ _ mg, T.pt_Held_sort_order = 337) => ?main) ⟨My.mkTop KX G (pt_x38 := 337)
      ?ac_Jobs ?pg_Jobs ?hd_Jobs ?po_Jobs ?sa_Jobs ?mk_Jobs ?kc_Jobs ?ac_Play ?pg_Play ?hd_Play ?po_Play ?sa_Play ?mk_Play ?kc_Play ?ac_Task ?pg_Task ?hd_Task ?po_Task ?sa_Task ?mk_Task ?kc_Task ?ac_Held ?pg_Held ?hd_Held ?po_Held ?sa_Held ?mk_Held ?kc_Held ?f_x0 ?l_x0 ?cd_x0_ ?kp_x0 ?f_x1 ?l_x1 ?cd_x1_ ?kp_x1 ?f_x2 ?l_x2 ?cd_x2_ ?kp_x2 ?f_x3 ?l_x3 ?cd_x3_ ?kp_x3 ?f_x4 ?l_x4 ?cd_x4_ ?kp_x4 ?f_x5 ?l_x5 ?cd_x5_ ?kp_x5 ?f_x6 ?l_x6 ?cd_x6_ ?kp_x6 ?f_x7 ?l_x7 ?cd_x7_ ?kp_x7 ?f_x8 ?i_x8 ?l_x8 ?cd_x8_ ?kp_x8 ?f_x9 ?i_x9 ?l_x9 ?cd_x9_ ?kp_x9 ?f_x10 ?i_x10 ?l_x10 ?cd_x10_ ?kp_x10 ?f_x11 ?i_x11 ?l_x11 ?cd_x11_ ?kp_x11 ?f_x12 ?i_x12 ?l_x12 ?cd_x12_ ?kp_x12 ?f_x13 ?i_x13 ?l_x13 ?cd_x13_ ?kp_x13 ?f_x14 ?i_x14 ?l_x14 ?cd_x14_ ?kp_x14 ?f_x15 ?i_x15 ?l_x15 ?cd_x15_ ?kp_x15 ?f_x16 ?i_x16 ?l_x16 ?cd_x16_ ?kp_x16 ?f_x17 ?i_x17 ?l_x17 ?cd_x17_ ?kp_x17 ?f_x18 ?i_x18 ?l_x18 ?cd_x18_ ?kp_x18 ?f_x19 ?i_x19 ?l_x19 ?cd_x19_ ?kp_x19 ?f_x20 ?i_x20 ?l_x20 ?cd_x20_ ?kp_x20 ?f_x21 ?i_x21 ?l_x21 ?cd_x21_ ?kp_x21 ?f_x22 ?i_x22 ?l_x22 ?cd_x22_ ?kp_x22 ?f_x23 ?i_x23 ?l_x23 ?cd_x23_ ?kp_x23 ?f_x24 ?i_x24 ?l_x24 ?cd_x24_ ?kp_x24 ?f_x25 ?i_x25 ?l_x25 ?cd_x25_ ?kp_x25 ?f_x26 ?i_x26 ?l_x26 ?cd_x26_ ?kp_x26 ?f_x27 ?l_x27 ?cd_x27_ ?kp_x27 ?f_x28 ?l_x28 ?cd_x28_ ?kp_x28 ?f_x29 ?l_x29 ?cd_x29_ ?kp_x29 ?f_x30 ?l_x30 ?cd_x30_ ?kp_x30 ?f_x31 ?i_x31 ?l_x31 ?cd_x31_ ?kp_x31 ?f_x32 ?i_x32 ?l_x32 ?cd_x32_ ?kp_x32 ?f_x33 ?i_x33 ?l_x33 ?cd_x33_ ?kp_x33 ?f_x34 ?i_x34 ?l_x34 ?cd_x34_ ?kp_x34 ?f_x35 ?i_x35 ?l_x35 ?cd_x35_ ?kp_x35 ?f_x36 ?i_x36 ?l_x36 ?cd_x36_ ?kp_x36 ?f_x37 ?i_x37 ?l_x37 ?cd_x37_ ?kp_x37 ?f_x38 ?i_x38 ?l_x38 ?hd_x38 ?cd_x38_ ?kp_x38 ?f_x39 ?i_x39 ?l_x39 ?cd_x39_ ?kp_x39 ?f_x40 ?i_x40 ?l_x40 ?cd_x40_ ?kp_x40 ?f_x41 ?i_x41 ?l_x41 ?cd_x41_ ?kp_x41 ?f_x42 ?i_x42 ?l_x42 ?cd_x42_ ?kp_x42 ?f_x43 ?i_x43 ?l_x43 ?cd_x43_ ?kp_x43 ?f_x44 ?i_x44 ?l_x44 ?cd_x44_ ?kp_x44 ?f_x45 ?i_x45 ?l_x45 ?cd_x45_ ?kp_x45 ?f_x46 ?i_x46 ?l_x46 ?cd_x46_ ?kp_x46 ?f_x47 ?i_x47 ?l_x47 ?cd_x47_ ?kp_x47 ?f_x48 ?i_x48 ?l_x48 ?cd_x48_ ?kp_x48 ?f_x49 ?i_x49 ?l_x49 ?cd_x49_ ?kp_x49 ?f_x50 ?l_x50 ?cd_x50_ ?kp_x50 ?f_x51 ?l_x51 ?cd_x51_ ?kp_x51 ?n_Jobs_task ?n_Jobs_came ?n_Jobs_due ?n_Jobs_done ?n_Jobs_late ?n_Jobs_greatest ?n_Jobs_least ?n_Jobs_reloads ?n_Jobs_begun ?n_Jobs_left ?n_Jobs_lost ?n_Play_jobs ?n_Play_order ?n_Play_line_cost ?n_Task_period ?n_Task_deadline ?n_Task_cycles ?n_Task_offset ?n_Task_useful ?n_Task_used ?n_Held_tasks ?n_Held_order ?n_Held_line_cost ?g_CALLS ?l_CALLS ?l_CALLS_0 ?l_CALLS_1 ?l_CALLS_2 ?l_CALLS_3 ?l_CALLS_4 ?l_CALLS_5 ?l_CALLS_6 ?l_CALLS_7 ?l_CALLS_8 ?l_CALLS_9 ?l_CALLS_10 ?l_CALLS_11 ?l_CALLS_12 ?l_CALLS_13 ?l_CALLS_14 ?g_MOST_PERIOD ?g_MOST_OFFSET ?g_LAST_LINE ?g_USEFUL_AT ?g_MOST_TASKS ?g_MOST_RELOAD ?g_LAST_TIME ?g_MOST_TRACED ?g_DONE ?g_NOT_SO ?g_NO_TASK ?g_NOT_ABOVE ?g_NO_KIND ?g_OUT_OF_RANGE ?g_TOO_MANY ?g_WRONG_LIST ?g_BY_PERIOD ?g_BY_DEADLINE ?x_range ?x_len ?x_max ?x_enumerate ?x_list ?x_sorted ?x_min ?x_set, rfl⟩
    (case ac_Jobs => k_is)
    (case pg_Jobs => k_is)
    (case hd_Jobs => k_is)
    (case po_Jobs => k_is)
    (case sa_Jobs => k_is)
    (case mk_Jobs => k_is)
    (case kc_Jobs => k_is)
    (case ac_Play => k_is)
    (case pg_Play => k_is)
    (case hd_Play => k_is)
    (case po_Play => k_is)
    (case sa_Play => k_is)
    (case mk_Play => k_is)
    (case kc_Play => k_is)
    (case ac_Task => k_is)
    (case pg_Task => k_is)
    (case hd_Task => k_is)
    (case po_Task => k_is)
    (case sa_Task => k_is)
    (case mk_Task => k_is)
    (case kc_Task => k_is)
    (case ac_Held => k_is)
    (case pg_Held => k_is)
    (case hd_Held => k_is)
    (case po_Held => k_is)
    (case sa_Held => k_is)
    (case mk_Held => k_is)
    (case kc_Held => k_is)
    (case f_x0 => k_is)
    (case l_x0 => k_is)
    (case cd_x0_ => k_is)
    (case kp_x0 => k_is)
    (case f_x1 => k_is)
    (case l_x1 => k_is)
    (case cd_x1_ => k_is)
    (case kp_x1 => k_is)
    (case f_x2 => k_is)
    (case l_x2 => k_is)
    (case cd_x2_ => k_is)
    (case kp_x2 => k_is)
    (case f_x3 => k_is)
    (case l_x3 => k_is)
    (case cd_x3_ => k_is)
    (case kp_x3 => k_is)
    (case f_x4 => k_is)
    (case l_x4 => k_is)
    (case cd_x4_ => k_is)
    (case kp_x4 => k_is)
    (case f_x5 => k_is)
    (case l_x5 => k_is)
    (case cd_x5_ => k_is)
    (case kp_x5 => k_is)
    (case f_x6 => k_is)
    (case l_x6 => k_is)
    (case cd_x6_ => k_is)
    (case kp_x6 => k_is)
    (case f_x7 => k_is)
    (case l_x7 => k_is)
    (case cd_x7_ => k_is)
    (case kp_x7 => k_is)
    (case f_x8 => k_is)
    (case i_x8 => k_is)
    (case l_x8 => k_is)
    (case cd_x8_ => k_is)
    (case kp_x8 => k_is)
    (case f_x9 => k_is)
    (case i_x9 => k_is)
    (case l_x9 => k_is)
    (case cd_x9_ => k_is)
    (case kp_x9 => k_is)
    (case f_x10 => k_is)
    (case i_x10 => k_is)
    (case l_x10 => k_is)
    (case cd_x10_ => k_is)
    (case kp_x10 => k_is)
    (case f_x11 => k_is)
    (case i_x11 => k_is)
    (case l_x11 => k_is)
    (case cd_x11_ => k_is)
    (case kp_x11 => k_is)
    (case f_x12 => k_is)
    (case i_x12 => k_is)
    (case l_x12 => k_is)
    (case cd_x12_ => k_is)
    (case kp_x12 => k_is)
    (case f_x13 => k_is)
    (case i_x13 => k_is)
    (case l_x13 => k_is)
    (case cd_x13_ => k_is)
    (case kp_x13 => k_is)
    (case f_x14 => k_is)
    (case i_x14 => k_is)
    (case l_x14 => k_is)
    (case cd_x14_ => k_is)
    (case kp_x14 => k_is)
    (case f_x15 => k_is)
    (case i_x15 => k_is)
    (case l_x15 => k_is)
    (case cd_x15_ => k_is)
    (case kp_x15 => k_is)
    (case f_x16 => k_is)
    (case i_x16 => k_is)
    (case l_x16 => k_is)
    (case cd_x16_ => k_is)
    (case kp_x16 => k_is)
    (case f_x17 => k_is)
    (case i_x17 => k_is)
    (case l_x17 => k_is)
    (case cd_x17_ => k_is)
    (case kp_x17 => k_is)
    (case f_x18 => k_is)
    (case i_x18 => k_is)
    (case l_x18 => k_is)
    (case cd_x18_ => k_is)
    (case kp_x18 => k_is)
    (case f_x19 => k_is)
    (case i_x19 => k_is)
    (case l_x19 => k_is)
    (case cd_x19_ => k_is)
    (case kp_x19 => k_is)
    (case f_x20 => k_is)
    (case i_x20 => k_is)
    (case l_x20 => k_is)
    (case cd_x20_ => k_is)
    (case kp_x20 => k_is)
    (case f_x21 => k_is)
    (case i_x21 => k_is)
    (case l_x21 => k_is)
    (case cd_x21_ => k_is)
    (case kp_x21 => k_is)
    (case f_x22 => k_is)
    (case i_x22 => k_is)
    (case l_x22 => k_is)
    (case cd_x22_ => k_is)
    (case kp_x22 => k_is)
    (case f_x23 => k_is)
    (case i_x23 => k_is)
    (case l_x23 => k_is)
    (case cd_x23_ => k_is)
    (case kp_x23 => k_is)
    (case f_x24 => k_is)
    (case i_x24 => k_is)
    (case l_x24 => k_is)
    (case cd_x24_ => k_is)
    (case kp_x24 => k_is)
    (case f_x25 => k_is)
    (case i_x25 => k_is)
    (case l_x25 => k_is)
    (case cd_x25_ => k_is)
    (case kp_x25 => k_is)
    (case f_x26 => k_is)
    (case i_x26 => k_is)
    (case l_x26 => k_is)
    (case cd_x26_ => k_is)
    (case kp_x26 => k_is)
    (case f_x27 => k_is)
    (case l_x27 => k_is)
    (case cd_x27_ => k_is)
    (case kp_x27 => k_is)
    (case f_x28 => k_is)
    (case l_x28 => k_is)
    (case cd_x28_ => k_is)
    (case kp_x28 => k_is)
    (case f_x29 => k_is)
    (case l_x29 => k_is)
    (case cd_x29_ => k_is)
    (case kp_x29 => k_is)
    (case f_x30 => k_is)
    (case l_x30 => k_is)
    (case cd_x30_ => k_is)
    (case kp_x30 => k_is)
    (case f_x31 => k_is)
    (case i_x31 => k_is)
    (case l_x31 => k_is)
    (case cd_x31_ => k_is)
    (case kp_x31 => k_is)
    (case f_x32 => k_is)
    (case i_x32 => k_is)
    (case l_x32 => k_is)
    (case cd_x32_ => k_is)
    (case kp_x32 => k_is)
    (case f_x33 => k_is)
    (case i_x33 => k_is)
    (case l_x33 => k_is)
    (case cd_x33_ => k_is)
    (case kp_x33 => k_is)
    (case f_x34 => k_is)
    (case i_x34 => k_is)
    (case l_x34 => k_is)
    (case cd_x34_ => k_is)
    (case kp_x34 => k_is)
    (case f_x35 => k_is)
    (case i_x35 => k_is)
    (case l_x35 => k_is)
    (case cd_x35_ => k_is)
    (case kp_x35 => k_is)
    (case f_x36 => k_is)
    (case i_x36 => k_is)
    (case l_x36 => k_is)
    (case cd_x36_ => k_is)
    (case kp_x36 => k_is)
    (case f_x37 => k_is)
    (case i_x37 => k_is)
    (case l_x37 => k_is)
    (case cd_x37_ => k_is)
    (case kp_x37 => k_is)
    (case f_x38 => k_is)
    (case i_x38 => k_is)
    (case l_x38 => k_is)
    (case hd_x38 => exact rfl)
    (case cd_x38_ => k_is)
    (case kp_x38 => k_is)
    (case f_x39 => k_is)
    (case i_x39 => k_is)
    (case l_x39 => k_is)
    (case cd_x39_ => k_is)
    (case kp_x39 => k_is)
    (case f_x40 => k_is)
    (case i_x40 => k_is)
    (case l_x40 => k_is)
    (case cd_x40_ => k_is)
    (case kp_x40 => k_is)
    (case f_x41 => k_is)
    (case i_x41 => k_is)
    (case l_x41 => k_is)
    (case cd_x41_ => k_is)
    (case kp_x41 => k_is)
    (case f_x42 => k_is)
    (case i_x42 => k_is)
    (case l_x42 => k_is)
    (case cd_x42_ => k_is)
    (case kp_x42 => k_is)
    (case f_x43 => k_is)
    (case i_x43 => k_is)
    (case l_x43 => k_is)
    (case cd_x43_ => k_is)
    (case kp_x43 => k_is)
    (case f_x44 => k_is)
    (case i_x44 => k_is)
    (case l_x44 => k_is)
    (case cd_x44_ => k_is)
    (case kp_x44 => k_is)
    (case f_x45 => k_is)
    (case i_x45 => k_is)
    (case l_x45 => k_is)
    (case cd_x45_ => k_is)
    (case kp_x45 => k_is)
    (case f_x46 => k_is)
    (case i_x46 => k_is)
    (case l_x46 => k_is)
    (case cd_x46_ => k_is)
    (case kp_x46 => k_is)
    (case f_x47 => k_is)
    (case i_x47 => k_is)
    (case l_x47 => k_is)
    (case cd_x47_ => k_is)
    (case kp_x47 => k_is)
    (case f_x48 => k_is)
    (case i_x48 => k_is)
    (case l_x48 => k_is)
    (case cd_x48_ => k_is)
    (case kp_x48 => k_is)
    (case f_x49 => k_is)
    (case i_x49 => k_is)
    (case l_x49 => k_is)
    (case cd_x49_ => k_is)
    (case kp_x49 => k_is)
    (case f_x50 => k_is)
    (case l_x50 => k_is)
    (case cd_x50_ => k_is)
    (case kp_x50 => k_is)
    (case f_x51 => k_is)
    (case l_x51 => k_is)
    (case cd_x51_ => k_is)
    (case kp_x51 => k_is)
    (case n_Jobs_task => k_is)
    (case n_Jobs_came => k_is)
    (case n_Jobs_due => k_is)
    (case n_Jobs_done => k_is)
    (case n_Jobs_late => k_is)
    (case n_Jobs_greatest => k_is)
    (case n_Jobs_least => k_is)
    (case n_Jobs_reloads => k_is)
    (case n_Jobs_begun => k_is)
    (case n_Jobs_left => k_is)
    (case n_Jobs_lost => k_is)
    (case n_Play_jobs => k_is)
    (case n_Play_order => k_is)
    (case n_Play_line_cost => k_is)
    (case n_Task_period => k_is)
    (case n_Task_deadline => k_is)
    (case n_Task_cycles => k_is)
    (case n_Task_offset => k_is)
    (case n_Task_useful => k_is)
    (case n_Task_used => k_is)
    (case n_Held_tasks => k_is)
    (case n_Held_order => k_is)
    (case n_Held_line_cost => k_is)
    (case g_CALLS => k_is)
    (case l_CALLS => k_is)
    (case l_CALLS_0 => k_is)
    (case l_CALLS_1 => k_is)
    (case l_CALLS_2 => k_is)
    (case l_CALLS_3 => k_is)
    (case l_CALLS_4 => k_is)
    (case l_CALLS_5 => k_is)
    (case l_CALLS_6 => k_is)
    (case l_CALLS_7 => k_is)
    (case l_CALLS_8 => k_is)
    (case l_CALLS_9 => k_is)
    (case l_CALLS_10 => k_is)
    (case l_CALLS_11 => k_is)
    (case l_CALLS_12 => k_is)
    (case l_CALLS_13 => k_is)
    (case l_CALLS_14 => k_is)
    (case g_MOST_PERIOD => k_is)
    (case g_MOST_OFFSET => k_is)
    (case g_LAST_LINE => k_is)
    (case g_USEFUL_AT => k_is)
    (case g_MOST_TASKS => k_is)
    (case g_MOST_RELOAD => k_is)
    (case g_LAST_TIME => k_is)
    (case g_MOST_TRACED => k_is)
    (case g_DONE => k_is)
    (case g_NOT_SO => k_is)
    (case g_NO_TASK => k_is)
    (case g_NOT_ABOVE => k_is)
    (case g_NO_KIND => k_is)
    (case g_OUT_OF_RANGE => k_is)
    (case g_TOO_MANY => k_is)
    (case g_WRONG_LIST => k_is)
    (case g_BY_PERIOD => k_is)
    (case g_BY_DEADLINE => k_is)
    (case x_range => k_is)
    (case x_len => k_is)
    (case x_max => k_is)
    (case x_enumerate => k_is)
    (case x_list => k_is)
    (case x_sorted => k_is)
    (case x_min => k_is)
    (case x_set => k_is)
    case main =>
      obtain ⟨T, hPt⟩ := hT
      have e := hmg.symm.trans T.m_answers
      cases e
      exact ⟨T.d_answers, My.binds0 T.F_answers fun _ _ _ _ _ _ us hl => match us, hl with | [_], _ => rfl, fun base _ _ hB => My.ok_answers T hB hPt⟩
  case S =>
    intro K H xs a hO hwi hask hx
    cases hx with
    | cons h1 h2 =>
      cases h2
      cases h1 with
      | lst hs ha =>
        have e := L2.ints_dw a.1 _ ha
        subst e
        have q : ((Codec.inLen 0 8200 a.1 && a.1.all (Codec.inInt (-1000000000000000000) 1000000000000000000)) && true) = true := hwi
        rw [Bool.and_eq_true, Bool.and_eq_true] at q
        exact ⟨_, a.1, rfl, hs, (Codec.inNat_iff.mp q.1.1).2, hask, hO.1, fun H' p hp => .lst (L2.SqL.of hp) (L2.dw_ints _)⟩
