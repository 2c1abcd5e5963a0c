import PyProof.Rows.All
import Wide.All
import OpenK.AllK
import Wide.FinOn
import PyProof.EqAt
import PyProof.EqKinds
import PyProof.TupleCall
import KE.BitLaws
import KE.IntTextLaws
import Open.SpecLaws
import KE.OsHead
import KE.OsGo
import PyProof.StationsW
import PyProof.RulesAs
import PyProof.ExcInit
import PyProof.ExcArgsOwn
import PyProof.ExcBaseAll.ValueError
import PyProof.ExcAttrAll.ValueError
import PyProof.InstStoreFacts
import PySem.Challenge.RW_gamerecord_s06_walk
set_option Elab.async false
set_option linter.all false
set_option maxRecDepth 100000
namespace L2
open PySem PySem.Spec PyProof.Rows
abbrev Key := Sum Int Str
def keyIs : Key → Value → Bool
  | .inl k, v => Value.isInt k v
  | .inr x, v => Value.isStrOf x v
def keyH (w : World) : Key → Int
  | .inl k => hashInt k
  | .inr x => hashStr w x
theorem keyIs_shape : ∀ {k : Key} {v : Value}, keyIs k v = true → (∃ i t, k = Sum.inl i ∧ v = Value.int i t) ∨ (∃ x t, k = Sum.inr x ∧ v = Value.str x t)
  | .inl i, v, h => by
    obtain ⟨t, e⟩ := Value.isInt_shape (k := i) (v := v) h
    exact .inl ⟨i, t, rfl, e⟩
  | .inr x, v, h => by
    obtain ⟨t, e⟩ := Value.isStrOf_shape (x := x) (v := v) h
    exact .inr ⟨x, t, rfl, e⟩
theorem keyIs_int (i : Int) (t : Tok) : keyIs (.inl i) (.int i t) = true := by simp [keyIs, Value.isInt]
theorem keyIs_str (x : Str) (t : Tok) : keyIs (.inr x) (.str x t) = true := by simp [keyIs, Value.isStrOf]
theorem key_ll (a b : Int) : decide ((Sum.inl a : Key) = Sum.inl b) = (a == b) := by
  by_cases e : a = b
  · subst e; simp
  · have h : ¬ (Sum.inl a : Key) = Sum.inl b := fun q => e (Sum.inl.inj q)
    rw [decide_eq_false h]
    exact (beq_eq_false_iff_ne.mpr e).symm
theorem key_rr (a b : Str) : decide ((Sum.inr a : Key) = Sum.inr b) = decide (a = b) := by
  by_cases e : a = b
  · subst e; simp
  · have h : ¬ (Sum.inr a : Key) = Sum.inr b := fun q => e (Sum.inr.inj q)
    rw [decide_eq_false h, decide_eq_false e]
theorem key_lr (a : Int) (b : Str) : decide ((Sum.inl a : Key) = Sum.inr b) = false := decide_eq_false (fun q => nomatch q)
theorem key_rl (a : Str) (b : Int) : decide ((Sum.inr a : Key) = Sum.inl b) = false := decide_eq_false (fun q => nomatch q)
def mixKind (prog : Program) (w : World) : PySem.KeyKind prog w Key where
  is := keyIs
  hash := keyH w
  inj := fun v a b ha hb => by
    rcases keyIs_shape ha with ⟨i, t, rfl, rfl⟩ | ⟨x, t, rfl, rfl⟩
    · rcases keyIs_shape hb with ⟨j, u, rfl, e⟩ | ⟨y, u, rfl, e⟩
      · injection e with e1 _; rw [e1]
      · exact nomatch e
    · rcases keyIs_shape hb with ⟨j, u, rfl, e⟩ | ⟨y, u, rfl, e⟩
      · exact nomatch e
      · injection e with e1 _; rw [e1]
  byValue := fun k v h => by
    rcases keyIs_shape h with ⟨i, t, rfl, rfl⟩ | ⟨x, t, rfl, rfl⟩ <;> rfl
  pyHash := fun hv h => by
    rcases keyIs_shape hv with ⟨i, t, rfl, rfl⟩ | ⟨x, t, rfl, rfl⟩
    · exact wpAny_pyHash_int h
    · exact wpAny_pyHash_str h
  eqBool := fun hu hv h => by
    rcases keyIs_shape hu with ⟨i, t, rfl, rfl⟩ | ⟨x, t, rfl, rfl⟩
    · rcases keyIs_shape hv with ⟨j, u, rfl, rfl⟩ | ⟨y, u, rfl, rfl⟩
      · rw [key_ll] at h; exact wpAny_eqBool_int h
      · rw [key_lr] at h; exact SeqAt.EqAt.int_str i t y u _ _ _ _ h
    · rcases keyIs_shape hv with ⟨j, u, rfl, rfl⟩ | ⟨y, u, rfl, rfl⟩
      · rw [key_rl] at h; exact SeqAt.EqAt.str_int x t j u _ _ _ _ h
      · rw [key_rr] at h; exact wpAny_eqBool_str h
  «strs» := fun k x t v h => by
    rcases keyIs_shape h with ⟨i, u, rfl, e⟩ | ⟨y, u, rfl, e⟩
    · exact nomatch e
    · injection e with e1 _
      subst e1
      cases v <;> rfl
theorem mixKind_int (prog : Program) (w : World) (i : Int) (t : Tok) : (mixKind prog w).is (.inl i) (.int i t) = true := keyIs_int i t
theorem mixKind_str (prog : Program) (w : World) (x : Str) (t : Tok) : (mixKind prog w).is (.inr x) (.str x t) = true := keyIs_str x t
end L2
namespace L2
open PySem PySem.Spec PyProof.Rows
inductive V where
  | non | bl (b : Bool) | int (i : Int) | str (x : Str) | byt (b : Array UInt8) | flt (b : UInt64) | ref (a : Addr) | ty (n : String)
  deriving DecidableEq
def RelV : V → Value → Prop
  | .non, u => u = Value.none
  | .bl b, u => u = Value.bool b
  | .int i, u => ∃ t, u = Value.int i t
  | .str x, u => ∃ t, u = Value.str x t
  | .byt b, u => ∃ t, u = Value.bytes b t
  | .flt b, u => ∃ t, u = Value.float b t
  | .ref a, u => u = Value.ref a
  | .ty n, u => u = Value.type n
abbrev Vals : List V → List Value → Prop := Paired RelV
theorem Vals.length {xs : List V} {us : List Value} (r : Vals xs us) : xs.length = us.length := Paired.length r
theorem Vals.get : ∀ {xs : List V} {us : List Value} {i : Nat} {x : V}, Vals xs us → xs[i]? = some x → ∃ u, us[i]? = some u ∧ RelV x u
  | _, _, _, _, .nil, e => by simp at e
  | _, _, 0, _, .cons r _, e => by simp at e; subst e; exact ⟨_, rfl, r⟩
  | _, _, i + 1, x, .cons _ t, e => by
    obtain ⟨u, h1, h2⟩ := Vals.get (i := i) (x := x) t (by simpa using e)
    exact ⟨u, by simpa using h1, h2⟩
theorem Vals.set {x : V} {u : Value} (r : RelV x u) : ∀ {xs : List V} {us : List Value} (i : Nat), Vals xs us → Vals (xs.set i x) (us.set i u)
  | _, _, _, .nil => .nil
  | _, _, 0, .cons _ t => .cons r t
  | _, _, i + 1, .cons q t => .cons q (Vals.set r i t)
theorem Vals.append : ∀ {xs ys : List V} {us ws : List Value}, Vals xs us → Vals ys ws → Vals (xs ++ ys) (us ++ ws)
  | _, _, _, _, .nil, s => s
  | _, _, _, _, .cons r t, s => .cons r (Vals.append t s)
theorem Vals.take : ∀ {xs : List V} {us : List Value} (n : Nat), Vals xs us → Vals (xs.take n) (us.take n)
  | _, _, 0, _ => .nil
  | _, _, _ + 1, .nil => .nil
  | _, _, n + 1, .cons r t => .cons r (Vals.take n t)
theorem Vals.drop : ∀ {xs : List V} {us : List Value} (n : Nat), Vals xs us → Vals (xs.drop n) (us.drop n)
  | _, _, 0, r => r
  | _, _, _ + 1, .nil => .nil
  | _, _, n + 1, .cons _ t => Vals.drop n t
def RelO : Option V → Option Value → Prop
  | some v, some u => RelV v u
  | none, none => True
  | _, _ => False
def KV {κ : Type} : List (κ × V) → List (κ × Value) → Prop := Paired fun (p : κ × V) (q : κ × Value) => p.1 = q.1 ∧ RelV p.2 q.2
def kV : Key → V
  | .inl i => .int i
  | .inr x => .str x
inductive HO where
  | lst (xs : List V)
  | tup (xs : List V)
  | dK (kvs : List (Key × V)) | dT (kvs : List (List Key × V))
  | set (S : Int → Bool) (n : Nat)
  | ins (C dx : Addr) (fs : List (Str × V))
  | own (x : Addr)
  | xd (fs : List (Str × V))
  | met (f x : Addr)
  | rng (lo hi : Int)
  | frz (o : Obj) (u : HO)
  | tbl (ps : Array Value)
  | ext (φ : Heap → Prop)
abbrev Hp := Addr → Option HO
def upd (H : Hp) (a : Addr) (o : HO) : Hp := fun b => if b = a then some o else H b
theorem upd_same {H : Hp} {a : Addr} {o : HO} : upd H a o a = some o := by unfold upd; rw [if_pos rfl]
theorem upd_ne {H : Hp} {a b : Addr} {o : HO} (h : b ≠ a) : upd H a o b = H b := by unfold upd; rw [if_neg h]
theorem upd_upd {H : Hp} {a : Addr} {o u : HO} : upd (upd H a o) a u = upd H a u := by
  funext b; unfold upd; split <;> rfl
theorem ne_of_none {H : Hp} {a b : Addr} {o : HO} (h : H a = some o) (h' : H b = none) : a ≠ b := by
  intro e; subst e; rw [h] at h'; cases h'
section
variable (P : Program) (w : World)
def ObjOk (H : Hp) (h : Heap) (a : Addr) : HO → Prop
  | .lst xs => xs.length ≤ sizeLine ∧ ∃ (its : List Value) (n : Nat), Vals xs its ∧ h.get? a = some { cls := .type "list", data := .seq its.toArray n }
  | .tup xs => xs.length ≤ sizeLine ∧ ∃ its : List Value, Vals xs its ∧ IsTup h a its.toArray
  | .dK kvs => kvs.length ≤ sizeLine ∧ (a == sysModules) = false ∧ ∃ vs, KV kvs vs ∧ h.DictOf (mixKind P w) a vs
  | .dT kvs => kvs.length ≤ sizeLine ∧ (a == sysModules) = false ∧ ∃ xs : List (List Key × Addr × Value),
      Paired (fun (p : List Key × V) (q : List Key × Addr × Value) => p.1 = q.1 ∧ H q.2.1 = some (.tup (p.1.map kV)) ∧ RelV p.2 q.2.2) kvs xs ∧
      ∃ o es ep, h.get? a = some o ∧ o.ExactDict ∧ o.data = .dict es ep ∧ es.toList = xs.map (entryOfKey (tupleKind (mixKind P w))) ∧ (xs.map (·.1)).Nodup
  | .set S n => h.SetOf (intKind P w) a S n
  | .ins C dx fs => H dx = some (.own a) ∧ fs.length ≤ 1000 ∧ dx ≠ a ∧ h.get? a = some (PySem.W.instObj C dx) ∧
      ∃ mA, h.Ns1 dx mA ∧ (∀ f, RelO (fs.lookup f) (mA f)) ∧ PySem.Within mA (fs.map (·.1))
  | .own _ => ∃ o, h.get? a = some o
  | .xd fs => ∃ mA, h.Ns1 a mA ∧ ∀ f, RelO (fs.lookup f) (mA f)
  | .rng lo hi => ∃ t u v, h.get? a = some { cls := .type "range", data := .fields #[.int lo t, .int hi u, .int 1 v] }
  | .frz o u => h.get? a = some o ∧ ObjOk H h a u
  | .tbl ps => h.get? a = some { cls := .none, data := .fields ps }
  | .met f x => h.get? a = some (PySem.W.methodObj (.ref f) (.ref x))
  | .ext φ => φ h ∧ (∃ o, h.get? a = some o) ∧ ∀ h1 h2 : Heap, φ h1 → (∀ o, h1.get? a = some o → h2.get? a = some o) → φ h2
def HOk (H : Hp) (h : Heap) : Prop := ∀ a o, H a = some o → ObjOk P w H h a o
end
section
variable {P : Program} {w : World} {H H' : Hp} {h h' : Heap} {a : Addr} {o : HO}
theorem ObjOk.lt (x : ObjOk P w H h a o) : a < h.objs.size := by
  cases o with
  | lst xs => obtain ⟨_, _, _, _, e⟩ := x; exact Heap.lt_size e
  | tup xs => obtain ⟨_, _, _, p⟩ := x; exact p.lt
  | dK kvs => obtain ⟨_, _, _, _, o, _, _, e, _⟩ := x; exact Heap.lt_size e
  | dT kvs => obtain ⟨_, _, _, _, o, _, _, e, _⟩ := x; exact Heap.lt_size e
  | set S n => obtain ⟨o, _, _, _, e, _⟩ := x; exact Heap.lt_size e
  | ins C dx fs => obtain ⟨_, _, _, e, _⟩ := x; exact Heap.lt_size e
  | own y => obtain ⟨_, e⟩ := x; exact Heap.lt_size e
  | xd fs => obtain ⟨_, ⟨_, _, _, e, _⟩, _⟩ := x; exact Heap.lt_size e
  | rng lo hi => obtain ⟨_, _, _, e⟩ := x; exact Heap.lt_size e
  | frz ob u => obtain ⟨e, _⟩ := x; exact Heap.lt_size e
  | tbl ps => exact Heap.lt_size (show h.get? a = some _ from x)
  | met f y => exact Heap.lt_size (show h.get? a = some _ from x)
  | ext φ => obtain ⟨_, ⟨_, e⟩, _⟩ := x; exact Heap.lt_size e
theorem Paired.mapP {α β : Type} {F G : α → β → Prop} : ∀ {l₁ : List α} {l₂ : List β}, Paired F l₁ l₂ → (∀ a b, F a b → G a b) → Paired G l₁ l₂
  | _, _, .nil, _ => .nil
  | _, _, .cons r t, f => .cons (f _ _ r) (Paired.mapP t f)
theorem ObjOk.stay (x : ObjOk P w H h a o) (k : ∀ b u, (b = a ∨ H b = some (.own a)) → h.get? b = some u → h'.get? b = some u)
    (ho : ∀ b, H b = some (.own a) → H' b = some (.own a)) (ht : ∀ b xs, H b = some (.tup xs) → H' b = some (.tup xs)) : ObjOk P w H' h' a o := by
  induction o with
  | lst xs => obtain ⟨z, its, n, r, e⟩ := x; exact ⟨z, its, n, r, k _ _ (.inl rfl) e⟩
  | tup xs => obtain ⟨z, its, r, ob, e, c⟩ := x; exact ⟨z, its, r, ob, k _ _ (.inl rfl) e, c⟩
  | dK kvs => obtain ⟨z, y, vs, r, ob, es, ep, e, c⟩ := x; exact ⟨z, y, vs, r, ob, es, ep, k _ _ (.inl rfl) e, c⟩
  | dT kvs =>
    obtain ⟨z, y, xs, r, ob, es, ep, e, c⟩ := x
    exact ⟨z, y, xs, Paired.mapP r fun p q z => ⟨z.1, ht _ _ z.2.1, z.2.2⟩, ob, es, ep, k _ _ (.inl rfl) e, c⟩
  | set S n => obtain ⟨ob, es, ep, t, e, c⟩ := x; exact ⟨ob, es, ep, t, k _ _ (.inl rfl) e, c⟩
  | ins C dx fs =>
    obtain ⟨d, z, ne, e, mA, ⟨od, es, ep, e2, c⟩, r⟩ := x
    exact ⟨ho _ d, z, ne, k _ _ (.inl rfl) e, mA, ⟨od, es, ep, k _ _ (.inr d) e2, c⟩, r⟩
  | own y => obtain ⟨ob, e⟩ := x; exact ⟨ob, k _ _ (.inl rfl) e⟩
  | xd fs => obtain ⟨mA, ⟨od, es, ep, e, c⟩, r⟩ := x; exact ⟨mA, ⟨od, es, ep, k _ _ (.inl rfl) e, c⟩, r⟩
  | rng lo hi => obtain ⟨t, u, v, e⟩ := x; exact ⟨t, u, v, k _ _ (.inl rfl) e⟩
  | frz ob u ih => obtain ⟨e, q⟩ := x; exact ⟨k _ _ (.inl rfl) e, ih q⟩
  | tbl ps =>
    have e : h.get? a = some { cls := .none, data := .fields ps } := x
    show h'.get? a = some { cls := .none, data := .fields ps }
    exact k a _ (.inl rfl) e
  | met f y =>
    have e : h.get? a = some (PySem.W.methodObj (.ref f) (.ref y)) := x
    show h'.get? a = some (PySem.W.methodObj (.ref f) (.ref y))
    exact k a _ (.inl rfl) e
  | ext φ => obtain ⟨p, ⟨o, e⟩, st⟩ := x; exact ⟨st _ _ p fun o q => k _ _ (.inl rfl) q, ⟨o, k _ _ (.inl rfl) e⟩, st⟩
theorem HOk.lt (x : HOk P w H h) (e : H a = some o) : a < h.objs.size := (x a o e).lt
theorem HOk.fresh (x : HOk P w H h) (e : h.objs.size ≤ a) : H a = none := by
  cases q : H a with
  | none => rfl
  | some u => exact absurd (Nat.lt_of_lt_of_le (x.lt q) e) (Nat.lt_irrefl _)
theorem HOk.kept (x : HOk P w H h) (k : ∀ b u, h.get? b = some u → h'.get? b = some u) : HOk P w H h' := fun a o e =>
  (x a o e).stay (fun b u _ q => k b u q) (fun _ q => q) fun _ _ q => q
theorem HOk.laid (x : HOk P w H h) (k : ∀ b u, h.get? b = some u → h'.get? b = some u) (hp : h.objs.size ≤ a) (new : ObjOk P w (upd H a o) h' a o) : HOk P w (upd H a o) h' := fun b u e => by
  have hn := x.fresh hp
  by_cases hb : b = a
  · subst hb; rw [upd_same] at e; cases e; exact new
  · rw [upd_ne hb] at e
    exact (x b u e).stay (fun c v _ q => k c v q) (fun c q => by rw [upd_ne (ne_of_none q hn)]; exact q) fun c xs q => by rw [upd_ne (ne_of_none q hn)]; exact q
end
def Rd (H : Hp) (a : Addr) (u : HO) : Prop := H a = some u ∨ ∃ o, H a = some (.frz o u)
theorem Rd.ok {P : Program} {w : World} {H : Hp} {h : Heap} {a : Addr} {u : HO} (r : Rd H a u) (x : HOk P w H h) : ObjOk P w H h a u := by
  rcases r with r | ⟨o, r⟩
  · exact x a u r
  · obtain ⟨_, q⟩ := x a _ r
    exact q
def Mut : Option HO → Prop
  | some (.lst _) => True
  | some (.dK _) => True
  | some (.dT _) => True
  | some (.set _ _) => True
  | some (.ins _ _ _) => True
  | some (.ext _) => True
  | _ => False
section
variable {P : Program} {w : World} {H : Hp} {h h' : Heap} {x e : Addr} {o' : HO}
theorem HOk.write (ok : HOk P w H h) (mu : Mut (H x)) (he : e = x ∨ H e = some (.own x)) (k : ∀ b u, b ≠ e → h.get? b = some u → h'.get? b = some u) (heo : ∃ u, h'.get? e = some u)
    (new : ObjOk P w (upd H x o') h' x o') : HOk P w (upd H x o') h' := fun b u q => by
  have nown : ∀ c y, H c = some (.own y) → c ≠ x := fun c y r z => by subst z; rw [r] at mu; exact mu
  have ntup : ∀ c xs, H c = some (.tup xs) → c ≠ x := fun c xs r z => by subst z; rw [r] at mu; exact mu
  by_cases hb : b = x
  · subst hb; rw [upd_same] at q; cases q; exact new
  · rw [upd_ne hb] at q
    by_cases hbe : b = e
    · have q' : H b = some (.own x) := by
        rcases he with z | z
        · exact absurd (hbe.trans z) hb
        · rw [hbe]; exact z
      rw [q] at q'; cases q'
      obtain ⟨v, hv⟩ := heo
      exact ⟨v, by rw [hbe]; exact hv⟩
    · refine (ok b u q).stay (fun c v hc r => k c v ?_ r) (fun c r => by rw [upd_ne (nown c b r)]; exact r) fun c xs r => by rw [upd_ne (ntup c xs r)]; exact r
      rcases hc with rfl | hc
      · exact hbe
      · rintro rfl
        rcases he with z | z
        · exact nown c b hc z
        · rw [hc] at z; cases z; exact hb rfl
end
structure Un (fs ex : List Addr) (H H' : Hp) (h h' : Heap) : Prop where
  keep : ∀ b o, h.get? b = some o → H b = none → b ∉ fs → b ∉ ex → h'.get? b = some o
  slot : ∀ b o, h.get? b = some o → H b = none → b ∈ fs → b ∉ ex → ∃ sl, h'.get? b = some { o with slots := sl }
  free : ∀ b o, h.get? b = some o → H b = none → b ∉ ex → H' b = none
  there : ∀ b o, h.get? b = some o → b ∉ ex → ∃ o', h'.get? b = some o'
  tups : ∀ b xs, H b = some (.tup xs) → H' b = some (.tup xs)
  frzs : ∀ b o u, H b = some (.frz o u) → H' b = some (.frz o u)
  tbls : ∀ b ps, H b = some (.tbl ps) → ∃ more, H' b = some (.tbl (ps ++ more))
section
variable {fs fs' ex ex' : List Addr} {H H1 H2 : Hp} {h h1 h2 h' : Heap} {a x e : Addr} {o : HO}
theorem Un.any (u : Un fs ex H H1 h h1) {b : Addr} {ob : Obj} (q : h.get? b = some ob) (n : H b = none) (hx : b ∉ ex) : ∃ sl, h1.get? b = some { ob with slots := sl } := by
  by_cases hb : b ∈ fs
  · exact u.slot b ob q n hb hx
  · exact ⟨ob.slots, u.keep b ob q n hb hx⟩
theorem Un.kept (k : ∀ b u, h.get? b = some u → h'.get? b = some u) : Un fs ex H H h h' :=
  ⟨fun b ob q _ _ _ => k b ob q, fun b ob q _ _ _ => ⟨ob.slots, k b ob q⟩, fun _ _ _ n _ => n, fun b ob q _ => ⟨ob, k b ob q⟩, fun _ _ q => q, fun _ _ _ q => q, fun _ ps q => ⟨#[], by rw [q]; simp⟩⟩
theorem Un.refl : Un fs ex H H h h := Un.kept fun _ _ q => q
theorem Un.laid (k : ∀ b u, h.get? b = some u → h'.get? b = some u) (hp : h.objs.size ≤ a) (hn : H a = none) : Un fs ex H (upd H a o) h h' where
  keep := fun b u q _ _ _ => k b u q
  slot := fun b u q _ _ _ => ⟨u.slots, k b u q⟩
  free := fun b u q n _ => by rw [upd_ne (Nat.ne_of_lt (Nat.lt_of_lt_of_le (Heap.lt_size q) hp))]; exact n
  there := fun b u q _ => ⟨u, k b u q⟩
  tups := fun b xs q => by rw [upd_ne (ne_of_none q hn)]; exact q
  frzs := fun b u xs q => by rw [upd_ne (ne_of_none q hn)]; exact q
  tbls := fun b ps q => ⟨#[], by rw [upd_ne (ne_of_none q hn), q]; simp⟩
theorem Un.write (mu : Mut (H x)) (he : e = x ∨ H e = some (.own x)) (k : ∀ b u, b ≠ e → h.get? b = some u → h'.get? b = some u) (heo : ∃ u, h'.get? e = some u) : Un fs ex H (upd H x o) h h' := by
  have hx : ∀ b, H b = none → b ≠ x := fun b n z => by subst z; rw [n] at mu; exact mu
  have hb : ∀ b, H b = none → b ≠ e := fun b n z => by
    subst z
    rcases he with r | r
    · exact hx b n r
    · rw [n] at r; cases r
  have hm : ∀ b u, H b = some u → ¬ Mut (some u) → b ≠ x := fun b u q nm z => by subst z; rw [q] at mu; exact nm mu
  refine ⟨fun b u q n _ _ => k b u (hb b n) q, fun b u q n _ _ => ⟨u.slots, k b u (hb b n) q⟩, fun b u q n _ => by rw [upd_ne (hx b n)]; exact n, fun b u q _ => ?_,
    fun b xs q => by rw [upd_ne (hm b _ q fun z => z)]; exact q, fun b u xs q => by rw [upd_ne (hm b _ q fun z => z)]; exact q, fun b ps q => ⟨#[], by rw [upd_ne (hm b _ q fun z => z), q]; simp⟩⟩
  by_cases hbe : b = e
  · subst hbe; exact heo
  · exact ⟨u, k b u hbe q⟩
end
def trk (h : Heap) (H : Hp) : List Addr := (List.range h.objs.size).filter fun a => (H a).isSome
def hidT (h : Heap) (H : Hp) : Heap := PySem.W.hideAll h (trk h H)
theorem hidT_size (h : Heap) (H : Hp) : (hidT h H).objs.size = h.objs.size := PySem.W.hideAll_size _ _
theorem hidT_get {h : Heap} {H : Hp} {b : Addr} {o : Obj} (e : h.get? b = some o) (n : H b = none) : (hidT h H).get? b = some o :=
  PySem.W.hideAll_get _ e fun hm => by
    have q : (H b).isSome = true := (List.mem_filter.mp hm).2
    rw [n] at q; simp at q
theorem of_hidT {h : Heap} {H : Hp} {b : Addr} {o : Obj} (e : (hidT h H).get? b = some o) : h.get? b = some o ∧ H b = none := by
  have e' : h.get? b = some o := PySem.W.of_hideAll (trk h H) e
  refine ⟨e', ?_⟩
  cases q : H b with
  | none => rfl
  | some x =>
    have hm : b ∈ trk h H := List.mem_filter.mpr ⟨List.mem_range.mpr (Heap.lt_size e'), by simp [q]⟩
    have z : (hidT h H).get? b = none := PySem.W.hideAll_none (trk h H) hm
    rw [z] at e; cases e
end L2
namespace L2
open PySem PySem.Spec PyProof.Rows
structure Mod (K : PySem.W.Frag) (mg : Str → Option Value) (base : Heap) : Prop where
  kin : K.In base
  glob : base.Ns mainGlobals mg
  blt : ∃ mb, base.Ns builtinsNs mb ∧ ∀ x : Str, x ≠ "__name__" → mb x = bootBuiltins x
  nolimit : base.NoLimit
structure Cx where
  prog : Program
  w : World
  K : PySem.W.Frag
  mg : Str → Option Value
  base : Heap
  A : Around
  N : List Str
  s_0 : Shared
  H_0 : Hp
  env : Env
  outer : List Env
  stack : List Env
  ex : List Addr
  fn : Str → Bool
  calm : Bool
  pn : List (Addr × Obj)
  xe : Value → Shared → Prop
def frs (l : List Env) : List Addr := l.filterMap (·.frame)
abbrev Cx.fs (X : Cx) : List Addr := frs X.outer
def Vis (sc : Scope) (x : Str) : Prop := sc.names.lookup x = some .local ∨ sc.names.lookup x = some .cell ∨ sc.names.lookup x = some .free
def Loc (sc : Scope) (x : Str) : Prop := sc.names.lookup x = some .local ∨ sc.names.lookup x = some .cell
def Look (env : Env) (h : Heap) (m : Str → Option Value) (x : Str) (u : Value) : Prop :=
  (env.kindOf x = some .local ∧ m x = some u) ∨ ((env.kindOf x = some .cell ∨ env.kindOf x = some .free) ∧ ∃ c, env.cells.lookup x = some c ∧ h.IsCell c (some u))
structure Cx.Ok (X : Cx) : Prop where
  mod : Mod X.K X.mg X.base
  kind : X.env.scope.kind = .function
  glob : X.env.globals = mainGlobals
  blt : X.env.builtins = builtinsNs
  above : X.s_0.heap.objs.size ≤ X.env.locals
  inj : ∀ x y c, X.env.cells.lookup x = some c → X.env.cells.lookup y = some c → x = y
  has : ∀ x, (X.env.kindOf x = some .cell ∨ X.env.kindOf x = some .free) → ∃ c, X.env.cells.lookup x = some c
  cab : ∀ x c, X.fn x = true → X.env.cells.lookup x = some c → X.s_0.heap.objs.size ≤ c
  hd : X.calm = true → X.A.handled = none
  frames : X.A.frames = some X.stack
  stk : X.stack = X.outer ∨ (X.stack = X.env :: X.outer ∧ X.env.frame = some X.env.locals)
  exf : ∀ b ∈ X.ex, b ≠ X.env.locals ∧ ∀ x c, X.env.cells.lookup x = some c → c ≠ b
  bs : ∀ b o, X.base.get? b = some o → X.s_0.heap.get? b = some o ∧ X.H_0 b = none
  bsz : X.base.objs.size ≤ X.s_0.heap.objs.size
  noex : ∀ b o, X.base.get? b = some o → b ∉ X.ex
  exfs : ∀ b ∈ X.ex, b ∉ X.fs
  funs : X.s_0.heap.FunFrames X.base X.outer
  frf : ∀ b ∈ X.fs, X.H_0 b = none
structure Inv (X : Cx) (pins : List (Addr × Obj)) (σ : List (Option V)) (H : Hp) (s : Shared) : Prop where
  ok : X.Ok
  os : s.os = X.s_0.os
  bare : AllBare s.gens
  base : Un X.fs X.ex X.H_0 H X.s_0.heap s.heap
  loc : ∃ m, s.heap.Ns X.env.locals m ∧ ∀ (i : Nat) (x : Str) (v : V), X.N[i]? = some x → σ[i]? = some (some v) → Vis X.env.scope x → ∃ u, RelV v u ∧ Look X.env s.heap m x u
  cell : ∀ x c, X.env.cells.lookup x = some c → ∃ v, s.heap.IsCell c v
  free : H X.env.locals = none
  freeC : ∀ x c, X.env.cells.lookup x = some c → H c = none
  pin : ∀ p ∈ X.pn ++ pins, s.heap.get? p.1 = some p.2 ∧ H p.1 = none ∧ p.1 ≠ X.env.locals ∧ p.1 ∉ X.fs ∧ ∀ v, p.2.data ≠ .cell v
  hok : HOk X.prog X.w H s.heap
  len : σ.length = X.N.length
section
variable {X : Cx} {pins : List (Addr × Obj)} {σ : List (Option V)} {H H' : Hp} {s : Shared} {h' : Heap}
theorem Cx.Ok.nofr (ok : X.Ok) {b : Addr} {o : Obj} (e : X.base.get? b = some o) : b ∉ X.fs := fun hb => by
  have := (ok.funs.mem hb).1
  rw [e] at this; cases this
theorem Inv.bs (I : Inv X pins σ H s) : ∀ b o, X.base.get? b = some o → s.heap.get? b = some o ∧ H b = none := fun b o e =>
  ⟨I.base.keep b o (I.ok.bs b o e).1 (I.ok.bs b o e).2 (I.ok.nofr e) (I.ok.noex b o e), I.base.free b o (I.ok.bs b o e).1 (I.ok.bs b o e).2 (I.ok.noex b o e)⟩
theorem Inv.bk (I : Inv X pins σ H s) : ∀ b o, X.base.get? b = some o → s.heap.get? b = some o := fun b o e => (I.bs b o e).1
theorem Inv.mod (I : Inv X pins σ H s) : Mod X.K X.mg X.base := I.ok.mod
theorem Inv.kIn (I : Inv X pins σ H s) : X.K.In s.heap := I.ok.mod.kin.keeps I.bk
theorem Inv.fr (I : Inv X pins σ H s) : ∃ m, Fr X.base X.env.locals s.heap m :=
  let ⟨m, hn, _⟩ := I.loc
  ⟨m, hn, I.bk, Nat.le_trans I.ok.bsz I.ok.above⟩
theorem Inv.lt (I : Inv X pins σ H s) : X.env.locals < s.heap.objs.size := let ⟨_, hn, _⟩ := I.loc; hn.lt
theorem Inv.sz (I : Inv X pins σ H s) : X.s_0.heap.objs.size ≤ s.heap.objs.size := Nat.le_trans I.ok.above (Nat.le_of_lt I.lt)
theorem Inv.nofs (I : Inv X pins σ H s) {a : Addr} (h : s.heap.objs.size ≤ a) : a ∉ X.fs := fun hb => by
  obtain ⟨_, o, ho, _⟩ := I.ok.funs.mem hb
  exact absurd (Nat.lt_of_lt_of_le (Heap.lt_size ho) (Nat.le_trans I.sz h)) (Nat.lt_irrefl _)
theorem Inv.cne (I : Inv X pins σ H s) : ∀ x c, X.env.cells.lookup x = some c → c ≠ X.env.locals := fun x c e z => by
  obtain ⟨v, o, ho, hd⟩ := I.cell x c e
  obtain ⟨m, ⟨o', es, ep, ho', hd', _⟩, _⟩ := I.loc
  rw [z, ho'] at ho; cases ho; rw [hd'] at hd; cases hd
theorem Inv.funs (I : Inv X pins σ H s) : s.heap.FunFrames X.base X.outer := by
  have all : ∀ (l : List Env), (∀ b ∈ frs l, b ∈ X.fs) → X.s_0.heap.FunFrames X.base l → s.heap.FunFrames X.base l := by
    intro l
    induction l with
    | nil => intro _ _; trivial
    | cons env r ih =>
      intro hs hl
      obtain ⟨hk, ⟨L, o, hf, hn, ho, hd⟩, hr⟩ := hl
      have hL : L ∈ X.fs := hs L (by unfold frs; rw [List.filterMap_cons, hf]; exact List.mem_cons_self)
      obtain ⟨sl, e⟩ := I.base.slot L o ho (I.ok.frf L hL) hL fun z => I.ok.exfs L z hL
      exact ⟨hk, ⟨L, _, hf, hn, e, hd⟩, ih (fun b hb => hs b (by unfold frs; rw [List.filterMap_cons, hf]; exact List.mem_cons_of_mem _ hb)) hr⟩
  exact all X.outer (fun _ hb => hb) I.ok.funs
theorem Inv.stack (I : Inv X pins σ H s) : s.heap.FunFrames X.base X.stack := by
  rcases I.ok.stk with e | ⟨e, hf⟩
  · rw [e]; exact I.funs
  · rw [e]
    obtain ⟨m, hn, _⟩ := I.loc
    refine .cons (by rw [I.ok.kind]; decide) hf hn ?_ I.funs
    exact Heap.get?_none_of_le (Nat.le_trans I.ok.bsz I.ok.above)
theorem Inv.stkSub (I : Inv X pins σ H s) : ∀ b ∈ frs X.stack, b ∈ X.env.locals :: X.fs := fun b hb => by
  rcases I.ok.stk with e | ⟨e, hf⟩
  · rw [e] at hb; exact List.mem_cons_of_mem _ hb
  · rw [e] at hb
    unfold frs at hb
    rw [List.filterMap_cons, hf] at hb
    exact hb
theorem Inv.stkFree (I : Inv X pins σ H s) : ∀ b ∈ frs X.stack, H b = none := fun b hb => by
  rcases List.mem_cons.mp (I.stkSub b hb) with e | hb
  · rw [e]; exact I.free
  · obtain ⟨_, o, ho, _⟩ := I.ok.funs.mem hb
    exact I.base.free b o ho (I.ok.frf b hb) fun z => I.ok.exfs b z hb
theorem Inv.step {g' : Array GenState} {t' : Nat} {d' : Drawn} {ch : List Addr} (I : Inv X pins σ H s)
    (hch : ∀ b ∈ ch, (b ∈ X.ex ∨ X.s_0.heap.objs.size ≤ b) ∧ b ≠ X.env.locals ∧ (∀ x c, X.env.cells.lookup x = some c → c ≠ b) ∧ ∀ p ∈ X.pn ++ pins, p.1 ≠ b)
    (keep : ∀ b o, b ≠ X.env.locals → b ∉ X.fs → b ∉ ch → s.heap.get? b = some o → H b = none → h'.get? b = some o)
    (slot : ∀ b o, b ≠ X.env.locals → b ∈ X.fs → b ∉ ch → s.heap.get? b = some o → H b = none → ∃ sl, h'.get? b = some { o with slots := sl }) (free : ∀ b o, b ∉ ch → s.heap.get? b = some o → H b = none → H' b = none)
    (there : ∀ b o, b ∉ ch → s.heap.get? b = some o → ∃ o', h'.get? b = some o')
    (tups : ∀ b xs, H b = some (.tup xs) → H' b = some (.tup xs)) (frzs : ∀ b o u, H b = some (.frz o u) → H' b = some (.frz o u)) (tbls : ∀ b ps, H b = some (.tbl ps) → ∃ more, H' b = some (.tbl (ps ++ more)))
    (ns : ∀ m, s.heap.Ns X.env.locals m → h'.Ns X.env.locals m) (hok : HOk X.prog X.w H' h') (hg : AllBare g') :
    Inv X pins σ H' { s with heap := h', gens := g', drawn := d', toks := t' } := by
  have neL : ∀ b o, X.s_0.heap.get? b = some o → b ≠ X.env.locals := fun b o e => Nat.ne_of_lt (Nat.lt_of_lt_of_le (Heap.lt_size e) I.ok.above)
  have neC : ∀ b o, X.s_0.heap.get? b = some o → b ∉ X.ex → b ∉ ch := fun b o e hx hb => by
    rcases (hch b hb).1 with z | z
    · exact hx z
    · exact absurd (Nat.lt_of_lt_of_le (Heap.lt_size e) z) (Nat.lt_irrefl _)
  have cellK : ∀ x c, X.env.cells.lookup x = some c → ∀ v, s.heap.IsCell c v → h'.IsCell c v := fun x c e v ⟨o, ho, hd⟩ => by
    have nch : c ∉ ch := fun z => (hch c z).2.2.1 x c e rfl
    by_cases hc : c ∈ X.fs
    · obtain ⟨sl, q⟩ := slot c o (I.cne x c e) hc nch ho (I.freeC x c e)
      exact ⟨_, q, hd⟩
    · exact ⟨o, keep c o (I.cne x c e) hc nch ho (I.freeC x c e), hd⟩
  refine ⟨I.ok, I.os, hg, ⟨fun b o e n hb hx => ?_, fun b o e n hb hx => ?_, fun b o e n hx => ?_, fun b o e hx => ?_, fun b xs e => tups b xs (I.base.tups b xs e), fun b o xs e => frzs b o xs (I.base.frzs b o xs e), fun b ps e => ?_⟩, ?_, fun x c e => ?_, ?_, fun x c e => ?_, fun p hp => ?_, hok, I.len⟩
  · exact keep b o (neL b o e) hb (neC b o e hx) (I.base.keep b o e n hb hx) (I.base.free b o e n hx)
  · obtain ⟨sl, e1⟩ := I.base.slot b o e n hb hx
    obtain ⟨sl', e2⟩ := slot b _ (neL b o e) hb (neC b o e hx) e1 (I.base.free b o e n hx)
    exact ⟨sl', e2⟩
  · obtain ⟨o', e1⟩ := I.base.there b o e hx
    exact free b o' (neC b o e hx) e1 (I.base.free b o e n hx)
  · obtain ⟨o', e1⟩ := I.base.there b o e hx
    exact there b o' (neC b o e hx) e1
  · obtain ⟨m1, e1⟩ := I.base.tbls b ps e
    obtain ⟨m2, e2⟩ := tbls b _ e1
    exact ⟨m1 ++ m2, by rw [e2, Array.append_assoc]⟩
  · obtain ⟨m, hn, hl⟩ := I.loc
    refine ⟨m, ns m hn, fun i x v e1 e2 e3 => ?_⟩
    obtain ⟨u, r, l⟩ := hl i x v e1 e2 e3
    refine ⟨u, r, ?_⟩
    rcases l with l | ⟨k, c, e, z⟩
    · exact .inl l
    · exact .inr ⟨k, c, e, cellK x c e _ z⟩
  · obtain ⟨v, z⟩ := I.cell x c e
    exact ⟨v, cellK x c e v z⟩
  · obtain ⟨m, ⟨o, _, _, ho, _⟩, _⟩ := I.loc
    exact free _ o (fun z => (hch _ z).2.1 rfl) ho I.free
  · obtain ⟨v, o, ho, hd⟩ := I.cell x c e
    exact free c o (fun z => (hch c z).2.2.1 x c e rfl) ho (I.freeC x c e)
  · obtain ⟨e, n, ne, nf, d⟩ := I.pin p hp
    have nch : p.1 ∉ ch := fun z => (hch p.1 z).2.2.2 p hp rfl
    exact ⟨keep p.1 p.2 ne nf nch e n, free p.1 p.2 nch e n, ne, nf, d⟩
theorem Inv.un {t' : Nat} (I : Inv X pins σ H s) (u : Un X.fs [] H H' s.heap h') (hok : HOk X.prog X.w H' h') : Inv X pins σ H' { s with heap := h', toks := t' } := by
  obtain ⟨m, ⟨o, es, ep, ho, r⟩, _⟩ := id I.loc
  obtain ⟨sl, hL⟩ := u.any ho I.free (by simp)
  exact I.step (g' := s.gens) (d' := s.drawn) (ch := []) (fun _ z => nomatch z) (fun b o _ hb _ e n => u.keep b o e n hb (by simp)) (fun b o _ hb _ e n => u.slot b o e n hb (by simp)) (fun b o _ e n => u.free b o e n (by simp)) (fun b o _ e => u.there b o e (by simp)) u.tups u.frzs u.tbls (fun m' hm => by
    obtain ⟨o', es', ep', ho', r'⟩ := hm
    rw [ho] at ho'; cases ho'
    exact ⟨_, es', ep', hL, r'⟩) hok I.bare
theorem Inv.call {g' : Array GenState} {t' : Nat} {d' : Drawn} {ch : List Addr} (I : Inv X pins σ H s) (u : Un (frs X.stack) ch H H' s.heap h') (hok : HOk X.prog X.w H' h') (hg : AllBare g')
    (hch : ∀ b ∈ ch, (b ∈ X.ex ∨ X.s_0.heap.objs.size ≤ b) ∧ b ≠ X.env.locals ∧ (∀ x c, X.env.cells.lookup x = some c → c ≠ b) ∧ ∀ p ∈ X.pn ++ pins, p.1 ≠ b) :
    Inv X pins σ H' { s with heap := h', gens := g', drawn := d', toks := t' } := by
  obtain ⟨m, ⟨o, es, ep, ho, r⟩, _⟩ := id I.loc
  obtain ⟨sl, hL⟩ := u.any ho I.free fun z => (hch _ z).2.1 rfl
  exact I.step (ch := ch) hch (fun b o hL hb hc e n => u.keep b o e n (fun z => (List.mem_cons.mp (I.stkSub b z)).elim hL hb) hc) (fun b o _ _ hc e n => u.any e n hc) (fun b o hc e n => u.free b o e n hc) (fun b o hc e => u.there b o e hc) u.tups u.frzs u.tbls (fun m' hm => by
    obtain ⟨o', es', ep', ho', r'⟩ := hm
    rw [ho] at ho'; cases ho'
    exact ⟨_, es', ep', hL, r'⟩) hok hg
theorem Inv.turned {t' : Nat} {it : Addr} (I : Inv X pins σ H s) (k : ∀ b o, b ≠ it → s.heap.get? b = some o → h'.get? b = some o) (hn : H it = none) (hL : it ≠ X.env.locals)
    (h1 : it ∈ X.ex ∨ X.s_0.heap.objs.size ≤ it) (h2 : ∀ x c, X.env.cells.lookup x = some c → c ≠ it) (h3 : ∀ p ∈ X.pn ++ pins, p.1 ≠ it) : Inv X pins σ H { s with heap := h', toks := t' } := by
  have nit : ∀ b u, H b = some u → b ≠ it := fun b u e z => by rw [z, hn] at e; cases e
  refine I.step (g' := s.gens) (d' := s.drawn) (ch := [it]) (fun b hb => ?_) (fun b o _ _ hc e _ => k b o (fun z => hc (by simp [z])) e) (fun b o _ _ hc e _ => ⟨o.slots, k b o (fun z => hc (by simp [z])) e⟩) (fun _ _ _ _ n => n)
    (fun b o hc e => ⟨o, k b o (fun z => hc (by simp [z])) e⟩) (fun _ _ e => e) (fun _ _ _ e => e) (fun b ps e => ⟨#[], by rw [e]; simp⟩) (fun m hm => ?_) (fun b u e => ?_) I.bare
  · have e : b = it := by simpa using hb
    subst e
    exact ⟨h1, hL, h2, h3⟩
  · obtain ⟨o, es, ep, ho, r⟩ := hm
    exact ⟨o, es, ep, k _ o (Ne.symm hL) ho, r⟩
  · refine (I.hok b u e).stay (fun c v hc q => k c v ?_ q) (fun _ q => q) fun _ _ q => q
    rcases hc with z | z
    · rw [z]; exact nit b u e
    · exact nit c _ z
theorem Inv.tok (I : Inv X pins σ H s) (t : Nat) : Inv X pins σ H { s with toks := t } := I.un (h' := s.heap) (t' := t) Un.refl I.hok
theorem Inv.kept {t' : Nat} (I : Inv X pins σ H s) (k : ∀ b u, s.heap.get? b = some u → h'.get? b = some u) : Inv X pins σ H { s with heap := h', toks := t' } := I.un (Un.kept k) (I.hok.kept k)
theorem Inv.laid {a : Addr} {o : HO} {t' : Nat} (I : Inv X pins σ H s) (k : ∀ b u, s.heap.get? b = some u → h'.get? b = some u) (hp : s.heap.objs.size ≤ a) (new : ObjOk X.prog X.w (upd H a o) h' a o) :
    Inv X pins σ (upd H a o) { s with heap := h', toks := t' } := I.un (Un.laid k hp (I.hok.fresh hp)) (I.hok.laid k hp new)
theorem Inv.write {x e : Addr} {o : HO} {t' : Nat} (I : Inv X pins σ H s) (mu : Mut (H x)) (he : e = x ∨ H e = some (.own x)) (k : ∀ b u, b ≠ e → s.heap.get? b = some u → h'.get? b = some u) (heo : ∃ u, h'.get? e = some u)
    (new : ObjOk X.prog X.w (upd H x o) h' x o) : Inv X pins σ (upd H x o) { s with heap := h', toks := t' } := I.un (Un.write mu he k heo) (I.hok.write mu he k heo new)
theorem Inv.weak {σ' : List (Option V)} (I : Inv X pins σ H s) (hl : σ'.length = σ.length) (w : ∀ (i : Nat) v, σ'[i]? = some (some v) → σ[i]? = some (some v)) : Inv X pins σ' H s :=
  ⟨I.ok, I.os, I.bare, I.base, let ⟨m, hn, hl'⟩ := I.loc; ⟨m, hn, fun i x v e1 e2 e3 => hl' i x v e1 (w i v e2) e3⟩, I.cell, I.free, I.freeC, I.pin, I.hok, hl.trans I.len⟩
theorem Inv.pins_of {pins' : List (Addr × Obj)} (I : Inv X pins σ H s) (h : ∀ p ∈ pins', s.heap.get? p.1 = some p.2 ∧ H p.1 = none ∧ p.1 ≠ X.env.locals ∧ p.1 ∉ X.fs ∧ ∀ v, p.2.data ≠ .cell v) : Inv X pins' σ H s :=
  ⟨I.ok, I.os, I.bare, I.base, I.loc, I.cell, I.free, I.freeC, fun p hp => (List.mem_append.mp hp).elim (fun z => I.pin p (List.mem_append_left _ z)) (h p), I.hok, I.len⟩
theorem nodup_ix {N : List Str} (hN : N.Nodup) {i j : Nat} {x : Str} (a : N[i]? = some x) (b : N[j]? = some x) : i = j := by
  obtain ⟨h1, e1⟩ := List.getElem?_eq_some_iff.mp a
  obtain ⟨h2, e2⟩ := List.getElem?_eq_some_iff.mp b
  exact (List.getElem_inj hN).mp (e1.trans e2.symm)
theorem store_ok2 {M : Model} {A : Around} {E : Value → Shared → Prop} {i : Nat} {x : Str} {v : V} {u : Value} {Q : Unit → Shared → Prop} (I : Inv X pins σ H s) (hN : X.N.Nodup) (hi : X.N[i]? = some x) (hx : Loc X.env.scope x) (r : RelV v u)
    (h : ∀ s', Inv X pins (σ.set i (some v)) H s' → (∃ a, Heap.SameBut a s.heap s'.heap ∧ (a = X.env.locals ∨ X.env.cells.lookup x = some a)) → Q () s') (hf : X.fn x = true ∨ X.env.scope.names.lookup x = some .local := by first | exact .inl rfl | exact .inr rfl | assumption) : wpAny M A (storeName X.env x u) Q E s := by
  obtain ⟨m, hn, hl⟩ := id I.loc
  have hcls : (X.env.scope.kind == .class || (X.env.scope.kind == .module && X.env.locals != X.env.globals)) = false := by rw [I.ok.kind]; rfl
  have hiσ : i < σ.length := by rw [I.len]; exact (List.getElem?_eq_some_iff.mp hi).1
  have cne := I.cne
  have tracked : ∀ {a : Addr} {h' : Heap}, (∃ o, s.heap.get? a = some o ∧ H a = none) → Heap.SameBut a s.heap h' → HOk X.prog X.w H h' := fun {a h'} ha hs b ob e => by
    obtain ⟨_, _, hfree⟩ := ha
    refine (I.hok b ob e).stay (fun c w' hc q => (hs.2 c ?_).trans q) (fun _ q => q) fun _ _ q => q
    rintro rfl
    rcases hc with rfl | hc
    · rw [hfree] at e; cases e
    · rw [hfree] at hc; cases hc
  rcases hx with hk | hk
  · refine wpAny_storeName_local hk hn (fun h' hn' hs => ?_) hcls
    obtain ⟨oL, _, _, hoL, _⟩ := id hn
    refine h _ ⟨I.ok, I.os, I.bare, ⟨fun b o e n hb hx => ?_, fun b o e n hb hx => ?_, I.base.free, fun b o e hx => ?_, I.base.tups, I.base.frzs, I.base.tbls⟩, ⟨_, hn', fun j y v' e1 e2 e3 => ?_⟩, fun y c e => ?_, I.free, I.freeC, fun p hp => ?_, tracked ⟨oL, hoL, I.free⟩ hs, by simpa using I.len⟩ ⟨_, hs, .inl rfl⟩
    · exact (hs.2 b (Nat.ne_of_lt (Nat.lt_of_lt_of_le (Heap.lt_size e) I.ok.above))).trans (I.base.keep b o e n hb hx)
    · obtain ⟨sl, e1⟩ := I.base.slot b o e n hb hx
      exact ⟨sl, (hs.2 b (Nat.ne_of_lt (Nat.lt_of_lt_of_le (Heap.lt_size e) I.ok.above))).trans e1⟩
    · obtain ⟨o', e1⟩ := I.base.there b o e hx
      exact ⟨o', (hs.2 b (Nat.ne_of_lt (Nat.lt_of_lt_of_le (Heap.lt_size e) I.ok.above))).trans e1⟩
    · by_cases hj : j = i
      · subst hj
        rw [hi] at e1; cases e1
        rw [List.getElem?_set_self hiσ] at e2
        cases e2
        exact ⟨u, r, .inl ⟨hk, by simp⟩⟩
      · rw [List.getElem?_set_ne (Ne.symm hj)] at e2
        obtain ⟨u', r', q⟩ := hl j y v' e1 e2 e3
        refine ⟨u', r', ?_⟩
        rcases q with ⟨k, e⟩ | ⟨k, c, e, z⟩
        · refine .inl ⟨k, ?_⟩
          have : y ≠ x := fun e => hj (nodup_ix hN e1 (e ▸ hi))
          simp [this, e]
        · exact .inr ⟨k, c, e, z.sameBut hs (cne y c e)⟩
    · obtain ⟨w', z⟩ := I.cell y c e
      exact ⟨w', z.sameBut hs (cne y c e)⟩
    · obtain ⟨e, n, ne, nf, d⟩ := I.pin p hp
      exact ⟨(hs.2 p.1 ne).trans e, n, ne, nf, d⟩
  · have hfn : X.fn x = true := by
      rcases hf with z | z
      · exact z
      · rw [z] at hk; cases hk
    obtain ⟨c, hc⟩ := I.ok.has x (.inl hk)
    obtain ⟨w', z⟩ := I.cell x c hc
    refine wpAny_storeName_cell I.ok.kind hk hc z (fun h' hc' hs => ?_)
    obtain ⟨oc, hoc, hocd⟩ := id z
    refine h { s with heap := h' } ⟨I.ok, I.os, I.bare, ⟨fun b o e n hb hx => ?_, fun b o e n hb hx => ?_, I.base.free, fun b o e hx => ?_, I.base.tups, I.base.frzs, I.base.tbls⟩, ⟨m, hn.sameBut hs (Ne.symm (cne x c hc)), fun j y v' e1 e2 e3 => ?_⟩, fun y c' e => ?_, I.free, I.freeC, fun p hp => ?_, tracked ⟨oc, hoc, I.freeC x c hc⟩ hs, by simpa using I.len⟩ ⟨c, hs, .inr hc⟩
    · exact (hs.2 b (Nat.ne_of_lt (Nat.lt_of_lt_of_le (Heap.lt_size e) (I.ok.cab x c hfn hc)))).trans (I.base.keep b o e n hb hx)
    · obtain ⟨sl, e1⟩ := I.base.slot b o e n hb hx
      exact ⟨sl, (hs.2 b (Nat.ne_of_lt (Nat.lt_of_lt_of_le (Heap.lt_size e) (I.ok.cab x c hfn hc)))).trans e1⟩
    · obtain ⟨o', e1⟩ := I.base.there b o e hx
      exact ⟨o', (hs.2 b (Nat.ne_of_lt (Nat.lt_of_lt_of_le (Heap.lt_size e) (I.ok.cab x c hfn hc)))).trans e1⟩
    · by_cases hj : j = i
      · subst hj
        rw [hi] at e1; cases e1
        rw [List.getElem?_set_self hiσ] at e2
        cases e2
        exact ⟨u, r, .inr ⟨.inl hk, c, hc, hc'⟩⟩
      · rw [List.getElem?_set_ne (Ne.symm hj)] at e2
        obtain ⟨u', r', q⟩ := hl j y v' e1 e2 e3
        refine ⟨u', r', ?_⟩
        rcases q with q | ⟨k, c', e, z'⟩
        · exact .inl q
        · refine .inr ⟨k, c', e, z'.sameBut hs ?_⟩
          rintro rfl
          exact hj (nodup_ix hN e1 (I.ok.inj _ _ _ e hc ▸ hi))
    · by_cases hcc : c' = c
      · subst hcc; exact ⟨_, hc'⟩
      · obtain ⟨w2, z2⟩ := I.cell y c' e
        exact ⟨w2, z2.sameBut hs hcc⟩
    · obtain ⟨e, n, ne, nf, d⟩ := I.pin p hp
      refine ⟨(hs.2 p.1 ?_).trans e, n, ne, nf, d⟩
      intro q
      rw [q, hoc] at e
      have q' : oc = p.2 := Option.some.inj e
      exact d w' (by rw [← q']; exact hocd)
theorem store_ok {M : Model} {A : Around} {E : Value → Shared → Prop} {i : Nat} {x : Str} {v : V} {u : Value} {Q : Unit → Shared → Prop} (I : Inv X pins σ H s) (hN : X.N.Nodup) (hi : X.N[i]? = some x) (hx : Loc X.env.scope x) (r : RelV v u)
    (h : ∀ s', Inv X pins (σ.set i (some v)) H s' → Q () s') (hf : X.fn x = true ∨ X.env.scope.names.lookup x = some .local := by first | exact .inl rfl | exact .inr rfl | assumption) : wpAny M A (storeName X.env x u) Q E s :=
  store_ok2 I hN hi hx r (fun s' I' _ => h s' I') hf
theorem Inv.call' {s' : Shared} {ch : List Addr} (I : Inv X pins σ H s) (ho : s'.os = s.os) (u : Un (frs X.stack) ch H H' s.heap s'.heap) (hok : HOk X.prog X.w H' s'.heap) (hg : AllBare s'.gens)
    (hch : ∀ b ∈ ch, (b ∈ X.ex ∨ X.s_0.heap.objs.size ≤ b) ∧ b ≠ X.env.locals ∧ (∀ x c, X.env.cells.lookup x = some c → c ≠ b) ∧ ∀ p ∈ X.pn ++ pins, p.1 ≠ b) : Inv X pins σ H' s' := by
  obtain ⟨h', g', d', t', o'⟩ := s'
  have e : o' = s.os := ho
  subst e
  exact I.call (g' := g') (t' := t') (d' := d') u hok hg hch
end
abbrev XK := Value → Option Addr → Hp → Prop
abbrev St := List (Option V)
abbrev VK := V → Hp → Prop
abbrev TE := St → Hp → VK → Prop
abbrev TT := St → Hp → (Bool → Hp → Prop) → Prop
abbrev TA := St → Hp → (List V → Hp → Prop) → Prop
structure Ends where
  nx : St → Hp → Prop
  rt : VK
  bk : St → Hp → Prop := fun _ _ => False
  ct : St → Hp → Prop := fun _ _ => False
abbrev TS := Ends → St → Hp → Prop
def EP (X : Cx) (pins : List (Addr × Obj)) (σ : St) (Q : VK) (u : Value) (s' : Shared) : Prop := ∃ v H', Inv X pins σ H' s' ∧ RelV v u ∧ Q v H'
def TP (X : Cx) (pins : List (Addr × Obj)) (σ : St) (Q : Bool → Hp → Prop) (b : Bool) (s' : Shared) : Prop := ∃ H', Inv X pins σ H' s' ∧ Q b H'
def AP (X : Cx) (pins : List (Addr × Obj)) (σ : St) (Q : List V → Hp → Prop) (us : List Value) (s' : Shared) : Prop := ∃ vs H', Inv X pins σ H' s' ∧ Vals vs us ∧ Q vs H'
def SP (X : Cx) (pins : List (Addr × Obj)) (D : Ends) (f : Flow) (s' : Shared) : Prop :=
  match f with
  | .next => ∃ σ' H', Inv X pins σ' H' s' ∧ D.nx σ' H'
  | .brk => ∃ σ' H', Inv X pins σ' H' s' ∧ D.bk σ' H'
  | .cont => ∃ σ' H', Inv X pins σ' H' s' ∧ D.ct σ' H'
  | .ret u => ∃ v σ' H', Inv X pins σ' H' s' ∧ RelV v u ∧ D.rt v H'
def PE (X : Cx) (e : Expr) (t : TE) : Prop :=
  ∀ (pins : List (Addr × Obj)) (s : Shared) (σ : St) (H : Hp) (Q : VK), Inv X pins σ H s → t σ H Q → wpAny (model X.prog X.w) X.A (eval e X.env) (EP X pins σ Q) X.xe s
def PT (X : Cx) (e : Expr) (t : TT) : Prop :=
  ∀ (pins : List (Addr × Obj)) (s : Shared) (σ : St) (H : Hp) (Q : Bool → Hp → Prop), Inv X pins σ H s → t σ H Q → wpAny (model X.prog X.w) X.A (isTrue e X.env (eval e X.env)) (TP X pins σ Q) X.xe s
def PW (X : Cx) (e : Expr) (t : TT) : Prop :=
  ∀ (whole : Sem Value) (pins : List (Addr × Obj)) (s : Shared) (σ : St) (H : Hp) (Q : Bool → Hp → Prop), Inv X pins σ H s → t σ H Q → wpAny (model X.prog X.w) X.A (isTrue e X.env whole) (TP X pins σ Q) X.xe s
theorem PW.pt {X : Cx} {e : Expr} {t : TT} (h : PW X e t) : PT X e t := h _
def PA (X : Cx) (es : List Expr) (t : TA) : Prop :=
  ∀ (pos : Pos) (pins : List (Addr × Obj)) (s : Shared) (σ : St) (H : Hp) (Q : List V → Hp → Prop), Inv X pins σ H s → t σ H Q → wpAny (model X.prog X.w) X.A (spliced (backTo pos (starEach es X.env))) (AP X pins σ Q) X.xe s
def PS (X : Cx) (st : Stmt) (t : TS) : Prop :=
  ∀ (pins : List (Addr × Obj)) (s : Shared) (σ : St) (H : Hp) (D : Ends), Inv X pins σ H s → t D σ H → wpAny (model X.prog X.w) X.A (exec st X.env) (SP X pins D) X.xe s
def PSs (X : Cx) (st : List Stmt) (t : TS) : Prop :=
  ∀ (pins : List (Addr × Obj)) (s : Shared) (σ : St) (H : Hp) (D : Ends), Inv X pins σ H s → t D σ H → wpAny (model X.prog X.w) X.A (execs st X.env) (SP X pins D) X.xe s
theorem thn {α : Type} {t : Sem α} {Q Q' : α → Shared → Prop} {M : Model} {A : Around} {E : Value → Shared → Prop} {s : Shared} (h : wpAny M A t Q E s) (hQ : ∀ a s, Q a s → Q' a s) : wpAny M A t Q' E s := wpAny_mono h hQ fun _ _ x => x
end L2
namespace L2
open PySem PySem.Spec PyProof.Rows
section
variable {X : Cx}
theorem bin {a b : Expr} {ta tb : TE} (ha : PE X a ta) (hb : PE X b tb) {pins : List (Addr × Obj)} {s : Shared} {σ : St} {H : Hp} {R : V → V → Hp → Prop} (I : Inv X pins σ H s) (h : ta σ H fun x H1 => tb σ H1 fun y H2 => R x y H2)
    {α : Type} {Q : α → Shared → Prop} {f : Value → Value → Sem α}
    (hf : ∀ v u s2 x y H2, Inv X pins σ H2 s2 → RelV x v → RelV y u → R x y H2 → wpAny (model X.prog X.w) X.A (f v u) Q X.xe s2) :
    wpAny (model X.prog X.w) X.A (eval a X.env) (fun v s₁ => wpAny (model X.prog X.w) X.A (eval b X.env) (fun u s₂ => wpAny (model X.prog X.w) X.A (f v u) Q X.xe s₂) X.xe s₁) X.xe s := by
  refine thn (ha pins s σ H _ I h) fun v s1 ⟨x, H1, I1, r1, q1⟩ => ?_
  refine thn (hb pins s1 σ H1 _ I1 q1) fun u s2 ⟨y, H2, I2, r2, q2⟩ => ?_
  exact hf v u s2 x y H2 I2 r1 r2 q2
def tVar (i : Nat) : TE := fun σ H Q => ∃ v, σ[i]? = some (some v) ∧ Q v H
def tC (v : V) : TE := fun _ H Q => Q v H
theorem pe_var {i : Nat} {x : Str} {pos : Pos} (hN : X.N[i]? = some x) (hv : Vis X.env.scope x) (hd : (x == ("__debug__" : Str)) = false := by decide) (hcd : (x == ("__classdict__" : Str)) = false := by decide) : PE X (.Name x pos) (tVar i) := by
  intro pins s σ H Q I h
  obtain ⟨v, e, h⟩ := h
  obtain ⟨m, hn, hl⟩ := I.loc
  obtain ⟨u, r, l⟩ := hl i x v hN e hv
  have fin : EP X pins σ Q u s := ⟨v, H, I, r, h⟩
  rcases l with ⟨hk, hm⟩ | ⟨hk, c, hc, hcell⟩
  · exact wpAny_Name (wpAny_loadName_local I.ok.kind hk hn hm fin) hd
  · rcases hk with hk | hk
    · exact wpAny_Name (wpAny_loadName_cell I.ok.kind hk hc hcell fin) hd
    · exact wpAny_Name (wpAny_loadName_free I.ok.kind hk hc hcell fin hcd) hd
theorem pe_int {i j pos} : PE X (.Constant (.int i) j pos) (tC (.int i)) := fun _ _ _ H _ I h => wpAny_Constant_int ⟨.int i, H, I.tok _, ⟨_, rfl⟩, h⟩
theorem pe_bl {b j pos} : PE X (.Constant (.bool b) j pos) (tC (.bl b)) := fun _ _ _ H _ I h => Constant_bool ⟨.bl b, H, I, rfl, h⟩
theorem pe_non {j pos} : PE X (.Constant .none j pos) (tC .non) := fun _ _ _ H _ I h => Constant_none ⟨.non, H, I, rfl, h⟩
theorem pe_str {x j pos} : PE X (.Constant (.str x) j pos) (tC (.str x)) := fun _ _ _ H _ I h => Calls.Constant_str ⟨.str x, H, I.tok _, ⟨_, rfl⟩, h⟩
def Gl (X : Cx) (x : Str) : Prop := X.env.kindOf x = some .globalImplicit
theorem ld_glob {E : Value → Shared → Prop} {pins : List (Addr × Obj)} {s : Shared} {σ : St} {H : Hp} {x : Str} {u : Value} {pos : Pos} {Q : Value → Shared → Prop} (I : Inv X pins σ H s) (hg : Gl X x) (hm : X.mg x = some u) (h : Q u s)
    (hd : (x == ("__debug__" : Str)) = false := by decide) : wpAny (model X.prog X.w) X.A (eval (.Name x pos) X.env) Q E s :=
  Calls.Name_function_global I.ok.kind hg (Calls.loadGlobal_global (by rw [I.ok.glob]; exact I.mod.glob.keeps I.bk) hm h) hd
theorem ld_blt {E : Value → Shared → Prop} {pins : List (Addr × Obj)} {s : Shared} {σ : St} {H : Hp} {x : Str} {u : Value} {pos : Pos} {Q : Value → Shared → Prop} (I : Inv X pins σ H s) (hg : Gl X x) (hm : X.mg x = none) (hv : bootBuiltins x = some u) (h : Q u s)
    (hn : x ≠ "__name__" := by decide) (hd : (x == ("__debug__" : Str)) = false := by decide) : wpAny (model X.prog X.w) X.A (eval (.Name x pos) X.env) Q E s := by
  obtain ⟨mb, h1, h2⟩ := I.mod.blt
  exact Calls.Name_function_global I.ok.kind hg (Calls.loadGlobal_builtin (by rw [I.ok.glob]; exact I.mod.glob.keeps I.bk) hm (by rw [I.ok.blt]; exact h1.keeps I.bk) ((h2 x hn).trans hv) h) hd
theorem pe_glob {x : Str} {v : V} {u : Value} {pos : Pos} (hg : Gl X x) (hm : X.mg x = some u) (r : RelV v u) (hd : (x == ("__debug__" : Str)) = false := by decide) : PE X (.Name x pos) (tC v) :=
  fun _ _ _ H _ I h => ld_glob I hg hm ⟨v, H, I, r, h⟩ hd
theorem pe_bltn {x : Str} {v : V} {u : Value} {pos : Pos} (hg : Gl X x) (hm : X.mg x = none) (hv : bootBuiltins x = some u) (r : RelV v u) (hn : x ≠ "__name__" := by decide) (hd : (x == ("__debug__" : Str)) = false := by decide) : PE X (.Name x pos) (tC v) :=
  fun _ _ _ H _ I h => ld_blt I hg hm hv ⟨v, H, I, r, h⟩ hn hd
variable {a b : Expr} {ta tb : TE} {pos : Pos}
def PC (X : Cx) (op : CmpOp) (a b : Expr) (t : TE) : Prop :=
  ∀ (pins : List (Addr × Obj)) (s : Shared) (σ : St) (H : Hp) (Q : VK), Inv X pins σ H s → t σ H Q →
    wpAny (model X.prog X.w) X.A (eval a X.env) (fun v s₁ => wpAny (model X.prog X.w) X.A (eval b X.env) (fun u s₂ => wpAny (model X.prog X.w) X.A (compareOp op v u) (EP X pins σ Q) X.xe s₂) X.xe s₁) X.xe s
def tB (t : TE) : TT := fun σ H Q => t σ H fun x H1 => ∃ c, x = .bl c ∧ Q c H1
theorem pt_cmp {op : CmpOp} {t : TE} (h : PC X op a b t) (h1 : behindInMarks op b = false := by first | exact nobehind _ (by decide) (by decide) | rfl) : PT X (.Compare a [op] [b] pos) (tB t) := by
  intro pins s σ H Q I hw
  refine wpAny_isTrue_Compare1 (thn (h pins s σ H _ I hw) fun v s1 h1 => thn h1 fun u s2 h2 => thn h2 fun c s3 ⟨x, H1, I1, r1, q1⟩ => ?_) h1
  obtain ⟨d, rfl, q⟩ := q1
  cases r1
  exact wpAny_truthy_bool ⟨H1, I1, q⟩
theorem pt_val {e : Expr} {t : TE} (h : PE X e t) (he : ∀ whole, isTrue e X.env whole = (do let v ← whole; standAt e.pos; holding [v] (truthy v)) := by intro _; rfl) : PT X e (tB t) := by
  intro pins s σ H Q I hw
  refine isTrue_plain (thn (h pins s σ H _ I hw) fun v s1 ⟨x, H1, I1, r1, q1⟩ => ?_) (he _)
  obtain ⟨d, rfl, q⟩ := q1
  cases r1
  exact wpAny_truthy_bool ⟨H1, I1, q⟩
variable {tA tB' : TT} {rest : List Expr}
def tAnd (t u : TT) : TT := fun σ H Q => t σ H fun c H1 => if c = true then u σ H1 Q else Q false H1
def tOr (t u : TT) : TT := fun σ H Q => t σ H fun c H1 => if c = true then Q true H1 else u σ H1 Q
def tNot (t : TT) : TT := fun σ H Q => t σ H fun c H1 => Q (!c) H1
theorem pw_and1 (ha : PT X a tA) : PW X (.BoolOp .And [a] pos) tA := by
  intro wh pins s σ H Q I h
  refine isTrue_and (thn (ha pins s σ H Q I h) fun c s1 e => ?_)
  cases c with
  | true => exact isTrue_and_nil e
  | false => exact e
theorem pw_or1 (ha : PT X a tA) : PW X (.BoolOp .Or [a] pos) tA := by
  intro wh pins s σ H Q I h
  refine isTrue_or (thn (ha pins s σ H Q I h) fun c s1 e => ?_)
  cases c with
  | false => exact isTrue_or_nil e
  | true => exact e
theorem pw_and (ha : PT X a tA) (hb : PW X (.BoolOp .And (b :: rest) pos) tB') : PW X (.BoolOp .And (a :: b :: rest) pos) (tAnd tA tB') := by
  intro wh pins s σ H Q I h
  refine isTrue_and (thn (ha pins s σ H _ I h) fun c s1 ⟨H1, I1, q1⟩ => ?_)
  cases c with
  | true => exact hb wh pins s1 σ H1 Q I1 q1
  | false => exact ⟨H1, I1, q1⟩
theorem pw_or (ha : PT X a tA) (hb : PW X (.BoolOp .Or (b :: rest) pos) tB') : PW X (.BoolOp .Or (a :: b :: rest) pos) (tOr tA tB') := by
  intro wh pins s σ H Q I h
  refine isTrue_or (thn (ha pins s σ H _ I h) fun c s1 ⟨H1, I1, q1⟩ => ?_)
  cases c with
  | true => exact ⟨H1, I1, q1⟩
  | false => exact hb wh pins s1 σ H1 Q I1 q1
theorem pt_not (ha : PT X a tA) : PT X (.UnaryOp .Not a pos) (tNot tA) := by
  intro pins s σ H Q I h
  exact isTrue_not (ha pins s σ H (fun c H1 => Q (!c) H1) I h)
def tAndV (ta tb : TE) : TE := fun σ H Q => ta σ H fun x H1 => ∃ c, x = .bl c ∧ if c = true then tb σ H1 Q else Q (.bl false) H1
def tOrV (ta tb : TE) : TE := fun σ H Q => ta σ H fun x H1 => ∃ c, x = .bl c ∧ if c = true then Q (.bl true) H1 else tb σ H1 Q
def tNotV (ta : TE) : TE := fun σ H Q => ta σ H fun x H1 => ∃ c, x = .bl c ∧ Q (.bl (!c)) H1
theorem pe_one {op} {t : TE} (h : PE X a t) : PE X (.BoolOp op [a] pos) t := fun pins s σ H Q I hw => BoolOp_one (h pins s σ H Q I hw)
theorem pe_and (ha : PE X a ta) (hb : PE X (.BoolOp .And (b :: rest) pos) tb) : PE X (.BoolOp .And (a :: b :: rest) pos) (tAndV ta tb) := by
  intro pins s σ H Q I h
  refine BoolOp_and (thn (ha pins s σ H _ I h) fun v s1 ⟨x, H1, I1, r1, q1⟩ => ?_)
  obtain ⟨c, rfl, q1⟩ := q1
  cases r1
  refine wpAny_truthy_bool ?_
  cases c with
  | true => exact hb pins s1 σ H1 Q I1 q1
  | false => exact ⟨.bl false, H1, I1, rfl, q1⟩
theorem pe_or (ha : PE X a ta) (hb : PE X (.BoolOp .Or (b :: rest) pos) tb) : PE X (.BoolOp .Or (a :: b :: rest) pos) (tOrV ta tb) := by
  intro pins s σ H Q I h
  refine BoolOp_or (thn (ha pins s σ H _ I h) fun v s1 ⟨x, H1, I1, r1, q1⟩ => ?_)
  obtain ⟨c, rfl, q1⟩ := q1
  cases r1
  refine wpAny_truthy_bool ?_
  cases c with
  | false => exact hb pins s1 σ H1 Q I1 q1
  | true => exact ⟨.bl true, H1, I1, rfl, q1⟩
def tIf (t : TT) (ta tb : TE) : TE := fun σ H Q => t σ H fun c H1 => if c = true then ta σ H1 Q else tb σ H1 Q
theorem pe_ifExp {c : Expr} (hc : PT X c tA) (ha : PE X a ta) (hb : PE X b tb) : PE X (.IfExp c a b pos) (tIf tA ta tb) := by
  intro pins s σ H Q I h
  refine wpAny_IfExp (thn (hc pins s σ H _ I h) fun d s1 ⟨H1, I1, q1⟩ => ?_)
  cases d with
  | true => exact ha pins s1 σ H1 Q I1 q1
  | false => exact hb pins s1 σ H1 Q I1 q1
end
end L2
namespace L2
open PySem PySem.Spec PyProof.Rows
def SqL (K : PySem.W.Frag) (H : Hp) (a : Addr) (xs : List V) : Prop :=
  Rd H a (.lst xs) ∨
    ∃ (o : Obj) (its : Array Value) (n : Nat), K.lookup a = some o ∧ o.cls = .type "list" ∧ o.dict = none ∧ o.data = .seq its n ∧ its.size ≤ sizeLine ∧ Vals xs its.toList
def SqT (K : PySem.W.Frag) (H : Hp) (a : Addr) (xs : List V) : Prop :=
  Rd H a (.tup xs) ∨
    ∃ (o : Obj) (its : Array Value) (n : Nat), K.lookup a = some o ∧ o.cls = .type "tuple" ∧ o.data = .seq its n ∧ its.size ≤ sizeLine ∧ Vals xs its.toList
def absV : Value → Option V
  | .none => some .non
  | .bool b => some (.bl b)
  | .int i _ => some (.int i)
  | .str x _ => some (.str x)
  | .bytes b _ => some (.byt b)
  | .float b _ => some (.flt b)
  | .ref a => some (.ref a)
  | .type n => some (.ty n)
  | _ => none
theorem RelV.abs {x : V} {u : Value} (r : RelV x u) : absV u = some x := by
  cases x with
  | non => cases r; rfl
  | bl _ => cases r; rfl
  | int _ => obtain ⟨t, rfl⟩ := r; rfl
  | str _ => obtain ⟨t, rfl⟩ := r; rfl
  | byt _ => obtain ⟨t, rfl⟩ := r; rfl
  | flt _ => obtain ⟨t, rfl⟩ := r; rfl
  | ref _ => cases r; rfl
  | ty _ => cases r; rfl
theorem RelV.inj {x y : V} {u : Value} (r : RelV x u) (q : RelV y u) : x = y := Option.some.inj (r.abs.symm.trans q.abs)
theorem Vals.inj : ∀ {xs ys : List V} {us : List Value}, Vals xs us → Vals ys us → xs = ys
  | _, _, _, .nil, .nil => rfl
  | _, _, _, .cons r t, .cons r' t' => by rw [r.inj r', Vals.inj t t']
section
variable {X : Cx} {pins : List (Addr × Obj)} {σ : St} {H : Hp} {s : Shared} {a : Addr} {xs ys : List V}
theorem SqL.of {K : PySem.W.Frag} (h : H a = some (.lst xs)) : SqL K H a xs := .inl (.inl h)
theorem SqT.of {K : PySem.W.Frag} (h : H a = some (.tup xs)) : SqT K H a xs := .inl (.inl h)
theorem Inv.list (I : Inv X pins σ H s) (h : SqL X.K H a xs) : ∃ its : List Value, Vals xs its ∧ PlainL s.heap a its.toArray ∧ xs.length ≤ sizeLine := by
  rcases h with h | ⟨o, its, n, hk, hc, hd, hs, hz, r⟩
  · obtain ⟨z, its, n, r, e⟩ := h.ok I.hok
    exact ⟨its, r, ⟨_, n, e, rfl, rfl, rfl⟩, z⟩
  · refine ⟨its.toList, r, ⟨o, n, I.kIn a o hk, hc, hd, by simpa using hs⟩, ?_⟩
    have e := r.length
    simp only [Array.length_toList] at e
    omega
theorem Inv.tuple (I : Inv X pins σ H s) (h : SqT X.K H a xs) : ∃ its : List Value, Vals xs its ∧ IsTup s.heap a its.toArray ∧ xs.length ≤ sizeLine := by
  rcases h with h | ⟨o, its, n, hk, hc, hs, hz, r⟩
  · obtain ⟨z, its, r, p⟩ := h.ok I.hok
    exact ⟨its, r, p, z⟩
  · refine ⟨its.toList, r, ⟨o, I.kIn a o hk, hc, n, by simpa using hs⟩, ?_⟩
    have e := r.length
    simp only [Array.length_toList] at e
    omega
theorem Inv.list_inj (I : Inv X pins σ H s) (h : SqL X.K H a xs) (h' : SqL X.K H a ys) : xs = ys := by
  obtain ⟨its, r, ⟨o, n, e, _, _, d⟩, _⟩ := I.list h
  obtain ⟨its', r', ⟨o', n', e', _, _, d'⟩, _⟩ := I.list h'
  rw [e] at e'; cases e'
  rw [d] at d'
  injection d' with d1 _
  have : its = its' := by simpa using congrArg Array.toList d1
  subst this
  exact r.inj r'
theorem Inv.tuple_inj (I : Inv X pins σ H s) (h : SqT X.K H a xs) (h' : SqT X.K H a ys) : xs = ys := by
  obtain ⟨its, r, ⟨o, e, _, n, d⟩, _⟩ := I.tuple h
  obtain ⟨its', r', ⟨o', e', _, n', d'⟩, _⟩ := I.tuple h'
  rw [e] at e'; cases e'
  rw [d] at d'
  injection d' with d1 _
  have : its = its' := by simpa using congrArg Array.toList d1
  subst this
  exact r.inj r'
end
abbrev Cx.wish (X : Cx) (E : Value → Shared → Prop) : Cx := { X with xe := E }
abbrev Cx.nox (X : Cx) : Cx := X.wish fun _ _ => False
theorem Cx.Ok.wish {X : Cx} (ok : X.Ok) (E : Value → Shared → Prop) : (X.wish E).Ok :=
  ⟨ok.mod, ok.kind, ok.glob, ok.blt, ok.above, ok.inj, ok.has, ok.cab, ok.hd, ok.frames, ok.stk, ok.exf, ok.bs, ok.bsz, ok.noex, ok.exfs, ok.funs, ok.frf⟩
theorem Cx.Ok.unwish {X : Cx} {E : Value → Shared → Prop} (ok : (X.wish E).Ok) : X.Ok :=
  ⟨ok.mod, ok.kind, ok.glob, ok.blt, ok.above, ok.inj, ok.has, ok.cab, ok.hd, ok.frames, ok.stk, ok.exf, ok.bs, ok.bsz, ok.noex, ok.exfs, ok.funs, ok.frf⟩
section
variable {X : Cx} {pins : List (Addr × Obj)} {σ : St} {H : Hp} {s : Shared} {E : Value → Shared → Prop}
theorem Inv.wish (I : Inv X pins σ H s) (E : Value → Shared → Prop) : Inv (X.wish E) pins σ H s := ⟨I.ok.wish E, I.os, I.bare, I.base, I.loc, I.cell, I.free, I.freeC, I.pin, I.hok, I.len⟩
theorem Inv.unwish (I : Inv (X.wish E) pins σ H s) : Inv X pins σ H s := ⟨I.ok.unwish, I.os, I.bare, I.base, I.loc, I.cell, I.free, I.freeC, I.pin, I.hok, I.len⟩
theorem SP.unwish {D : Ends} {f : Flow} {s' : Shared} (h : SP (X.wish E) pins D f s') : SP X pins D f s' := by
  cases f with
  | next => obtain ⟨σ', H', I, q⟩ := h; exact ⟨σ', H', I.unwish, q⟩
  | brk => obtain ⟨σ', H', I, q⟩ := h; exact ⟨σ', H', I.unwish, q⟩
  | cont => obtain ⟨σ', H', I, q⟩ := h; exact ⟨σ', H', I.unwish, q⟩
  | ret u => obtain ⟨v, σ', H', I, r, q⟩ := h; exact ⟨v, σ', H', I.unwish, r, q⟩
theorem PSs.nox {st : List Stmt} {t : TS} (h : PSs X.nox st t) : PSs X st t := fun pins s σ H D I hw =>
  wpAny_mono (h pins s σ H D (I.wish _) hw) (fun _ _ q => q.unwish) fun _ _ z => False.elim z
end
section
variable {X : Cx} {st : Stmt} {rest : List Stmt} {t u : TS} {e : Expr} {te : TE} {pos : Pos}
def tNext : TS := fun D σ H => D.nx σ H
def tSeq (t u : TS) : TS := fun D σ H => t { D with nx := u D } σ H
theorem pss_nil : PSs X [] tNext := fun _ _ σ H _ I h => wpAny_execs_nil ⟨σ, H, I, h⟩
theorem pss_cons (h1 : PS X st t) (h2 : PSs X rest u) : PSs X (st :: rest) (tSeq t u) := by
  intro pins s σ H D I h
  refine wpAny_execs_cons (thn (h1 pins s σ H { D with nx := u D } I h) fun f s1 q => ?_)
  cases f with
  | next =>
    obtain ⟨σ', H', I', q⟩ := q
    exact h2 pins s1 σ' H' D I' q
  | ret v => exact q
  | brk => exact q
  | cont => exact q
theorem pss_one (h1 : PS X st t) : PSs X [st] t := by
  intro pins s σ H D I h
  refine wpAny_execs_cons (thn (h1 pins s σ H D I h) fun f s1 q => ?_)
  cases f with
  | next => exact wpAny_execs_nil q
  | ret v => exact q
  | brk => exact q
  | cont => exact q
theorem Inv.quiet {pins : List (Addr × Obj)} {σ : St} {H : Hp} {s : Shared} (I : Inv X pins σ H s) : interactive X.env = false := by simp [interactive, I.ok.kind]
def tDrop (te : TE) : TS := fun D σ H => te σ H fun _ H1 => D.nx σ H1
theorem ps_expr (he : PE X e te) (hs : swapsWith e none pos.line X.env = pure false := by rfl) : PS X (.Expr e pos) (tDrop te) := by
  intro pins s σ H D I h
  exact wpAny_Expr_any (thn (he pins s σ H _ I h) fun v s1 ⟨x, H1, I1, r1, q1⟩ => ⟨σ, H1, I1, q1⟩) I.quiet hs
def tRet (te : TE) : TS := fun D σ H => te σ H D.rt
theorem ps_ret (he : PE X e te) : PS X (.Return (some e) pos) (tRet te) := by
  intro pins s σ H D I h
  exact wpAny_Return_some (thn (he pins s σ H _ I h) fun v s1 ⟨x, H1, I1, r1, q1⟩ => ⟨x, σ, H1, I1, r1, q1⟩)
def tRetN : TS := fun D _ H => D.rt .non H
def tIfS (c : TT) (t u : TS) : TS := fun D σ H => c σ H fun b H1 => if b = true then t D σ H1 else u D σ H1
theorem ps_if {c : Expr} {a b : List Stmt} {tc : TT} (hc : PT X c tc) (ha : PSs X a t) (hb : PSs X b u) : PS X (.If c a b pos) (tIfS tc t u) := by
  intro pins s σ H D I h
  refine wpAny_If (thn (hc pins s σ H _ I h) fun d s1 ⟨H1, I1, q1⟩ => ?_)
  cases d with
  | true => exact ha pins s1 σ H1 D I1 q1
  | false => exact hb pins s1 σ H1 D I1 q1
end
abbrev TG := V → St → Hp → (St → Hp → Prop) → Prop
abbrev TGs := List V → St → Hp → (St → Hp → Prop) → Prop
def PG (X : Cx) (target : Expr) (t : TG) : Prop :=
  ∀ (pins : List (Addr × Obj)) (s : Shared) (σ : St) (H : Hp) (v : V) (u : Value) (Q : St → Hp → Prop), Inv X pins σ H s → RelV v u → t v σ H Q →
    wpAny (model X.prog X.w) X.A (assign target X.env u) (fun _ s' => ∃ σ' H', Inv X pins σ' H' s' ∧ Q σ' H') X.xe s
abbrev TSet := V → V → V → Hp → (Hp → Prop) → Prop
def PSet (X : Cx) (t : TSet) : Prop :=
  ∀ (pins : List (Addr × Obj)) (s : Shared) (σ : St) (H : Hp) (o i v : V) (ov iv u : Value) (Q : Hp → Prop), Inv X pins σ H s → RelV o ov → RelV i iv → RelV v u → t o i v H Q →
    wpAny (model X.prog X.w) X.A (setItem ov iv u) (fun _ s' => ∃ H', Inv X pins σ H' s' ∧ Q H') X.xe s
abbrev TIp := V → V → Hp → VK → Prop
def PIp (X : Cx) (op : Operator) (t : TIp) : Prop :=
  ∀ (pins : List (Addr × Obj)) (s : Shared) (σ : St) (H : Hp) (x y : V) (v u : Value) (Q : VK), Inv X pins σ H s → RelV x v → RelV y u → t x y H Q →
    wpAny (model X.prog X.w) X.A (inplaceOp op v u) (EP X pins σ Q) X.xe s
section
variable {X : Cx} {pos : Pos}
def gName (i : Nat) : TG := fun v σ H Q => Q (σ.set i (some v)) H
theorem pg_name {i : Nat} {x : Str} (hN : X.N.Nodup) (hi : X.N[i]? = some x) (hx : Loc X.env.scope x) (hf : X.fn x = true ∨ X.env.scope.names.lookup x = some .local := by first | exact .inl rfl | exact .inr rfl | assumption) : PG X (.Name x pos) (gName i) := by
  intro pins s σ H v u Q I r h
  exact wpAny_assign_Name (store_ok I hN hi hx r (fun s' I' => ⟨_, H, I', h⟩) hf)
def gNil : TGs := fun vs σ H Q => vs = [] ∧ Q σ H
def gCons (t : TG) (u : TGs) : TGs := fun vs σ H Q => ∃ v r, vs = v :: r ∧ t v σ H fun σ' H' => u r σ' H' Q
def gTup (K : PySem.W.Frag) (n : Nat) (t : TGs) : TG := fun v σ H Q => ∃ a xs, v = .ref a ∧ SqT K H a xs ∧ xs.length = n ∧ t xs σ H Q
def gSub (to ti : TE) (t : TSet) : TG := fun v σ H Q => to σ H fun o H1 => ti σ H1 fun i H2 => t o i v H2 fun H3 => Q σ H3
theorem pg_sub {o i : Expr} {to ti : TE} {t : TSet} (ho : PE X o to) (hi : PE X i ti) (hs : PSet X t)
    (ha : ∀ v, assign (.Subscript o i pos) X.env v = (do
      let ov ← holding [v] (eval o X.env)
      let iv ← holding [v, ov] (eval i X.env)
      standAt pos
      holding [v, ov, iv] (setItem ov iv v)
      release [v, ov, iv] []) := by intro _; rfl) : PG X (.Subscript o i pos) (gSub to ti t) := by
  intro pins s σ H v u Q I r h
  rw [ha]
  refine wpAny_bind (wpAny_holding (thn (ho pins s σ H _ I h) fun ov s1 ⟨x, H1, I1, r1, q1⟩ => ?_))
  refine wpAny_bind (wpAny_holding (thn (hi pins s1 σ H1 _ I1 q1) fun iv s2 ⟨y, H2, I2, r2, q2⟩ => ?_))
  refine wpAny_bind (wpAny_standAt (wpAny_bind (wpAny_holding (thn (hs pins s2 σ H2 x y v ov iv u _ I2 r1 r2 r q2) fun _ s3 ⟨H3, I3, q3⟩ => ?_))))
  exact wpAny_release ⟨σ, H3, I3, q3⟩
def tAsg (te : TE) (g : TG) : TS := fun D σ H => te σ H fun x H1 => g x σ H1 D.nx
theorem ps_asg {tg e : Expr} {te : TE} {g : TG} (he : PE X e te) (hg : PG X tg g) (hs : swapsWithSole [tg] e pos.line X.env = pure false := by rfl) (hw : swappedStores [tg] e X.env = pure none := by rfl)
    (h1 : (assignEach [tg] X.env).map (·.2) = [assign tg X.env] := by rfl) : PS X (.Assign [tg] e pos) (tAsg te g) := by
  intro pins s σ H D I h
  refine wpAny_Assign_stores (thn (he pins s σ H _ I h) fun v s1 ⟨x, H1, I1, r1, q1⟩ => ?_) hs hw
  rw [h1]
  exact thn (hg pins s1 σ H1 x v _ I1 r1 q1) fun _ s2 q => q
theorem ps_set {i : Nat} {x : Str} {e : Expr} {te : TE} {pos' : Pos} (hN : X.N.Nodup) (hi : X.N[i]? = some x) (hx : Loc X.env.scope x) (he : PE X e te) (hs : swapsWith e (some (.Name x pos')) pos.line X.env = pure false := by rfl) (hf : X.fn x = true ∨ X.env.scope.names.lookup x = some .local := by first | exact .inl rfl | exact .inr rfl | assumption) :
    PS X (.Assign [.Name x pos'] e pos) (tAsg te (gName i)) := by
  intro pins s σ H D I h
  refine wpAny_Assign_Name (thn (he pins s σ H _ I h) fun v s1 ⟨y, H1, I1, r1, q1⟩ => ?_) hs
  exact store_ok I1 hN hi hx r1 (fun s2 I2 => ⟨_, H1, I2, q1⟩) hf
def tAug (i : Nat) (te : TE) (ti : TIp) : TS := fun D σ H => ∃ x, σ[i]? = some (some x) ∧ te σ H fun y H1 => ti x y H1 fun z H2 => D.nx (σ.set i (some z)) H2
theorem ps_aug {i : Nat} {x : Str} {e : Expr} {te : TE} {op : Operator} {ti : TIp} {pos' : Pos} (hN : X.N.Nodup) (hi : X.N[i]? = some x) (hx : Loc X.env.scope x) (he : PE X e te) (ho : PIp X op ti) (hf : X.fn x = true ∨ X.env.scope.names.lookup x = some .local := by first | exact .inl rfl | exact .inr rfl | assumption) :
    PS X (.AugAssign (.Name x pos') op e pos) (tAug i te ti) := by
  intro pins s σ H D I h
  obtain ⟨v, e1, h⟩ := h
  obtain ⟨m, hn, hl⟩ := I.loc
  have vis : Vis X.env.scope x := by rcases hx with k | k; exact .inl k; exact .inr (.inl k)
  obtain ⟨u, r, l⟩ := hl i x v hi e1 vis
  refine wpAny_AugAssign_Name ?_
  have go : wpAny (model X.prog X.w) X.A (eval e X.env) (fun w s₂ => wpAny (model X.prog X.w) X.A (inplaceOp op u w) (fun r s₃ => wpAny (model X.prog X.w) X.A (storeName X.env x r) (fun _ => SP X pins D .next) X.xe s₃) X.xe s₂) X.xe s := by
    refine thn (he pins s σ H _ I h) fun w s1 ⟨y, H1, I1, r1, q1⟩ => ?_
    refine thn (ho pins s1 σ H1 v y u w _ I1 r r1 q1) fun z s2 ⟨zv, H2, I2, r2, q2⟩ => ?_
    exact store_ok I2 hN hi hx r2 (fun s3 I3 => ⟨_, H2, I3, q2⟩) hf
  rcases l with ⟨hk, hm⟩ | ⟨hk, c, hc, hcell⟩
  · exact wpAny_loadName_local I.ok.kind hk hn hm go
  · rcases hk with hk | hk
    · exact wpAny_loadName_cell I.ok.kind hk hc hcell go
    · rcases hx with k | k
      · have : X.env.scope.names.lookup x = some .free := hk
        rw [k] at this; cases this
      · have : X.env.scope.names.lookup x = some .free := hk
        rw [k] at this; cases this
def tAugS (to ti te : TE) (tget : V → V → Hp → VK → Prop) (tip : TIp) (tset : TSet) : TS := fun D σ H => to σ H fun o H1 => ti σ H1 fun i H2 => tget o i H2 fun x H3 => te σ H3 fun y H4 => tip x y H4 fun z H5 => tset o i z H5 fun H6 => D.nx σ H6
def PGet (X : Cx) (t : V → V → Hp → VK → Prop) : Prop :=
  ∀ (pins : List (Addr × Obj)) (s : Shared) (σ : St) (H : Hp) (o i : V) (ov iv : Value) (Q : VK), Inv X pins σ H s → RelV o ov → RelV i iv → t o i H Q →
    wpAny (model X.prog X.w) X.A (getItem ov iv) (EP X pins σ Q) X.xe s
theorem ps_augS {o i e : Expr} {to ti te : TE} {tget : V → V → Hp → VK → Prop} {tip : TIp} {tset : TSet} {op : Operator} {tpos : Pos} (ho : PE X o to) (hi : PE X i ti) (hg : PGet X tget) (he : PE X e te) (hp : PIp X op tip) (hs : PSet X tset)
    (ha : ∀ ov iv new, augStore i ov iv new = (do holding [new, ov, iv] (setItem ov iv new); release [new, ov, iv] []; pure .next) := by intros; rfl) : PS X (.AugAssign (.Subscript o i tpos) op e pos) (tAugS to ti te tget tip tset) := by
  intro pins s σ H D I h
  refine wpAny_AugAssign_SubscriptAny (thn (ho pins s σ H _ I h) fun ov s1 ⟨x1, H1, I1, r1, q1⟩ => ?_) ha
  refine thn (hi pins s1 σ H1 _ I1 q1) fun iv s2 ⟨x2, H2, I2, r2, q2⟩ => ?_
  refine thn (hg pins s2 σ H2 x1 x2 ov iv _ I2 r1 r2 q2) fun old s3 ⟨x3, H3, I3, r3, q3⟩ => ?_
  refine thn (he pins s3 σ H3 _ I3 q3) fun v s4 ⟨x4, H4, I4, r4, q4⟩ => ?_
  refine thn (hp pins s4 σ H4 x3 x4 old v _ I4 r3 r4 q4) fun new s5 ⟨x5, H5, I5, r5, q5⟩ => ?_
  exact thn (hs pins s5 σ H5 x1 x2 x5 ov iv new _ I5 r1 r2 r5 q5) fun _ s6 ⟨H6, I6, q6⟩ => ⟨σ, H6, I6, q6⟩
def ipI (f : Int → Int → Int) : TIp := fun x y H Q => ∃ i j, x = .int i ∧ y = .int j ∧ Q (.int (f i j)) H
theorem ip_add : PIp X .Add (ipI fun i j => i + j) := by
  intro pins s σ H x y v u Q I r1 r2 h
  obtain ⟨i, j, e1, e2, q⟩ := h
  subst e1; subst e2
  obtain ⟨t, rfl⟩ := r1
  obtain ⟨t', rfl⟩ := r2
  exact iadd_int ⟨.int _, H, I.tok _, ⟨_, rfl⟩, q⟩
theorem ip_sub : PIp X .Sub (ipI fun i j => i - j) := by
  intro pins s σ H x y v u Q I r1 r2 h
  obtain ⟨i, j, e1, e2, q⟩ := h
  subst e1; subst e2
  obtain ⟨t, rfl⟩ := r1
  obtain ⟨t', rfl⟩ := r2
  exact isub_int ⟨.int _, H, I.tok _, ⟨_, rfl⟩, q⟩
end
section
variable {X : Cx} {pos : Pos}
def tWhile (c : TT) (tb : TS) : TS := fun D σ H => ∃ W : Nat → St → Hp → Prop, (∃ m, W m σ H) ∧ ∀ m σ H, W m σ H →
  c σ H fun b H1 => if b = true then ∃ N : St → Hp → Prop, (∀ σ' H', N σ' H' → ∃ m', m' < m ∧ W m' σ' H') ∧ tb { D with nx := N, ct := N, bk := D.nx } σ H1 else D.nx σ H1
theorem ps_while {c : Expr} {body : List Stmt} {tc : TT} {tb : TS} (hp : PassesOwn (model X.prog X.w) X.A X.env X.xe) (hc : PT X c tc) (hb : PSs X body tb) : PS X (.While c body [] pos) (tWhile tc tb) := by
  intro pins s σ H D I h
  obtain ⟨W, ⟨m0, w0⟩, turn⟩ := h
  refine wpAny_While (codeAny_whileLoop (fun n s' => ∃ σ' H', Inv X pins σ' H' s' ∧ W n σ' H') ?_ m0 ⟨σ, H, I, w0⟩)
  rintro n s1 ⟨σ1, H1, I1, w1⟩
  refine wpAny_passesOwn hp (thn (hc pins s1 σ1 H1 _ I1 (turn n σ1 H1 w1)) fun b s2 ⟨H2, I2, q2⟩ => ?_)
  cases b with
  | true =>
    obtain ⟨N, hN, q2⟩ := q2
    rw [if_pos rfl]
    refine wpAny_passesOwn hp (thn (hb pins s2 σ1 H2 _ I2 q2) fun f s3 q3 => ?_)
    cases f with
    | next =>
      obtain ⟨σ3, H3, I3, n3⟩ := q3
      obtain ⟨m', hm, w3⟩ := hN σ3 H3 n3
      exact ⟨m', hm, σ3, H3, I3, w3⟩
    | cont =>
      obtain ⟨σ3, H3, I3, n3⟩ := q3
      obtain ⟨m', hm, w3⟩ := hN σ3 H3 n3
      exact ⟨m', hm, σ3, H3, I3, w3⟩
    | brk => exact q3
    | ret v => exact q3
  | false =>
    rw [if_neg Bool.false_ne_true]
    exact wpAny_execs_nil ⟨σ1, H2, I2, q2⟩
end
structure It where
  go : Nat → Hp → Prop
  yld : Nat → Hp → V → Hp → Prop
  stop : Nat → Hp → Prop
def FpOk (X : Cx) (pins : List (Addr × Obj)) (H : Hp) (b : Addr) : Prop :=
  H b = none ∧ b ≠ X.env.locals ∧ b ∉ X.fs ∧ (b ∈ X.ex ∨ X.s_0.heap.objs.size ≤ b) ∧ (∀ x c, X.env.cells.lookup x = some c → c ≠ b) ∧ ∀ p ∈ X.pn ++ pins, p.1 ≠ b
theorem Inv.fpOk {X : Cx} {pins : List (Addr × Obj)} {σ : St} {H H' : Hp} {s : Shared} {b : Addr} (I : Inv X pins σ H s) (hb : s.heap.objs.size ≤ b) (hn : H' b = none) : FpOk X pins H' b := by
  refine ⟨hn, Nat.ne_of_gt (Nat.lt_of_lt_of_le I.lt hb), I.nofs hb, .inr (Nat.le_trans I.sz hb), fun x c e z => ?_, fun p hp z => ?_⟩
  · obtain ⟨v, q⟩ := I.cell x c e
    exact absurd (Nat.lt_of_lt_of_le q.lt (by rw [z]; exact hb)) (Nat.lt_irrefl _)
  · exact absurd (Nat.lt_of_lt_of_le (Heap.lt_size (I.pin p hp).1) (by rw [z]; exact hb)) (Nat.lt_irrefl _)
structure Turn (P : Program) (w : World) (K : PySem.W.Frag) (tg : Expr) (J : It) (fp : List Addr) (it : Addr) (tn : Nat → Heap → Prop) : Prop where
  mem : it ∈ fp
  obj : ∀ i h, tn i h → ∀ b ∈ fp, ∃ o, h.get? b = some o ∧ ∀ v, o.data ≠ .cell v
  keep : ∀ i h h', tn i h → (∀ b ∈ fp, ∀ o, h.get? b = some o → h'.get? b = some o) → tn i h'
  item : ∀ (X : Cx), X.prog = P → X.w = w → X.K = K → X.calm = true → ∀ (i : Nat) (pins : List (Addr × Obj)) (s : Shared) (σ : St) (H : Hp) (E : Value → Shared → Prop), Inv X pins σ H s → (∀ b ∈ fp, FpOk X pins H b) → tn i s.heap → J.go i H →
    wpAny (model P w) X.A (pyNext (.ref it)) (fun r s1 => ∃ u, r = some u ∧
      wpAny (model P w) X.A (letOwnedTupleGo tg (.ref it) u) (fun _ s2 => ∃ x H', Inv X pins σ H' s2 ∧ RelV x u ∧ J.yld i H x H' ∧ tn (i + 1) s2.heap ∧ ∀ b ∈ fp, H' b = none) E s1) E s
  done : ∀ (X : Cx), X.prog = P → X.w = w → X.K = K → X.calm = true → ∀ (i : Nat) (pins : List (Addr × Obj)) (s : Shared) (σ : St) (H : Hp) (E : Value → Shared → Prop), Inv X pins σ H s → (∀ b ∈ fp, FpOk X pins H b) → tn i s.heap → J.stop i H →
    wpAny (model P w) X.A (pyNext (.ref it)) (fun r s1 => r = none ∧ Inv X pins σ H s1) E s
  self : ∀ (A : Around) (i : Nat) (s : Shared) (Q : Value → Shared → Prop) (E : Value → Shared → Prop), tn i s.heap → Q (.ref it) s → wpAny (model P w) A (pyIter (.ref it)) Q E s
abbrev TI := St → Hp → (It → Hp → Prop) → Prop
def PIE (X : Cx) (pins : List (Addr × Obj)) (σ : St) (tg : Expr) (R : It → Hp → Prop) (itv : Value) (s2 : Shared) : Prop :=
  ∃ (it : Addr) (fp : List Addr) (tn : Nat → Heap → Prop) (J : It) (H' : Hp), itv = .ref it ∧ Inv X pins σ H' s2 ∧ Turn X.prog X.w X.K tg J fp it tn ∧ tn 0 s2.heap ∧ (∀ b ∈ fp, FpOk X pins H' b) ∧ R J H'
def PI (X : Cx) (tg iter : Expr) (wi : TI) : Prop :=
  ∀ (pins : List (Addr × Obj)) (s : Shared) (σ : St) (H : Hp) (R : It → Hp → Prop), Inv X pins σ H s → wi σ H R →
    wpAny (model X.prog X.w) X.A (eval iter X.env) (fun v s1 => wpAny (model X.prog X.w) X.A (pyIter v) (PIE X pins σ tg R) X.xe s1) X.xe s
theorem go_of {M : Model} {A : Around} {E : Value → Shared → Prop} {s : Shared} {tg : Expr} {it : Addr} {u : Value} {o : Obj} {n : String} {vs : Array Value} {Q : Unit → Shared → Prop} (ho : s.heap.get? it = some o) (hc : o.cls = .type n) (hd : o.data = .fields vs)
    (hn : ["enumerate", "zip", "dict_itemiterator", "dict_reverseitemiterator", "odict_iterator", "itertools.zip_longest", "itertools.pairwise"].contains n = false) (hQ : Q () s) : wpAny M A (letOwnedTupleGo tg (.ref it) u) Q E s := by
  unfold letOwnedTupleGo
  cases tg <;> first
    | exact wpAny_pure hQ
    | (cases u <;> first
        | exact wpAny_pure hQ
        | (refine wpAny_bind (wpAny_load ho ?_)
           rw [hc, hd]
           show wpAny M A (if (["enumerate", "zip", "dict_itemiterator", "dict_reverseitemiterator", "odict_iterator", "itertools.zip_longest", "itertools.pairwise"].contains n && vs[0]? == some (rawInt _)) = true then _ else _) Q E s
           rw [if_neg (by intro h; rw [hn, Bool.false_and] at h; cases h)]
           exact wpAny_pure hQ))
def Itl (K : PySem.W.Frag) (a : Addr) : It :=
  ⟨fun i H => ∃ xs x, SqL K H a xs ∧ xs[i]? = some x, fun i H x H' => H' = H ∧ ∀ xs, SqL K H a xs → xs[i]? = some x, fun i H => ∃ xs, SqL K H a xs ∧ xs.length ≤ i⟩
def Itt (K : PySem.W.Frag) (a : Addr) : It :=
  ⟨fun i H => ∃ xs x, SqT K H a xs ∧ xs[i]? = some x, fun i H x H' => H' = H ∧ ∀ xs, SqT K H a xs → xs[i]? = some x, fun i H => ∃ xs, SqT K H a xs ∧ xs.length ≤ i⟩
theorem turn_list {P : Program} {w : World} {K : PySem.W.Frag} {tg : Expr} (a it : Addr) : Turn P w K tg (Itl K a) [it] it (fun i h => h.IsListIter it a i) where
  mem := by simp
  obj := fun i h st b hb => by
    have e : b = it := by simpa using hb
    subst e
    obtain ⟨o, e, c, d⟩ := st
    exact ⟨o, e, fun v z => by rw [d] at z; cases z⟩
  keep := fun i h h' st k => st.at fun o e => k it (by simp) o e
  item := by
    intro X hP hw hK hc i pins s σ H E I hf st hg
    subst hP hw hK
    obtain ⟨xs, x, hq, hx⟩ := hg
    obtain ⟨its, rv, p, hz⟩ := I.list hq
    obtain ⟨u, hu, ru⟩ := rv.get hx
    obtain ⟨f0, f1, f2, f3, f4, f5⟩ := hf it (by simp)
    refine wpAny_pyNext_list_item st p.isList (x := u) (by simpa using hu) fun h' st' sb => ?_
    have I1 : Inv X pins σ H { s with heap := h' } := I.turned (t' := s.toks) (fun b o hb e => (sb.2 b hb).trans e) f0 f1 f3 f4 f5
    obtain ⟨o, e, c, d⟩ := id st'
    exact ⟨u, rfl, go_of (s := { s with heap := h' }) e c d (by decide) ⟨x, H, I1, ru, ⟨rfl, fun ys hy => by rw [I.list_inj hy hq]; exact hx⟩, st', fun b hb => (hf b hb).1⟩⟩
  done := by
    intro X hP hw hK hc i pins s σ H E I hf st hg
    subst hP hw hK
    obtain ⟨xs, hq, hx⟩ := hg
    obtain ⟨its, rv, p, hz⟩ := I.list hq
    obtain ⟨f0, f1, f2, f3, f4, f5⟩ := hf it (by simp)
    have hl := rv.length
    exact wpAny_pyNext_list_end (I.ok.hd hc) st p.isList (by simp; omega) fun h' eb => ⟨rfl, I.turned (t' := s.toks) (fun b o hb e => eb b o hb e) f0 f1 f3 f4 f5⟩
  self := fun _ _ _ _ _ st h => wpAny_pyIter_listiter st h
theorem turn_tuple {P : Program} {w : World} {K : PySem.W.Frag} {tg : Expr} (a it : Addr) : Turn P w K tg (Itt K a) [it] it (fun i h => h.IsTupleIter it a i) where
  mem := by simp
  obj := fun i h st b hb => by
    have e : b = it := by simpa using hb
    subst e
    obtain ⟨o, e, c, d⟩ := st
    exact ⟨o, e, fun v z => by rw [d] at z; cases z⟩
  keep := fun i h h' st k => st.at fun o e => k it (by simp) o e
  item := by
    intro X hP hw hK hc i pins s σ H E I hf st hg
    subst hP hw hK
    obtain ⟨xs, x, hq, hx⟩ := hg
    obtain ⟨its, rv, p, hz⟩ := I.tuple hq
    obtain ⟨u, hu, ru⟩ := rv.get hx
    obtain ⟨f0, f1, f2, f3, f4, f5⟩ := hf it (by simp)
    refine wpAny_pyNext_tuple_item st (show s.heap.IsTuple a its.toArray from p) (x := u) (by simpa using hu) fun h' st' sb => ?_
    have I1 : Inv X pins σ H { s with heap := h' } := I.turned (t' := s.toks) (fun b o hb e => (sb.2 b hb).trans e) f0 f1 f3 f4 f5
    obtain ⟨o, e, c, d⟩ := id st'
    exact ⟨u, rfl, go_of (s := { s with heap := h' }) e c d (by decide) ⟨x, H, I1, ru, ⟨rfl, fun ys hy => by rw [I.tuple_inj hy hq]; exact hx⟩, st', fun b hb => (hf b hb).1⟩⟩
  done := by
    intro X hP hw hK hc i pins s σ H E I hf st hg
    subst hP hw hK
    obtain ⟨xs, hq, hx⟩ := hg
    obtain ⟨its, rv, p, hz⟩ := I.tuple hq
    obtain ⟨f0, f1, f2, f3, f4, f5⟩ := hf it (by simp)
    have hl := rv.length
    exact wpAny_pyNext_tuple_end (I.ok.hd hc) st (show s.heap.IsTuple a its.toArray from p) (by simp; omega) fun h' eb => ⟨rfl, I.turned (t' := s.toks) (fun b o hb e => eb b o hb e) f0 f1 f3 f4 f5⟩
  self := fun _ _ _ _ _ st h => wpAny_pyIter_tupleiter st h
end L2
namespace L2
open PySem PySem.Spec PyProof.Rows
section
variable {X : Cx} {tg : Expr}
def iList (K : PySem.W.Frag) (tl : TE) : TI := fun σ H R => tl σ H fun x H1 => ∃ a, x = .ref a ∧ (∃ xs, SqL K H1 a xs) ∧ R (Itl K a) H1
def iTup (K : PySem.W.Frag) (tl : TE) : TI := fun σ H R => tl σ H fun x H1 => ∃ a, x = .ref a ∧ (∃ xs, SqT K H1 a xs) ∧ R (Itt K a) H1
theorem pi_list {l : Expr} {tl : TE} (hl : PE X l tl) : PI X tg l (iList X.K tl) := by
  intro pins s σ H R I h
  refine thn (hl pins s σ H _ I h) fun v s1 ⟨x, H1, I1, r1, q1⟩ => ?_
  obtain ⟨a, e, ⟨xs, hq⟩, q⟩ := q1
  subst e
  cases r1
  obtain ⟨its, rv, p, hz⟩ := I1.list hq
  refine wpAny_pyIter_list p.isList ?_
  refine ⟨s1.heap.objs.size, [s1.heap.objs.size], _, _, H1, rfl, I1.kept (t' := s1.toks) fun b o e => Heap.get?_push_of_some _ e, turn_list a _, ⟨_, Heap.get?_push_size _ rfl, rfl, rfl⟩, fun b hb => ?_, q⟩
  have e : b = s1.heap.objs.size := by simpa using hb
  subst e
  exact I1.fpOk (Nat.le_refl _) (I1.hok.fresh (Nat.le_refl _))
theorem pi_tup {l : Expr} {tl : TE} (hl : PE X l tl) : PI X tg l (iTup X.K tl) := by
  intro pins s σ H R I h
  refine thn (hl pins s σ H _ I h) fun v s1 ⟨x, H1, I1, r1, q1⟩ => ?_
  obtain ⟨a, e, ⟨xs, hq⟩, q⟩ := q1
  subst e
  cases r1
  obtain ⟨its, rv, p, hz⟩ := I1.tuple hq
  refine wpAny_pyIter_tuple (show s1.heap.IsTuple a its.toArray from p) ?_
  refine ⟨s1.heap.objs.size, [s1.heap.objs.size], _, _, H1, rfl, I1.kept (t' := s1.toks) fun b o e => Heap.get?_push_of_some _ e, turn_tuple a _, ⟨_, Heap.get?_push_size _ rfl, rfl, rfl⟩, fun b hb => ?_, q⟩
  have e : b = s1.heap.objs.size := by simpa using hb
  subst e
  exact I1.fpOk (Nat.le_refl _) (I1.hok.fresh (Nat.le_refl _))
def tFor (wi : TI) (g : TG) (tb : TS) : TS := fun D σ H => wi σ H fun J H1 => ∃ W : Nat → Nat → St → Hp → Prop, (∃ m, W 0 m σ H1) ∧ ∀ i m σ H, W i m σ H →
  (J.stop i H ∧ D.nx σ H) ∨ (J.go i H ∧ ∃ N : St → Hp → Prop, (∀ σ' H', N σ' H' → ∃ m', m' < m ∧ W (i + 1) m' σ' H') ∧ ∀ x H', J.yld i H x H' → g x σ H' fun σ2 H2 => tb { D with nx := N, ct := N, bk := D.nx } σ2 H2)
def pinsAt (fp : List Addr) (h : Heap) : List (Addr × Obj) := fp.filterMap fun b => (h.get? b).map fun o => (b, o)
theorem mem_pinsAt {fp : List Addr} {h : Heap} {b : Addr} {o : Obj} (hb : b ∈ fp) (e : h.get? b = some o) : (b, o) ∈ pinsAt fp h := List.mem_filterMap.mpr ⟨b, hb, by rw [e]; rfl⟩
theorem of_pinsAt {fp : List Addr} {h : Heap} {p : Addr × Obj} (hp : p ∈ pinsAt fp h) : p.1 ∈ fp ∧ h.get? p.1 = some p.2 := by
  obtain ⟨b, hb, e⟩ := List.mem_filterMap.mp hp
  cases q : h.get? b with
  | none => rw [q] at e; cases e
  | some o =>
    rw [q] at e
    have e' : (b, o) = p := Option.some.inj e
    subst e'
    exact ⟨hb, q⟩
theorem Inv.pinned {pins : List (Addr × Obj)} {σ : St} {H : Hp} {s : Shared} {fp : List Addr} (I : Inv X pins σ H s) (hf : ∀ b ∈ fp, FpOk X pins H b) (ho : ∀ b ∈ fp, ∃ o, s.heap.get? b = some o ∧ ∀ v, o.data ≠ .cell v) : Inv X (pins ++ pinsAt fp s.heap) σ H s :=
  I.pins_of fun p hp => (List.mem_append.mp hp).elim (fun z => I.pin p (List.mem_append_right _ z)) fun z => by
    obtain ⟨hb, e⟩ := of_pinsAt z
    obtain ⟨f0, f1, f2, _⟩ := hf p.1 hb
    obtain ⟨o, e', d⟩ := ho p.1 hb
    rw [e] at e'; cases e'
    exact ⟨e, f0, f1, f2, d⟩
theorem Inv.unpinned {pins pl : List (Addr × Obj)} {σ : St} {H : Hp} {s : Shared} (I : Inv X (pins ++ pl) σ H s) : Inv X pins σ H s := I.pins_of fun p hp => I.pin p (List.mem_append_right _ (List.mem_append_left _ hp))
theorem ps_for {iter : Expr} {body : List Stmt} {wi : TI} {g : TG} {tb : TS} {pos : Pos} (hp : PassesOwn (model X.prog X.w) X.A X.env X.xe) (hc : X.calm = true) (hi : PI X tg iter wi) (hg : PG X tg g) (hb : PSs X body tb)
    (hs : ∀ x, foldedSetIterable iter X.env x = pure x := by intro _; rfl) : PS X (.For tg iter body [] pos) (tFor wi g tb) := by
  intro pins s σ H D I h
  refine wpAny_For (thn (hi pins s σ H _ I h) fun v s1 h1 => thn h1 fun itv s2 h2 => ?_) hs
  obtain ⟨it, fp, tn, J, H2, e, I2, T, st2, f2, W, ⟨m0, w0⟩, turn⟩ := h2
  subst e
  have stat : ∀ {H' : Hp}, (∀ b ∈ fp, H' b = none) → ∀ b ∈ fp, FpOk X pins H' b := fun hn b hb => ⟨hn b hb, (f2 b hb).2⟩
  refine codeAny_forLoop_any (fun n s' => ∃ i σ' H', Inv X pins σ' H' s' ∧ tn i s'.heap ∧ (∀ b ∈ fp, H' b = none) ∧ W i n σ' H') ?_ m0 ⟨0, σ, H2, I2, st2, fun b hb => (f2 b hb).1, w0⟩
  rintro n s3 ⟨i, σ3, H3, I3, st3, fr3, w3⟩
  rcases turn i n σ3 H3 w3 with ⟨stop, qn⟩ | ⟨go, N, hN, step⟩
  · refine wpAny_passesOwn hp (thn (T.done X rfl rfl rfl hc i pins s3 σ3 H3 X.xe I3 (stat fr3) st3 stop) fun r s4 ⟨hr, I4⟩ => ?_)
    subst hr
    exact wpAny_execs_nil ⟨σ3, H3, I4, qn⟩
  · refine wpAny_passesOwn hp (thn (T.item X rfl rfl rfl hc i pins s3 σ3 H3 X.xe I3 (stat fr3) st3 go) fun r s4 ⟨u, hr, h4⟩ => ?_)
    subst hr
    refine wpAny_passesOwn hp (thn h4 fun _ s5 ⟨x, H5, I5, r5, y5, st5, fr5⟩ => ?_)
    have I5' := I5.pinned (stat fr5) (T.obj _ _ st5)
    refine wpAny_passesOwn hp (thn (hg _ s5 σ3 H5 x u _ I5' r5 (step x H5 y5)) fun _ s6 ⟨σ6, H6, I6, q6⟩ => ?_)
    refine wpAny_passesOwn hp (thn (hb _ s6 σ6 H6 _ I6 q6) fun f s7 q7 => ?_)
    have again : ∀ {σ7 : St} {H7 : Hp}, Inv X (pins ++ pinsAt fp s5.heap) σ7 H7 s7 → N σ7 H7 → ∃ m, m < n ∧ ∃ i σ' H', Inv X pins σ' H' s7 ∧ tn i s7.heap ∧ (∀ b ∈ fp, H' b = none) ∧ W i m σ' H' := fun {σ7 H7} I7 n7 => by
      obtain ⟨m', hm, w7⟩ := hN σ7 H7 n7
      refine ⟨m', hm, i + 1, σ7, H7, I7.unpinned, T.keep _ _ _ st5 fun b hb o e => (I7.pin (b, o) (List.mem_append_right _ (List.mem_append_right _ (mem_pinsAt hb e)))).1, fun b hb => ?_, w7⟩
      obtain ⟨o, e, d⟩ := T.obj _ _ st5 b hb
      exact (I7.pin (b, o) (List.mem_append_right _ (List.mem_append_right _ (mem_pinsAt hb e)))).2.1
    cases f with
    | next => obtain ⟨σ7, H7, I7, n7⟩ := q7; exact again I7 n7
    | cont => obtain ⟨σ7, H7, I7, n7⟩ := q7; exact again I7 n7
    | brk => obtain ⟨σ7, H7, I7, q7⟩ := q7; exact ⟨σ7, H7, I7.unpinned, q7⟩
    | ret v => obtain ⟨x7, σ7, H7, I7, r7, q7⟩ := q7; exact ⟨x7, σ7, H7, I7.unpinned, r7, q7⟩
end
theorem for_list {K : PySem.W.Frag} {a : Addr} {xs : List V} {g : TG} {tb : TS} {D : Ends} {σ : St} {H : Hp} (Pv : Nat → St → Hp → Prop) (h0 : Pv 0 σ H) (hl : ∀ i σ H, i ≤ xs.length → Pv i σ H → SqL K H a xs)
    (hs : ∀ i x σ H, xs[i]? = some x → Pv i σ H → g x σ H fun σ2 H2 => tb { D with nx := Pv (i + 1), ct := Pv (i + 1), bk := D.nx } σ2 H2) (hd : ∀ σ H, Pv xs.length σ H → D.nx σ H) :
    ∃ W : Nat → Nat → St → Hp → Prop, (∃ m, W 0 m σ H) ∧ ∀ i m σ H, W i m σ H →
      ((Itl K a).stop i H ∧ D.nx σ H) ∨ ((Itl K a).go i H ∧ ∃ N : St → Hp → Prop, (∀ σ' H', N σ' H' → ∃ m', m' < m ∧ W (i + 1) m' σ' H') ∧ ∀ x H', (Itl K a).yld i H x H' → g x σ H' fun σ2 H2 => tb { D with nx := N, ct := N, bk := D.nx } σ2 H2) := by
  refine ⟨fun i m σ H => m = xs.length - i ∧ i ≤ xs.length ∧ Pv i σ H, ⟨xs.length, by simp, Nat.zero_le _, h0⟩, ?_⟩
  rintro i m σ H ⟨rfl, hi, p⟩
  have q := hl i σ H hi p
  by_cases hlt : i < xs.length
  · refine .inr ⟨⟨xs, xs[i], q, by simp [hlt]⟩, Pv (i + 1), fun σ' H' p' => ⟨xs.length - (i + 1), by omega, rfl, hlt, p'⟩, fun x H' y => ?_⟩
    obtain ⟨e, y⟩ := y
    subst e
    exact hs i x σ _ (y xs q) p
  · have e : i = xs.length := by omega
    subst e
    exact .inl ⟨⟨xs, q, Nat.le_refl _⟩, hd σ H p⟩
end L2
namespace L2
open PySem PySem.Spec PyProof.Rows
abbrev R2 := V → V → Hp → VK → Prop
def OpR (X : Cx) (f : Value → Value → Sem Value) (r : R2) : Prop :=
  ∀ (pins : List (Addr × Obj)) (s : Shared) (σ : St) (H : Hp) (x y : V) (v u : Value) (Q : VK), Inv X pins σ H s → RelV x v → RelV y u → r x y H Q →
    wpAny (model X.prog X.w) X.A (f v u) (EP X pins σ Q) X.xe s
def UnR (X : Cx) (f : Value → Sem Value) (r : V → Hp → VK → Prop) : Prop :=
  ∀ (pins : List (Addr × Obj)) (s : Shared) (σ : St) (H : Hp) (x : V) (v : Value) (Q : VK), Inv X pins σ H s → RelV x v → r x H Q →
    wpAny (model X.prog X.w) X.A (f v) (EP X pins σ Q) X.xe s
def CallR (X : Cx) (f : Value) (r : List V → Hp → VK → Prop) : Prop :=
  ∀ (pins : List (Addr × Obj)) (s : Shared) (σ : St) (H : Hp) (xs : List V) (us : List Value) (Q : VK), Inv X pins σ H s → Vals xs us → r xs H Q →
    wpAny (model X.prog X.w) X.A (call f us) (EP X pins σ Q) X.xe s
def tOp (r : R2) (ta tb : TE) : TE := fun σ H Q => ta σ H fun x H1 => tb σ H1 fun y H2 => r x y H2 Q
def tUn (r : V → Hp → VK → Prop) (ta : TE) : TE := fun σ H Q => ta σ H fun x H1 => r x H1 Q
def rI (C : Int → Int → Prop) (g : Int → Int → V) : R2 := fun x y H Q => ∃ i j, x = .int i ∧ y = .int j ∧ C i j ∧ Q (g i j) H
def rI0 (g : Int → Int → V) : R2 := fun x y H Q => ∃ i j, x = .int i ∧ y = .int j ∧ Q (g i j) H
def rU (g : Int → V) : V → Hp → VK → Prop := fun x H Q => ∃ i, x = .int i ∧ Q (g i) H
section
variable {X : Cx} {a b c : Expr} {ta tb tc : TE} {pos : Pos}
theorem binT (ha : PE X a ta) (hb : PE X b tb) {pins : List (Addr × Obj)} {s : Shared} {σ : St} {H : Hp} {R : V → V → Hp → Prop} (I : Inv X pins σ H s)
    (h : ta σ H fun x H1 => tb σ H1 fun y H2 => R x y H2) {Q : Value → Shared → Prop} {f : Value → Value → Sem Value}
    (hf : ∀ v u s2 x y H2, Inv X pins σ H2 s2 → RelV x v → RelV y u → R x y H2 → wpAny (model X.prog X.w) X.A (f v u) Q X.xe s2) :
    wpAny (model X.prog X.w) X.A (eval a X.env) (fun v s₁ => wpAny (model X.prog X.w) X.A (eval b X.env) (fun u s₂ => wpAny (model X.prog X.w) X.A (f v u) Q X.xe s₂) X.xe s₁) X.xe s := by
  refine thn (ha pins s σ H _ I h) fun v s1 ⟨x, H1, I1, r1, q1⟩ => ?_
  refine thn (hb pins s1 σ H1 _ I1 q1) fun u s2 ⟨y, H2, I2, r2, q2⟩ => ?_
  exact hf v u s2 x y H2 I2 r1 r2 q2
theorem pe_op {op : Operator} {r : R2} (ho : OpR X (binaryOp op) r) (ha : PE X a ta) (hb : PE X b tb) : PE X (.BinOp a op b pos) (tOp r ta tb) := by
  intro pins s σ H Q I h
  exact wpAny_BinOp (binT ha hb I h fun v u s2 x y H2 I2 rx ry q => ho pins s2 σ H2 x y v u Q I2 rx ry q)
theorem pe_un {op : UnaryOp} {r : V → Hp → VK → Prop} (ho : UnR X (unaryOp op) r) (ha : PE X a ta) : PE X (.UnaryOp op a pos) (tUn r ta) := by
  intro pins s σ H Q I h
  exact UnaryOp_ (thn (ha pins s σ H _ I h) fun v s1 ⟨x, H1, I1, r1, q1⟩ => ho pins s1 σ H1 x v Q I1 r1 q1)
theorem opI {f : Value → Value → Sem Value} {C : Int → Int → Prop} {g : Int → Int → Int}
    (rule : ∀ (i j : Int) (t u : Tok) (s : Shared) (Q : Value → Shared → Prop) (E : Value → Shared → Prop), C i j → Q (.int (g i j) s.toks) { s with toks := s.toks + 1 } → wpAny (model X.prog X.w) X.A (f (.int i t) (.int j u)) Q E s) :
    OpR X f (rI C fun i j => .int (g i j)) := by
  intro pins s σ H x y v u Q I rx ry h
  obtain ⟨i, j, rfl, rfl, hc, q⟩ := h
  obtain ⟨t, rfl⟩ := rx
  obtain ⟨t', rfl⟩ := ry
  exact rule i j t t' s _ _ hc ⟨.int (g i j), H, I.tok _, ⟨_, rfl⟩, q⟩
theorem opI0 {f : Value → Value → Sem Value} {g : Int → Int → Int}
    (rule : ∀ (i j : Int) (t u : Tok) (s : Shared) (Q : Value → Shared → Prop) (E : Value → Shared → Prop), Q (.int (g i j) s.toks) { s with toks := s.toks + 1 } → wpAny (model X.prog X.w) X.A (f (.int i t) (.int j u)) Q E s) :
    OpR X f (rI0 fun i j => .int (g i j)) := by
  intro pins s σ H x y v u Q I rx ry h
  obtain ⟨i, j, rfl, rfl, q⟩ := h
  obtain ⟨t, rfl⟩ := rx
  obtain ⟨t', rfl⟩ := ry
  exact rule i j t t' s _ _ ⟨.int (g i j), H, I.tok _, ⟨_, rfl⟩, q⟩
theorem opB0 {f : Value → Value → Sem Value} {g : Int → Int → Bool}
    (rule : ∀ (i j : Int) (t u : Tok) (s : Shared) (Q : Value → Shared → Prop) (E : Value → Shared → Prop), Q (.bool (g i j)) s → wpAny (model X.prog X.w) X.A (f (.int i t) (.int j u)) Q E s) :
    OpR X f (rI0 fun i j => .bl (g i j)) := by
  intro pins s σ H x y v u Q I rx ry h
  obtain ⟨i, j, rfl, rfl, q⟩ := h
  obtain ⟨t, rfl⟩ := rx
  obtain ⟨t', rfl⟩ := ry
  exact rule i j t t' s _ _ ⟨.bl (g i j), H, I, rfl, q⟩
def CDiv (i j : Int) : Prop := 0 < j ∧ j < 1073741824
theorem op_add : OpR X (binaryOp .Add) (rI0 fun i j => .int (i + j)) := opI0 fun _ _ _ _ _ _ _ q => add_int q
theorem op_sub : OpR X (binaryOp .Sub) (rI0 fun i j => .int (i - j)) := opI0 fun _ _ _ _ _ _ _ q => sub_int q
theorem op_fdiv : OpR X (binaryOp .FloorDiv) (rI CDiv fun i j => .int (i / j)) := opI fun i j _ _ _ _ _ hc q => by
  have h1 : (0 : Int) < j := hc.1
  have h2 : j < 1073741824 := hc.2
  exact floordiv_int (by omega) (by rw [Int.fdiv_eq_ediv_of_nonneg i (by omega)]; exact q) (.inl (PyProof.noPylong_small (by omega)))
theorem op_mod : OpR X (binaryOp .Mod) (rI (fun _ j => 0 < j) fun i j => .int (i % j)) := opI fun i j _ _ _ _ _ hc q => by
  have h1 : (0 : Int) < j := hc
  exact mod_int' (by omega) (by rw [Int.fmod_eq_emod_of_nonneg i (by omega)]; exact q)
theorem unI {f : Value → Sem Value} {g : Int → Int}
    (rule : ∀ (i : Int) (t : Tok) (s : Shared) (Q : Value → Shared → Prop) (E : Value → Shared → Prop), Q (.int (g i) s.toks) { s with toks := s.toks + 1 } → wpAny (model X.prog X.w) X.A (f (.int i t)) Q E s) :
    UnR X f (rU fun i => .int (g i)) := by
  intro pins s σ H x v Q I rx h
  obtain ⟨i, rfl, q⟩ := h
  obtain ⟨t, rfl⟩ := rx
  exact rule i t s _ _ ⟨.int (g i), H, I.tok _, ⟨_, rfl⟩, q⟩
theorem un_neg : UnR X (unaryOp .USub) (rU fun i => .int (-i)) := unI fun _ _ _ _ _ q => neg_int q
end
def scal : V → V → Bool
  | .non, .non => true | .non, .int _ => true | .int _, .non => true | .non, .bl _ => true | .bl _, .non => true | .non, .str _ => true | .str _, .non => true
  | .int _, .int _ => true | .bl _, .bl _ => true | .str _, .str _ => true | .byt _, .byt _ => true
  | .int _, .str _ => true | .str _, .int _ => true | .bl _, .str _ => true | .str _, .bl _ => true
  | _, _ => false
def rEq : R2 := fun x y H Q => scal x y = true ∧ Q (.bl (decide (x = y))) H
def rNe : R2 := fun x y H Q => scal x y = true ∧ Q (.bl (!decide (x = y))) H
theorem dec_int {i j : Int} : decide (V.int i = V.int j) = (i == j) := by
  rw [Bool.eq_iff_iff]
  simp
theorem dec_bl {i j : Bool} : decide (V.bl i = V.bl j) = (i == j) := by
  rw [Bool.eq_iff_iff]
  simp
theorem dec_str {i j : Str} : decide (V.str i = V.str j) = (i == j) := by
  rw [Bool.eq_iff_iff]
  simp
theorem dec_byt {i j : Array UInt8} : decide (V.byt i = V.byt j) = (i.toList == j.toList) := by
  rw [Bool.eq_iff_iff]
  cases i
  cases j
  simp
section
variable {X : Cx} {a b c : Expr} {ta tb tc : TE} {pos : Pos}
theorem fin_bl {pins : List (Addr × Obj)} {σ : St} {H : Hp} {s : Shared} {Q : VK} {k k' : Bool} (I : Inv X pins σ H s) (q : Q (.bl k) H) (e : k = k') : EP X pins σ Q (.bool k') s := by
  subst e
  exact ⟨.bl k, H, I, rfl, q⟩
theorem op_eq : OpR X (compareOp .Eq) rEq := by
  intro pins s σ H x y v u Q I rx ry h
  obtain ⟨hs, q⟩ := h
  cases x with
  | non =>
    cases rx
    cases y with
    | non => cases ry; exact PySem.EqNone.eq_none_none (fin_bl I q (by simp))
    | bl j => cases ry; exact PySem.EqNone.eq_none_bool (fin_bl I q (by simp))
    | int j => obtain ⟨t', rfl⟩ := ry; exact PySem.EqNone.eq_none_int (fin_bl I q (by simp))
    | str j => obtain ⟨t', rfl⟩ := ry; exact PySem.EqNone.eq_none_str (fin_bl I q (by simp))
    | _ => exact absurd (show false = true from hs) Bool.false_ne_true
  | bl i =>
    cases rx
    cases y with
    | non => cases ry; exact PySem.EqNone.eq_bool_none (fin_bl I q (by simp))
    | bl j => cases ry; exact eq_bool (fin_bl I q dec_bl)
    | str j => obtain ⟨t', rfl⟩ := ry; exact PySem.EqMixed.eq_bool_str (fin_bl I q (by simp))
    | _ => exact absurd (show false = true from hs) Bool.false_ne_true
  | int i =>
    obtain ⟨t, rfl⟩ := rx
    cases y with
    | non => cases ry; exact PySem.EqNone.eq_int_none (fin_bl I q (by simp))
    | int j => obtain ⟨t', rfl⟩ := ry; exact eq_int (fin_bl I q dec_int)
    | str j => obtain ⟨t', rfl⟩ := ry; exact PySem.EqMixed.eq_int_str (fin_bl I q (by simp))
    | _ => exact absurd (show false = true from hs) Bool.false_ne_true
  | str i =>
    obtain ⟨t, rfl⟩ := rx
    cases y with
    | non => cases ry; exact PySem.EqNone.eq_str_none (fin_bl I q (by simp))
    | bl j => cases ry; exact PySem.EqMixed.eq_str_bool (fin_bl I q (by simp))
    | int j => obtain ⟨t', rfl⟩ := ry; exact PySem.EqMixed.eq_str_int (fin_bl I q (by simp))
    | str j => obtain ⟨t', rfl⟩ := ry; exact eq_str (fin_bl I q dec_str)
    | _ => exact absurd (show false = true from hs) Bool.false_ne_true
  | byt i =>
    obtain ⟨t, rfl⟩ := rx
    cases y with
    | byt j => obtain ⟨t', rfl⟩ := ry; exact PySem.W.eq_bytes (fin_bl I q dec_byt)
    | _ => exact absurd (show false = true from hs) Bool.false_ne_true
  | _ => cases y <;> exact absurd (show false = true from hs) Bool.false_ne_true
theorem op_ne : OpR X (compareOp .NotEq) rNe := by
  intro pins s σ H x y v u Q I rx ry h
  obtain ⟨hs, q⟩ := h
  cases x with
  | non =>
    cases rx
    cases y with
    | non => cases ry; exact PySem.EqNone.ne_none_none (fin_bl I q (by simp))
    | bl j => cases ry; exact PySem.EqNone.ne_none_bool (fin_bl I q (by simp))
    | int j => obtain ⟨t', rfl⟩ := ry; exact PySem.EqNone.ne_none_int (fin_bl I q (by simp))
    | str j => obtain ⟨t', rfl⟩ := ry; exact PySem.EqNone.ne_none_str (fin_bl I q (by simp))
    | _ => exact absurd (show false = true from hs) Bool.false_ne_true
  | bl i =>
    cases rx
    cases y with
    | non => cases ry; exact PySem.EqNone.ne_bool_none (fin_bl I q (by simp))
    | bl j => cases ry; exact ne_bool (fin_bl I q (congrArg not dec_bl))
    | str j => obtain ⟨t', rfl⟩ := ry; exact PySem.EqMixed.ne_bool_str (fin_bl I q (by simp))
    | _ => exact absurd (show false = true from hs) Bool.false_ne_true
  | int i =>
    obtain ⟨t, rfl⟩ := rx
    cases y with
    | non => cases ry; exact PySem.EqNone.ne_int_none (fin_bl I q (by simp))
    | int j => obtain ⟨t', rfl⟩ := ry; exact ne_int (fin_bl I q (congrArg not dec_int))
    | str j => obtain ⟨t', rfl⟩ := ry; exact PySem.EqMixed.ne_int_str (fin_bl I q (by simp))
    | _ => exact absurd (show false = true from hs) Bool.false_ne_true
  | str i =>
    obtain ⟨t, rfl⟩ := rx
    cases y with
    | non => cases ry; exact PySem.EqNone.ne_str_none (fin_bl I q (by simp))
    | bl j => cases ry; exact PySem.EqMixed.ne_str_bool (fin_bl I q (by simp))
    | int j => obtain ⟨t', rfl⟩ := ry; exact PySem.EqMixed.ne_str_int (fin_bl I q (by simp))
    | str j => obtain ⟨t', rfl⟩ := ry; exact ne_str (fin_bl I q (congrArg not dec_str))
    | _ => exact absurd (show false = true from hs) Bool.false_ne_true
  | byt i =>
    obtain ⟨t, rfl⟩ := rx
    cases y with
    | byt j => obtain ⟨t', rfl⟩ := ry; exact PySem.W.ne_bytes (fin_bl I q (congrArg not dec_byt))
    | _ => exact absurd (show false = true from hs) Bool.false_ne_true
  | _ => cases y <;> exact absurd (show false = true from hs) Bool.false_ne_true
theorem op_lt : OpR X (compareOp .Lt) (rI0 fun i j => .bl (decide (i < j))) := opB0 fun _ _ _ _ _ _ _ q => lt_int q
theorem op_le : OpR X (compareOp .LtE) (rI0 fun i j => .bl (decide (i ≤ j))) := opB0 fun _ _ _ _ _ _ _ q => le_int q
theorem op_gt : OpR X (compareOp .Gt) (rI0 fun i j => .bl (decide (j < i))) := opB0 fun _ _ _ _ _ _ _ q => gt_int q
theorem op_ge : OpR X (compareOp .GtE) (rI0 fun i j => .bl (decide (j ≤ i))) := opB0 fun _ _ _ _ _ _ _ q => ge_int q
theorem op_isN : OpR X (compareOp .Is) (fun x y H Q => y = .non ∧ Q (.bl (decide (x = .non))) H) := by
  intro pins s σ H x y v u Q I rx ry h
  obtain ⟨rfl, q⟩ := h
  cases ry
  refine is_none_gen (fin_bl I q ?_)
  cases x <;> first
    | (cases rx; rfl)
    | (obtain ⟨t, rfl⟩ := rx; rfl)
theorem nomark (b : Expr) {op : CmpOp} (h : op ≠ .In := by decide) (h2 : op ≠ .NotIn := by decide) : behindInMarks op b = false := by
  have e1 : (op == CmpOp.In) = false := by cases op <;> first | rfl | exact absurd rfl h
  have e2 : (op == CmpOp.NotIn) = false := by cases op <;> first | rfl | exact absurd rfl h2
  cases b <;> simp [behindInMarks, e1, e2]
theorem pe_cmpR {op : CmpOp} {r : R2} (ho : OpR X (compareOp op) r) (ha : PE X a ta) (hb : PE X b tb) (hm : behindInMarks op b = false) : PE X (.Compare a [op] [b] pos) (tOp r ta tb) := by
  intro pins s σ H Q I h
  exact wpAny_Compare1 (binT ha hb I h fun v u s2 x y H2 I2 rx ry q => ho pins s2 σ H2 x y v u Q I2 rx ry q) hm
def tTest (t : TE) : TT := fun σ H Q => t σ H fun x H' => ∃ k, x = .bl k ∧ Q k H'
theorem pt_cmpR {op : CmpOp} {r : R2} (ho : OpR X (compareOp op) r) (ha : PE X a ta) (hb : PE X b tb) (hm : behindInMarks op b = false) : PT X (.Compare a [op] [b] pos) (tTest (tOp r ta tb)) := by
  intro pins s σ H Q I h
  refine wpAny_isTrue_Compare1 (thn (ha pins s σ H _ I h) fun v s1 ⟨x, H1, I1, r1, q1⟩ => thn (hb pins s1 σ H1 _ I1 q1) fun u s2 ⟨y, H2, I2, r2, q2⟩ =>
    thn (ho pins s2 σ H2 x y v u _ I2 r1 r2 q2) fun c s3 ⟨z, H3, I3, r3, k, e, q3⟩ => ?_) hm
  subst e
  cases r3
  exact wpAny_truthy_bool ⟨H3, I3, q3⟩
def tChain (r r' : R2) (ta tb tc : TE) : TE := fun σ H Q => ta σ H fun x H1 => tb σ H1 fun y H2 => r x y H2 fun z H3 => ∃ k, z = .bl k ∧
  (if k = true then tc σ H3 fun w' H4 => r' y w' H4 Q else Q (.bl false) H3)
theorem pe_chain {op op' : CmpOp} {r r' : R2} (ho : OpR X (compareOp op) r) (ho' : OpR X (compareOp op') r') (ha : PE X a ta) (hb : PE X b tb) (hc : PE X c tc)
    (hm : lastMarks [op, op'] [b, c] = false := by with_unfolding_all rfl) : PE X (.Compare a [op, op'] [b, c] pos) (tChain r r' ta tb tc) := by
  intro pins s σ H Q I h
  refine Compare_chain (thn (ha pins s σ H _ I h) fun v s1 ⟨x, H1, I1, r1, q1⟩ => chain_link (thn (hb pins s1 σ H1 _ I1 q1) fun u s2 ⟨y, H2, I2, r2, q2⟩ =>
    thn (ho pins s2 σ H2 x y v u _ I2 r1 r2 q2) fun d s3 ⟨z, H3, I3, r3, k, e, q3⟩ => ?_)) hm
  subst e
  cases r3
  refine wpAny_truthy_bool ?_
  cases k with
  | false => exact ite_ff ⟨.bl false, H3, I3, rfl, q3⟩
  | true => exact ite_tt (chain_last (thn (hc pins s3 σ H3 _ I3 q3) fun w' s4 ⟨z', H4, I4, r4, q4⟩ => ho' pins s4 σ H4 y z' u w' Q I4 r2 r4 q4))
theorem pt_chain {op op' : CmpOp} {r r' : R2} (ho : OpR X (compareOp op) r) (ho' : OpR X (compareOp op') r') (ha : PE X a ta) (hb : PE X b tb) (hc : PE X c tc)
    (hm : lastMarks [op, op'] [b, c] = false := by with_unfolding_all rfl) : PT X (.Compare a [op, op'] [b, c] pos) (tTest (tChain r r' ta tb tc)) := by
  intro pins s σ H Q I h
  refine isTrue_chain (thn (ha pins s σ H _ I h) fun v s1 ⟨x, H1, I1, r1, q1⟩ => test_link (thn (hb pins s1 σ H1 _ I1 q1) fun u s2 ⟨y, H2, I2, r2, q2⟩ =>
    thn (ho pins s2 σ H2 x y v u _ I2 r1 r2 q2) fun d s3 ⟨z, H3, I3, r3, k, e, q3⟩ => ?_)) hm
  subst e
  cases r3
  refine wpAny_truthy_bool ?_
  cases k with
  | false =>
    obtain ⟨k', e', q'⟩ := q3
    cases e'
    exact ite_ff ⟨H3, I3, q'⟩
  | true =>
    refine ite_tt (test_last (thn (hc pins s3 σ H3 _ I3 q3) fun w' s4 ⟨z', H4, I4, r4, q4⟩ => thn (ho' pins s4 σ H4 y z' u w' _ I4 r2 r4 q4) fun d' s5 ⟨z2, H5, I5, r5, k2, e2, q5⟩ => ?_))
    subst e2
    cases r5
    exact wpAny_truthy_bool ⟨H5, I5, q5⟩
theorem line63 : (sizeLine : Nat) < 2 ^ 63 := by rw [sizeLine_eq]; decide
theorem vals1 {x : V} {us : List Value} (r : Vals [x] us) : ∃ u, us = [u] ∧ RelV x u := by
  cases r with
  | cons r1 r2 => cases r2; exact ⟨_, rfl, r1⟩
theorem call_str_int : CallR X (.type "str") (fun xs H Q => ∃ i, xs = [.int i] ∧ i.natAbs.log2 < 1920 ∧ Q (.str (toString i)) H) := by
  intro pins s σ H xs us Q I r h
  obtain ⟨i, rfl, hz, q⟩ := h
  obtain ⟨u, rfl, t, rfl⟩ := vals1 r
  exact PySem.P.str_of_int hz ⟨.str _, H, I.tok _, ⟨_, rfl⟩, q⟩
theorem call_ord : CallR X (.builtin "ord") (fun xs H Q => ∃ x, xs = [.str x] ∧ x.length = 1 ∧ Q (.int (x.cps.getD 0 0 : Nat)) H) := by
  intro pins s σ H xs us Q I r h
  obtain ⟨x, rfl, hz, q⟩ := h
  obtain ⟨u, rfl, t, rfl⟩ := vals1 r
  exact ord_of_one hz ⟨.int _, H, I.tok _, ⟨_, rfl⟩, q⟩
end
end L2
namespace L2
open PySem PySem.Spec PyProof.Rows
structure ObjM (h : Heap) (x dx C : Addr) (mA : Str → Option Value) : Prop where
  obj : h.get? x = some (PySem.W.instObj C dx)
  ns : h.Ns1 dx mA
  ne : dx ≠ x
theorem lookIn_ns {h : Heap} {dx : Addr} {mA : Str → Option Value} (n : h.Ns1 dx mA) : ∃ od, h.get? dx = some od ∧ ∀ name, PySem.W.lookIn name od = some (mA name) := by
  obtain ⟨o, es, ep, ho, hd, hk, _, hm⟩ := n
  refine ⟨o, ho, fun name => ?_⟩
  have e := hm name
  unfold nsFind findBy at e
  rw [← Array.find?_toList] at e
  unfold PySem.W.lookIn
  rw [hd]
  dsimp only
  split
  · rename_i y q
    rw [q] at e
    exact congrArg some e
  · rename_i q
    rw [q] at e
    have a : es.toList.any (·.refKey) = false := by
      rw [List.any_eq_false]
      intro y hy
      obtain ⟨z, t, hkey⟩ := hk y (Array.mem_toList_iff.mp hy)
      simp [DictEntry.refKey, hkey]
    have a' : ¬ es.toList.any (·.refKey) = true := by rw [a]; exact Bool.false_ne_true
    rw [if_neg a']
    exact congrArg some e
theorem ObjM.look {h : Heap} {x dx C : Addr} {mA : Str → Option Value} (I : ObjM h x dx C mA) : ∃ od, PySem.W.InstAt h x (PySem.W.instObj C dx) C (some od) ∧ ∀ name, PySem.W.lookIn name od = some (mA name) :=
  let ⟨od, ho, hl⟩ := lookIn_ns I.ns
  ⟨od, ⟨I.obj, rfl, rfl, ho⟩, hl⟩
section
variable {prog : Program} {w : World} {A : Around} {E : Value → Shared → Prop} {s : Shared} {K : PySem.W.Frag} {x dx C f : Addr} {mA : Str → Option Value} {name : Str} {v : Value}
theorem get_map {expr : Bool} {Q : Value → Shared → Prop} (X : K.In s.heap) (I : ObjM s.heap x dx C mA) (hg : PySem.W.plainGet K C name = true) (hh : PySem.W.hasDictIn K C = true)
    (ha : PySem.W.findIn K (.ref C) name = some none) (hv : mA name = some v) (hv' : PySem.W.handedIn v = true) (h : Q v { s with toks := s.toks + 1 }) :
    wpAny (model prog w) A (getAttr (.ref x) name expr) Q E s := by
  obtain ⟨od, J, hl⟩ := I.look
  exact PySem.W.get_value X J (PySem.W.plainGet_of hg).1 (PySem.W.findObj_own hh ha rfl (by rw [hl, hv])) hv' h
theorem set_map {ns : List Str} {Q : Unit → Shared → Prop} (X : K.In s.heap) (I : ObjM s.heap x dx C mA)
    (hs : PySem.W.findIn K (.ref C) "__setattr__" = some (some (.builtin "object.__setattr__"))) (hp : PySem.W.plainOver K C = true) (ht : PySem.W.takerIn K C name = some none) (hh : PySem.W.hasDictIn K C = true)
    (hw : PySem.Within mA ns) (hsz : ns.length ≤ sizeLine)
    (h : ∀ h', ObjM h' x dx C (fun y => if y = name then some v else mA y) → Heap.SameBut dx s.heap h' → Q () { s with heap := h', toks := s.toks + 2 }) :
    wpAny (model prog w) A (setAttr (.ref x) name v) Q E s := by
  obtain ⟨od, J, hl⟩ := I.look
  refine PySem.W.set_plain X J hs (PySem.W.osa_open (s := { s with toks := s.toks + 1 }) (r := none) X J hp ht fun b => ?_)
  obtain ⟨cd, hc, hd'⟩ := PySem.W.any_some hh
  have hx : s.heap.get? x = some ⟨.ref C, some dx, .plain, #[]⟩ := I.obj
  refine wpAny_bind (wpAny_pure (wpAny_bind (wpAny_bind (wpAny_loadPart hx (wpAny_bind (PySem.W.Looks.here (s := { s with toks := s.toks + 1 }) (PySem.W.looks_clsIn X hc) ?_))))))
  rw [hd']
  refine wpAny_pure (a := some dx) (wpAny_bind (wpAny_pure (wpAny_bind ?_)))
  refine wpAny_nsSet1 (s := { s with toks := s.toks + 1 }) I.ns fun h' hn2 hs2 => ?_
  obtain ⟨oD, esD, epD, hoD, hdD, hcD⟩ := hn2.count (PySem.Within.cons name v hw)
  refine wpAny_bind (wpAny_lookBehind hoD (by rw [hdD]; exact pastItsLine_dict (Nat.le_trans hcD (by rw [List.length_cons]; omega))) ?_)
  exact wpAny_pure (h _ ⟨(hs2.2 _ (Ne.symm I.ne)).trans I.obj, hn2, I.ne⟩ hs2)
theorem make_map {R : Result → Shared → Prop} {vs : List Value} {kw : List (Str × Value)} (X : K.In s.heap) (hm : PySem.W.makesIn K C = true)
    (hi : PySem.W.findIn K (.ref C) "__init__" = some (some (.ref f))) (hf : PySem.W.typeIn K (.ref f) = some (.type "function"))
    (h : codeAny (model prog w) (A.under (.builtin "type.__call__" ⟨.ref C :: vs, kw⟩)) (.call (.ref f) ⟨.ref (s.heap.objs.size + 1) :: vs, kw⟩) (PySem.W.InitBack (s.heap.objs.size + 1) R)
      { s with heap := (s.heap.push PySem.W.emptyDict).push (PySem.W.instObj C s.heap.objs.size) }) :
    codeAny (model prog w) A (.call (.ref C) ⟨vs, kw⟩) R s := by
  obtain ⟨hh, g, d, t, os⟩ := s
  exact PySem.W.make_core (PySem.W.makes_of X hm) (PySem.W.looks_findIn X hi) (fun self => PySem.W.bind_fn X self hf) (.inl rfl) h
end
def putF (f : Str) (v : V) : List (Str × V) → List (Str × V)
  | [] => [(f, v)]
  | (g, x) :: r => if g = f then (g, v) :: r else (g, x) :: putF f v r
theorem lookup_putF (f g : Str) (v : V) : ∀ fs : List (Str × V), (putF f v fs).lookup g = if g = f then some v else fs.lookup g
  | [] => by
    show List.lookup g [(f, v)] = _
    by_cases h : g = f
    · have hb : (g == f) = true := beq_iff_eq.mpr h
      simp only [List.lookup, hb, if_pos h]
    · have hb : (g == f) = false := beq_eq_false_iff_ne.mpr h
      simp only [List.lookup, hb, if_neg h]
  | (k, x) :: r => by
    have ih := lookup_putF f g v r
    rw [show putF f v ((k, x) :: r) = (if k = f then (k, v) :: r else (k, x) :: putF f v r) from rfl]
    by_cases hk : k = f
    · rw [if_pos hk]
      by_cases h : g = k
      · have hb : (g == k) = true := beq_iff_eq.mpr h
        simp only [List.lookup, hb, if_pos (h.trans hk)]
      · have hb : (g == k) = false := beq_eq_false_iff_ne.mpr h
        simp only [List.lookup, hb, if_neg (fun e : g = f => h (e.trans hk.symm))]
    · rw [if_neg hk]
      by_cases h : g = k
      · have hb : (g == k) = true := beq_iff_eq.mpr h
        simp only [List.lookup, hb, if_neg (fun e : g = f => hk (h.symm.trans e))]
      · have hb : (g == k) = false := beq_eq_false_iff_ne.mpr h
        simp only [List.lookup, hb]
        exact ih
theorem keys_putF (f : Str) (v : V) : ∀ fs : List (Str × V), f ∈ (putF f v fs).map (·.1) ∧ ∀ g, g ∈ fs.map (·.1) → g ∈ (putF f v fs).map (·.1)
  | [] => ⟨by simp [putF], fun g h => by simp at h⟩
  | (k, x) :: r => by
    obtain ⟨i1, i2⟩ := keys_putF f v r
    rw [show putF f v ((k, x) :: r) = (if k = f then (k, v) :: r else (k, x) :: putF f v r) from rfl]
    by_cases hk : k = f
    · rw [if_pos hk]
      subst hk
      exact ⟨by simp, fun g h => by simpa using h⟩
    · rw [if_neg hk]
      refine ⟨?_, fun g h => ?_⟩
      · rw [List.map_cons]
        exact List.mem_cons_of_mem _ i1
      · rw [List.map_cons] at h ⊢
        rcases List.mem_cons.mp h with e | e
        · exact List.mem_cons.mpr (.inl e)
        · exact List.mem_cons_of_mem _ (i2 g e)
theorem length_putF (f : Str) (v : V) : ∀ fs : List (Str × V), (putF f v fs).length ≤ fs.length + 1
  | [] => by simp [putF]
  | (k, x) :: r => by
    have ih := length_putF f v r
    rw [show putF f v ((k, x) :: r) = (if k = f then (k, v) :: r else (k, x) :: putF f v r) from rfl]
    by_cases hk : k = f
    · rw [if_pos hk, List.length_cons, List.length_cons]; omega
    · rw [if_neg hk, List.length_cons, List.length_cons]; omega
theorem RelO.some_of {v : V} {o : Option Value} (r : RelO (some v) o) : ∃ u, o = some u ∧ RelV v u := by
  cases o with
  | none => exact (show False from r).elim
  | some u => exact ⟨u, rfl, r⟩
theorem handed_of {v : V} {u : Value} (r : RelV v u) : PySem.W.handedIn u = true := by
  cases v with
  | non => cases (show u = Value.none from r); rfl
  | bl b => cases (show u = Value.bool b from r); rfl
  | int i => obtain ⟨t, e⟩ := (show ∃ t, u = Value.int i t from r); cases e; rfl
  | str x => obtain ⟨t, e⟩ := (show ∃ t, u = Value.str x t from r); cases e; rfl
  | byt b => obtain ⟨t, e⟩ := (show ∃ t, u = Value.bytes b t from r); cases e; rfl
  | flt b => obtain ⟨t, e⟩ := (show ∃ t, u = Value.float b t from r); cases e; rfl
  | ref a => cases (show u = Value.ref a from r); rfl
  | ty n => cases (show u = Value.type n from r); rfl
section
variable {P : Program} {w : World} {H H' : Hp} {h h' : Heap} {a C dx : Addr} {fs fs' : List (Str × V)}
theorem ins_get (hok : HOk P w H h) (e : H a = some (.ins C dx fs)) : ∃ mA, ObjM h a dx C mA ∧ (∀ f, RelO (fs.lookup f) (mA f)) ∧ PySem.Within mA (fs.map (·.1)) ∧ fs.length ≤ 1000 ∧ H dx = some (.own a) := by
  obtain ⟨d, z, ne, ob, mA, n, r, q⟩ := (show ObjOk P w H h a (.ins C dx fs) from hok a _ e)
  exact ⟨mA, ⟨ob, n, ne⟩, r, q, z, d⟩
end
structure Cls (K : PySem.W.Frag) (C : Addr) : Prop where
  pg : PySem.W.plainGet K C Str.empty = true
  hd : PySem.W.hasDictIn K C = true
  po : PySem.W.plainOver K C = true
  sa : PySem.W.findIn K (.ref C) "__setattr__" = some (some (.builtin "object.__setattr__"))
theorem Cls.get {K : PySem.W.Frag} {C : Addr} (c : Cls K C) (f : Str) : PySem.W.plainGet K C f = true := c.pg
def NoAttr (K : PySem.W.Frag) (C : Addr) (f : Str) : Prop := PySem.W.findIn K (.ref C) f = some none
theorem NoAttr.taker {K : PySem.W.Frag} {C : Addr} {f : Str} (n : NoAttr K C f) : PySem.W.takerIn K C f = some none := by
  unfold PySem.W.takerIn
  rw [show PySem.W.findIn K (.ref C) f = some none from n]
  rfl
section
variable {X : Cx} {pins : List (Addr × Obj)} {σ : St} {H : Hp} {s : Shared} {a C dx : Addr} {fs : List (Str × V)} {f : Str} {v : V} {A : Around} {E : Value → Shared → Prop}
theorem getattr_ok {b : Bool} {Q : Value → Shared → Prop} (I : Inv X pins σ H s) (e : H a = some (.ins C dx fs)) (c : Cls X.K C) (n : NoAttr X.K C f) (l : fs.lookup f = some v)
    (h : ∀ u s', Inv X pins σ H s' → RelV v u → Q u s') : wpAny (model X.prog X.w) A (getAttr (.ref a) f b) Q E s := by
  obtain ⟨mA, O, r, _, _, _⟩ := ins_get I.hok e
  obtain ⟨u, hu, ru⟩ := RelO.some_of (v := v) (o := mA f) (by rw [← l]; exact r f)
  exact get_map I.kIn O (c.get f) c.hd n hu (handed_of ru) (h u _ (I.tok _) ru)
theorem setattr_ok {y : V} {u : Value} {Q : Unit → Shared → Prop} (I : Inv X pins σ H s) (e : H a = some (.ins C dx fs)) (c : Cls X.K C) (n : NoAttr X.K C f) (hl : fs.length < 1000) (ry : RelV y u)
    (h : ∀ s', Inv X pins σ (upd H a (.ins C dx (putF f y fs))) s' → Q () s') : wpAny (model X.prog X.w) A (setAttr (.ref a) f u) Q E s := by
  obtain ⟨mA, O, r, wi, _, ho⟩ := ins_get I.hok e
  have hz : (fs.map (·.1)).length ≤ sizeLine := by rw [List.length_map, sizeLine_eq]; omega
  refine set_map I.kIn O c.sa c.po n.taker c.hd wi hz fun h' O' sb => h _ ?_
  have hd : ∃ o, h'.get? dx = some o := let ⟨o, _, _, e', _⟩ := O'.ns; ⟨o, e'⟩
  refine I.write (x := a) (e := dx) (by rw [e]; exact True.intro) (.inr ho) (fun b q hb z => (sb.2 b hb).trans z) hd ?_
  refine ⟨by rw [upd_ne O.ne]; exact ho, ?_, O.ne, O'.obj, _, O'.ns, fun g => ?_, fun g hg => ?_⟩
  · have := length_putF f y fs; omega
  · show RelO ((putF f y fs).lookup g) (if g = f then some u else mA g)
    rw [lookup_putF]
    by_cases q : g = f
    · rw [if_pos q, if_pos q]; exact ry
    · rw [if_neg q, if_neg q]; exact r g
  · by_cases q : g = f
    · rw [q]; exact (keys_putF f y fs).1
    · refine (keys_putF f y fs).2 g (wi g fun z => hg ?_)
      show (if g = f then some u else mA g) = none
      rw [if_neg q]; exact z
theorem Inv.made (I : Inv X pins σ H s) : Inv X pins σ (upd (upd H s.heap.objs.size (.own (s.heap.objs.size + 1))) (s.heap.objs.size + 1) (.ins C s.heap.objs.size []))
    { s with heap := (s.heap.push PySem.W.emptyDict).push (PySem.W.instObj C s.heap.objs.size) } := by
  have e1 : (s.heap.push PySem.W.emptyDict).get? s.heap.objs.size = some PySem.W.emptyDict := Heap.get?_push_size s.heap rfl
  have e2 : ((s.heap.push PySem.W.emptyDict).push (PySem.W.instObj C s.heap.objs.size)).get? (s.heap.objs.size + 1) = some (PySem.W.instObj C s.heap.objs.size) := by
    have := Heap.get?_push_size (s.heap.push PySem.W.emptyDict) (o := PySem.W.instObj C s.heap.objs.size) rfl
    rwa [Heap.size_push] at this
  have e3 : (s.heap.push PySem.W.emptyDict).Ns s.heap.objs.size (fun _ => none) := ⟨PySem.W.emptyDict, #[], _, e1, rfl, (fun e he => absurd he (by simp)), fun _ => rfl⟩
  have I1 := I.laid (a := s.heap.objs.size) (o := .own (s.heap.objs.size + 1)) (h' := s.heap.push PySem.W.emptyDict) (t' := s.toks) (fun b u q => Heap.get?_push_of_some _ q) (Nat.le_refl _) ⟨_, e1⟩
  refine I1.laid (a := s.heap.objs.size + 1) (o := .ins C s.heap.objs.size []) (t' := s.toks) (fun b u q => Heap.get?_push_of_some _ q) (Nat.le_of_eq (Heap.size_push _ _)) ?_
  have ne : s.heap.objs.size ≠ s.heap.objs.size + 1 := Nat.ne_of_lt (Nat.lt_succ_self _)
  refine ⟨by rw [upd_ne ne, upd_same], Nat.zero_le _, ne, e2, fun _ => none, (Heap.Ns1.of_empty e3).at fun o q => Heap.get?_push_of_some _ q, fun _ => True.intro, fun y hy => absurd rfl hy⟩
theorem attr_of {prog : Program} {w : World} {env : Env} {e : Expr} {f : Str} {pos : Pos} {s : Shared} {Q : Value → Shared → Prop} (hb : attributeBase e f env (eval e env) = eval e env)
    (h : wpAny (model prog w) A (eval e env) (fun o s₁ => wpAny (model prog w) A (getAttr o f true) Q E s₁) E s) : wpAny (model prog w) A (eval (.Attribute e f pos) env) Q E s :=
  Attribute_any_ h (by rw [arm_eval_Attribute, hb])
end
def tFld (K : PySem.W.Frag) (ta : TE) (f : Str) : TE := fun σ H Q => ta σ H fun x H1 => ∃ a C dx fs v, x = .ref a ∧ H1 a = some (.ins C dx fs) ∧ Cls K C ∧ NoAttr K C f ∧ fs.lookup f = some v ∧ Q v H1
def sFld (K : PySem.W.Frag) (ta tv : TE) (f : Str) : TS := fun D σ H => tv σ H fun y H1 => ta σ H1 fun x H2 => ∃ a C dx fs, x = .ref a ∧ H2 a = some (.ins C dx fs) ∧ Cls K C ∧ NoAttr K C f ∧ fs.length < 1000 ∧
  D.nx σ (upd H2 a (.ins C dx (putF f y fs)))
def InOp (X : Cx) (op : Operator) (rd : V → V → Hp → VK → Prop) : Prop :=
  ∀ (pins : List (Addr × Obj)) (s : Shared) (σ : St) (H : Hp) (x y : V) (u v : Value) (Q : VK), Inv X pins σ H s → RelV x u → RelV y v → rd x y H Q → wpAny (model X.prog X.w) X.A (inplaceOp op u v) (EP X pins σ Q) X.xe s
def sFldAug (K : PySem.W.Frag) (ta tv : TE) (rd : V → V → Hp → VK → Prop) (f : Str) : TS := fun D σ H => ta σ H fun x H1 => ∃ a C dx fs v, x = .ref a ∧ H1 a = some (.ins C dx fs) ∧ Cls K C ∧ NoAttr K C f ∧ fs.lookup f = some v ∧
  tv σ H1 fun y H2 => rd v y H2 fun z H3 => ∃ dx' fs', H3 a = some (.ins C dx' fs') ∧ fs'.length < 1000 ∧ D.nx σ (upd H3 a (.ins C dx' (putF f z fs')))
section
variable {X : Cx} {o e value : Expr} {f : Str} {pos pos' tpos : Pos} {ta tv : TE}
theorem pe_fld (he : PE X e ta) (hb : attributeBase e f X.env (eval e X.env) = eval e X.env) : PE X (.Attribute e f pos) (tFld X.K ta f) := by
  intro pins s σ H Q I h
  refine attr_of hb (thn (he pins s σ H _ I h) fun u s1 ⟨x, H1, I1, rx, a, C, dx, fs, v, ex, ea, c, n, l, q⟩ => ?_)
  subst ex
  obtain rfl : u = Value.ref a := rx
  exact getattr_ok I1 ea c n l fun u' s2 I2 ru => ⟨v, H1, I2, ru, q⟩
theorem ps_fld (ha : PE X o ta) (hv : PE X value tv) (hs : swapsWith value (some (.Attribute o f pos')) pos.line X.env = pure false) : PS X (.Assign [.Attribute o f pos'] value pos) (sFld X.K ta tv f) := by
  intro pins s σ H D I h
  refine plainObj_wpAny_Assign_Attribute (thn (hv pins s σ H _ I h) fun u s1 ⟨y, H1, I1, ry, q⟩ => thn (ha pins s1 σ H1 _ I1 q) fun ov s2 ⟨x, H2, I2, rx, a, C, dx, fs, ex, ea, c, n, l, q2⟩ => ?_) hs
  subst ex
  obtain rfl : ov = Value.ref a := rx
  exact setattr_ok I2 ea c n l ry fun s3 I3 => ⟨σ, _, I3, q2⟩
theorem ps_fldaug {op : Operator} {rd : V → V → Hp → VK → Prop} (ha : PE X o ta) (hv : PE X value tv) (hop : InOp X op rd) : PS X (.AugAssign (.Attribute o f tpos) op value pos) (sFldAug X.K ta tv rd f) := by
  intro pins s σ H D I h
  refine wpAny_AugAssign_AttributeAny (thn (ha pins s σ H _ I h) fun ov s1 ⟨x, H1, I1, rx, a, C, dx, fs, v, ex, ea, c, n, l, q⟩ => ?_)
  subst ex
  obtain rfl : ov = Value.ref a := rx
  refine getattr_ok I1 ea c n l fun u s2 I2 ru => thn (hv pins s2 σ H1 _ I2 q) fun w3 s3 ⟨y, H2, I3, ry, q3⟩ => thn (hop pins s3 σ H2 v y u w3 _ I3 ru ry q3) fun w4 s4 ⟨z, H3, I4, rz, dx', fs', ea', l', q4⟩ => ?_
  exact setattr_ok I4 ea' c n l' rz fun s5 I5 => ⟨σ, _, I5, q4⟩
def rAdd : V → V → Hp → VK → Prop := fun x y H Q => ∃ i j, x = .int i ∧ y = .int j ∧ Q (.int (i + j)) H
def rSub : V → V → Hp → VK → Prop := fun x y H Q => ∃ i j, x = .int i ∧ y = .int j ∧ Q (.int (i - j)) H
theorem in_add : InOp X .Add rAdd := by
  rintro pins s σ H x y u v Q I rx ry ⟨i, j, rfl, rfl, q⟩
  obtain ⟨t, rfl⟩ := (show ∃ t, u = Value.int i t from rx)
  obtain ⟨t', rfl⟩ := (show ∃ t', v = Value.int j t' from ry)
  exact PyProof.Rows.iadd_int ⟨.int (i + j), H, I.tok _, ⟨_, rfl⟩, q⟩
end
section
variable {X : Cx} {pins : List (Addr × Obj)} {σ : St} {H : Hp} {s : Shared} {A : Around} {E : Value → Shared → Prop} {Q : Value → Shared → Prop} {c : Value} {b : Bool}
end
end L2
namespace L2
open PySem PySem.Spec PyProof.Rows
structure Room (k : Nat) (A : Around) : Prop where
  hd : A.handled = none
  dp : A.depth + 3 * k + 5 < recursionLimit
  un : A.units + 16 * k + 200 < cLine
theorem Room.mono {j k : Nat} {A : Around} (r : Room k A) (h : j ≤ k) : Room j A := ⟨r.hd, by have := r.dp; omega, by have := r.un; omega⟩
theorem Room.deeper {k : Nat} {A : Around} (r : Room (k + 1) A) (env : Env) : Room k (A.deeper env) :=
  ⟨r.hd, by have := r.dp; show A.depth + 1 + 3 * k + 5 < _; omega, by have := r.un; show A.units + 3 + 16 * k + 200 < _; omega⟩
theorem make_depth {A : Around} {C : Addr} {us : List Value} {kw : List (Str × Value)} : (A.under (.builtin "type.__call__" ⟨.ref C :: us, kw⟩)).depth = A.depth + 1 := by
  first | rfl | simp [Around.under, Code.weight, Code.isCreation, Code.isGuard, Code.isCaller, Code.frames, Code.isFrame, guardIds]
theorem make_units {A : Around} {C : Addr} {us : List Value} {kw : List (Str × Value)} : (A.under (.builtin "type.__call__" ⟨.ref C :: us, kw⟩)).units = A.units + 1 := by
  first | rfl | simp [Around.under, Code.cUnits, Code.frames, Code.isFrame]
theorem Room.make {k : Nat} {A : Around} (r : Room (k + 1) A) (C : Addr) (us : List Value) (kw : List (Str × Value)) : Room k (A.under (.builtin "type.__call__" ⟨.ref C :: us, kw⟩)) :=
  ⟨r.hd, by have := r.dp; rw [make_depth]; omega, by have := r.un; rw [make_units]; omega⟩
theorem Room.depth {k : Nat} {A : Around} (r : Room k A) : A.depth < recursionLimit := by have := r.dp; omega
theorem Room.units {k : Nat} {A : Around} (r : Room k A) : A.units + 64 < cLine := by have := r.un; omega
def tNil : TA := fun _ H Q => Q [] H
def tCons (ta : TE) (tr : TA) : TA := fun σ H Q => ta σ H fun x H1 => tr σ H1 fun xs H2 => Q (x :: xs) H2
section
variable {X : Cx} {e : Expr} {es : List Expr} {te : TE} {t : TA} {pos : Pos}
theorem pa_nil : PA X [] tNil := fun _ _ _ _ H Q I h => Calls.spliced_nil ⟨[], H, I, .nil, h⟩
theorem pa_cons (ha : PE X e te) (hr : PA X es t) (hs : starEach (e :: es) X.env = (false, eval e X.env) :: starEach es X.env := by rfl) : PA X (e :: es) (tCons te t) := by
  intro pos pins s σ H Q I h
  rw [hs]
  show wpAny _ _ (spliced ((false, eval e X.env) :: backTo pos (starEach es X.env))) _ _ s
  refine Calls.spliced_cons (thn (ha pins s σ H _ I h) fun u s1 ⟨x, H1, I1, r1, q1⟩ => ?_)
  exact thn (hr pos pins s1 σ H1 _ I1 q1) fun us s2 ⟨xs, H2, I2, r2, q2⟩ => ⟨x :: xs, H2, I2, .cons r1 r2, q2⟩
def tTup (t : TA) : TE := fun σ H Q => t σ H fun xs H1 => xs.length ≤ sizeLine ∧ ∀ p, H1 p = none → Q (.ref p) (upd H1 p (.tup xs))
def tLst (t : TA) : TE := fun σ H Q => t σ H fun xs H1 => xs.length ≤ sizeLine ∧ ∀ p, H1 p = none → Q (.ref p) (upd H1 p (.lst xs))
theorem pe_tup {x1} (h : PA X es t) : PE X (.Tuple es x1 pos) (tTup t) := by
  intro pins s σ H Q I hq
  refine wpAny_Tuple_spliced (thn (h pos pins s σ H _ I hq) fun us s1 ⟨xs, H1, I1, r, z, q⟩ => ⟨by rw [← r.length]; exact z, ?_⟩)
  have hf : H1 s1.heap.objs.size = none := I1.hok.fresh (Nat.le_refl _)
  refine ⟨.ref s1.heap.objs.size, upd H1 s1.heap.objs.size (.tup xs), I1.laid (t' := s1.toks) (fun b u e => Heap.get?_push_of_some _ e) (Nat.le_refl _) ?_, rfl, q _ hf⟩
  exact ⟨z, us, r, ⟨_, Heap.get?_push_size _ rfl, rfl, _, rfl⟩⟩
theorem pe_lst (h : PA X es t) : PE X (.List es pos) (tLst t) := by
  intro pins s σ H Q I hq
  refine wpAny_List_spliced (thn (h pos pins s σ H _ I hq) fun us s1 ⟨xs, H1, I1, r, z, q⟩ => ⟨by rw [← r.length]; exact z, ?_⟩)
  have hf : H1 s1.heap.objs.size = none := I1.hok.fresh (Nat.le_refl _)
  refine ⟨.ref s1.heap.objs.size, upd H1 s1.heap.objs.size (.lst xs), I1.laid (t' := s1.toks) (fun b u e => Heap.get?_push_of_some _ e) (Nat.le_refl _) ?_, rfl, q _ hf⟩
  exact ⟨z, us, 0, r, Heap.get?_push_size _ rfl⟩
end
abbrev Sp := List V → Hp → VK → XK → Prop
abbrev CXT := List Env → Hp → Shared → XK → Value → Shared → Prop
structure Env0 (P : Program) (w : World) (K : PySem.W.Frag) (mg : Str → Option Value) (base : Heap) (A : Around) (outer : List Env) (s : Shared) (H : Hp) : Prop where
  frames : A.frames = some outer
  mod : Mod K mg base
  bs : ∀ b o, base.get? b = some o → s.heap.get? b = some o ∧ H b = none
  bsz : base.objs.size ≤ s.heap.objs.size
  funs : s.heap.FunFrames base outer
  frf : ∀ b ∈ frs outer, H b = none
  hok : HOk P w H s.heap
  bare : AllBare s.gens
def CE (outer : List Env) (P : Program) (w : World) (H : Hp) (s : Shared) (Q : VK) (u : Value) (s' : Shared) : Prop :=
  ∃ v H', s'.os = s.os ∧ AllBare s'.gens ∧ Un (frs outer) [] H H' s.heap s'.heap ∧ HOk P w H' s'.heap ∧ RelV v u ∧ Q v H'
def CR (CX : CXT) (outer : List Env) (P : Program) (w : World) (H : Hp) (s : Shared) (Q : VK) (E : XK) (r : Result) (s' : Shared) : Prop :=
  match r with
  | .ok (.ret u) => CE outer P w H s Q u s'
  | .ok _ => False
  | .error e => CX outer H s E e s'
structure FnOk (P : Program) (w : World) (K : PySem.W.Frag) (mg : Str → Option Value) (base : Heap) (CX : CXT) (k : Nat) (f : Addr) (fd : FuncData) (ps : List Str) (sp : Sp) : Prop where
  len : ∀ vs H Q E, sp vs H Q E → vs.length = ps.length
  run : ∀ (A : Around) (outer : List Env) (s : Shared) (H : Hp) (args : Args) (us : List Value) (vs : List V) (Q : VK) (E : XK), Room k A → Env0 P w K mg base A outer s H → BindsTo s fd args (ps.zip us) → Vals vs us → sp vs H Q E →
    codeAny (model P w) A (.call (.ref f) args) (CR CX outer P w H s Q E) s
theorem FnOk.imp {P : Program} {w : World} {K : PySem.W.Frag} {mg : Str → Option Value} {base : Heap} {CX : CXT} {k : Nat} {f : Addr} {fd : FuncData} {ps : List Str} {sp sp' : Sp} (F : FnOk P w K mg base CX k f fd ps sp)
    (h : ∀ vs H Q E, sp' vs H Q E → sp vs H Q E) : FnOk P w K mg base CX k f fd ps sp' :=
  ⟨fun vs H Q E q => F.len vs H Q E (h _ _ _ _ q), fun A outer s H args us vs Q E hr he hb hv hs => F.run A outer s H args us vs Q E hr he hb hv (h _ _ _ _ hs)⟩
theorem Env0.make {P : Program} {w : World} {K : PySem.W.Frag} {mg : Str → Option Value} {base : Heap} {A : Around} {outer : List Env} {s : Shared} {H : Hp} (e : Env0 P w K mg base A outer s H) (C : Addr) (us : List Value) (kw : List (Str × Value)) :
    Env0 P w K mg base (A.under (.builtin "type.__call__" ⟨.ref C :: us, kw⟩)) outer s H := ⟨by first | exact e.frames | (simpa [Around.under, Code.envs, Code.isFrame, pushEnvs] using e.frames), e.mod, e.bs, e.bsz, e.funs, e.frf, e.hok, e.bare⟩
section
variable {X : Cx} {pins : List (Addr × Obj)} {σ : St} {H : Hp} {s s' : Shared}
theorem Inv.env0 (I : Inv X pins σ H s) : Env0 X.prog X.w X.K X.mg X.base X.A X.stack s H :=
  ⟨I.ok.frames, I.ok.mod, I.bs, Nat.le_trans I.ok.bsz I.sz, I.stack, I.stkFree, I.hok, I.bare⟩
theorem Inv.after {Q : VK} {u : Value} (I : Inv X pins σ H s) (h : CE X.stack X.prog X.w H s Q u s') : EP X pins σ Q u s' := by
  obtain ⟨v, H', os, bare, un, hok, r, q⟩ := h
  obtain ⟨hh, g, d, t, os'⟩ := s'
  obtain rfl : os' = s.os := os
  exact ⟨v, H', I.call (h' := hh) (g' := g) (d' := d) (t' := t) (ch := []) un hok bare (fun b z => absurd z (by simp)), r, q⟩
end
def tCall (sp : Sp) (dvs : List V) (E : XK) (t : TA) : TE := fun σ H Q => t σ H fun vs H1 => sp (vs ++ dvs) H1 Q E
def tMake (C : Addr) (sp : Sp) (dvs : List V) (E : XK) (t : TA) : TE := fun σ H Q => t σ H fun vs H1 => ∀ x dx, H1 x = none → H1 dx = none → dx ≠ x →
  sp (.ref x :: (vs ++ dvs)) (upd (upd H1 dx (.own x)) x (.ins C dx [])) (fun v H2 => v = .non ∧ Q (.ref x) H2) E
def Binds (K : PySem.W.Frag) (fd : FuncData) (ps : List Str) (ds : List Value) : Prop :=
  ∀ (s : Shared) (us : List Value), K.In s.heap → (us ++ ds).length = ps.length → BindsTo s fd ⟨us, []⟩ (ps.zip (us ++ ds))
theorem Binds.all {K : PySem.W.Frag} {fd : FuncData} {ps : List Str} (h : ∀ us : List Value, us.length = ps.length → bindArgs fd ⟨us, []⟩ = pure (ps.zip us)) : Binds K fd ps [] := fun s us _ hl => by
  rw [List.append_nil] at hl ⊢
  exact .of_eq (h us hl)
def Passes (CX : CXT) (X : Cx) (E : XK) : Prop := ∀ (pins : List (Addr × Obj)) (σ : St) (H : Hp) (s : Shared) (e : Value) (s' : Shared), Inv X pins σ H s → CX X.stack H s E e s' → X.xe e s'
section
variable {X : Cx} {CX : CXT} {k : Nat} {f C : Addr} {fd : FuncData} {ps : List Str} {sp : Sp} {dvs : List V} {ds : List Value} {E : XK} {x m : Str} {p pos apos : Pos} {e o : Expr} {es : List Expr} {ta : TE} {t : TA}
theorem run_fn {pins : List (Addr × Obj)} {σ : St} {H : Hp} {s : Shared} {Q : VK} {us : List Value} {vs : List V} (F : FnOk X.prog X.w X.K X.mg X.base CX k f fd ps sp) (hr : Room k X.A) (hb : Binds X.K fd ps ds) (hd : Vals dvs ds) (hx : Passes CX X E)
    (I : Inv X pins σ H s) (r : Vals vs us) (h : sp (vs ++ dvs) H Q E) : wpAny (model X.prog X.w) X.A (call (.ref f) us) (EP X pins σ Q) X.xe s := by
  have r2 : Vals (vs ++ dvs) (us ++ ds) := r.append hd
  have hl : (us ++ ds).length = ps.length := by rw [← r2.length]; exact F.len _ _ _ _ h
  refine wpAny_call (codeAny_mono (F.run X.A X.stack s H ⟨us, []⟩ (us ++ ds) (vs ++ dvs) Q E hr I.env0 (hb s us I.kIn hl) r2 h) fun r s' hq => ?_)
  cases r with
  | error e => exact hx pins σ H s e s' I hq
  | ok fl =>
    cases fl with
    | ret u => exact I.after hq
    | next => exact False.elim hq
    | brk => exact False.elim hq
    | cont => exact False.elim hq
theorem pe_call (F : FnOk X.prog X.w X.K X.mg X.base CX k f fd ps sp) (hr : Room k X.A) (hg : Gl X x) (hm : X.mg x = some (.ref f)) (hk : PySem.W.keepIn X.K (.ref f) = true) (hb : Binds X.K fd ps ds) (hd : Vals dvs ds) (hx : Passes CX X E)
    (ha : PA X (e :: es) t) (hdb : (x == ("__debug__" : Str)) = false := by decide) (he : starEach (e :: es) X.env = (false, eval e X.env) :: starEach es X.env := by rfl) (hpl : (backTo pos (starEach es X.env)).any (·.1) = false := by rfl) :
    PE X (.Call (.Name x p) (e :: es) [] pos) (tCall sp dvs E t) := by
  intro pins s σ H Q I h
  refine wpAny_Call_Name_kw (ld_glob I hg hm ?_ hdb)
  refine PySem.W.callWith_K (h₀ := X.base) I.ok.mod.kin hk (thn (ha pos pins s σ H _ I h) fun us s1 ⟨vs, H1, I1, r, q⟩ => ⟨I1.kIn, ?_⟩) he hpl
  exact run_fn F hr hb hd hx I1 r q
structure Mk (K : PySem.W.Frag) (C f : Addr) : Prop where
  makes : PySem.W.makesIn K C = true
  init : PySem.W.findIn K (.ref C) "__init__" = some (some (.ref f))
  fn : PySem.W.isFn K (.ref f) = true
  kp : PySem.W.keepIn K (.ref C) = true
theorem run_make {pins : List (Addr × Obj)} {σ : St} {H : Hp} {s : Shared} {Q : VK} {us : List Value} {vs : List V} (M : Mk X.K C f) (F : FnOk X.prog X.w X.K X.mg X.base CX k f fd ps sp) (hr : Room (k + 1) X.A) (hb : Binds X.K fd ps ds) (hd : Vals dvs ds)
    (hx : Passes CX X E) (I : Inv X pins σ H s) (r : Vals vs us)
    (h : ∀ x dx, H x = none → H dx = none → dx ≠ x → sp (.ref x :: (vs ++ dvs)) (upd (upd H dx (.own x)) x (.ins C dx [])) (fun v H2 => v = .non ∧ Q (.ref x) H2) E) :
    wpAny (model X.prog X.w) X.A (call (.ref C) us) (EP X pins σ Q) X.xe s := by
  have hq := h (s.heap.objs.size + 1) s.heap.objs.size (I.hok.fresh (Nat.le_succ _)) (I.hok.fresh (Nat.le_refl _)) (Nat.ne_of_lt (Nat.lt_succ_self _))
  have I2 := Inv.made (C := C) I
  have r2 : Vals (V.ref (s.heap.objs.size + 1) :: (vs ++ dvs)) (Value.ref (s.heap.objs.size + 1) :: (us ++ ds)) := .cons rfl (r.append hd)
  have hl : (Value.ref (s.heap.objs.size + 1) :: us ++ ds).length = ps.length := by
    have e := r2.length
    rw [F.len _ _ _ _ hq] at e
    exact e.symm
  refine wpAny_call (make_map (f := f) I.kIn M.makes M.init (beq_iff_eq.mp M.fn) (codeAny_mono (F.run _ X.stack _ _ ⟨Value.ref (s.heap.objs.size + 1) :: us, []⟩ (Value.ref (s.heap.objs.size + 1) :: (us ++ ds)) _ _ E (hr.make C us [])
    (I2.env0.make C us []) (hb _ (Value.ref (s.heap.objs.size + 1) :: us) I2.kIn hl) r2 hq) fun r s' hq' => ?_))
  cases r with
  | error e => exact hx pins σ _ _ e s' I2 hq'
  | ok fl =>
    cases fl with
    | ret u =>
      obtain ⟨v, H', I3, rv, ev, q3⟩ := I2.after hq'
      subst ev
      exact ⟨rv, ⟨V.ref (s.heap.objs.size + 1), H', I3, rfl, q3⟩⟩
    | next => exact False.elim hq'
    | brk => exact False.elim hq'
    | cont => exact False.elim hq'
theorem pe_make (M : Mk X.K C f) (F : FnOk X.prog X.w X.K X.mg X.base CX k f fd ps sp) (hr : Room (k + 1) X.A) (hg : Gl X x) (hm : X.mg x = some (.ref C)) (hb : Binds X.K fd ps ds) (hd : Vals dvs ds) (hx : Passes CX X E)
    (ha : PA X (e :: es) t) (hdb : (x == ("__debug__" : Str)) = false := by decide) (he : starEach (e :: es) X.env = (false, eval e X.env) :: starEach es X.env := by rfl) (hpl : (backTo pos (starEach es X.env)).any (·.1) = false := by rfl) :
    PE X (.Call (.Name x p) (e :: es) [] pos) (tMake C sp dvs E t) := by
  intro pins s σ H Q I h
  refine wpAny_Call_Name_kw (ld_glob I hg hm ?_ hdb)
  refine PySem.W.callWith_K (h₀ := X.base) I.ok.mod.kin M.kp (thn (ha pos pins s σ H _ I h) fun us s1 ⟨vs, H1, I1, r, q⟩ => ⟨I1.kIn, ?_⟩) he hpl
  exact run_make M F hr hb hd hx I1 r q
end
section
variable {X : Cx} {CX : CXT} {k : Nat} {f C : Addr} {fd : FuncData} {ps ks : List Str} {sp : Sp} {E : XK} {x m : Str} {p pos apos kpos : Pos} {e o : Expr} {es : List Expr} {kws : List Keyword} {te ta : TE} {t tk : TA} {nm : Option Str}
variable {g : List Value → List Value → List Value} {gV : List V → List V → List V}
end
structure FnScope (N P : List Str) (sc : Scope) : Prop where
  kind : sc.kind = .function
  co : sc.isCoroutine = false
  gen : sc.isGenerator = false
  nd : N.Nodup
  pre : N.take P.length = P
  par : ∀ x ∈ P, sc.names.lookup x = some .local ∨ sc.names.lookup x = some .cell
  nofree : ∀ y ∈ sc.names, y.2 ≠ .free
theorem bindL_out {kindOf : Str → Option NameKind} {x : Str} : ∀ {binds : List (Str × Value)} {m : Str → Option Value}, (∀ v, (x, v) ∉ binds) → bindL kindOf binds m x = m x
  | [], _, _ => rfl
  | (n, v) :: r, m, h => by
    unfold bindL
    rw [bindL_out fun w hw => h w (List.mem_cons_of_mem _ hw)]
    split
    · have : x ≠ n := by rintro rfl; exact h v List.mem_cons_self
      simp [this]
    · rfl
theorem bindC_out {kindOf : Str → Option NameKind} {x : Str} : ∀ {binds : List (Str × Value)} {m : Str → Option Value}, (∀ v, (x, v) ∉ binds) → bindC kindOf binds m x = m x
  | [], _, _ => rfl
  | (n, v) :: r, m, h => by
    unfold bindC
    rw [bindC_out fun w hw => h w (List.mem_cons_of_mem _ hw)]
    split
    · rfl
    · have : x ≠ n := by rintro rfl; exact h v List.mem_cons_self
      simp [this]
theorem bindL_get {kindOf : Str → Option NameKind} {x : Str} {v : Value} : ∀ {P : List Str} {vs : List Value} {i : Nat} {m : Str → Option Value}, P.Nodup → P[i]? = some x → vs[i]? = some v → kindOf x = some .local →
    bindL kindOf (P.zip vs) m x = some v
  | [], _, _, _, _, h, _, _ => by simp at h
  | _ :: _, [], _, _, _, _, h, _ => by simp at h
  | p :: P, w :: vs, 0, m, nd, h1, h2, hk => by
    simp at h1 h2; subst h1; subst h2
    show bindL kindOf ((p, w) :: P.zip vs) m p = _
    unfold bindL
    rw [bindL_out fun v hv => (List.nodup_cons.mp nd).1 (List.of_mem_zip hv).1, if_pos hk]
    simp
  | p :: P, w :: vs, i + 1, m, nd, h1, h2, hk => by
    show bindL kindOf ((p, w) :: P.zip vs) m x = _
    unfold bindL
    exact bindL_get (i := i) (List.nodup_cons.mp nd).2 (by simpa using h1) (by simpa using h2) hk
theorem bindC_get {kindOf : Str → Option NameKind} {x : Str} {v : Value} : ∀ {P : List Str} {vs : List Value} {i : Nat} {m : Str → Option Value}, P.Nodup → P[i]? = some x → vs[i]? = some v → kindOf x ≠ some .local →
    bindC kindOf (P.zip vs) m x = some v
  | [], _, _, _, _, h, _, _ => by simp at h
  | _ :: _, [], _, _, _, _, h, _ => by simp at h
  | p :: P, w :: vs, 0, m, nd, h1, h2, hk => by
    simp at h1 h2; subst h1; subst h2
    show bindC kindOf ((p, w) :: P.zip vs) m p = _
    unfold bindC
    rw [bindC_out fun v hv => (List.nodup_cons.mp nd).1 (List.of_mem_zip hv).1, if_neg hk]
    simp
  | p :: P, w :: vs, i + 1, m, nd, h1, h2, hk => by
    show bindC kindOf ((p, w) :: P.zip vs) m x = _
    unfold bindC
    exact bindC_get (i := i) (List.nodup_cons.mp nd).2 (by simpa using h1) (by simpa using h2) hk
def start (N : List Str) (vs : List V) : St := vs.map some ++ List.replicate (N.length - vs.length) none
def cxOf (CX : CXT) (P : Program) (w : World) (K : PySem.W.Frag) (mg : Str → Option Value) (base : Heap) (N : List Str) (qual : Str) (scope : Scope) (f : Addr) (cd : Value) (A : Around) (outer : List Env) (s : Shared) (H : Hp) (E : XK) : Cx where
  prog := P
  w := w
  K := K
  mg := mg
  base := base
  A := A.deeper (envOfC qual scope s.heap.objs.size f cd)
  N := N
  s_0 := s
  H_0 := H
  env := envOfC qual scope s.heap.objs.size f cd
  outer := outer
  stack := envOfC qual scope s.heap.objs.size f cd :: outer
  ex := []
  calm := true
  fn := fun _ => true
  pn := []
  xe := fun e s' => wpAny (model P w) (A.deeper (envOfC qual scope s.heap.objs.size f cd)) (leaving (envOfC qual scope s.heap.objs.size f cd) e) (fun _ s'' => CX outer H s E e s'') (fun e' s'' => CX outer H s E e' s'') s'
theorem cell_has {sc : Scope} {n : Nat} {x : Str} (h : sc.names.lookup x = some .cell) : ∃ c, (cellsFrom n sc.names []).lookup x = some c := by
  have q := PySem.W.cellsFrom_some sc.names n [] (.inl h)
  exact Option.isSome_iff_exists.mp q
theorem inv_start {CX : CXT} {P : Program} {w : World} {K : PySem.W.Frag} {mg : Str → Option Value} {base : Heap} {N ps : List Str} {qual : Str} {scope : Scope} {f : Addr} {cd : Value} {A : Around} {outer : List Env} {s s1 : Shared} {H : Hp} {E : XK} {us : List Value} {vs : List V}
    (S : FnScope N ps scope) (hd : A.handled = none) (e0 : Env0 P w K mg base A outer s H) (hl : vs.length = ps.length) (r : Vals vs us)
    (x : InCallC s s.heap.objs.size (bindL (envOfC qual scope s.heap.objs.size f cd).kindOf (ps.zip us) fun _ => none) (cellsFrom (s.heap.objs.size + 1) scope.names []) (bindC (envOfC qual scope s.heap.objs.size f cd).kindOf (ps.zip us) fun _ => none) s1) :
    Inv (cxOf CX P w K mg base N qual scope f cd A outer s H E) [] (start N vs) H s1 := by
  have hpl : ps.length ≤ N.length := by have := congrArg List.length S.pre; rw [List.length_take] at this; omega
  obtain ⟨h1, tk, rfl, hk⟩ := x.done
  have noA : ∀ b : Addr, b ∉ (cxOf CX P w K mg base N qual scope f cd A outer s H E).ex := fun b z => absurd (show b ∈ ([] : List Addr) from z) (by simp)
  refine ⟨⟨e0.mod, S.kind, rfl, rfl, Nat.le_refl _, fun y z c h1 h2 => ?_, fun y hy => ?_, fun y c _ h => ?_, fun _ => hd, Around.frames_deeper e0.frames, .inr ⟨rfl, rfl⟩, fun b z => absurd z (noA b), e0.bs, e0.bsz, fun b _ _ => noA b, fun b z => absurd z (noA b), e0.funs, e0.frf⟩,
    rfl, e0.bare, Un.kept hk, ⟨_, x.toInCall.ns, fun i y v h1 h2 h3 => ?_⟩, fun y c h => ⟨_, x.cell y c h⟩, e0.hok.fresh (Nat.le_refl _), fun y c h => ?_, fun p hp => absurd (show p ∈ ([] : List (Addr × Obj)) from hp) (by simp), e0.hok.kept hk, ?_⟩
  · exact name_of_addr x.apart (PySem.mem_of_lookup h1) (PySem.mem_of_lookup h2)
  · have hy : scope.names.lookup y = some .cell ∨ scope.names.lookup y = some .free := hy
    rcases hy with hy | hy
    · exact cell_has hy
    · exact absurd rfl (S.nofree _ (PySem.mem_of_lookup hy))
  · exact Nat.le_of_lt (x.above y c (PySem.mem_of_lookup h))
  · have hi : i < vs.length := by
      unfold start at h2
      by_cases hi : i < vs.length
      · exact hi
      · rw [List.getElem?_append_right (by simpa using hi)] at h2
        rw [List.getElem?_replicate] at h2
        split at h2 <;> cases h2
    have ha : vs[i]? = some v := by
      unfold start at h2
      rw [List.getElem?_append_left (by simpa using hi), List.getElem?_map] at h2
      cases e : vs[i]? with
      | none => rw [e] at h2; cases h2
      | some a => rw [e] at h2; cases h2; rfl
    obtain ⟨u, hu, rv⟩ := r.get ha
    have hp : ps[i]? = some y := by
      rw [← S.pre, List.getElem?_take_of_lt (by omega)]; exact h1
    have ndP : ps.Nodup := by rw [← S.pre]; exact S.nd.sublist (List.take_sublist _ _)
    refine ⟨u, rv, ?_⟩
    rcases S.par y (List.mem_of_getElem? hp) with k | k
    · exact .inl ⟨k, bindL_get ndP hp hu k⟩
    · obtain ⟨c, e⟩ := cell_has (n := s.heap.objs.size + 1) k
      refine .inr ⟨.inl k, c, e, ?_⟩
      have q := x.cell y c e
      rw [bindC_get ndP hp hu (by show scope.names.lookup y ≠ _; rw [k]; decide)] at q
      exact q
  · exact e0.hok.fresh (Nat.le_of_lt (x.above y c (PySem.mem_of_lookup h)))
  · unfold start
    show _ = N.length
    rw [List.length_append, List.length_map, List.length_replicate]
    omega
theorem fn_of {CX : CXT} {P : Program} {w : World} {K : PySem.W.Frag} {mg : Str → Option Value} {base : Heap} {k : Nat} {f : Addr} {name qual : Str} {params : Arguments} {body : List Stmt} {scope : Scope} {dV kV doc pm cdv ct oc : Value} {an od : Option Addr}
    {osl : Array (Option Value)} {N ps : List Str} {sp : Sp} (lk : K.lookup f = some ⟨oc, od, .func (PySem.W.fnOf name qual params body scope dV kV doc pm an cdv ct), osl⟩) (hcd : PySem.W.codeIn K cdv qual = true) (S : FnScope N ps scope)
    (len : ∀ vs H Q E, sp vs H Q E → vs.length = ps.length)
    (hbody : ∀ (A : Around) (outer : List Env) (s : Shared) (H : Hp) (vs : List V) (Q : VK) (E : XK), Room k (A.deeper (envOfC qual scope s.heap.objs.size f cdv)) → sp vs H Q E →
      ∃ t, PSs (cxOf CX P w K mg base N qual scope f cdv A outer s H E) body t ∧ t { nx := fun _ H' => Q .non H', rt := Q } (start N vs) H) :
    FnOk P w K mg base CX (k + 1) f (PySem.W.fnOf name qual params body scope dV kV doc pm an cdv ct) ps sp := by
  refine ⟨len, fun A outer s H args us vs Q E hr e0 hb r hsp => ?_⟩
  have hl := len _ _ _ _ hsp
  have KX : K.In s.heap := e0.mod.kin.keeps fun b o e => (e0.bs b o e).1
  have lim : s.heap.NoLimit := e0.mod.nolimit.keeps fun b o e => (e0.bs b o e).1
  have hkind : ∀ y ∈ ps.zip us, scope.names.lookup y.1 = some .local ∨ (scope.names.lookup y.1 = some .cell ∧ ((cellsFrom (s.heap.objs.size + 1) scope.names []).lookup y.1).isSome = true) := fun ⟨n, v⟩ hy => by
    rcases S.par n (List.of_mem_zip hy).1 with q | q
    · exact .inl q
    · exact .inr ⟨q, PySem.W.cellsFrom_some _ _ _ (.inl q)⟩
  refine codeAny_call_function hr.depth (KX _ _ lk) rfl S.co S.gen rfl (PySem.W.codeRec_of KX hcd) (hb _ _ _ _ ?_)
  refine wpAny_newFunctionEnv_cells S.kind hkind fun env he s1 x => ?_
  subst he
  refine ⟨lim.keeps x.toInCall.keep, codeAny_func ?_⟩
  obtain ⟨t, ht, hq⟩ := hbody A outer s H vs Q E (hr.deeper _) hsp
  have I : Inv (cxOf CX P w K mg base N qual scope f cdv A outer s H E) [] (start N vs) H s1 := inv_start S hr.hd e0 hl r x
  refine wpAny_mono (ht [] s1 (start N vs) H _ I hq) (fun fl s' hs => ?_) fun e s' hs => hs
  have fin : ∀ {σ' : St} {H' : Hp} {v : V} {u : Value}, Inv (cxOf CX P w K mg base N qual scope f cdv A outer s H E) [] σ' H' s' → RelV v u → Q v H' → CE outer P w H s Q u s' :=
    fun {σ' H' v u} J rv q => ⟨v, H', J.os, J.bare, J.base, J.hok, rv, q⟩
  cases fl with
  | ret u =>
    obtain ⟨v, σ', H', J, rv, q⟩ := hs
    exact fin J rv q
  | next =>
    obtain ⟨σ', H', J, q⟩ := hs
    exact fin (v := V.non) (u := Value.none) J rfl q
  | brk =>
    obtain ⟨_, _, _, q⟩ := hs
    exact False.elim q
  | cont =>
    obtain ⟨_, _, _, q⟩ := hs
    exact False.elim q
end L2
namespace L2
open PySem PySem.Spec PyProof.Rows
section
variable {X : Cx} {x : Str} {p pos : Pos} {e : Expr} {es : List Expr} {t : TA} {id T : String} {r : List V → Hp → VK → Prop}
def tCB (r : List V → Hp → VK → Prop) (t : TA) : TE := fun σ H Q => t σ H fun vs H1 => r vs H1 Q
theorem pe_callB (hc : CallR X (.builtin id) r) (hg : Gl X x) (hm : X.mg x = none) (hv : bootBuiltins x = some (.builtin id)) (ha : PA X (e :: es) t) (hn : x ≠ "__name__" := by decide) (hdb : (x == ("__debug__" : Str)) = false := by decide)
    (he : starEach (e :: es) X.env = (false, eval e X.env) :: starEach es X.env := by rfl) (hpl : (backTo pos (starEach es X.env)).any (·.1) = false := by rfl) : PE X (.Call (.Name x p) (e :: es) [] pos) (tCB r t) := by
  intro pins s σ H Q I h
  refine wpAny_Call_Name_kw (ld_blt I hg hm hv ?_ hn hdb)
  exact PyProof.Rows.callWith_builtin1 (thn (ha pos pins s σ H _ I h) fun us s1 ⟨vs, H1, I1, r1, q1⟩ => hc pins s1 σ H1 vs us Q I1 r1 q1) he hpl
theorem pe_callTy (hc : CallR X (.type T) r) (hg : Gl X x) (hm : X.mg x = none) (hv : bootBuiltins x = some (.type T)) (ha : PA X (e :: es) t) (hn : x ≠ "__name__" := by decide) (hdb : (x == ("__debug__" : Str)) = false := by decide)
    (he : starEach (e :: es) X.env = (false, eval e X.env) :: starEach es X.env := by rfl) (hpl : (backTo pos (starEach es X.env)).any (·.1) = false := by rfl) : PE X (.Call (.Name x p) (e :: es) [] pos) (tCB r t) := by
  intro pins s σ H Q I h
  refine wpAny_Call_Name_kw (ld_blt I hg hm hv ?_ hn hdb)
  exact PyProof.Rows.callWith_type1 (thn (ha pos pins s σ H _ I h) fun us s1 ⟨vs, H1, I1, r1, q1⟩ => hc pins s1 σ H1 vs us Q I1 r1 q1) he hpl
end
end L2
namespace HT
open PySem PyProof.Rows
section
open PySem.SeqAt
open PySem.AutoSeq1 (wpAny_loadPart')
open PySem.MeetsSeq PySem.MeetsSeq2 PySem.MeetsSeq3
end
section
variable {prog : Program} {w : World} {A : Around} {E : Value → Shared → Prop} {s : Shared}
theorem cat_tup {t b : Addr} {vs ws : List Value} {Q : Value → Shared → Prop} (ht : IsTup s.heap t vs.toArray) (hb : IsTup s.heap b ws.toArray) (hv : vs ≠ [])
    (h1 : ws = [] → Q (.ref t) s) (h2 : ws ≠ [] → Q (.ref s.heap.objs.size) { s with heap := s.heap.push { cls := .type "tuple", data := .seq (vs ++ ws).toArray } })
    (hsz : vs.length + ws.length ≤ sizeLine) : wpAny (model prog w) A (binaryOp .Add (.ref t) (.ref b)) Q E s := by
  obtain ⟨⟨cls, dd, data, sl⟩, ho, hc, n, hd⟩ := id ht
  obtain ⟨⟨cls2, dd2, data2, sl2⟩, ho2, hc2, n2, hd2⟩ := id hb
  simp only at hc hd hc2 hd2
  subst hc hd hc2 hd2
  have e : vs.toArray ++ ws.toArray = (vs ++ ws).toArray := by simp
  by_cases hw : ws = []
  · exact concat_meets ⟨_, ho, rfl⟩ ⟨_, ho2, rfl⟩ noFill_tuple_add seq_tuple_add PySem.F.slot_tuple_add PySem.F.entry_tuple_add (PySem.F.args_tuple_add_2 _ _)
      (tuple_addW1 t b vs.toArray ws.toArray n n2 dd dd2 sl sl2 (by simpa using hv) (by simp [hw])) ⟨ho, ho2, h1 hw⟩
  · refine concat_meets ⟨_, ho, rfl⟩ ⟨_, ho2, rfl⟩ noFill_tuple_add seq_tuple_add PySem.F.slot_tuple_add PySem.F.entry_tuple_add (PySem.F.args_tuple_add_2 _ _)
      (tuple_addW2 t b vs.toArray ws.toArray n n2 dd dd2 sl sl2 (by simpa using hv) (by simpa using hw) (by rw [List.size_toArray, List.size_toArray]; exact hsz)) ⟨ho, ho2, ?_⟩
    rw [e]
    exact h2 hw
def sIx (n d : Nat) : Option Int → Nat
  | none => d
  | some v => if v < 0 then (v + (n : Int)).toNat else min v.toNat n
theorem sIx_le (n d : Nat) (hd : d ≤ n) (o : Option Int) : sIx n d o ≤ n := by
  cases o with
  | none => exact hd
  | some v =>
    show (if v < 0 then (v + (n : Int)).toNat else min v.toNat n) ≤ n
    by_cases hv : v < 0
    · rw [if_pos hv]; omega
    · rw [if_neg hv]; exact Nat.min_le_right _ _
end
end HT
namespace L2
open PySem PySem.Spec PyProof.Rows
abbrev TO := St → Hp → (Option Int → Hp → Prop) → Prop
def PO (X : Cx) (e : Option Expr) (t : TO) : Prop :=
  ∀ (pins : List (Addr × Obj)) (s : Shared) (σ : St) (H : Hp) (Q : Option Int → Hp → Prop), Inv X pins σ H s → t σ H Q →
    wpAny (model X.prog X.w) X.A (evalPart e X.env) (fun u s' => ∃ o H', Inv X pins σ H' s' ∧ IsPart u o ∧ Q o H') X.xe s
def tNoPart : TO := fun _ H Q => Q none H
def tPart (t : TE) : TO := fun σ H Q => t σ H fun x H1 => ∃ i, x = .int i ∧ Q (some i) H1
section
variable {X : Cx} {e : Expr} {te : TE} {lo hi : Option Expr} {tl th : TO} {pos p2 : Pos}
theorem po_none : PO X none tNoPart := by
  intro pins s σ H Q I h
  rw [evalPart_none]
  exact wpAny_pure ⟨none, H, I, .none, h⟩
theorem po_some (h : PE X e te) : PO X (some e) (tPart te) := by
  intro pins s σ H Q I hw
  rw [evalPart_some]
  refine thn (h pins s σ H _ I hw) fun u s1 ⟨x, H1, I1, r1, q1⟩ => ?_
  obtain ⟨i, rfl, q⟩ := q1
  obtain ⟨t, rfl⟩ := r1
  exact ⟨some i, H1, I1, .int i t, q⟩
def SlR (X : Cx) (r : V → Option Int → Option Int → Hp → VK → Prop) : Prop :=
  ∀ (pins : List (Addr × Obj)) (s : Shared) (σ : St) (H : Hp) (x : V) (v vl vu : Value) (lo hi : Option Int) (sl : Addr) (Q : VK), Inv X pins σ H s → RelV x v → s.heap.IsSliceOf sl vl vu .none → IsPart vl lo → IsPart vu hi → r x lo hi H Q →
    ∃ T id, typeLookup (.type T) "__getitem__" = pure (some (.builtin id)) ∧ s.TypeIs v T ∧ wpAny (model X.prog X.w) X.A (getItem v (.ref sl)) (EP X pins σ Q) X.xe s
def tSl (r : V → Option Int → Option Int → Hp → VK → Prop) (te : TE) (tl th : TO) : TE := fun σ H Q => te σ H fun x H1 => tl σ H1 fun l H2 => th σ H2 fun u H3 => r x l u H3 Q
theorem pe_slice {r : V → Option Int → Option Int → Hp → VK → Prop} (hr : SlR X r) (he : PE X e te) (hl : PO X lo tl) (hu : PO X hi th) : PE X (.Subscript e (.Slice lo hi none p2) pos) (tSl r te tl th) := by
  intro pins s σ H Q I h
  refine Subscript_ (thn (he pins s σ H _ I h) fun v s1 ⟨x, H1, I1, r1, q1⟩ => ?_)
  refine wpAny_Slice (thn (hl pins s1 σ H1 _ I1 q1) fun vl s2 ⟨l, H2, I2, pl, q2⟩ => thn (hu pins s2 σ H2 _ I2 q2) fun vu s3 ⟨u, H3, I3, pu, q3⟩ => ?_)
  rw [evalPart_none]
  refine wpAny_pure ?_
  have I4 : Inv X pins σ H3 { s3 with heap := s3.heap.push { cls := .type "slice", data := .fields #[vl, vu, .none] } } := I3.kept (t' := s3.toks) fun b ob q => Heap.get?_push_of_some _ q
  obtain ⟨T, id, hT, ht, hg⟩ := hr pins { s3 with heap := s3.heap.push { cls := .type "slice", data := .fields #[vl, vu, .none] } } σ H3 x v vl vu l u s3.heap.objs.size Q I4 r1 (Heap.IsSliceOf.new ..) pl pu q3
  show wpAny (model X.prog X.w) X.A (subscriptTail e (.Slice lo hi none p2) v (.ref s3.heap.objs.size)) (EP X pins σ Q) X.xe { s3 with heap := s3.heap.push { cls := .type "slice", data := .fields #[vl, vu, .none] } }
  exact tail_any (ops := [.ref s3.heap.objs.size, v]) ht hT hg (by with_unfolding_all rfl)
def cutV (xs : List V) (lo hi : Option Int) : List V := (xs.drop (HT.sIx xs.length 0 lo)).take (HT.sIx xs.length xs.length hi - HT.sIx xs.length 0 lo)
theorem cutV_length (xs : List V) (lo hi : Option Int) : (cutV xs lo hi).length ≤ xs.length := by
  unfold cutV
  rw [List.length_take, List.length_drop]
  omega
def rCatT (K : PySem.W.Frag) : R2 := fun x y H Q => ∃ a b xs ys, x = .ref a ∧ y = .ref b ∧ SqT K H a xs ∧ SqT K H b ys ∧ xs ≠ [] ∧ xs.length + ys.length ≤ sizeLine ∧
  (ys = [] → Q (.ref a) H) ∧ (ys ≠ [] → ∀ p, H p = none → Q (.ref p) (upd H p (.tup (xs ++ ys))))
theorem Vals.nil_iff {xs : List V} {us : List Value} (r : Vals xs us) : us = [] ↔ xs = [] := by
  cases r with
  | nil => simp
  | cons _ _ => simp
theorem op_catT : OpR X (binaryOp .Add) (rCatT X.K) := by
  intro pins s σ H x y v u Q I rx ry h
  obtain ⟨a, b, xs, ys, rfl, rfl, ha, hb, hx, hz, q1, q2⟩ := h
  cases rx
  cases ry
  obtain ⟨its, r1, p1, _⟩ := I.tuple ha
  obtain ⟨its2, r2, p2, _⟩ := I.tuple hb
  refine HT.cat_tup p1 p2 (fun z => hx (r1.nil_iff.mp z)) (fun z => ⟨.ref a, H, I, rfl, q1 (r2.nil_iff.mp z)⟩) (fun z => ?_) (by rw [← r1.length, ← r2.length]; exact hz)
  refine ⟨.ref s.heap.objs.size, _, I.laid (t' := s.toks) (o := .tup (xs ++ ys)) (fun b ob q => Heap.get?_push_of_some _ q) (Nat.le_refl _) ?_, rfl, q2 (fun w => z (r2.nil_iff.mpr w)) _ (I.hok.fresh (Nat.le_refl _))⟩
  exact ⟨by rw [List.length_append]; exact hz, _, r1.append r2, IsTup.new _ _⟩
end
end L2
namespace L2
open PySem PySem.Spec PyProof.Rows
def ixN (n : Nat) (i : Int) : Option Nat := if 0 ≤ i then (if i < n then some i.toNat else none) else if -(n : Int) ≤ i then some (i + n).toNat else none
def atI {α : Type} (xs : List α) (i : Int) : Option α := (ixN xs.length i).bind fun j => xs[j]?
theorem ixN_seq {n : Nat} {i : Int} {j : Nat} (h : ixN n i = some j) : seqIndex? i n = some j ∧ j < n ∧ -(n : Int) ≤ i ∧ i < n := by
  unfold ixN at h
  by_cases h0 : 0 ≤ i
  · rw [if_pos h0] at h
    by_cases h1 : i < n
    · rw [if_pos h1] at h
      have e : i.toNat = j := Option.some.inj h
      exact ⟨by rw [seqIndex_of h0 h1, e], by omega, by omega, h1⟩
    · rw [if_neg h1] at h; cases h
  · rw [if_neg h0] at h
    by_cases h1 : -(n : Int) ≤ i
    · rw [if_pos h1] at h
      have e : (i + n).toNat = j := Option.some.inj h
      exact ⟨by rw [seqIndex_neg (by omega) h1, e], by omega, h1, by omega⟩
    · rw [if_neg h1] at h; cases h
theorem atI_get {α : Type} {xs : List α} {i : Int} {v : α} (h : atI xs i = some v) : ∃ j, seqIndex? i xs.length = some j ∧ xs[j]? = some v ∧ j < xs.length ∧ -(xs.length : Int) ≤ i ∧ i < xs.length := by
  unfold atI at h
  cases e : ixN xs.length i with
  | none => rw [e] at h; cases h
  | some j =>
    rw [e] at h
    obtain ⟨h1, h2, h3, h4⟩ := ixN_seq e
    exact ⟨j, h1, h, h2, h3, h4⟩
theorem atI_nat {α : Type} {xs : List α} {j : Nat} {v : α} (h : xs[j]? = some v) : atI xs (j : Int) = some v := by
  have hj : j < xs.length := (List.getElem?_eq_some_iff.mp h).1
  have e : ixN xs.length (j : Int) = some j := by
    unfold ixN
    rw [if_pos (by omega), if_pos (by omega)]; simp
  unfold atI; rw [e]; exact h
def PlainIx (b : Expr) : Prop := ∀ o i, subscripted b false o i = operate [o, i] (getItem o i)
def IxR (X : Cx) (r : R2) : Prop :=
  ∀ (value slice : Expr) (pins : List (Addr × Obj)) (s : Shared) (σ : St) (H : Hp) (x y : V) (v u : Value) (Q : VK), Inv X pins σ H s → RelV x v → RelV y u → r x y H Q →
    subscripted slice false v u = operate [v, u] (getItem v u) → wpAny (model X.prog X.w) X.A (subscriptTail value slice v u) (EP X pins σ Q) X.xe s
def MtR (X : Cx) (id : String) (r : V → List V → Hp → VK → Prop) : Prop :=
  ∀ (pins : List (Addr × Obj)) (s : Shared) (σ : St) (H : Hp) (x : V) (xs : List V) (v : Value) (us : List Value) (Q : VK), Inv X pins σ H s → RelV x v → Vals xs us → r x xs H Q →
    wpAny (model X.prog X.w) X.A (call (.builtin id) (v :: us)) (EP X pins σ Q) X.xe s
section
variable {X : Cx} {a b : Expr} {ta tb : TE} {pos : Pos}
theorem pe_ix {r : R2} (hr : IxR X r) (ha : PE X a ta) (hb : PE X b tb) (hs : PlainIx b) : PE X (.Subscript a b pos) (tOp r ta tb) := by
  intro pins s σ H Q I h
  exact Subscript_ (binT ha hb I h fun v u s2 x y H2 I2 rx ry q => hr a b pins s2 σ H2 x y v u Q I2 rx ry q (hs _ _))
def rIxL (K : PySem.W.Frag) : R2 := fun x y H Q => ∃ p xs i v, x = .ref p ∧ y = .int i ∧ SqL K H p xs ∧ atI xs i = some v ∧ Q v H
def rIxT (K : PySem.W.Frag) : R2 := fun x y H Q => ∃ p xs i v, x = .ref p ∧ y = .int i ∧ SqT K H p xs ∧ atI xs i = some v ∧ Q v H
def rIxS : R2 := fun x y H Q => ∃ z i c, x = .str z ∧ y = .int i ∧ z.length ≤ sizeLine ∧ atI z.cps.toList i = some c ∧ Q (.str ⟨#[c]⟩) H
theorem ix_list : IxR X (rIxL X.K) := by
  intro value slice pins s σ H x y v u Q I rx ry h hs
  obtain ⟨p, xs, i, z, rfl, rfl, hq, he, q⟩ := h
  cases rx
  obtain ⟨t, rfl⟩ := ry
  obtain ⟨its, r, pl, hz⟩ := I.list hq
  obtain ⟨j, h1, h2, h3, h4, h5⟩ := atI_get he
  obtain ⟨w, ew, rw'⟩ := r.get h2
  have hl := r.length
  have hn := line63
  have fin : EP X pins σ Q w s := ⟨z, H, I, rw', q⟩
  by_cases h0 : 0 ≤ i
  · have hj : i.toNat = j := by
      rw [seqIndex_of h0 h5] at h1
      exact Option.some.inj h1
    exact item_listR pl.isList h0 (by omega) (by rw [hj]; simpa using ew) fin hs
  · have hj : (i + (its.toArray.size : Int)).toNat = j := by
      rw [seqIndex_neg (by omega) h4] at h1
      rw [List.size_toArray, ← hl]
      exact Option.some.inj h1
    exact subscriptTail_builtinR (x := w) pl.isList.typeIs slot_list_getitem.lookup
      (wpAny_getItem_list_neg (Q := fun r s' => r = w ∧ EP X pins σ Q r s') pl.isList (by omega) (by rw [List.size_toArray] <;> omega) (by omega) (by rw [hj]; simpa using ew) ⟨rfl, fin⟩) hs
theorem ix_tup : IxR X (rIxT X.K) := by
  intro value slice pins s σ H x y v u Q I rx ry h hs
  obtain ⟨p, xs, i, z, rfl, rfl, hq, he, q⟩ := h
  cases rx
  obtain ⟨t, rfl⟩ := ry
  obtain ⟨its, r, pl, hz⟩ := I.tuple hq
  obtain ⟨j, h1, h2, h3, h4, h5⟩ := atI_get he
  obtain ⟨w, ew, rw'⟩ := r.get h2
  have hl := r.length
  have hn := line63
  have fin : EP X pins σ Q w s := ⟨z, H, I, rw', q⟩
  exact subscriptTail_builtinR (x := w) pl.typeIs slot_tuple_getitem.lookup
    (getItem_tuple (j := j) (Q := fun r s' => r = w ∧ EP X pins σ Q r s') pl (by omega) (by omega) (by rw [List.size_toArray, ← hl]; exact h1) (by simpa using ew) ⟨rfl, fin⟩) hs
theorem ix_str : IxR X rIxS := by
  intro value slice pins s σ H x y v u Q I rx ry h hs
  obtain ⟨z, i, c, rfl, rfl, hz, he, q⟩ := h
  obtain ⟨t, rfl⟩ := rx
  obtain ⟨t', rfl⟩ := ry
  obtain ⟨j, h1, h2, h3, h4, h5⟩ := atI_get he
  have hl : z.cps.toList.length = z.length := by simp [Str.length]
  rw [hl] at h1 h4 h5
  have hn := line63
  exact tail_any (typeIs_str s z t) slot_str_getitem.lookup (getItem_str (c := c) (by
    have e1 : decide (i < -(2 ^ 63 : Int)) = false := decide_eq_false (by omega)
    have e2 : decide (i ≥ 2 ^ 63) = false := decide_eq_false (by omega)
    rw [e1, e2, Bool.or_false]) (by rw [h1]; simpa using h2) ⟨.str ⟨#[c]⟩, H, I.tok _, ⟨_, rfl⟩, q⟩) hs
theorem mapSeq_set (its : List Value) (n j : Nat) (u : Value) : Obj.mapSeq (·.setIfInBounds j u) { cls := .type "list", data := .seq its.toArray n } = { cls := .type "list", data := .seq (its.set j u).toArray n } := by
  simp [Obj.mapSeq]
theorem Inv.lst {pins : List (Addr × Obj)} {σ : St} {H : Hp} {s : Shared} {p : Addr} {xs : List V} (I : Inv X pins σ H s) (h : H p = some (.lst xs)) :
    ∃ (its : List Value) (n : Nat), Vals xs its ∧ s.heap.get? p = some { cls := .type "list", data := .seq its.toArray n } ∧ xs.length ≤ sizeLine := by
  obtain ⟨z, its, n, r, e⟩ := I.hok p _ h
  exact ⟨its, n, r, e, z⟩
theorem Inv.lstUpd {pins : List (Addr × Obj)} {σ : St} {H : Hp} {s : Shared} {p : Addr} {xs ys : List V} {its its' : List Value} {n n' : Nat} {f : Obj → Obj} (I : Inv X pins σ H s) (h : H p = some (.lst xs))
    (ho : s.heap.get? p = some { cls := .type "list", data := .seq its.toArray n }) (hf : f { cls := .type "list", data := .seq its.toArray n } = { cls := .type "list", data := .seq its'.toArray n' }) (r : Vals ys its') (hz : ys.length ≤ sizeLine) (t : Nat) :
    Inv X pins σ (upd H p (.lst ys)) { s with heap := s.heap.update p f, toks := t } := by
  have e : (s.heap.update p f).get? p = some { cls := .type "list", data := .seq its'.toArray n' } := by
    rw [Heap.get?_update_self f ho (by rw [hf] <;> rfl), hf]
  refine I.write (x := p) (e := p) (by rw [h]; trivial) (.inl rfl) (fun b u hb q => (Heap.get?_update_other _ _ (Ne.symm hb)).trans q) ⟨_, e⟩ ?_
  exact ⟨hz, its', n', r, e⟩
def rSetL : V → V → V → Hp → (Hp → Prop) → Prop := fun o i v H Q => ∃ p xs k j, o = .ref p ∧ i = .int k ∧ H p = some (.lst xs) ∧ ixN xs.length k = some j ∧ Q (upd H p (.lst (xs.set j v)))
theorem set_list : PSet X rSetL := by
  intro pins s σ H o i v ov iv u Q I ro ri rv h
  obtain ⟨p, xs, k, j, rfl, rfl, hp, hj, q⟩ := h
  cases ro
  obtain ⟨t, rfl⟩ := ri
  obtain ⟨its, n, r, ho, hz⟩ := I.lst hp
  obtain ⟨h1, h2, h3, h4⟩ := ixN_seq hj
  have hl := r.length
  have hn := line63
  have I' : Inv X pins σ (upd H p (.lst (xs.set j v))) { s with heap := s.heap.update p (Obj.mapSeq (·.setIfInBounds j u)) } :=
    I.lstUpd hp ho (mapSeq_set its n j u) (r.set rv j) (by rw [List.length_set]; exact hz) s.toks
  by_cases h0 : 0 ≤ k
  · have hk : k.toNat = j := by
      rw [seqIndex_of h0 h4] at h1
      exact Option.some.inj h1
    exact PySem.W.ki_setAt ho h0 (by omega) (by rw [List.size_toArray, ← hl]; exact h4) (by rw [hk]; exact ⟨_, I', q⟩)
  · have hk : (k + (its.toArray.size : Int)).toNat = j := by
      rw [seqIndex_neg (by omega) h3] at h1
      rw [List.size_toArray, ← hl]
      exact Option.some.inj h1
    exact PySem.W.ki_setBack ho (by omega) (by rw [List.size_toArray, ← hl]; exact h3) (by omega) (by rw [hk]; exact ⟨_, I', q⟩)
theorem slice_bounds (lo hi : Option Int) (n : Nat) : (sliceBounds lo hi none n).1 = ((HT.sIx n 0 lo : Nat) : Int) ∧ (sliceBounds lo hi none n).2.1 = ((HT.sIx n n hi : Nat) : Int) ∧ (sliceBounds lo hi none n).2.2 = 1 := by
  refine ⟨?_, ?_, rfl⟩
  · cases lo with
    | none => simp [sliceBounds, HT.sIx]
    | some i =>
      simp only [sliceBounds, HT.sIx, Option.getD_none, show (1 : Int) > 0 by decide, if_true]
      by_cases h : i < 0
      · simp only [h, if_true] <;> omega
      · simp only [h, if_false] <;> omega
  · cases hi with
    | none => simp [sliceBounds, HT.sIx]
    | some i =>
      simp only [sliceBounds, HT.sIx, Option.getD_none, show (1 : Int) > 0 by decide, if_true]
      by_cases h : i < 0
      · simp only [h, if_true] <;> omega
      · simp only [h, if_false] <;> omega
theorem slicePick_cut (its : List Value) (lo hi : Option Int) : slicePick its.toArray lo hi none = ((its.drop (HT.sIx its.length 0 lo)).take (HT.sIx its.length its.length hi - HT.sIx its.length 0 lo)).toArray := by
  obtain ⟨h1, h2, h3⟩ := slice_bounds lo hi its.toArray.size
  unfold slicePick
  rw [h1, h2, h3]
  simp only [sliceRange_one, pick_run, List.size_toArray] <;> rfl
def rSlL (K : PySem.W.Frag) : V → Option Int → Option Int → Hp → VK → Prop := fun x lo hi H Q => ∃ a xs, x = .ref a ∧ SqL K H a xs ∧ ∀ p, H p = none → Q (.ref p) (upd H p (.lst (cutV xs lo hi)))
theorem sl_list : SlR X (rSlL X.K) := by
  intro pins s σ H x v vl vu lo hi sl Q I rx hs pl pu h
  obtain ⟨a, xs, rfl, hx, q⟩ := h
  cases rx
  obtain ⟨its, r, ht, hz⟩ := I.list hx
  have hlen := r.length
  refine ⟨"list", _, slot_list_getitem.lookup, ht.isList.typeIs, ?_⟩
  refine wpAny_getItem_list_slice ht.isList hs pl pu .none (by simp) ?_ (by rw [List.size_toArray] <;> omega)
  rw [slicePick_cut, ← hlen]
  refine ⟨.ref s.heap.objs.size, _, I.laid (t' := s.toks) (o := .lst (cutV xs lo hi)) (fun b ob q => Heap.get?_push_of_some _ q) (Nat.le_refl _) ?_, rfl, q _ (I.hok.fresh (Nat.le_refl _))⟩
  exact ⟨Nat.le_trans (cutV_length xs lo hi) hz, _, 0, (r.drop (HT.sIx xs.length 0 lo)).take (HT.sIx xs.length xs.length hi - HT.sIx xs.length 0 lo), Heap.get?_push_size _ rfl⟩
def flatV : V → Bool
  | .non => true
  | .bl _ => true
  | .int _ => true
  | .str _ => true
  | _ => false
def eqV : V → V → Bool
  | .non, .non => true
  | .bl a, .bl b => a == b
  | .bl a, .int b => (if a then 1 else 0) == b
  | .int a, .bl b => a == (if b then 1 else 0)
  | .int a, .int b => a == b
  | .str a, .str b => a == b
  | _, _ => false
theorem eqAt_V {A : Around} {s : Shared} {y x : V} {u v : Value} (ry : RelV y u) (rx : RelV x v) (fy : flatV y = true) (fx : flatV x = true) : SeqAt.EqAt A s u v (eqV y x) := by
  cases y with
  | non =>
    cases ry
    cases x with
    | non => cases rx; exact SeqAt.EqAt.same _
    | bl b => cases rx; exact SeqAt.EqAt.none_bool b
    | int b => obtain ⟨t, rfl⟩ := rx; exact SeqAt.EqAt.none_int b t
    | str b => obtain ⟨t, rfl⟩ := rx; exact SeqAt.EqAt.none_str b t
    | _ => exact absurd (show false = true from fx) Bool.false_ne_true
  | bl a =>
    cases ry
    cases x with
    | non => cases rx; exact SeqAt.EqAt.bool_none a
    | bl b => cases rx; exact SeqAt.EqAt.bool_bool a b
    | int b => obtain ⟨t, rfl⟩ := rx; exact SeqAt.EqAt.bool_int a b t
    | str b => obtain ⟨t, rfl⟩ := rx; exact SeqAt.EqAt.bool_str a b t
    | _ => exact absurd (show false = true from fx) Bool.false_ne_true
  | int a =>
    obtain ⟨t', rfl⟩ := ry
    cases x with
    | non => cases rx; exact SeqAt.EqAt.int_none a t'
    | bl b => cases rx; exact SeqAt.EqAt.int_bool a t' b
    | int b => obtain ⟨t, rfl⟩ := rx; exact SeqAt.EqAt.int_int a t' b t
    | str b => obtain ⟨t, rfl⟩ := rx; exact SeqAt.EqAt.int_str a t' b t
    | _ => exact absurd (show false = true from fx) Bool.false_ne_true
  | str a =>
    obtain ⟨t', rfl⟩ := ry
    cases x with
    | non => cases rx; exact SeqAt.EqAt.str_none a t'
    | bl b => cases rx; exact SeqAt.EqAt.str_bool a t' b
    | int b => obtain ⟨t, rfl⟩ := rx; exact SeqAt.EqAt.str_int a t' b t
    | str b => obtain ⟨t, rfl⟩ := rx; exact SeqAt.EqAt.str_str a t' b t
    | _ => exact absurd (show false = true from fx) Bool.false_ne_true
  | _ => exact absurd (show false = true from fy) Bool.false_ne_true
def eqU (x : V) (u : Value) : Bool := match u with
  | .none => eqV .non x
  | .bool b => eqV (.bl b) x
  | .int i _ => eqV (.int i) x
  | .str z _ => eqV (.str z) x
  | _ => false
theorem eqU_of {x y : V} {u : Value} (r : RelV y u) (f : flatV y = true) : eqU x u = eqV y x := by
  cases y with
  | non => cases r; rfl
  | bl b => cases r; rfl
  | int i => obtain ⟨t, rfl⟩ := r; rfl
  | str z => obtain ⟨t, rfl⟩ := r; rfl
  | _ => exact absurd (show false = true from f) Bool.false_ne_true
theorem any_eqU {x : V} : ∀ {xs : List V} {us : List Value}, Vals xs us → xs.all flatV = true → us.any (eqU x) = xs.any fun y => eqV y x
  | _, _, .nil, _ => rfl
  | y :: xs, u :: us, .cons r t, f => by
    rw [List.all_cons, Bool.and_eq_true] at f
    rw [List.any_cons, List.any_cons, eqU_of r f.1, any_eqU t f.2]
theorem mem_eqAt {A : Around} {s : Shared} {x : V} {v : Value} (rx : RelV x v) (fx : flatV x = true) : ∀ {xs : List V} {us : List Value}, Vals xs us → xs.all flatV = true → ∀ u ∈ us, SeqAt.EqAt A s u v (eqU x u)
  | _, _, .nil, _ => fun u hu => by cases hu
  | y :: xs, u :: us, .cons r t, f => fun u' hu => by
    rw [List.all_cons, Bool.and_eq_true] at f
    rcases List.mem_cons.mp hu with rfl | hu
    · rw [eqU_of r f.1]; exact eqAt_V r rx f.1 fx
    · exact mem_eqAt rx fx t f.2 u' hu
def inV (x : V) (xs : List V) : Bool := xs.any fun y => eqV y x
def rIn (K : PySem.W.Frag) (neg : Bool) : R2 := fun x y H Q => ∃ p xs, y = .ref p ∧ (SqL K H p xs ∨ SqT K H p xs) ∧ flatV x = true ∧ xs.all flatV = true ∧ Q (.bl (if neg then !inV x xs else inV x xs)) H
theorem op_in_seq : OpR X (compareOp .In) (rIn X.K false) := by
  intro pins s σ H x y v u Q I rx ry h
  obtain ⟨p, xs, rfl, hq, fx, fs, q⟩ := h
  cases ry
  rcases hq with hq | hq
  · obtain ⟨its, r, pl, hz⟩ := I.list hq
    refine SeqAt.in_listAt (eqU x) pl.isList (fun w hw => mem_eqAt rx fx r fs w (by simpa using hw)) ⟨.bl _, H, I, rfl, ?_⟩
    rw [show its.toArray.any (eqU x) = its.any (eqU x) by simp, any_eqU r fs]
    exact q
  · obtain ⟨its, r, pl, hz⟩ := I.tuple hq
    refine SeqAt.in_tupleAt (eqU x) pl (fun w hw => mem_eqAt rx fx r fs w (by simpa using hw)) ⟨.bl _, H, I, rfl, ?_⟩
    rw [show its.toArray.any (eqU x) = its.any (eqU x) by simp, any_eqU r fs]
    exact q
theorem op_notIn_seq : OpR X (compareOp .NotIn) (rIn X.K true) := by
  intro pins s σ H x y v u Q I rx ry h
  obtain ⟨p, xs, rfl, hq, fx, fs, q⟩ := h
  cases ry
  rcases hq with hq | hq
  · obtain ⟨its, r, pl, hz⟩ := I.list hq
    refine SeqAt.notIn_listAt (eqU x) pl.isList (fun w hw => mem_eqAt rx fx r fs w (by simpa using hw)) ⟨.bl _, H, I, rfl, ?_⟩
    rw [show its.toArray.any (eqU x) = its.any (eqU x) by simp, any_eqU r fs]
    exact q
  · obtain ⟨its, r, pl, hz⟩ := I.tuple hq
    refine SeqAt.notIn_tupleAt (eqU x) pl (fun w hw => mem_eqAt rx fx r fs w (by simpa using hw)) ⟨.bl _, H, I, rfl, ?_⟩
    rw [show its.toArray.any (eqU x) = its.any (eqU x) by simp, any_eqU r fs]
    exact q
theorem call_len_seq : CallR X (.builtin "len") (fun xs H Q => ∃ p ys, xs = [.ref p] ∧ (SqL X.K H p ys ∨ SqT X.K H p ys) ∧ Q (.int ys.length) H) := by
  intro pins s σ H xs us Q I r h
  obtain ⟨p, ys, rfl, hq, q⟩ := h
  obtain ⟨u, rfl, rx⟩ := vals1 r
  cases rx
  have hn := line63
  rcases hq with hq | hq
  · obtain ⟨its, r', pl, hz⟩ := I.list hq
    have hlen := r'.length
    exact Calls.call_len_list pl.isList (by simp only [List.size_toArray] <;> omega) ⟨.int ys.length, H, I.tok _, ⟨s.toks + 1, by rw [List.size_toArray, hlen]⟩, q⟩
  · obtain ⟨its, r', pl, hz⟩ := I.tuple hq
    have hlen := r'.length
    exact len_tuple pl (by simp only [List.size_toArray] <;> omega) ⟨.int ys.length, H, I.tok _, ⟨s.toks + 1, by rw [List.size_toArray, hlen]⟩, q⟩
theorem call_len_str : CallR X (.builtin "len") (fun xs H Q => ∃ z, xs = [.str z] ∧ z.length ≤ sizeLine ∧ Q (.int z.length) H) := by
  intro pins s σ H xs us Q I r h
  obtain ⟨z, rfl, hz, q⟩ := h
  obtain ⟨u, rfl, t, rfl⟩ := vals1 r
  have hn := line63
  exact len_str (by omega) ⟨.int z.length, H, I.tok _, ⟨_, rfl⟩, q⟩
theorem call_list_of : CallR X (.type "list") (fun xs H Q => ∃ p ys, xs = [.ref p] ∧ (SqL X.K H p ys ∨ SqT X.K H p ys) ∧ ∀ l, H l = none → Q (.ref l) (upd H l (.lst ys))) := by
  intro pins s σ H xs us Q I r h
  obtain ⟨p, ys, rfl, hq, q⟩ := h
  obtain ⟨u, rfl, rx⟩ := vals1 r
  cases rx
  have fin : ∀ (its : List Value), Vals ys its → ys.length ≤ sizeLine → ∀ (h' : Heap) (c' : Nat), (∀ b o', s.heap.get? b = some o' → h'.get? b = some o') →
      h'.get? s.heap.objs.size = some { cls := .type "list", dict := none, data := .seq its.toArray c', slots := #[] } → EP X pins σ Q (.ref s.heap.objs.size) { s with heap := h' } := fun its r' hz h' c' kp e =>
    ⟨.ref s.heap.objs.size, _, I.laid (t' := s.toks) kp (Nat.le_refl _) (show ObjOk X.prog X.w _ h' _ (.lst ys) from ⟨hz, its, c', r', e⟩), rfl, q _ (I.hok.fresh (Nat.le_refl _))⟩
  rcases hq with hq | hq
  · obtain ⟨its, r', pl, hz⟩ := I.list hq
    have hlen := r'.length
    obtain ⟨o, ho, hc, n, hd⟩ := pl.isList
    exact call_list_seq p (.inl rfl) ho hc hd (fun h' c' kp e => fin its r' hz h' c' kp e) (by simp only [List.size_toArray] <;> omega)
  · obtain ⟨its, r', pl, hz⟩ := I.tuple hq
    have hlen := r'.length
    obtain ⟨o, ho, hc, n, hd⟩ := pl
    exact call_list_seq p (.inr rfl) ho hc hd (fun h' c' kp e => fin its r' hz h' c' kp e) (by simp only [List.size_toArray] <;> omega)
theorem call_tuple_of : CallR X (.type "tuple") (fun xs H Q => ∃ p ys, xs = [.ref p] ∧ ((SqL X.K H p ys ∧ ∀ l, H l = none → Q (.ref l) (upd H l (.tup ys))) ∨ (SqT X.K H p ys ∧ Q (.ref p) H))) := by
  intro pins s σ H xs us Q I r h
  obtain ⟨p, ys, rfl, h⟩ := h
  obtain ⟨u, rfl, rx⟩ := vals1 r
  cases rx
  rcases h with ⟨hq, q⟩ | ⟨hq, q⟩
  · obtain ⟨its, r', pl, hz⟩ := I.list hq
    have hlen := r'.length
    refine call_tuple_list pl.isList (fun h' kp => ?_) (by simp only [List.size_toArray] <;> omega)
    have I1 : Inv X pins σ H { s with heap := h' } := I.kept (t' := s.toks) kp
    have I2 : Inv X pins σ (upd H h'.objs.size (.tup ys)) { s with heap := h'.push { cls := .type "tuple", data := .seq its.toArray } } :=
      I1.laid (t' := s.toks) (fun b o e => Heap.get?_push_of_some _ e) (Nat.le_refl _) (show ObjOk X.prog X.w _ _ _ (.tup ys) from ⟨hz, its, r', IsTup.new _ _⟩)
    exact ⟨.ref h'.objs.size, _, I2, rfl, q _ (I1.hok.fresh (Nat.le_refl _))⟩
  · obtain ⟨its, r', pl, hz⟩ := I.tuple hq
    exact call_tuple_same pl ⟨.ref p, H, I, rfl, q⟩
def tyV (K : PySem.W.Frag) (T : String) (x : V) (H : Hp) : Prop := match x with
  | .str _ => T = "str"
  | .int _ => T = "int"
  | .ref p => (T = "list" ∧ ∃ xs, SqL K H p xs) ∨ (T = "tuple" ∧ ∃ o, K.lookup p = some o ∧ o.cls = .type "tuple" ∧ o.dict = none) ∨
      (T = "dict" ∧ ((∃ kvs, H p = some (.dK kvs)) ∨ ∃ kvs, H p = some (.dT kvs))) ∨ (T = "set" ∧ ∃ S n, H p = some (.set S n))
  | _ => False
theorem tyV_is {pins : List (Addr × Obj)} {σ : St} {H : Hp} {s : Shared} {T : String} {x : V} {v : Value} (I : Inv X pins σ H s) (r : RelV x v) (ty : tyV X.K T x H) :
    s.TypeIs v T ∧ ∀ a, v = .ref a → ∃ ob, s.heap.get? a = some ob ∧ ob.dict = none := by
  cases x with
  | str z =>
    obtain ⟨t, rfl⟩ := r
    cases (show T = "str" from ty)
    exact ⟨typeIs_str s z t, fun _ e => nomatch e⟩
  | int i =>
    obtain ⟨t, rfl⟩ := r
    cases (show T = "int" from ty)
    exact ⟨typeIs_int s i t, fun _ e => nomatch e⟩
  | ref p =>
    cases r
    rcases ty with ⟨rfl, xs, hq⟩ | ⟨rfl, o, hk, hc, hd⟩ | ⟨rfl, hk⟩ | ⟨rfl, S, n, hk⟩
    · obtain ⟨its, _, pl, _⟩ := I.list hq
      refine ⟨pl.isList.typeIs, fun a e => ?_⟩
      cases e
      obtain ⟨o, n, e, c, hd, _⟩ := pl
      exact ⟨o, e, hd⟩
    · refine ⟨⟨o, I.kIn p o hk, hc⟩, fun a e => ?_⟩
      cases e
      exact ⟨o, I.kIn _ o hk, hd⟩
    · have z : ∃ o, s.heap.get? p = some o ∧ o.ExactDict := by
        rcases hk with ⟨kvs, hk⟩ | ⟨kvs, hk⟩
        · obtain ⟨_, _, _, _, o, _, _, e, ex, _⟩ := I.hok p _ hk
          exact ⟨o, e, ex⟩
        · obtain ⟨_, _, _, _, o, _, _, e, ex, _⟩ := I.hok p _ hk
          exact ⟨o, e, ex⟩
      obtain ⟨o, e, ex⟩ := z
      refine ⟨⟨o, e, ex.1⟩, fun a e2 => ?_⟩
      cases e2
      exact ⟨o, e, ex.2.1⟩
    · obtain ⟨o, _, _, _, e, ex, _⟩ := I.hok p _ hk
      refine ⟨⟨o, e, ex.1⟩, fun a e2 => ?_⟩
      cases e2
      exact ⟨o, e, ex.2.1⟩
  | _ => exact False.elim ty
def tBM0 (K : PySem.W.Frag) (T : String) (r : V → List V → Hp → VK → Prop) (to : TE) : TE := fun σ H Q => to σ H fun x H1 => tyV K T x H1 ∧ r x [] H1 Q
def tBM (K : PySem.W.Frag) (T : String) (r : V → List V → Hp → VK → Prop) (to : TE) (t : TA) : TE := fun σ H Q => to σ H fun x H1 => tyV K T x H1 ∧ t σ H1 fun xs H2 => r x xs H2 Q
variable {o e : Expr} {es : List Expr} {to : TE} {t : TA} {name : Str} {apos cpos : Pos} {T id : String} {r : V → List V → Hp → VK → Prop}
theorem pe_bm0 (pa : PlainAttrs T) (slot : Slot T name id) (hty : typeOf (.builtin id) = pure (.type "method_descriptor")) (hm : MtR X id r) (ho : PE X o to)
    (hbase : attributeBase o name X.env (eval o X.env) = eval o X.env := by rfl) (hline : (apos.endLine == cpos.line) = true := by rfl) : PE X (.Call (.Attribute o name apos) [] [] cpos) (tBM0 X.K T r to) := by
  intro pins s σ H Q I h
  refine wpAny_Call_method0_late hbase hline (thn (ho pins s σ H _ I h) fun v s1 ⟨x, H1, I1, r1, ty, q1⟩ => ?_)
  obtain ⟨h1, h2⟩ := tyV_is I1 r1 ty
  exact ⟨T, id, pa, slot, hty, h1, h2, Calls.callWith_builtin rfl (PySem.evalArgs_none (hm pins s1 σ H1 x [] v [] Q I1 r1 .nil q1))⟩
theorem pe_bm (pa : PlainAttrs T) (slot : Slot T name id) (hty : typeOf (.builtin id) = pure (.type "method_descriptor")) (hm : MtR X id r) (ho : PE X o to) (ha : PA X (e :: es) t)
    (hbase : attributeBase o name X.env (eval o X.env) = eval o X.env := by rfl)
    (hfew : ((backTo cpos (starEach (e :: es) X.env)).all (fun x => !x.1) && (backToKw cpos (keywordEach [] X.env)).all (fun x => x.1.isSome)
      && decide ((e :: es).length + ([] : List Keyword).length + (if ([] : List Keyword).isEmpty then 0 else 1) < 30)) = true := by rfl)
    (hline : (apos.endLine == cpos.line) = true := by rfl) (hs : starEach (e :: es) X.env = (false, eval e X.env) :: starEach es X.env := by rfl) (hplain : (backTo cpos (starEach es X.env)).any (·.1) = false := by rfl) :
    PE X (.Call (.Attribute o name apos) (e :: es) [] cpos) (tBM X.K T r to t) := by
  intro pins s σ H Q I h
  refine wpAny_Call_method_late hbase hfew hline rfl (thn (ho pins s σ H _ I h) fun v s1 ⟨x, H1, I1, r1, ty, q1⟩ => ?_)
  obtain ⟨h1, h2⟩ := tyV_is I1 r1 ty
  refine ⟨T, id, pa, slot, hty, h1, h2, ?_⟩
  have hA := ha cpos pins s1 σ H1 _ I1 q1
  rw [hs] at hA ⊢
  refine Calls.callWith_builtin (by show (false || (backTo cpos (starEach es X.env)).any (·.1)) = false; rw [hplain] <;> rfl) (Calls.evalArgs_plain ?_)
  exact thn hA fun us s2 ⟨vs, H2, I2, r2, q2⟩ => hm pins s2 σ H2 x vs v us Q I2 r1 r2 q2
end
end L2
namespace L2
open PySem PySem.Spec PyProof.Rows
def MtM (X : Cx) (id : String) (r : V → List V → Hp → VK → Prop) : Prop :=
  ∀ (pins : List (Addr × Obj)) (s : Shared) (σ : St) (H : Hp) (x : V) (xs : List V) (v : Value) (us : List Value) (Q : VK), Inv X pins σ H s → RelV x v → Vals xs us → r x xs H Q →
    wpAny (model X.prog X.w) X.A (call (.builtin id) (v :: us)) (EP X pins σ Q) X.xe s
theorem Vals.one : ∀ {x : V} {us : List Value}, Vals [x] us → ∃ u, us = [u] ∧ RelV x u
  | _, _, .cons r .nil => ⟨_, rfl, r⟩
theorem Vals.zero : ∀ {us : List Value}, Vals [] us → us = []
  | _, .nil => rfl
theorem Vals.dropLast {xs : List V} {us : List Value} (h : Vals xs us) : Vals xs.dropLast us.dropLast := by
  induction h with
  | nil => exact .nil
  | cons r t ih =>
    cases t with
    | nil => exact .nil
    | cons q t' => exact .cons r ih
theorem erase_last {α : Type} (l : List α) : l.eraseIdx (l.length - 1) = l.dropLast := by
  induction l with
  | nil => rfl
  | cons a r ih =>
    cases r with
    | nil => rfl
    | cons b r =>
      have e : (a :: b :: r).length - 1 = ((b :: r).length - 1) + 1 := by
        have h1 : (a :: b :: r).length = r.length + 2 := rfl
        have h2 : (b :: r).length = r.length + 1 := rfl
        omega
      rw [e, List.eraseIdx_cons_succ, ih]
      all_goals rfl
section
variable {X : Cx} {pins : List (Addr × Obj)} {σ : St} {H : Hp} {s : Shared} {l b : Addr} {xs ys zs : List V}
theorem Inv.lset {its its' : List Value} {n : Nat} {f : Array Value → Array Value} {t' : Nat} (I : Inv X pins σ H s) (hH : H l = some (.lst xs))
    (e : s.heap.get? l = some { cls := .type "list", data := .seq its.toArray n }) (hf : f its.toArray = its'.toArray) (hv : Vals ys its') (hz : ys.length ≤ sizeLine) :
    Inv X pins σ (upd H l (.lst ys)) { s with heap := s.heap.update l (Obj.mapSeq f), toks := t' } := by
  have q := PySem.IsL.update e f
  rw [hf] at q
  refine I.write (x := l) (e := l) (by rw [hH]; exact trivial) (.inl rfl) (fun b' u hb hu => (Heap.get?_update_other s.heap (Obj.mapSeq f) (Ne.symm hb)).trans hu) ⟨_, q⟩ ?_
  exact ⟨hz, its', _, hv, q⟩
theorem Inv.lnew {its : List Value} {t' : Nat} (I : Inv X pins σ H s) (hv : Vals ys its) (hz : ys.length ≤ sizeLine) :
    Inv X pins σ (upd H s.heap.objs.size (.lst ys)) { s with heap := s.heap.push { cls := .type "list", data := .seq its.toArray }, toks := t' } :=
  I.laid (fun _ _ q => Heap.get?_push_of_some _ q) (Nat.le_refl _) ⟨hz, its, 0, hv, Heap.get?_push_size _ rfl⟩
theorem Inv.fresh (I : Inv X pins σ H s) : H s.heap.objs.size = none := I.hok.fresh (Nat.le_refl _)
theorem Inv.lstM (I : Inv X pins σ H s) (hH : H l = some (.lst xs)) : xs.length ≤ sizeLine ∧ ∃ (its : List Value) (n : Nat), Vals xs its ∧ xs.length = its.length ∧ s.heap.get? l = some { cls := .type "list", data := .seq its.toArray n } := by
  obtain ⟨z, its, n, r, e⟩ := I.hok l _ hH
  exact ⟨z, its, n, r, r.length, e⟩
theorem notLongL {n : Nat} (h : n ≤ sizeLine) : Builtin.List.listTooLong n = false := by
  unfold Builtin.List.listTooLong
  exact decide_eq_false (by omega)
end
section
variable {X : Cx}
def rAppend : V → List V → Hp → VK → Prop := fun x vs H Q => ∃ l xs y, x = .ref l ∧ vs = [y] ∧ H l = some (.lst xs) ∧ xs.length < sizeLine ∧ Q .non (upd H l (.lst (xs ++ [y])))
theorem mt_append : MtM X "list.append" rAppend := by
  intro pins s σ H x vs v us Q I rx rv h
  obtain ⟨l, xs, y, rfl, rfl, hH, hz, q⟩ := h
  cases rx
  obtain ⟨u, rfl, ru⟩ := rv.one
  obtain ⟨z, its, n, r, hl, e⟩ := I.lstM hH
  refine call_meets F.slot_list_append ⟨_, e, rfl⟩ F.entry_list_append (F.args_list_append_2 _ _) (PySem.list_append l its.toArray n u (by rw [List.size_toArray]; omega)) ⟨e, ?_⟩
  refine ⟨.non, _, I.lset (its' := its ++ [u]) hH e (by simp) (r.append (.cons ru .nil)) ?_, rfl, q⟩
  rw [List.length_append, List.length_singleton]
  omega
def rExtend : V → List V → Hp → VK → Prop := fun x vs H Q => ∃ l b xs zs, x = .ref l ∧ vs = [.ref b] ∧ H l = some (.lst xs) ∧ H b = some (.lst zs) ∧ xs.length + zs.length ≤ sizeLine ∧ Q .non (upd H l (.lst (xs ++ zs)))
theorem mt_extend : MtM X "list.extend" rExtend := by
  intro pins s σ H x vs v us Q I rx rv h
  obtain ⟨l, b, xs, zs, rfl, rfl, hH, hB, hz, q⟩ := h
  cases rx
  obtain ⟨u, rfl, ru⟩ := rv.one
  cases ru
  obtain ⟨z, its, n, r, hl, e⟩ := I.lstM hH
  obtain ⟨z2, its2, n2, r2, hl2, e2⟩ := I.lstM hB
  have hsz : its.toArray.size + its2.toArray.size ≤ sizeLine := by rw [List.size_toArray, List.size_toArray]; omega
  have hlong : ¬ (!its.toArray.isEmpty && Builtin.List.listTooLong (its.toArray.size + its2.toArray.size)) = true := by
    rw [notLongL hsz, Bool.and_false]
    exact Bool.false_ne_true
  refine call_meets F.slot_list_extend ⟨_, e, rfl⟩ F.entry_list_extend (F.args_list_extend_2 _ _)
    (AutoSeq1.list_extend_list_list_0 l its.toArray n b its2.toArray n2 hlong (by rw [List.size_toArray]; omega) (by omega)) ⟨e, e2, ?_⟩
  refine ⟨.non, _, I.lset (its' := its ++ its2) hH e (by simp) (r.append r2) ?_, rfl, q⟩
  rw [List.length_append]
  omega
def rPop : V → List V → Hp → VK → Prop := fun x vs H Q => ∃ l xs y, x = .ref l ∧ vs = [] ∧ H l = some (.lst xs) ∧ xs[xs.length - 1]? = some y ∧ Q y (upd H l (.lst xs.dropLast))
theorem mt_pop : MtM X "list.pop" rPop := by
  intro pins s σ H x vs v us Q I rx rv h
  obtain ⟨l, xs, y, rfl, rfl, hH, hy, q⟩ := h
  cases rx
  have hus := rv.zero
  subst hus
  obtain ⟨z, its, n, r, hl, e⟩ := I.lstM hH
  obtain ⟨u, hu, ru⟩ := r.get hy
  have hy' : its.toArray[its.toArray.size - 1]? = some u := by
    show its.toArray[its.length - 1]? = some u
    rw [← Array.getElem?_toList, ← hl]
    exact hu
  refine call_meets F.slot_list_pop ⟨_, e, rfl⟩ F.entry_list_pop (F.args_list_pop_1 _) (MeetsSeq.list_pop_last l its.toArray n u hy' (by rw [List.size_toArray]; omega)) ⟨e, ?_⟩
  refine ⟨y, _, I.lset (its' := its.dropLast) hH e ?_ r.dropLast ?_, ru, q⟩
  · show its.toArray.eraseIdxIfInBounds (its.toArray.size - 1) = its.dropLast.toArray
    rw [List.size_toArray, List.eraseIdxIfInBounds_toArray, erase_last]
  · rw [List.length_dropLast]
    omega
def rCat : R2 := fun x y H Q => ∃ l b xs zs, x = .ref l ∧ y = .ref b ∧ H l = some (.lst xs) ∧ H b = some (.lst zs) ∧ xs.length + zs.length ≤ sizeLine ∧ ∀ p, H p = none → Q (.ref p) (upd H p (.lst (xs ++ zs)))
theorem op_cat : OpR X (binaryOp .Add) rCat := by
  intro pins s σ H x y v u Q I rx ry h
  obtain ⟨l, b, xs, zs, rfl, rfl, hH, hB, hz, q⟩ := h
  cases rx
  cases ry
  obtain ⟨z, its, n, r, hl, e⟩ := I.lstM hH
  obtain ⟨z2, its2, n2, r2, hl2, e2⟩ := I.lstM hB
  refine PySem.P.add_list e e2 ?_ (by rw [List.size_toArray, List.size_toArray]; omega)
  have ea : its.toArray ++ its2.toArray = (its ++ its2).toArray := by simp
  rw [ea]
  exact ⟨.ref _, _, I.lnew (t' := s.toks) (r.append r2) (by rw [List.length_append]; omega), rfl, q _ I.fresh⟩
end
section
variable {prog : Program} {w : World} {A : Around} {E : Value → Shared → Prop} {s : Shared}
end
section
variable {X : Cx}
end
end L2
namespace L2
open PySem PySem.Spec PyProof.Rows
theorem Vals.ints : ∀ {ns : List Int} {us : List Value}, Vals (ns.map V.int) us → IntsAre us ns
  | [], us, h => by
    rw [List.map_nil] at h
    cases h
    exact IntsAre.nil
  | n :: ns, us, h => by
    rw [List.map_cons] at h
    cases h with
    | cons r t =>
      obtain ⟨k, rfl⟩ := r
      exact IntsAre.cons n k (Vals.ints t)
theorem Vals.bls : ∀ {bs : List Bool} {us : List Value}, Vals (bs.map V.bl) us → us = bs.map Value.bool
  | [], us, h => by
    rw [List.map_nil] at h
    cases h
    rfl
  | b :: bs, us, h => by
    rw [List.map_cons] at h
    cases h with
    | cons r t =>
      cases r
      rw [Vals.bls t, List.map_cons]
theorem Vals.ref1 {a : Addr} {us : List Value} (r : Vals [V.ref a] us) : us = [Value.ref a] := by
  cases r with
  | cons r t =>
    cases t
    cases r
    rfl
section
variable {prog : Program} {w : World} {A : Around} {E : Value → Shared → Prop} {s : Shared} {l : Addr} {its : List Value} {ns : List Int} {Q : Value → Shared → Prop}
theorem max_raw (hh : A.handled = none) (hl : s.heap.IsList l its.toArray) (hi : IntsAre its ns) (hne : 0 < ns.length)
    (h : ∀ h' tk M t', (∀ b o, s.heap.get? b = some o → h'.get? b = some o) → M ∈ ns → (∀ a, a ∈ ns → a ≤ M) → Q (.int M t') { s with heap := h', toks := tk }) : wpAny (model prog w) A (call (.builtin "max") [.ref l]) Q E s := by
  obtain ⟨xs, e⟩ := hi.allInts.items
  have hn : numsOf (intItems xs).toList = ns := by rw [← e]; exact hi.numsOf
  rw [nums_intItems] at hn
  subst hn
  rw [e] at hl
  have hsz : 0 < xs.size := by simpa using hne
  refine PySem.max_intList hh hl hsz fun v h' tk hv hk => ?_
  obtain ⟨t, rfl⟩ := intItems_at hv
  obtain ⟨h1, h2⟩ := argBest_gt (numAt xs) (xs.size - 1)
  refine h h' tk _ t hk ?_ fun a ha => ?_
  · rw [numAt_eq]; exact PySem.getD_mem (by rw [List.length_map, Array.length_toList]; omega)
  · obtain ⟨j, hj, rfl⟩ := mem_getD ha
    rw [List.length_map, Array.length_toList] at hj
    rw [← numAt_eq]; exact h2 j (by omega)
theorem min_raw (hh : A.handled = none) (hl : s.heap.IsList l its.toArray) (hi : IntsAre its ns) (hne : 0 < ns.length)
    (h : ∀ h' tk M t', (∀ b o, s.heap.get? b = some o → h'.get? b = some o) → M ∈ ns → (∀ a, a ∈ ns → M ≤ a) → Q (.int M t') { s with heap := h', toks := tk }) : wpAny (model prog w) A (call (.builtin "min") [.ref l]) Q E s := by
  obtain ⟨xs, e⟩ := hi.allInts.items
  have hn : numsOf (intItems xs).toList = ns := by rw [← e]; exact hi.numsOf
  rw [nums_intItems] at hn
  subst hn
  rw [e] at hl
  have hsz : 0 < xs.size := by simpa using hne
  refine PySem.min_intList hh hl hsz fun v h' tk hv hk => ?_
  obtain ⟨t, rfl⟩ := intItems_at hv
  obtain ⟨h1, h2⟩ := argBest_lt (numAt xs) (xs.size - 1)
  refine h h' tk _ t hk ?_ fun a ha => ?_
  · rw [numAt_eq]; exact PySem.getD_mem (by rw [List.length_map, Array.length_toList]; omega)
  · obtain ⟨j, hj, rfl⟩ := mem_getD ha
    rw [List.length_map, Array.length_toList] at hj
    rw [← numAt_eq]; exact h2 j (by omega)
end
section
variable {X : Cx}
def rMax (K : PySem.W.Frag) : List V → Hp → VK → Prop := fun vs H Q => ∃ (a : Addr) (ns : List Int), vs = [V.ref a] ∧ SqL K H a (ns.map V.int) ∧ 0 < ns.length ∧ ∀ m, m ∈ ns → (∀ y, y ∈ ns → y ≤ m) → Q (.int m) H
def rMin (K : PySem.W.Frag) : List V → Hp → VK → Prop := fun vs H Q => ∃ (a : Addr) (ns : List Int), vs = [V.ref a] ∧ SqL K H a (ns.map V.int) ∧ 0 < ns.length ∧ ∀ m, m ∈ ns → (∀ y, y ∈ ns → m ≤ y) → Q (.int m) H
theorem cr_max (hc : X.calm = true) : CallR X (.builtin "max") (rMax X.K) := by
  intro pins s σ H vs us Q I r h
  obtain ⟨a, ns, rfl, hs, hne, q⟩ := h
  obtain ⟨its, rv, hl, _⟩ := I.list hs
  rw [Vals.ref1 r]
  exact max_raw (I.ok.hd hc) hl.isList rv.ints hne fun h' tk m t' hk h1 h2 => ⟨.int _, H, I.kept hk, ⟨_, rfl⟩, q m h1 h2⟩
theorem cr_min (hc : X.calm = true) : CallR X (.builtin "min") (rMin X.K) := by
  intro pins s σ H vs us Q I r h
  obtain ⟨a, ns, rfl, hs, hne, q⟩ := h
  obtain ⟨its, rv, hl, _⟩ := I.list hs
  rw [Vals.ref1 r]
  exact min_raw (I.ok.hd hc) hl.isList rv.ints hne fun h' tk m t' hk h1 h2 => ⟨.int _, H, I.kept hk, ⟨_, rfl⟩, q m h1 h2⟩
end
section
variable {X : Cx}
theorem flat_at {ys : List V} (f : ys.all flatV = true) {j : Nat} {z : V} (h : ys[j]? = some z) : flatV z = true := List.all_eq_true.mp f z (List.mem_of_getElem? h)
end
section
variable {X : Cx}
end
theorem iter_any {prog : Program} {w : World} {A : Around} {E : Value → Shared → Prop} {s : Shared} {l : Addr} {items : Array Value} {Q : Value → Shared → Prop} (hl : s.heap.IsList l items)
    (h : ∀ s₂ : Shared, s₂ = { s with heap := s.heap.push { cls := .type "list_iterator", data := .fields #[.ref l, .int 0 0] } } →
      (s₂.heap.IsListIter s.heap.objs.size l 0 ∧ s₂.heap.IsList l items) → l ≠ s.heap.objs.size → Q (.ref s.heap.objs.size) s₂) : wpAny (model prog w) A (pyIter (.ref l)) Q E s := by
  have hlt : l < s.heap.objs.size := by obtain ⟨_, e, _⟩ := hl; exact Heap.lt_size e
  exact wpAny_pyIter_list hl (h _ rfl ⟨⟨_, Heap.get?_push_size _ rfl, rfl, rfl⟩, hl.push _⟩ (Nat.ne_of_lt hlt))
theorem truth_bools {prog : Program} {w : World} {A : Around} {bs : List Bool} {its : List Value} (e : its = bs.map Value.bool) :
    TruthOf prog w A (fun i v => its.toArray[i]? = some v) (fun i => bs.getD i false) := fun i v s Q E hv hq => by
  have hv' : its[i]? = some v := by simpa using hv
  rw [e, List.getElem?_map] at hv'
  obtain ⟨b, hb, rfl⟩ := Option.map_eq_some_iff.mp hv'
  have hg : bs.getD i false = b := by rw [List.getD_eq_getElem?_getD, hb] <;> rfl
  have hq' : Q (bs.getD i false) s := hq
  rw [hg] at hq'
  exact wpAny_truthy_bool hq'
theorem any_range : ∀ bs : List Bool, (List.range bs.length).any (fun i => bs.getD i false) = bs.any id
  | [] => rfl
  | b :: bs => by
    rw [List.length_cons, List.range_succ_eq_map, List.any_cons, List.any_map, List.any_cons, ← any_range bs]
    all_goals rfl
theorem all_range : ∀ bs : List Bool, (List.range bs.length).all (fun i => bs.getD i false) = bs.all id
  | [] => rfl
  | b :: bs => by
    rw [List.length_cons, List.range_succ_eq_map, List.all_cons, List.all_map, List.all_cons, ← all_range bs]
    all_goals rfl
section
variable {X : Cx}
def rAll (K : PySem.W.Frag) : List V → Hp → VK → Prop := fun vs H Q => ∃ (a : Addr) (bs : List Bool), vs = [V.ref a] ∧ SqL K H a (bs.map V.bl) ∧ Q (.bl (bs.all id)) H
theorem cr_all (hc : X.calm = true) : CallR X (.builtin "all") (rAll X.K) := by
  intro pins s σ H vs us Q I r h
  obtain ⟨a, bs, rfl, hs, q⟩ := h
  obtain ⟨its, rv, hl, _⟩ := I.list hs
  rw [Vals.ref1 r]
  have hb := rv.bls
  refine call_all_walk (iter_any hl.isList fun s₂ e2 st hne => ?_)
  subst e2
  refine ⟨_, _, _, _, _, _, _, rfl, Walks.list (A := X.A.in1) (I.ok.hd hc) _ a hne its.toArray, st, truth_bools hb, fun h' tk hk => ?_⟩
  refine ⟨.bl _, H, I.kept fun b o eo => hk b o (fun hmem => ?_) (Heap.get?_push_of_some _ eo), ?_, q⟩
  · rcases List.mem_cons.mp hmem with e1 | hmem
    · exact absurd (e1 ▸ Heap.lt_size eo) (Nat.lt_irrefl _)
    · cases hmem
  · show Value.bool _ = Value.bool _
    rw [← all_range, hb, List.size_toArray, List.length_map]
end
mutual
inductive Dp (K : PySem.W.Frag) (H : Hp) : V → PyData → Prop
  | non : Dp K H .non .none
  | bl (b : Bool) : Dp K H (.bl b) (.bool b)
  | int (i : Int) : Dp K H (.int i) (.int i)
  | str (x : Str) : Dp K H (.str x) (.str x)
  | lst {a : Addr} {xs : List V} {ds : List PyData} : SqL K H a xs → DpAll K H xs ds → Dp K H (.ref a) (.list ds)
  | tup {a : Addr} {xs : List V} {ds : List PyData} : SqT K H a xs → DpAll K H xs ds → Dp K H (.ref a) (.tuple ds)
inductive DpAll (K : PySem.W.Frag) (H : Hp) : List V → List PyData → Prop
  | nil : DpAll K H [] []
  | cons {v : V} {vs : List V} {d : PyData} {ds : List PyData} : Dp K H v d → DpAll K H vs ds → DpAll K H (v :: vs) (d :: ds)
end
section
variable {X : Cx} {pins : List (Addr × Obj)} {σ : St} {H : Hp} {s : Shared}
mutual
theorem Dp.reads (I : Inv X pins σ H s) : ∀ (d : PyData) (v : V) (u : Value), Dp X.K H v d → RelV v u → ∃ as, Reads s.heap u d as
  | .none, _, _, h, r => by
    cases h
    cases r
    exact ⟨_, Reads.none⟩
  | .bool b, _, _, h, r => by
    cases h
    cases r
    exact ⟨_, Reads.bool b⟩
  | .int i, _, _, h, r => by
    cases h
    obtain ⟨t, rfl⟩ := r
    exact ⟨_, Reads.int i t⟩
  | .str x, _, _, h, r => by
    cases h
    obtain ⟨t, rfl⟩ := r
    exact ⟨_, Reads.str x t⟩
  | .list ds, _, _, h, r => by
    cases h with
    | lst hs ha =>
      cases r
      obtain ⟨its, rv, ⟨o, n, ho, hc, _, hd⟩, _⟩ := I.list hs
      obtain ⟨as, hr⟩ := Dp.readsAll I ds _ its ha rv
      exact ⟨_, Reads.list ho hc hd hr⟩
  | .tuple ds, _, _, h, r => by
    cases h with
    | tup hs ha =>
      cases r
      obtain ⟨its, rv, ⟨o, ho, hc, n, hd⟩, _⟩ := I.tuple hs
      obtain ⟨as, hr⟩ := Dp.readsAll I ds _ its ha rv
      exact ⟨_, Reads.tuple ho hc hd hr⟩
  | .dict _, _, _, h, _ => by cases h
theorem Dp.readsAll (I : Inv X pins σ H s) : ∀ (ds : List PyData) (vs : List V) (us : List Value), DpAll X.K H vs ds → Vals vs us → ∃ as, ReadsAll s.heap us ds as
  | [], _, _, h, r => by
    cases h
    cases r
    exact ⟨_, ReadsAll.nil⟩
  | d :: ds, _, _, h, r => by
    cases h with
    | cons h1 h2 =>
      cases r with
      | cons r1 r2 =>
        obtain ⟨as, q1⟩ := Dp.reads I d _ _ h1 r1
        obtain ⟨bs, q2⟩ := Dp.readsAll I ds _ _ h2 r2
        exact ⟨_, ReadsAll.cons q1 q2⟩
end
end
section
variable {X : Cx}
def rEqD (K : PySem.W.Frag) : R2 := fun x y H Q => ∃ d e, Dp K H x d ∧ Dp K H y e ∧ SeqAt.shaped d = true ∧ SeqAt.shaped e = true ∧ Q (.bl (PyData.eqv d e)) H
def rNeD (K : PySem.W.Frag) : R2 := fun x y H Q => ∃ d e, Dp K H x d ∧ Dp K H y e ∧ SeqAt.shaped d = true ∧ SeqAt.shaped e = true ∧ Q (.bl (!PyData.eqv d e)) H
theorem op_eqD (hu : X.A.units + 64 < cLine) : OpR X (compareOp .Eq) (rEqD X.K) := by
  intro pins s σ H x y v u Q I rx ry h
  obtain ⟨d, e, hd, he, sd, se, q⟩ := h
  obtain ⟨as, r1⟩ := Dp.reads I d x v hd rx
  obtain ⟨bs, r2⟩ := Dp.reads I e y u he ry
  exact SeqAt.compareEq_shaped r1 r2 sd se hu ⟨.bl _, H, I, rfl, q⟩
theorem op_neD (hu : X.A.units + 64 < cLine) : OpR X (compareOp .NotEq) (rNeD X.K) := by
  intro pins s σ H x y v u Q I rx ry h
  obtain ⟨d, e, hd, he, sd, se, q⟩ := h
  obtain ⟨as, r1⟩ := Dp.reads I d x v hd rx
  obtain ⟨bs, r2⟩ := Dp.reads I e y u he ry
  exact SeqAt.compareNe_shaped r1 r2 sd se hu ⟨.bl _, H, I, rfl, q⟩
end
end L2
namespace L2
open PySem PySem.Spec PyProof.Rows
abbrev CellAt (h : Heap) (c : Addr) (v : Option Value) : Prop := h.IsCell c v
def relS (scope sc : Scope) : Scope :=
  { scope with names := scope.names.map fun (n, k) => if (k == .free && sc.kind == .function && sc.names.lookup n == some .cell) then (n, .cell) else (n, k) }
def cloFrom (cells : List (Str × Addr)) : List (Str × NameKind) → List (Str × Addr) → List (Str × Addr)
  | [], acc => acc
  | (n, k) :: r, acc => if k == .free then cloFrom cells r ((n, (cells.lookup n).getD 0) :: acc) else cloFrom cells r acc
theorem closure_loop (env : Env) (f : Str × NameKind → List (Str × Addr) → Sem (ForInStep (List (Str × Addr))))
    (hf : ∀ n k c, f (n, k) c = if k == .free then (do let a ← cellOf env n; pure (.yield ((n, a) :: c))) else pure (.yield c)) :
    ∀ (names : List (Str × NameKind)) (acc : List (Str × Addr)), (∀ y ∈ names, y.2 = .free → ∃ c, env.cells.lookup y.1 = some c) → forIn names acc f = pure (cloFrom env.cells names acc)
  | [], acc, _ => by rw [List.forIn_nil]; rfl
  | (n, k) :: r, acc, h => by
    rw [List.forIn_cons, hf]
    have ih := fun acc => closure_loop env f hf r acc fun y hy => h y (List.mem_cons_of_mem _ hy)
    unfold cloFrom
    by_cases hk : (k == NameKind.free) = true
    · rw [if_pos hk, if_pos hk]
      obtain ⟨c, hc⟩ := h (n, k) List.mem_cons_self (by simpa using hk)
      have e : cellOf env n = pure c := by unfold cellOf; rw [hc]
      rw [e]
      have e2 : (env.cells.lookup n).getD 0 = c := by rw [hc]; rfl
      rw [e2]
      exact ih _
    · rw [if_neg hk, if_neg hk]
      exact ih _
theorem closure_ok {scope : Scope} {env : Env} (h : ∀ y ∈ scope.names, y.2 = .free → ∃ c, env.cells.lookup y.1 = some c) : closureFor scope env = pure (cloFrom env.cells scope.names []) := by
  simp only [closureFor]
  rw [closure_loop env _ (fun n k c => rfl) scope.names [] h]
  rfl
theorem mem_lookup {α : Type} : ∀ {l : List (Str × α)} {n : Str} {c : α}, (n, c) ∈ l → ∃ c', l.lookup n = some c'
  | (k, v) :: r, n, c, h => by
    rw [List.lookup_cons]
    cases hb : n == k with
    | true => exact ⟨_, rfl⟩
    | false =>
      rcases List.mem_cons.mp h with e | h
      · cases e; simp at hb
      · exact mem_lookup h
theorem cloFrom_mem {cells : List (Str × Addr)} : ∀ {names : List (Str × NameKind)} {acc : List (Str × Addr)} {n : Str} {c : Addr}, (n, c) ∈ cloFrom cells names acc → (n, c) ∈ acc ∨ ((n, .free) ∈ names ∧ c = (cells.lookup n).getD 0)
  | [], _, _, _, h => .inl h
  | (m, k) :: r, acc, n, c, h => by
    unfold cloFrom at h
    split at h
    · rename_i hk
      have hk : k = .free := by simpa using hk
      rcases cloFrom_mem h with h | ⟨h1, h2⟩
      · rcases List.mem_cons.mp h with e | h
        · cases e; exact .inr ⟨hk ▸ List.mem_cons_self, rfl⟩
        · exact .inl h
      · exact .inr ⟨List.mem_cons_of_mem _ h1, h2⟩
    · rcases cloFrom_mem h with h | ⟨h1, h2⟩
      · exact .inl h
      · exact .inr ⟨List.mem_cons_of_mem _ h1, h2⟩
theorem cloFrom_acc {cells : List (Str × Addr)} : ∀ {names : List (Str × NameKind)} {acc : List (Str × Addr)} {p : Str × Addr}, p ∈ acc → p ∈ cloFrom cells names acc
  | [], _, _, h => h
  | (m, k) :: r, acc, p, h => by
    unfold cloFrom
    split
    · exact cloFrom_acc (List.mem_cons_of_mem _ h)
    · exact cloFrom_acc h
theorem cloFrom_has {cells : List (Str × Addr)} : ∀ {names : List (Str × NameKind)} {acc : List (Str × Addr)} {n : Str}, (n, .free) ∈ names → (n, (cells.lookup n).getD 0) ∈ cloFrom cells names acc
  | (m, k) :: r, acc, n, h => by
    unfold cloFrom
    rcases List.mem_cons.mp h with e | h
    · cases e
      exact cloFrom_acc List.mem_cons_self
    · split
      · exact cloFrom_has h
      · exact cloFrom_has h
theorem cells_mem : ∀ {names : List (Str × NameKind)} {h : Heap} {acc : List (Str × Addr)} {x : Str} {c : Addr}, (x, c) ∈ cellsFrom h.objs.size names acc →
    (x, c) ∈ acc ∨ ((x, .cell) ∈ names ∧ h.objs.size ≤ c ∧ CellAt (pushCells h names) c none)
  | [], _, _, _, _, h => .inl h
  | (n, k) :: r, h, acc, x, c, hm => by
    unfold cellsFrom at hm
    unfold pushCells
    split at hm
    · rename_i hk
      rw [if_pos hk]
      have hk : k = .cell := by simpa using hk
      rw [← Heap.size_push h { cls := .type "cell", data := .cell none }] at hm
      rcases cells_mem hm with hm | ⟨h1, h2, h3⟩
      · rcases List.mem_cons.mp hm with e | hm
        · cases e
          exact .inr ⟨hk ▸ List.mem_cons_self, Nat.le_refl _, _, pushCells_keeps r _ _ _ (Heap.get?_push_size _ rfl), rfl⟩
        · exact .inl hm
      · rw [Heap.size_push] at h2
        exact .inr ⟨List.mem_cons_of_mem _ h1, Nat.le_of_succ_le h2, h3⟩
    · rename_i hk
      rw [if_neg hk]
      rcases cells_mem hm with hm | ⟨h1, h2, h3⟩
      · exact .inl hm
      · exact .inr ⟨List.mem_cons_of_mem _ h1, h2, h3⟩
theorem cells_acc : ∀ {names : List (Str × NameKind)} {n : Nat} {acc : List (Str × Addr)} {p : Str × Addr}, p ∈ acc → p ∈ cellsFrom n names acc
  | [], _, _, _, h => h
  | (m, k) :: r, n, acc, p, h => by
    unfold cellsFrom
    split
    · exact cells_acc (List.mem_cons_of_mem _ h)
    · exact cells_acc h
theorem cells_has : ∀ {names : List (Str × NameKind)} {n : Nat} {acc : List (Str × Addr)} {x : Str}, (x, .cell) ∈ names → ∃ c, (x, c) ∈ cellsFrom n names acc
  | (m, k) :: r, n, acc, x, h => by
    unfold cellsFrom
    rcases List.mem_cons.mp h with e | h
    · cases e
      exact ⟨n, cells_acc List.mem_cons_self⟩
    · split
      · exact cells_has h
      · exact cells_has h
theorem cells_inj : ∀ {names : List (Str × NameKind)} {h : Heap} {acc : List (Str × Addr)} {x y : Str} {c : Addr}, (∀ p ∈ acc, p.2 < h.objs.size) → (∀ x y c, (x, c) ∈ acc → (y, c) ∈ acc → x = y) →
    (x, c) ∈ cellsFrom h.objs.size names acc → (y, c) ∈ cellsFrom h.objs.size names acc → x = y
  | [], _, _, _, _, _, _, hi, h1, h2 => hi _ _ _ h1 h2
  | (n, k) :: r, h, acc, x, y, c, hl, hi, h1, h2 => by
    unfold cellsFrom at h1 h2
    split at h1
    · rename_i hk
      rw [if_pos hk] at h2
      rw [← Heap.size_push h { cls := .type "cell", data := .cell none }] at h1 h2
      refine cells_inj (h := h.push _) (fun p hp => ?_) (fun x y c a b => ?_) h1 h2
      · rw [Heap.size_push]
        rcases List.mem_cons.mp hp with rfl | hp
        · exact Nat.lt_succ_self _
        · exact Nat.lt_succ_of_lt (hl p hp)
      · rcases List.mem_cons.mp a with e | a <;> rcases List.mem_cons.mp b with e' | b
        · cases e; cases e'; rfl
        · cases e; exact absurd (hl _ b) (Nat.lt_irrefl _)
        · cases e'; exact absurd (hl _ a) (Nat.lt_irrefl _)
        · exact hi _ _ _ a b
    · rename_i hk
      rw [if_neg hk] at h2
      exact cells_inj hl hi h1 h2
theorem newEnv_comp {M : Model} {A : Around} {E : Value → Shared → Prop} {s : Shared} {scope : Scope} {globals : Addr} {closure : List (Str × Addr)} {qual : Str} {func : Option Addr} {code : Value} {around : Env} {builtins : Addr} {Q : Env → Shared → Prop}
    (h : Q (newEnv scope s.heap.objs.size globals (cellsFrom (s.heap.objs.size + 1) scope.names closure) qual func code (some around) builtins)
      { s with heap := pushCells (s.heap.push { cls := .type "dict", data := .dict #[] }) scope.names }) :
    wpAny M A (newFunctionEnv scope globals closure [] qual func code (some around) builtins) Q E s := by
  simp only [newFunctionEnv, Option.isSome_some, if_true]
  refine wpAny_bind (wpAny_alloc ?_)
  refine wpAny_bind (wpAny_layCells _ (fun n k c => rfl) scope.names closure _ _ ?_)
  rw [show ({ s with heap := s.heap.push { cls := .type "dict", data := .dict #[] } } : Shared).heap.objs.size = s.heap.objs.size + 1 from Heap.size_push ..]
  rw [List.forIn_nil]
  exact wpAny_bind (wpAny_pure (wpAny_pure h))
theorem lookup_relS {sc : Scope} : ∀ {names : List (Str × NameKind)} {x : Str} {k : NameKind},
    (names.map fun (n, k) => if (k == NameKind.free && sc.kind == .function && sc.names.lookup n == some .cell) then (n, NameKind.cell) else (n, k)).lookup x = some k →
    ∃ k', names.lookup x = some k' ∧ (k = k' ∨ (k' = .free ∧ k = .cell))
  | [], _, _, h => by simp at h
  | (n, k₀) :: r, x, k, h => by
    have ih := @lookup_relS sc r x k
    have h' : List.lookup x ((if (k₀ == NameKind.free && sc.kind == .function && sc.names.lookup n == some .cell) = true then (n, NameKind.cell) else (n, k₀)) :: (r.map _)) = some k := h
    cases hx : x == n with
    | true =>
      simp only [List.lookup_cons, hx]
      by_cases hc : (k₀ == NameKind.free && sc.kind == .function && sc.names.lookup n == some .cell) = true
      · rw [if_pos hc] at h'
        simp only [List.lookup_cons, hx] at h'
        cases h'
        simp only [Bool.and_eq_true, beq_iff_eq] at hc
        exact ⟨k₀, rfl, .inr ⟨hc.1.1, rfl⟩⟩
      · rw [if_neg hc] at h'
        simp only [List.lookup_cons, hx] at h'
        cases h'
        exact ⟨_, rfl, .inl rfl⟩
    | false =>
      simp only [List.lookup_cons, hx]
      by_cases hc : (k₀ == NameKind.free && sc.kind == .function && sc.names.lookup n == some .cell) = true
      · rw [if_pos hc] at h'
        simp only [List.lookup_cons, hx] at h'
        exact ih h'
      · rw [if_neg hc] at h'
        simp only [List.lookup_cons, hx] at h'
        exact ih h'
structure BlkOk (N : List Str) (sc scope : Scope) (own : List (Str × Nat)) : Prop where
  kind : scope.kind = .function
  uniq : ∀ y ∈ scope.names, scope.names.lookup y.1 = some y.2
  ix : ∀ p ∈ own, N[p.2]? = some p.1
  free : ∀ y ∈ scope.names, y.2 = .free → sc.names.lookup y.1 = some .cell ∨ sc.names.lookup y.1 = some .free
  own : ∀ y ∈ scope.names, y.2 = .local ∨ y.2 = .cell → y.1 ∈ own.map (·.1) ∨ y.1 ∉ N
def wipe (σ : St) : List Nat → St
  | [] => σ
  | v :: vs => (wipe σ vs).set v none
theorem wipe_length (σ : St) : ∀ vs : List Nat, (wipe σ vs).length = σ.length
  | [] => rfl
  | v :: vs => by unfold wipe; rw [List.length_set, wipe_length σ vs]
theorem wipe_some {σ : St} {i : Nat} {x : V} : ∀ {vs : List Nat}, (wipe σ vs)[i]? = some (some x) → σ[i]? = some (some x) ∧ i ∉ vs
  | [], h => ⟨h, by simp⟩
  | v :: vs, h => by
    unfold wipe at h
    by_cases hi : v = i
    · subst hi
      by_cases hv : v < (wipe σ vs).length
      · rw [List.getElem?_set_self hv] at h; cases h
      · rw [List.getElem?_eq_none (by simpa using hv)] at h; cases h
    · rw [List.getElem?_set_ne hi] at h
      obtain ⟨h1, h2⟩ := wipe_some h
      exact ⟨h1, by simp only [List.mem_cons, not_or]; exact ⟨fun e => hi e.symm, h2⟩⟩
abbrev Cx.blk (X : Cx) (s : Shared) (H : Hp) (scope : Scope) (cenv : Env) (fp : List Addr) : Cx := { X with s_0 := s, H_0 := H, env := cenv, outer := X.stack, ex := fp, fn := fun x => scope.names.lookup x == some .cell, pn := [], xe := fun _ _ => False }
section
variable {X : Cx} {pins : List (Addr × Obj)} {σ : St} {H : Hp} {s : Shared}
theorem block_start {scope : Scope} {own : List (Str × Nat)} {fp : List Addr} (I : Inv X pins σ H s) (ok : BlkOk X.N X.env.scope scope own) (hN : X.N.Nodup) (hfp : ∀ b ∈ fp, FpOk X pins H b ∧ b < s.heap.objs.size) :
    Inv (X.blk s H scope (compEnvC scope (cellsFrom (s.heap.objs.size + 1) scope.names (cloFrom X.env.cells scope.names [])) s.heap.objs.size X.env) fp) [] (wipe σ (own.map (·.2))) H { s with heap := pushCells (s.heap.push { cls := .type "dict", data := .dict #[] }) scope.names } := by
  have hfree : ∀ y ∈ scope.names, y.2 = .free → ∃ c, X.env.cells.lookup y.1 = some c := fun y hy e => by
    rcases ok.free y hy e with k | k
    · exact I.ok.has _ (.inl k)
    · exact I.ok.has _ (.inr k)
  generalize hcenv : compEnvC scope (cellsFrom (s.heap.objs.size + 1) scope.names (cloFrom X.env.cells scope.names [])) s.heap.objs.size X.env = cenv
  have kp : ∀ b o, s.heap.get? b = some o → (pushCells (s.heap.push { cls := .type "dict", data := .dict #[] }) scope.names).get? b = some o := fun b o e => pushCells_keeps _ _ _ _ (Heap.get?_push_of_some _ e)
  have hL : cenv.locals = s.heap.objs.size := by rw [← hcenv]; rfl
  have hcl : cenv.cells = cellsFrom (s.heap.objs.size + 1) scope.names (cloFrom X.env.cells scope.names []) := by rw [← hcenv]; rfl
  have hsc : cenv.scope = relS scope X.env.scope := by rw [← hcenv]; rfl
  rw [← Heap.size_push s.heap { cls := .type "dict", data := .dict #[] }] at hcl
  have cm : ∀ {y c}, (y, c) ∈ cloFrom X.env.cells scope.names [] → X.env.cells.lookup y = some c ∧ c < s.heap.objs.size := fun {y c} hm => by
    rcases cloFrom_mem hm with hm | ⟨h1, rfl⟩
    · cases hm
    · obtain ⟨c, hc⟩ := hfree _ h1 rfl
      rw [hc]
      obtain ⟨w, z⟩ := I.cell _ _ hc
      exact ⟨rfl, z.lt⟩
  have mem : ∀ {y c}, cenv.cells.lookup y = some c → (X.env.cells.lookup y = some c ∧ c < s.heap.objs.size) ∨ (s.heap.objs.size + 1 ≤ c ∧ CellAt (pushCells (s.heap.push { cls := .type "dict", data := .dict #[] }) scope.names) c none) := fun {y c} e => by
    rw [hcl] at e
    rcases cells_mem (PySem.mem_of_lookup e) with hm | ⟨_, h2, h3⟩
    · exact .inl (cm hm)
    · rw [Heap.size_push] at h2; exact .inr ⟨h2, h3⟩
  have look : ∀ {y}, scope.names.lookup y = some .free → ∃ c, cenv.cells.lookup y = some c ∧ X.env.cells.lookup y = some c := fun {y} hl => by
    have hy : (y, NameKind.free) ∈ scope.names := PySem.mem_of_lookup hl
    obtain ⟨c', e'⟩ := mem_lookup (cells_acc (names := scope.names) (n := (s.heap.push { cls := .type "dict", data := .dict #[] }).objs.size) (cloFrom_has (cells := X.env.cells) (acc := []) hy))
    rw [← hcl] at e'
    refine ⟨c', e', ?_⟩
    rw [hcl] at e'
    rcases cells_mem (PySem.mem_of_lookup e') with hm | ⟨h1, _, _⟩
    · exact (cm hm).1
    · have := ok.uniq _ h1
      rw [hl] at this; cases this
  have okB : (X.blk s H scope cenv fp).Ok := by
    refine ⟨I.ok.mod, by show cenv.scope.kind = _; rw [hsc]; exact ok.kind, by show cenv.globals = _; rw [← hcenv]; exact I.ok.glob, by show cenv.builtins = _; rw [← hcenv]; exact I.ok.blt, by show s.heap.objs.size ≤ cenv.locals; rw [hL]; exact Nat.le_refl _,
      fun y z c e1 e2 => ?_, fun y hy => ?_, fun y c z e => ?_, I.ok.hd, I.ok.frames, .inl rfl, fun b hb => ⟨?_, fun y c e z => ?_⟩, I.bs, Nat.le_trans I.ok.bsz I.sz, fun b o e hb => ?_, fun b hb z => ?_, I.stack, I.stkFree⟩
    · have e1 : cenv.cells.lookup y = some c := e1
      have e2 : cenv.cells.lookup z = some c := e2
      rw [hcl] at e1 e2
      refine cells_inj (fun p hp => ?_) (fun y z c a b => I.ok.inj y z c (cm a).1 (cm b).1) (PySem.mem_of_lookup e1) (PySem.mem_of_lookup e2)
      rw [Heap.size_push]
      exact Nat.lt_succ_of_lt (cm (y := p.1) (c := p.2) hp).2
    · show ∃ c, cenv.cells.lookup y = some c
      have key : ∀ k, cenv.kindOf y = some k → (k = .cell ∨ k = .free) → ∃ c, cenv.cells.lookup y = some c := fun k hk hk' => by
        unfold Env.kindOf at hk
        rw [hsc] at hk
        obtain ⟨k', e, r⟩ := lookup_relS hk
        have : k' = .cell ∨ k' = .free := by
          rcases r with rfl | ⟨rfl, _⟩
          · exact hk'
          · exact .inr rfl
        rcases this with rfl | rfl
        · obtain ⟨c, hm⟩ := cells_has (n := (s.heap.push { cls := .type "dict", data := .dict #[] }).objs.size) (acc := cloFrom X.env.cells scope.names []) (PySem.mem_of_lookup e)
          obtain ⟨c', e'⟩ := mem_lookup hm
          exact ⟨c', by rw [hcl]; exact e'⟩
        · obtain ⟨c, h1, _⟩ := look e
          exact ⟨c, h1⟩
      rcases hy with hy | hy
      · exact key _ hy (.inl rfl)
      · exact key _ hy (.inr rfl)
    · have z : (scope.names.lookup y == some NameKind.cell) = true := z
      have z : scope.names.lookup y = some .cell := by simpa using z
      have e : cenv.cells.lookup y = some c := e
      rw [hcl] at e
      rcases cells_mem (PySem.mem_of_lookup e) with hm | ⟨_, h2, _⟩
      · rcases cloFrom_mem hm with hm | ⟨h1, _⟩
        · cases hm
        · have q := ok.uniq _ h1
          rw [z] at q; cases q
      · rw [Heap.size_push] at h2
        exact Nat.le_of_succ_le h2
    · show b ≠ cenv.locals
      rw [hL]; exact Nat.ne_of_lt (hfp b hb).2
    · have e : cenv.cells.lookup y = some c := e
      rcases mem e with ⟨h1, _⟩ | ⟨h1, _⟩
      · exact (hfp b hb).1.2.2.2.2.1 y c h1 z
      · have h2 : s.heap.objs.size + 1 ≤ b := by rw [← z]; exact h1
        exact absurd (Nat.lt_of_lt_of_le (hfp b hb).2 (Nat.le_of_succ_le h2)) (Nat.lt_irrefl _)
    · rcases (hfp b hb).1.2.2.2.1 with z | z
      · exact I.ok.noex b o e z
      · exact absurd (Nat.lt_of_lt_of_le (Heap.lt_size e) (Nat.le_trans I.ok.bsz z)) (Nat.lt_irrefl _)
    · rcases List.mem_cons.mp (I.stkSub b z) with z | z
      · exact (hfp b hb).1.2.1 z
      · exact (hfp b hb).1.2.2.1 z
  refine ⟨okB, rfl, I.bare, Un.kept kp, ⟨fun _ => none, ?_, fun i y av e1 e2 e3 => ?_⟩, fun y c e => ?_, ?_, fun y c e => ?_, fun p hp => ?_, I.hok.kept kp, by rw [wipe_length]; exact I.len⟩
  · show Heap.Ns _ cenv.locals _
    rw [hL]
    exact Heap.Ns.keeps (Heap.Ns.new ..) fun b o e => pushCells_keeps _ _ _ _ e
  · obtain ⟨e2, hne⟩ := wipe_some e2
    have hfr : scope.names.lookup y = some .free ∧ (cenv.kindOf y = some .cell ∨ cenv.kindOf y = some .free) := by
      have key : ∀ k, cenv.scope.names.lookup y = some k → k = .local ∨ k = .cell ∨ k = .free → scope.names.lookup y = some .free ∧ (cenv.kindOf y = some .cell ∨ cenv.kindOf y = some .free) := fun k hk hk' => by
        have hk0 := hk
        rw [hsc] at hk
        obtain ⟨k', e, r⟩ := lookup_relS hk
        have no : ¬ (k' = .local ∨ k' = .cell) := fun hh => by
          rcases ok.own _ (PySem.mem_of_lookup e) hh with e' | e'
          · obtain ⟨p, hp, hpy⟩ := List.mem_map.mp e'
            have e3 := ok.ix p hp
            have : p.1 = y := hpy
            rw [this] at e3
            exact hne (List.mem_map.mpr ⟨p, hp, nodup_ix hN e3 e1⟩)
          · exact e' (List.mem_of_getElem? e1)
        rcases r with rfl | ⟨rfl, rfl⟩
        · rcases hk' with rfl | rfl | rfl
          · exact absurd (.inl rfl) no
          · exact absurd (.inr rfl) no
          · exact ⟨e, .inr hk0⟩
        · exact ⟨e, .inl hk0⟩
      have e3 : Vis cenv.scope y := e3
      rcases e3 with e3 | e3 | e3
      · exact key _ e3 (.inl rfl)
      · exact key _ e3 (.inr (.inl rfl))
      · exact key _ e3 (.inr (.inr rfl))
    obtain ⟨m, hn, hl⟩ := I.loc
    have hvis : Vis X.env.scope y := (ok.free _ (PySem.mem_of_lookup hfr.1) rfl).elim (fun k => .inr (.inl k)) (fun k => .inr (.inr k))
    obtain ⟨w, r, q⟩ := hl i y av e1 e2 hvis
    refine ⟨w, r, .inr ⟨hfr.2, ?_⟩⟩
    obtain ⟨c, h1, h2⟩ := look hfr.1
    rcases q with ⟨k, _⟩ | ⟨_, c', e', z⟩
    · have k : X.env.scope.names.lookup y = some .local := k
      rcases ok.free _ (PySem.mem_of_lookup hfr.1) rfl with k' | k' <;> rw [show X.env.scope.names.lookup y = _ from k'] at k <;> cases k
    · rw [h2] at e'; cases e'
      exact ⟨c, h1, z.keeps kp⟩
  · have e : cenv.cells.lookup y = some c := e
    rcases mem e with ⟨h1, _⟩ | ⟨_, z⟩
    · obtain ⟨w, z⟩ := I.cell y c h1
      exact ⟨w, z.keeps kp⟩
    · exact ⟨_, z⟩
  · show H cenv.locals = none
    rw [hL]; exact I.hok.fresh (Nat.le_refl _)
  · have e : cenv.cells.lookup y = some c := e
    rcases mem e with ⟨h1, _⟩ | ⟨h1, _⟩
    · exact I.freeC y c h1
    · exact I.hok.fresh (Nat.le_of_succ_le h1)
  · exact absurd (show p ∈ ([] : List (Addr × Obj)) ++ [] from hp) (by simp)
theorem app_ok {E : Value → Shared → Prop} {D : Addr} {xs : List V} {y : V} {v : Value} {Q : Value → Shared → Prop} (I : Inv X pins σ H s) (hD : H D = some (.lst xs)) (hz : xs.length < sizeLine) (r : RelV y v)
    (h : ∀ s', Inv X pins σ (upd H D (.lst (xs ++ [y]))) s' → Q .none s') : wpAny (model X.prog X.w) X.A (call (.builtin "list.append") [.ref D, v]) Q E s := by
  obtain ⟨hz', its, n, ri, e⟩ := I.hok D _ hD
  have hl := ri.length
  refine append_at (hsz := by rw [List.size_toArray]; omega) e fun h' sb ho' => ?_
  refine h { s with heap := h' } (I.write (t' := s.toks) (by rw [hD]; trivial) (.inl rfl) (fun b u hb q => (sb.2 b hb).trans q) ⟨_, ho'⟩ ⟨by rw [List.length_append]; exact hz, its ++ [v], n + 1, ri.append (.cons r .nil), ?_⟩)
  rw [ho']
  simp
def PTs (X : Cx) (ifs : List Expr) (t : TT) : Prop :=
  ∀ (pins : List (Addr × Obj)) (s : Shared) (σ : St) (H : Hp) (Q : Bool → Hp → Prop), Inv X pins σ H s → t σ H Q →
    wpAny (model X.prog X.w) X.A (forIn ifs true fun c r => if r = true then do let ok ← isTrue c X.env (eval c X.env); pure (ForInStep.yield ok) else pure (ForInStep.yield r)) (TP X pins σ Q) X.xe s
def tYes : TT := fun _ H Q => Q true H
theorem pts_nil : PTs X [] tYes := fun _ _ _ H _ I h => wpAny_tests_nil ⟨H, I, h⟩
end
theorem thnF {α : Type} {t : Sem α} {Q Q' : α → Shared → Prop} {M : Model} {A : Around} {E : Value → Shared → Prop} {s : Shared} (h : wpAny M A t Q (fun _ _ => False) s) (hQ : ∀ a s, Q a s → Q' a s) : wpAny M A t Q' E s := wpAny_mono h hQ fun _ _ z => False.elim z
theorem compLoop_any {prog : Program} {w : World} {A : Around} {R : Result → Shared → Prop} {s : Shared} {elt target iter : Expr} {ifs : List Expr} {scope : Scope} {pos : Pos} {it acc : Value} {env : Env} (I : Nat → Shared → Prop)
    (turn : ∀ n s, I n s → wpAny (model prog w) A (pyNext it) (fun r s₁ => match r with
      | none => R (.ok .next) s₁
      | some v => wpAny (model prog w) A (letOwnedTupleGo target it v) (fun _ s₁' => wpAny (model prog w) A (assign target env v) (fun _ s₂ =>
          wpAny (model prog w) A (forIn ifs true fun c r => if r = true then do let ok ← isTrue c env (eval c env); pure (ForInStep.yield ok) else pure (ForInStep.yield r)) (fun ok s₃ =>
            if ok = true then wpAny (model prog w) A (eval elt env) (fun x s₄ =>
              wpAny (model prog w) A (call (.builtin "list.append") [acc, x]) (fun _ s₅ => ∃ m, m < n ∧ I m s₅) (notedBy (model prog w) A env fun e s' => R (.error e) s') s₄) (notedBy (model prog w) A env fun e s' => R (.error e) s') s₃
            else ∃ m, m < n ∧ I m s₃) (notedBy (model prog w) A env fun e s' => R (.error e) s') s₂) (notedBy (model prog w) A env fun e s' => R (.error e) s') s₁') (notedBy (model prog w) A env fun e s' => R (.error e) s') s₁) (notedBy (model prog w) A env fun e s' => R (.error e) s') s)
    (n : Nat) (h : I n s) :
    codeAny (model prog w) A (.compLoop (.ListComp elt [⟨target, iter, ifs, 0⟩] scope pos) 0 it acc env) R s := by
  refine codeAny_loop rfl I (fun n s hI => ?_) n h
  show wpAny _ A ((compTurn (.ListComp elt [⟨target, iter, ifs, 0⟩] scope pos) 0 it acc env).onRaise (fun x => do noteFrame x env; theTreesLotGoes x)) _ _ s
  refine wpAny_noted ?_
  rw [compTurn_list]
  refine wpAny_bind (wpAny_standAt (wpAny_bind (wpAny_mono (turn n s hI) (fun r s₁ h₁ => ?_) fun _ _ h' => h')))
  cases r with
  | none => exact wpAny_pure h₁
  | some v =>
    refine wpAny_bind (wpAny_mono h₁ (fun _ s₁' h₁' => ?_) fun _ _ h' => h')
    refine wpAny_bind (wpAny_mono h₁' (fun _ s₂ h₂ => wpAny_bind (wpAny_mono h₂ (fun ok s₃ h₃ => ?_) fun _ _ h' => h')) fun _ _ h' => h')
    cases ok with
    | false => exact wpAny_pure ⟨rfl, h₃⟩
    | true =>
      exact wpAny_bind (wpAny_bind (wpAny_mono h₃ (fun x s₄ h₄ => wpAny_bind (wpAny_mono h₄ (fun _ s₅ h₅ => wpAny_pure (wpAny_pure ⟨rfl, h₅⟩)) fun _ _ h' => h')) fun _ _ h' => h'))
section
variable {X : Cx}
def tLc (wi : TI) (g : TG) (tt : TT) (te : TE) (vs : List Nat) : TE := fun σ H Q => wi σ H fun J H1 => ∀ D, H1 D = none → ∃ W : Nat → Nat → Hp → Prop, (∃ m, W 0 m (upd H1 D (.lst []))) ∧ ∀ i m H, W i m H →
  (J.stop i H ∧ Q (.ref D) H) ∨ (J.go i H ∧ ∃ Nx : Hp → Prop, (∀ H', Nx H' → ∃ m', m' < m ∧ W (i + 1) m' H') ∧ ∀ x H', J.yld i H x H' → g x (wipe σ vs) H' fun σ2 H2 => wipe σ2 vs = wipe σ vs ∧ tt σ2 H2 fun b H3 =>
    if b = true then te σ2 H3 fun y H4 => ∃ acc, H4 D = some (.lst acc) ∧ acc.length < sizeLine ∧ Nx (upd H4 D (.lst (acc ++ [y]))) else Nx H3)
theorem lc_core {pins : List (Addr × Obj)} {s : Shared} {σ : St} {H : Hp} {Q : VK} {elt tg iter : Expr} {ifs : List Expr} {scope : Scope} {own : List (Str × Nat)} {pos pos' : Pos} {wi : TI} {g : TG} {tt : TT} {te : TE} {use : Option (Value → Sem Unit)} {Qf : Value → Shared → Prop}
    (hc : X.calm = true) (hN : X.N.Nodup) (I : Inv X pins σ H s) (hi : PI X tg iter wi) (ok : BlkOk X.N X.env.scope scope own)
    (hg : ∀ (s : Shared) (H : Hp) (C : Addr) (cl : List (Str × Addr)) (fp : List Addr), PG (X.blk s H scope (compEnvC scope cl C X.env) fp) tg g) (ht : ∀ (s : Shared) (H : Hp) (C : Addr) (cl : List (Str × Addr)) (fp : List Addr), PTs (X.blk s H scope (compEnvC scope cl C X.env) fp) ifs tt)
    (he : ∀ (s : Shared) (H : Hp) (C : Addr) (cl : List (Str × Addr)) (fp : List Addr), PE (X.blk s H scope (compEnvC scope cl C X.env) fp) elt te) (hs : ∀ x, foldedSetIterable iter X.env x = pure x)
    (h : tLc wi g tt te (own.map (·.2)) σ H Q)
    (hRR : ∀ D C s' m H', Inv X pins σ H' s' → Q (.ref D) H' → s'.heap.Ns C m → FpOk X pins H' C → compPost (model X.prog X.w) X.A X.xe use Qf (.ref D) C (.ok .next) s') :
    wpAny (model X.prog X.w) X.A (comprehension (.ListComp elt [⟨tg, iter, ifs, 0⟩] scope pos) scope X.env pos' (newList []) false (eval iter X.env) use) Qf X.xe s := by
  have hfree : ∀ y ∈ scope.names, y.2 = .free → ∃ c, X.env.cells.lookup y.1 = some c := fun y hy e => by
    rcases ok.free y hy e with k | k
    · exact I.ok.has _ (.inl k)
    · exact I.ok.has _ (.inr k)
  refine wpAny_comprehension_free (use := use) rfl hs (closure_ok hfree) ok.kind (fun y hy e => by rw [ok.uniq y hy, e])
    (thn (hi pins s σ H _ I h) fun xv s1 hx => thn hx fun itv s2 h2 => ?_)
  obtain ⟨it, fp, tn, J, H2, e, I2, T, st2, f2, q⟩ := h2
  subst e
  refine wpAny_newObj_type (newEnv_comp ?_) (by show 0 ≤ sizeLine; decide)
  generalize hD : s2.heap.objs.size = D
  have hDn : H2 D = none := I2.hok.fresh (Nat.le_of_eq hD)
  obtain ⟨W, ⟨m0, w0⟩, turn⟩ := q D hDn
  generalize hs3 : ({ s2 with heap := s2.heap.push { cls := .type "list", data := .seq ([] : List Value).toArray } } : Shared) = s3
  have I3 : Inv X pins σ (upd H2 D (.lst [])) s3 := by
    rw [← hs3]
    refine I2.laid (t' := s2.toks) (fun b o e => Heap.get?_push_of_some _ e) (Nat.le_of_eq hD) ⟨Nat.zero_le _, [], 0, .nil, ?_⟩
    rw [← hD]
    exact Heap.get?_push_size _ rfl
  have h3 : s3.heap = s2.heap.push { cls := .type "list", data := .seq ([] : List Value).toArray } := by rw [← hs3]
  have sz : ∀ b ∈ fp, b < s2.heap.objs.size := fun b hb => by
    obtain ⟨o, e, _⟩ := T.obj _ _ st2 b hb
    exact Heap.lt_size e
  have f3 : ∀ b ∈ fp, FpOk X pins (upd H2 D (.lst [])) b ∧ b < s3.heap.objs.size := fun b hb => by
    have hlt := sz b hb
    refine ⟨⟨?_, (f2 b hb).2⟩, by rw [h3, Heap.size_push]; exact Nat.lt_succ_of_lt hlt⟩
    rw [upd_ne (by rw [← hD]; exact Nat.ne_of_lt hlt)]
    exact (f2 b hb).1
  have st3 : tn 0 s3.heap := T.keep _ _ _ st2 fun b _ o e => by rw [h3]; exact Heap.get?_push_of_some _ e
  have I4 := block_start I3 ok hN f3
  have pg := hg s3 (upd H2 D (.lst [])) s3.heap.objs.size (cellsFrom (s3.heap.objs.size + 1) scope.names (cloFrom X.env.cells scope.names [])) fp
  have pt := ht s3 (upd H2 D (.lst [])) s3.heap.objs.size (cellsFrom (s3.heap.objs.size + 1) scope.names (cloFrom X.env.cells scope.names [])) fp
  have pe := he s3 (upd H2 D (.lst [])) s3.heap.objs.size (cellsFrom (s3.heap.objs.size + 1) scope.names (cloFrom X.env.cells scope.names [])) fp
  show codeAny _ _ (.compStart (.ListComp elt [⟨tg, iter, ifs, 0⟩] scope pos) 0 (.ref it) (.ref D) (compEnvC scope (cellsFrom (s3.heap.objs.size + 1) scope.names (cloFrom X.env.cells scope.names [])) s3.heap.objs.size X.env)) (compPost (model X.prog X.w) X.A X.xe use Qf (.ref D) s3.heap.objs.size) { s3 with heap := pushCells (s3.heap.push { cls := .type "dict", data := .dict #[] }) scope.names }
  have nfp : ∀ b ∈ fp, (upd H2 D (.lst [])) b = none := fun b hb => (f3 b hb).1.1
  generalize hce : compEnvC scope (cellsFrom (s3.heap.objs.size + 1) scope.names (cloFrom X.env.cells scope.names [])) s3.heap.objs.size X.env = ce at I4 pg pt pe ⊢
  have cL : ce.locals = s3.heap.objs.size := by subst hce; rfl
  generalize hH3 : upd H2 D (.lst []) = H3 at I3 I4 pg pt pe w0 nfp f3
  generalize hs4 : ({ s3 with heap := pushCells (s3.heap.push { cls := .type "dict", data := .dict #[] }) scope.names } : Shared) = s4 at I4 ⊢
  have st4 : tn 0 s4.heap := T.keep _ _ _ st3 fun b _ o e => by rw [← hs4]; exact pushCells_keeps _ _ _ _ (Heap.get?_push_of_some _ e)
  have stat : ∀ {σ' : St} {H' : Hp} {s' : Shared}, Inv (X.blk s3 H3 scope ce fp) [] σ' H' s' → (∀ b ∈ fp, H' b = none) → ∀ b ∈ fp, FpOk (X.blk s3 H3 scope ce fp) [] H' b := fun {σ' H' s'} I' hn b hb =>
    ⟨hn b hb, (I'.ok.exf b hb).1, I'.ok.exfs b hb, .inl hb, fun x c e => (I'.ok.exf b hb).2 x c e, fun p hp => absurd (show p ∈ ([] : List (Addr × Obj)) ++ [] from hp) (by simp)⟩
  have loop : codeAny (model X.prog X.w) X.A (.compLoop (.ListComp elt [⟨tg, iter, ifs, 0⟩] scope pos) 0 (.ref it) (.ref D) ce) (compPost (model X.prog X.w) X.A X.xe use Qf (.ref D) s3.heap.objs.size) s4 := by
    refine compLoop_any (fun n s' => ∃ i H', Inv (X.blk s3 H3 scope ce fp) [] (wipe σ (own.map (·.2))) H' s' ∧ tn i s'.heap ∧ (∀ b ∈ fp, H' b = none) ∧ W i n H') ?_ m0 ⟨0, H3, I4, st4, nfp, w0⟩
    rintro n s5 ⟨i, H5, I5, st5, n5, w5⟩
    rcases turn i n H5 w5 with ⟨stop, qq⟩ | ⟨go, Nx, hNx, step⟩
    · have td := T.done (X.blk s3 H3 scope ce fp) rfl rfl rfl hc i [] s5 _ H5 (fun _ _ => False) I5 (stat I5 n5) st5 stop
      refine thnF td fun r s6 ⟨hr, I6⟩ => ?_
      subst hr
      have I7 : Inv X pins σ H5 s6 := I3.call' (ch := fp) I6.os I6.base I6.hok I6.bare fun b hb => ⟨(f3 b hb).1.2.2.2.1, (f3 b hb).1.2.1, (f3 b hb).1.2.2.2.2.1, (f3 b hb).1.2.2.2.2.2⟩
      have nC : H5 s3.heap.objs.size = none := by
        have z : H5 ce.locals = none := I6.free
        rw [cL] at z
        exact z
      obtain ⟨m, hn, _⟩ := I6.loc
      have hn : s6.heap.Ns ce.locals m := hn
      rw [cL] at hn
      exact hRR D s3.heap.objs.size s6 m H5 I7 qq hn (I3.fpOk (Nat.le_refl _) nC)
    · have ti := T.item (X.blk s3 H3 scope ce fp) rfl rfl rfl hc i [] s5 _ H5 (fun _ _ => False) I5 (stat I5 n5) st5 go
      refine thnF ti fun r s6 ⟨u, hr, h6⟩ => ?_
      subst hr
      refine thnF h6 fun _ s7 ⟨x, H7, I7, r7, y7, st7, n7⟩ => ?_
      have I7' := I7.pinned (stat I7 n7) (T.obj _ _ st7)
      refine thnF (pg _ s7 _ H7 x u _ I7' r7 (step x H7 y7)) fun _ s8 ⟨σ8, H8, I8, hw8, q8⟩ => ?_
      refine thnF (pt _ s8 σ8 H8 _ I8 q8) fun b s9 ⟨H9, I9, q9⟩ => ?_
      have fin : ∀ {s' : Shared} {H' : Hp}, Inv (X.blk s3 H3 scope ce fp) ([] ++ pinsAt fp s7.heap) σ8 H' s' → Nx H' → ∃ m, m < n ∧ ∃ i H', Inv (X.blk s3 H3 scope ce fp) [] (wipe σ (own.map (·.2))) H' s' ∧ tn i s'.heap ∧ (∀ b ∈ fp, H' b = none) ∧ W i m H' := fun {s' H'} I' nx => by
        obtain ⟨m', hm, w'⟩ := hNx H' nx
        have pin' : ∀ b ∈ fp, ∀ o, s7.heap.get? b = some o → s'.heap.get? b = some o ∧ H' b = none := fun b hb o e =>
          let z := I'.pin (b, o) (List.mem_append_right _ (List.mem_append_right _ (mem_pinsAt hb e)))
          ⟨z.1, z.2.1⟩
        have hl : (wipe σ (own.map (·.2))).length = σ8.length := by rw [← hw8, wipe_length]
        refine ⟨m', hm, i + 1, H', (I'.unpinned (pins := [])).weak hl (fun j v e => ?_), T.keep _ _ _ st7 fun b hb o e => (pin' b hb o e).1, fun b hb => ?_, w'⟩
        · rw [← hw8] at e
          exact (wipe_some e).1
        · obtain ⟨o, e, _⟩ := T.obj _ _ st7 b hb
          exact (pin' b hb o e).2
      cases b with
      | false =>
        simp only [Bool.false_eq_true, if_false] at q9 ⊢
        exact fin I9 q9
      | true =>
        simp only [if_true] at q9 ⊢
        refine thnF (pe _ s9 σ8 H9 _ I9 q9) fun z s10 ⟨yv, H10, I10, r10, acc, hD10, hz10, nx⟩ => ?_
        exact app_ok (X := X.blk s3 H3 scope ce fp) I10 hD10 hz10 r10 fun s11 I11 => fin I11 nx
  exact codeAny_compStart_list loop (T.self X.A 0 _ _ _ st4 loop)
theorem pe_lc {elt tg iter : Expr} {ifs : List Expr} {scope : Scope} {own : List (Str × Nat)} {pos : Pos} {wi : TI} {g : TG} {tt : TT} {te : TE} (hc : X.calm = true) (hN : X.N.Nodup) (hi : PI X tg iter wi) (ok : BlkOk X.N X.env.scope scope own)
    (hg : ∀ (s : Shared) (H : Hp) (C : Addr) (cl : List (Str × Addr)) (fp : List Addr), PG (X.blk s H scope (compEnvC scope cl C X.env) fp) tg g) (ht : ∀ (s : Shared) (H : Hp) (C : Addr) (cl : List (Str × Addr)) (fp : List Addr), PTs (X.blk s H scope (compEnvC scope cl C X.env) fp) ifs tt)
    (he : ∀ (s : Shared) (H : Hp) (C : Addr) (cl : List (Str × Addr)) (fp : List Addr), PE (X.blk s H scope (compEnvC scope cl C X.env) fp) elt te) (hs : ∀ x, foldedSetIterable iter X.env x = pure x := by intro _; rfl) :
    PE X (.ListComp elt [⟨tg, iter, ifs, 0⟩] scope pos) (tLc wi g tt te (own.map (·.2))) := by
  intro pins s σ H Q I h
  rw [eval_ListComp]
  refine lc_core hc hN I hi ok hg ht he hs h fun D C s' m H' I' q hn f => ⟨m, hn, fun h'' sb => ?_⟩
  obtain ⟨f0, f1, f2, f3, f4, f5⟩ := f
  exact ⟨.ref D, H', I'.turned (t' := s'.toks) (fun b o hb e => (sb.2 b hb).trans e) f0 f1 f3 f4 f5, rfl, q⟩
theorem ps_setLc {i : Nat} {y : Str} {py : Pos} {elt tg iter : Expr} {ifs : List Expr} {scope : Scope} {own : List (Str × Nat)} {pos spos : Pos} {wi : TI} {g : TG} {tt : TT} {te : TE} (hc : X.calm = true) (hN : X.N.Nodup) (hy : X.N[i]? = some y) (hyl : X.env.scope.names.lookup y = some .local)
    (hsw : swapsWith (.ListComp elt [⟨tg, iter, ifs, 0⟩] scope pos) (some (.Name y py)) spos.line X.env = pure true) (hi : PI X tg iter wi) (ok : BlkOk X.N X.env.scope scope own)
    (hg : ∀ (s : Shared) (H : Hp) (C : Addr) (cl : List (Str × Addr)) (fp : List Addr), PG (X.blk s H scope (compEnvC scope cl C X.env) fp) tg g) (ht : ∀ (s : Shared) (H : Hp) (C : Addr) (cl : List (Str × Addr)) (fp : List Addr), PTs (X.blk s H scope (compEnvC scope cl C X.env) fp) ifs tt)
    (he : ∀ (s : Shared) (H : Hp) (C : Addr) (cl : List (Str × Addr)) (fp : List Addr), PE (X.blk s H scope (compEnvC scope cl C X.env) fp) elt te) (hs : ∀ x, foldedSetIterable iter X.env x = pure x := by intro _; rfl) :
    PS X (.Assign [.Name y py] (.ListComp elt [⟨tg, iter, ifs, 0⟩] scope pos) spos) (tAsg (tLc wi g tt te (own.map (·.2))) (gName i)) := by
  intro pins s σ H D I h
  rw [exec_Assign_Name_used _ _ _ _ hsw]
  refine wpAny_bind (wpAny_standAt (wpAny_bind ?_))
  show wpAny _ X.A (do let _ ← comprehension (.ListComp elt [⟨tg, iter, ifs, 0⟩] scope pos) scope X.env (firstIterPos [⟨tg, iter, ifs, 0⟩] pos) (newList []) false (eval iter X.env) (some (assign (.Name y py) X.env))) _ _ s
  have h : tLc wi g tt te (own.map (·.2)) σ H (fun x H1 => gName i x σ H1 D.nx) := h
  refine wpAny_bind (thn (lc_core (Qf := fun _ s' => SP X pins D .next s') hc hN I hi ok hg ht he hs h fun L C s' m H' I' q hn f => ?_) fun _ s' hq => wpAny_pure (wpAny_pure hq))
  show wpAny _ _ (assign (.Name y py) X.env (.ref L)) _ _ _
  refine wpAny_assign_Name (store_ok2 (v := V.ref L) I' hN hy (.inl hyl) rfl (fun s2 I2 ⟨a, sb, ha⟩ => ?_) (.inr hyl))
  obtain ⟨f0, f1, f2, f3, f4, f5⟩ := f
  have haC : C ≠ a := by
    rcases ha with z | z
    · rw [z]; exact f1
    · exact fun e => f4 y a z e.symm
  refine ⟨m, hn.sameBut sb haC, fun h3 sb3 => ?_⟩
  exact ⟨_, H', I2.turned (t' := s2.toks) (fun b o hb e => (sb3.2 b hb).trans e) f0 f1 f3 f4 f5, q⟩
theorem sw_true {elt : Expr} {gs : List Comprehension} {scope : Scope} {pos py : Pos} {y : Str} {l : Nat} {env : Env} (hk : env.scope.kind = .function) (hy : env.scope.names.lookup y = some .local) (hl : (py.line == pos.line) = true)
    (ha : (scope.names.any fun (n, k) => n == y && (k == .local || k == .cell)) = false) : swapsWith (.ListComp elt gs scope pos) (some (.Name y py)) l env = pure true := by
  have ky : env.kindOf y = some .local := hy
  have hb : env.blockKind = .function := by unfold Env.blockKind; rw [hk]; rfl
  unfold swapsWith
  simp only [hb, ky, ha, Expr.pos, hl]
  rfl
end
theorem lc_list {K : PySem.W.Frag} {a : Addr} {xs : List V} {g : TG} {tt : TT} {te : TE} {vs : List Nat} {σ : St} {H1 : Hp} {D : Addr} {Qd : Hp → Prop} (Pv : Nat → Hp → Prop) (h0 : Pv 0 (upd H1 D (.lst []))) (hl : ∀ i H, i ≤ xs.length → Pv i H → SqL K H a xs)
    (hs : ∀ i x H, xs[i]? = some x → Pv i H → g x (wipe σ vs) H fun σ2 H2 => wipe σ2 vs = wipe σ vs ∧ tt σ2 H2 fun b H3 =>
      if b = true then te σ2 H3 fun y H4 => ∃ acc, H4 D = some (.lst acc) ∧ acc.length < sizeLine ∧ Pv (i + 1) (upd H4 D (.lst (acc ++ [y]))) else Pv (i + 1) H3) (hd : ∀ H, Pv xs.length H → Qd H) :
    ∃ W : Nat → Nat → Hp → Prop, (∃ m, W 0 m (upd H1 D (.lst []))) ∧ ∀ i m H, W i m H →
      ((Itl K a).stop i H ∧ Qd H) ∨ ((Itl K a).go i H ∧ ∃ Nx : Hp → Prop, (∀ H', Nx H' → ∃ m', m' < m ∧ W (i + 1) m' H') ∧ ∀ x H', (Itl K a).yld i H x H' → g x (wipe σ vs) H' fun σ2 H2 => wipe σ2 vs = wipe σ vs ∧ tt σ2 H2 fun b H3 =>
        if b = true then te σ2 H3 fun y H4 => ∃ acc, H4 D = some (.lst acc) ∧ acc.length < sizeLine ∧ Nx (upd H4 D (.lst (acc ++ [y]))) else Nx H3) := by
  refine ⟨fun i m H => m = xs.length - i ∧ i ≤ xs.length ∧ Pv i H, ⟨xs.length, by simp, Nat.zero_le _, h0⟩, ?_⟩
  rintro i m H ⟨rfl, hi, p⟩
  have q := hl i H hi p
  by_cases hlt : i < xs.length
  · refine .inr ⟨⟨xs, xs[i], q, by simp [hlt]⟩, Pv (i + 1), fun H' p' => ⟨xs.length - (i + 1), by omega, rfl, hlt, p'⟩, fun x H' y => ?_⟩
    obtain ⟨e, y⟩ := y
    subst e
    exact hs i x _ (y xs q) p
  · have e : i = xs.length := by omega
    subst e
    exact .inl ⟨⟨xs, q, Nat.le_refl _⟩, hd H p⟩
theorem lc_tup {K : PySem.W.Frag} {a : Addr} {xs : List V} {g : TG} {tt : TT} {te : TE} {vs : List Nat} {σ : St} {H1 : Hp} {D : Addr} {Qd : Hp → Prop} (Pv : Nat → Hp → Prop) (h0 : Pv 0 (upd H1 D (.lst []))) (hl : ∀ i H, i ≤ xs.length → Pv i H → SqT K H a xs)
    (hs : ∀ i x H, xs[i]? = some x → Pv i H → g x (wipe σ vs) H fun σ2 H2 => wipe σ2 vs = wipe σ vs ∧ tt σ2 H2 fun b H3 =>
      if b = true then te σ2 H3 fun y H4 => ∃ acc, H4 D = some (.lst acc) ∧ acc.length < sizeLine ∧ Pv (i + 1) (upd H4 D (.lst (acc ++ [y]))) else Pv (i + 1) H3) (hd : ∀ H, Pv xs.length H → Qd H) :
    ∃ W : Nat → Nat → Hp → Prop, (∃ m, W 0 m (upd H1 D (.lst []))) ∧ ∀ i m H, W i m H →
      ((Itt K a).stop i H ∧ Qd H) ∨ ((Itt K a).go i H ∧ ∃ Nx : Hp → Prop, (∀ H', Nx H' → ∃ m', m' < m ∧ W (i + 1) m' H') ∧ ∀ x H', (Itt K a).yld i H x H' → g x (wipe σ vs) H' fun σ2 H2 => wipe σ2 vs = wipe σ vs ∧ tt σ2 H2 fun b H3 =>
        if b = true then te σ2 H3 fun y H4 => ∃ acc, H4 D = some (.lst acc) ∧ acc.length < sizeLine ∧ Nx (upd H4 D (.lst (acc ++ [y]))) else Nx H3) := by
  refine ⟨fun i m H => m = xs.length - i ∧ i ≤ xs.length ∧ Pv i H, ⟨xs.length, by simp, Nat.zero_le _, h0⟩, ?_⟩
  rintro i m H ⟨rfl, hi, p⟩
  have q := hl i H hi p
  by_cases hlt : i < xs.length
  · refine .inr ⟨⟨xs, xs[i], q, by simp [hlt]⟩, Pv (i + 1), fun H' p' => ⟨xs.length - (i + 1), by omega, rfl, hlt, p'⟩, fun x H' y => ?_⟩
    obtain ⟨e, y⟩ := y
    subst e
    exact hs i x _ (y xs q) p
  · have e : i = xs.length := by omega
    subst e
    exact .inl ⟨⟨xs, q, Nat.le_refl _⟩, hd H p⟩
def blkC (N : List Str) (sc scope : Scope) (own : List (Str × Nat)) : Bool :=
  (match scope.kind with | .function => true | _ => false) && (scope.names.all fun y => decide (scope.names.lookup y.1 = some y.2)) && (own.all fun p => decide (N[p.2]? = some p.1)) &&
    (scope.names.all fun y => match y.2 with
      | .free => (match sc.names.lookup y.1 with | some .cell => true | some .free => true | _ => false)
      | .local => decide (y.1 ∈ own.map (·.1)) || decide (y.1 ∉ N)
      | .cell => decide (y.1 ∈ own.map (·.1)) || decide (y.1 ∉ N)
      | _ => true)
theorem blkOk_by {N : List Str} {sc scope : Scope} {own : List (Str × Nat)} (h : blkC N sc scope own = true) : BlkOk N sc scope own := by
  unfold blkC at h
  simp only [Bool.and_eq_true, List.all_eq_true, decide_eq_true_eq] at h
  obtain ⟨⟨⟨h1, h2⟩, h3⟩, h4⟩ := h
  refine ⟨?_, h2, h3, fun y hy e => ?_, fun y hy e => ?_⟩
  · split at h1
    · assumption
    · cases h1
  · have q := h4 y hy
    simp only [e] at q
    split at q <;> first | exact .inl (by assumption) | exact .inr (by assumption) | cases q
  · have q := h4 y hy
    rcases e with e | e <;> (simp only [e, Bool.or_eq_true, decide_eq_true_eq] at q; exact q)
end L2
namespace L2
open PySem PySem.Spec PyProof.Rows
section
variable {prog : Program} {w : World} {A : Around} {R : Result → Shared → Prop} {s : Shared} {elt t0 i0 t1 i1 : Expr} {ifs0 ifs1 : List Expr} {scope : Scope} {pos : Pos} {it acc : Value} {env : Env}
end
section
variable {X : Cx}
end
end L2
namespace L2
open PySem PySem.Spec PyProof.Rows
section
variable {κ : Type} [DecidableEq κ]
def valV (kvs : List (κ × V)) (k : κ) : Option V := (kvs.find? fun kv => decide (kv.1 = k)).map (·.2)
theorem valV_pos {p : κ × V} {r : List (κ × V)} {k : κ} (e : p.1 = k) : valV (p :: r) k = some p.2 := by simp [valV, List.find?_cons, e]
theorem valV_neg {p : κ × V} {r : List (κ × V)} {k : κ} (e : ¬ p.1 = k) : valV (p :: r) k = valV r k := by simp [valV, List.find?_cons, e]
theorem RelO.isSome_eq {o : Option V} {u : Option Value} (r : RelO o u) : o.isSome = u.isSome := by
  cases o with
  | none => cases u with
    | none => rfl
    | some _ => exact (show False from r).elim
  | some _ => cases u with
    | none => exact (show False from r).elim
    | some _ => rfl
theorem RelO.getD {o : Option V} {u : Option Value} {d : V} {d' : Value} (r : RelO o u) (rd : RelV d d') : RelV (o.getD d) (u.getD d') := by
  cases o with
  | none => cases u with
    | none => exact rd
    | some _ => exact (show False from r).elim
  | some _ => cases u with
    | none => exact (show False from r).elim
    | some _ => exact r
theorem KV.val {kvs : List (κ × V)} {vs : List (κ × Value)} (r : KV kvs vs) (k : κ) : RelO (valV kvs k) (valueAt vs k) := by
  unfold KV at r
  induction r with
  | nil => exact True.intro
  | @cons p q ps qs h t ih =>
    obtain ⟨h1, h2⟩ := h
    by_cases e : p.1 = k
    · have e' : q.1 = k := h1.symm.trans e
      have b : valueAt (q :: qs) k = some q.2 := by simp [valueAt, List.find?_cons, e']
      rw [valV_pos e, b]; exact h2
    · have e' : ¬ q.1 = k := fun z => e (h1.trans z)
      have b : valueAt (q :: qs) k = valueAt qs k := by simp [valueAt, List.find?_cons, e']
      rw [valV_neg e, b]; exact ih
end
theorem kV_is {P : Program} {w : World} {k : Key} {u : Value} (r : RelV (kV k) u) : (mixKind P w).is k u = true := by
  cases k with
  | inl i => obtain ⟨t, e⟩ := (show ∃ t, u = Value.int i t from r); subst e; exact mixKind_int P w i t
  | inr x => obtain ⟨t, e⟩ := (show ∃ t, u = Value.str x t from r); subst e; exact mixKind_str P w x t
section
variable {P : Program} {w : World} {H : Hp} {h : Heap} {a : Addr}
end
section
variable {X : Cx} {pins : List (Addr × Obj)} {σ : St} {H : Hp} {s : Shared} {a : Addr} {y v : V} {u r : Value} {o : Option V} {A : Around} {E : Value → Shared → Prop}
end
section
variable {X : Cx} {pins : List (Addr × Obj)} {σ : St} {H : Hp} {s : Shared} {a : Addr} {kvs : List (Key × V)} {k : Key} {u : Value} {A : Around} {E : Value → Shared → Prop}
end
def NoSl (i : Expr) : Prop := ∀ ov iv, subscripted i false ov iv = operate [ov, iv] (getItem ov iv)
theorem subD_of {prog : Program} {w : World} {A : Around} {E : Value → Shared → Prop} {s : Shared} {env : Env} {value slice : Expr} {pos : Pos} {T id : String} {Q : Value → Shared → Prop}
    (hl : typeLookup (.type T) "__getitem__" = pure (some (.builtin id))) (hs : NoSl slice)
    (h : wpAny (model prog w) A (eval value env) (fun o s₁ => wpAny (model prog w) A (eval slice env) (fun i s₂ => s₂.TypeIs o T ∧ wpAny (model prog w) A (getItem o i) Q E s₂) E s₁) E s) :
    wpAny (model prog w) A (eval (.Subscript value slice pos) env) Q E s := by
  refine Subscript_ (wpAny_mono h (fun o s₁ h₁ => wpAny_mono h₁ (fun i s₂ h₂ => ?_) fun _ _ x => x) fun _ _ x => x)
  obtain ⟨hT, h₂⟩ := h₂
  unfold subscriptTail
  refine wpAny_bind ?_
  rw [getitemInPython_of_ne hT.not_modules]
  refine wpAny_bind (wpAny_specialOf hT hl ?_)
  have fin : wpAny (model prog w) A (subscripted slice false o i) (fun r s₃ => wpAny (model prog w) A (letTemporaryGo value o r >>= fun _ => pure r) Q E s₃) E s₂ := by
    rw [hs o i]
    exact wpAny_operating (wpAny_mono h₂ (fun r s₃ h₃ => wpAny_bind (wpAny_letTemporaryGo (wpAny_pure h₃))) fun _ _ x => x)
  first
    | exact wpAny_pure (wpAny_bind fin)
    | exact wpAny_bind (wpAny_pure (wpAny_bind fin))
    | exact wpAny_bind fin
section
variable {X : Cx} {o i e value : Expr} {pos pos' tpos : Pos} {td ty tv : TE}
end
section
variable {X : Cx} {pos : Pos}
end
structure M2 (X : Cx) (o : Expr) (m : Str) (apos : Pos) (e f : Expr) (cpos : Pos) : Prop where
  base : attributeBase o m X.env (eval o X.env) = eval o X.env
  few : ((backTo cpos (starEach [e, f] X.env)).all (fun x => !x.1) && (backToKw cpos (keywordEach [] X.env)).all (fun x => x.1.isSome)
    && decide (([e, f] : List Expr).length + ([] : List Keyword).length + (if ([] : List Keyword).isEmpty then 0 else 1) < 30)) = true
  line : (apos.endLine == cpos.line) = true
  trees : backTo cpos (starEach [e, f] X.env) = [(false, eval e X.env), (false, eval f X.env)]
section
variable {X : Cx} {pins : List (Addr × Obj)} {σ : St} {H : Hp} {s : Shared} {a : Addr} {y d : V} {u r : Value} {o : Option V} {A : Around} {E : Value → Shared → Prop}
end
section
variable {X : Cx} {o e f : Expr} {apos cpos : Pos} {td ty tx : TE}
end
section
variable {X : Cx} {pins : List (Addr × Obj)} {σ : St} {H : Hp} {s : Shared} {a : Addr} {kvs : List (Key × V)} {A : Around} {E : Value → Shared → Prop}
end
section
variable {X : Cx} {pins : List (Addr × Obj)} {σ : St} {H : Hp} {s : Shared} {a : Addr} {y : V} {u : Value} {A : Around} {E : Value → Shared → Prop}
end
end L2
namespace L2
open PySem PySem.Spec PyProof.Rows
section
variable {prog : Program} {w : World} {A : Around} {E : Value → Shared → Prop}
end
section
variable {X : Cx}
end
end L2
namespace L2
open PySem PySem.Spec PyProof.Rows
section
variable {X : Cx} {pins : List (Addr × Obj)} {σ : St} {H : Hp} {s : Shared} {h' : Heap}
end
section
variable {X : Cx}
theorem pi_one {tg : Expr} {pins : List (Addr × Obj)} {σ : St} {H : Hp} {s : Shared} {R : It → Hp → Prop} {J : It} {tn : Nat → Heap → Prop} {tk : Nat} (I : Inv X pins σ H s) (o : Obj)
    (T : Turn X.prog X.w X.K tg J [s.heap.objs.size] s.heap.objs.size tn) (st : tn 0 (s.heap.push o)) (q : R J H) : PIE X pins σ tg R (.ref s.heap.objs.size) { s with heap := s.heap.push o, toks := tk } := by
  refine ⟨s.heap.objs.size, [s.heap.objs.size], tn, J, H, rfl, I.kept fun b ob e => Heap.get?_push_of_some _ e, T, st, fun b hb => ?_, q⟩
  have e : b = s.heap.objs.size := by simpa using hb
  subst e
  exact I.fpOk (Nat.le_refl _) (I.hok.fresh (Nat.le_refl _))
end
section
variable {X : Cx} {tg : Expr}
end
section
variable {X : Cx} {tg : Expr}
end
def Its (x : Str) : It := ⟨fun i _ => i < x.cps.size, fun i H v H' => H' = H ∧ ∃ c, x.cps[i]? = some c ∧ v = .str ⟨#[c]⟩, fun i _ => x.cps.size ≤ i⟩
theorem turn_str {P : Program} {w : World} {K : PySem.W.Frag} {tg : Expr} (it : Addr) (x : Str) (t : Tok) (ty : String) (hty : ty = "str_ascii_iterator" ∨ ty = "str_iterator") :
    Turn P w K tg (Its x) [it] it (fun i h => h.IsStrIter it ty x t i) where
  mem := by simp
  obj := fun i h st b hb => by
    have e : b = it := by simpa using hb
    subst e
    obtain ⟨o, e, c, d⟩ := st
    exact ⟨o, e, fun v z => by rw [d] at z; cases z⟩
  keep := fun i h h' st k => let ⟨o, ho, r⟩ := st; ⟨o, k it (by simp) o ho, r⟩
  item := by
    intro X hP hw hK hc i pins s σ H E I hf st hg
    subst hP hw hK
    obtain ⟨f0, f1, f2, f3, f4, f5⟩ := hf it (by simp)
    have W : Walks X.prog X.w X.A it [it] [it] x.cps.size (SignAt x) (fun i h => h.IsStrIter it ty x t i) := by
      rcases hty with e | e
      · rw [e]; exact Walks.strAscii (I.ok.hd hc) it x t
      · rw [e]; exact Walks.strWide (I.ok.hd hc) it x t
    have hno : ["enumerate", "zip", "dict_itemiterator", "dict_reverseitemiterator", "odict_iterator", "itertools.zip_longest", "itertools.pairwise"].contains ty = false := by
      rcases hty with e | e
      · rw [e]; decide
      · rw [e]; decide
    refine W.item i s _ _ hg st fun v h' tk hv st' kk => ?_
    obtain ⟨c, u, hcx, rfl⟩ := hv
    have I1 : Inv X pins σ H { s with heap := h', toks := tk } := I.turned (fun b o hb e => kk b o (by simpa using hb) e) f0 f1 f3 f4 f5
    obtain ⟨oi, e, cc, dd⟩ := id st'
    exact ⟨_, rfl, go_of (s := { s with heap := h', toks := tk }) e cc dd hno ⟨.str ⟨#[c]⟩, H, I1, ⟨u, rfl⟩, ⟨rfl, c, hcx, rfl⟩, st', fun b hb => (hf b hb).1⟩⟩
  done := by
    intro X hP hw hK hc i pins s σ H E I hf st hg
    subst hP hw hK
    obtain ⟨f0, f1, f2, f3, f4, f5⟩ := hf it (by simp)
    have hx : x.cps[i]? = none := Array.getElem?_eq_none hg
    rcases hty with e | e
    · rw [e] at st
      exact wpAny_pyNext_ascii_end (I.ok.hd hc) st hx fun h' eb => ⟨rfl, I.turned (t' := s.toks) (fun b o hb e => eb b o hb e) f0 f1 f3 f4 f5⟩
    · rw [e] at st
      exact wpAny_pyNext_wide_end (I.ok.hd hc) st hx fun h' eb => ⟨rfl, I.turned (t' := s.toks) (fun b o hb e => eb b o hb e) f0 f1 f3 f4 f5⟩
  self := fun A i s Q E st h => by
    rcases hty with e | e
    · rw [e] at st; exact wpAny_pyIter_striter_ascii st h
    · rw [e] at st; exact wpAny_pyIter_striter_wide st h
def iStr (te : TE) : TI := fun σ H R => te σ H fun v H1 => ∃ x, v = .str x ∧ R (Its x) H1
theorem pi_str {X : Cx} {tg e : Expr} {te : TE} (he : PE X e te) : PI X tg e (iStr te) := by
  intro pins s σ H R I h
  refine thn (he pins s σ H _ I h) fun v s1 ⟨y, H1, I1, r1, x, ex, q⟩ => ?_
  subst ex
  obtain ⟨t, rfl⟩ := r1
  cases ha : x.cps.all (· < 128)
  · exact wpAny_pyIter_wide ha (pi_one (tk := s1.toks) I1 _ (turn_str _ x t "str_iterator" (.inr rfl)) ⟨_, Heap.get?_push_size _ rfl, rfl, rfl⟩ q)
  · exact wpAny_pyIter_ascii ha (pi_one (tk := s1.toks) I1 _ (turn_str _ x t "str_ascii_iterator" (.inl rfl)) ⟨_, Heap.get?_push_size _ rfl, rfl, rfl⟩ q)
section
variable {prog : Program} {w : World} {A : Around} {E : Value → Shared → Prop} {s : Shared}
end
section
variable {X : Cx} {pins : List (Addr × Obj)} {σ : St} {H : Hp} {s : Shared} {d : Addr} {o : Obj}
end
section
variable {P : Program} {w : World} {K : PySem.W.Frag} {tg : Expr} {d : Addr} {o : Obj} {es : Array DictEntry} {ep : Nat}
end
section
variable {X : Cx} {tg e : Expr} {td : TE} {apos cpos : Pos}
end
end L2
section
namespace Bits
open PySem PyProof.Rows
end Bits
end
section
namespace TL
open PySem PySem.Builtin PySem.Builtin.Str PySem.StrLaws
abbrev tl (x : Str) : List Nat := x.cps.toList
theorem len_tl (x : Str) : x.length = (tl x).length := by simp [tl, Str.length]
def pre (S l : List Nat) : Bool := l.take S.length == S
def spl (S : List Nat) : Nat → List Nat → List Nat → List (List Nat)
  | _, acc, [] => [acc]
  | 0, acc, c :: r => if pre S (c :: r) = true then acc :: spl S (S.length - 1) [] r else spl S 0 (acc ++ [c]) r
  | k + 1, acc, _ :: r => spl S k acc r
theorem spl_nil (S : List Nat) (k : Nat) (acc : List Nat) : spl S k acc [] = [acc] := by cases k <;> rfl
theorem spl_hit {S acc r : List Nat} {c : Nat} (h : pre S (c :: r) = true) : spl S 0 acc (c :: r) = acc :: spl S (S.length - 1) [] r := by
  show (if pre S (c :: r) = true then acc :: spl S (S.length - 1) [] r else spl S 0 (acc ++ [c]) r) = _
  rw [if_pos h]
theorem spl_miss {S acc r : List Nat} {c : Nat} (h : pre S (c :: r) = false) : spl S 0 acc (c :: r) = spl S 0 (acc ++ [c]) r := by
  show (if pre S (c :: r) = true then acc :: spl S (S.length - 1) [] r else spl S 0 (acc ++ [c]) r) = _
  rw [if_neg (by rw [h]; exact Bool.false_ne_true)]
theorem spl_pass (S : List Nat) : ∀ (k : Nat) (acc l : List Nat), spl S k acc l = spl S 0 acc (l.drop k)
  | 0, _, _ => by rw [List.drop_zero]
  | k + 1, acc, [] => by rw [List.drop_nil, spl_nil, spl_nil]
  | k + 1, acc, c :: r => by
    show spl S k acc r = spl S 0 acc (r.drop k)
    exact spl_pass S k acc r
theorem pre_nil {S : List Nat} (hS : S ≠ []) : pre S [] = false := by
  cases S with
  | nil => exact absurd rfl hS
  | cons s S => rfl
theorem getElem_drop_cons {L : List Nat} {a : Nat} (h : a < L.length) : ∃ c, L.drop a = c :: L.drop (a + 1) := ⟨L[a], List.drop_eq_getElem_cons h⟩
theorem spl_run (S L : List Nat) : ∀ (m a : Nat) (acc : List Nat), a + m ≤ L.length → (∀ k, a ≤ k → k < a + m → pre S (L.drop k) = false) →
    spl S 0 acc (L.drop a) = spl S 0 (acc ++ (L.drop a).take m) (L.drop (a + m))
  | 0, a, acc, _, _ => by rw [List.take_zero, List.append_nil, Nat.add_zero]
  | m + 1, a, acc, h, hn => by
    have hlt : a < L.length := by omega
    obtain ⟨c, e⟩ := getElem_drop_cons hlt
    have h0 := hn a (Nat.le_refl _) (by omega)
    have ih := spl_run S L m (a + 1) (acc ++ [c]) (by omega) (fun k h1 h2 => hn k (by omega) (by omega))
    have e2 : a + 1 + m = a + (m + 1) := by omega
    rw [e2] at ih
    rw [e] at h0
    rw [e, spl_miss h0, ih, List.take_succ_cons, List.append_assoc] <;> rfl
theorem drop_two (L : List Nat) (a b : Nat) : (L.drop a).drop b = L.drop (a + b) := by
  first
    | rw [List.drop_drop]
    | rw [List.drop_drop, Nat.add_comm]
theorem spl_at {S L : List Nat} (hS : S ≠ []) {c : Nat} {acc : List Nat} (h : pre S (L.drop c) = true) : spl S 0 acc (L.drop c) = acc :: spl S 0 [] (L.drop (c + S.length)) := by
  rw [← drop_two]
  cases e : L.drop c with
  | nil => rw [e, pre_nil hS] at h; cases h
  | cons d r =>
    rw [e] at h
    rw [spl_hit h, spl_pass]
    cases S with
    | nil => exact absurd rfl hS
    | cons s S => rfl
theorem at_iff {x y : Str} (hy : tl y ≠ []) (i : Nat) : At x y x.length i ↔ pre (tl y) ((tl x).drop i) = true := by
  have hx := len_tl x
  have hl := len_tl y
  constructor
  · intro h
    have h2 := h.2
    rw [subAt_eq, hl] at h2
    exact h2
  · intro h
    have e : ((tl x).drop i).take (tl y).length = tl y := eq_of_beq h
    have e1 := congrArg List.length e
    rw [List.length_take, List.length_drop] at e1
    have e2 : 0 < (tl y).length := List.length_pos_iff.mpr hy
    refine ⟨by omega, ?_⟩
    rw [subAt_eq, hl]
    exact h
theorem no_at {x y : Str} (hy : tl y ≠ []) {i : Nat} (h : ¬ At x y x.length i) : pre (tl y) ((tl x).drop i) = false := by
  cases hp : pre (tl y) ((tl x).drop i) with
  | false => rfl
  | true => exact absurd ((at_iff hy i).mpr hp) h
theorem len1 {y : Str} (hy : tl y ≠ []) : 1 ≤ y.length := by
  have e2 : 0 < (tl y).length := List.length_pos_iff.mpr hy
  rw [len_tl y]
  exact e2
theorem tl_strSub (x : Str) (i j : Nat) : tl (strSub x i j) = ((tl x).drop i).take (j - i) := strSub_toList x i j
theorem tl_strSub_end (x : Str) (i : Nat) : tl (strSub x i x.length) = (tl x).drop i := by
  rw [tl_strSub, len_tl x]
  exact List.take_of_length_le (by rw [List.length_drop] <;> omega)
theorem parts_spl {x y : Str} (hy : tl y ≠ []) : ∀ (cuts : List Nat) (a f : Nat), a ≤ (tl x).length → ChainG x y x.length a cuts f → (∀ k, f ≤ k → ¬ At x y x.length k) →
    (partsFrom x y.length a cuts).map tl = spl (tl y) 0 [] ((tl x).drop a)
  | [], a, f, ha, h, hn => by
    have e : f = a := h
    subst e
    show [tl (strSub x f x.length)] = _
    have run := spl_run (tl y) (tl x) ((tl x).length - f) f [] (by omega) (fun k h1 _ => no_at hy (hn k h1))
    have e2 : f + ((tl x).length - f) = (tl x).length := by omega
    rw [e2, List.drop_length, spl_nil, List.nil_append, List.take_of_length_le (by rw [List.length_drop] <;> omega)] at run
    rw [run, tl_strSub_end]
  | c :: r, a, f, ha, h, hn => by
    obtain ⟨h1, h2, h3, h4⟩ := h
    have hc : c + y.length ≤ x.length := h2.1
    have hx := len_tl x
    have hl := len_tl y
    have ih := parts_spl hy r (c + y.length) f (by omega) h4 hn
    show tl (strSub x a c) :: (partsFrom x y.length (c + y.length) r).map tl = _
    have run := spl_run (tl y) (tl x) (c - a) a [] (by omega) (fun k k1 k2 => no_at hy (h3 k k1 (by omega)))
    have e2 : a + (c - a) = c := by omega
    rw [e2, List.nil_append, spl_at hy ((at_iff hy c).mp h2)] at run
    rw [run, ih, tl_strSub, hl]
theorem split_spl (x y : Str) (hy : tl y ≠ []) (hk : ¬ Builtin.Str.strKind x < Builtin.Str.strKind y) : (Txt.split x y).map tl = spl (tl y) 0 [] (tl x) := by
  obtain ⟨f, g, hn⟩ := occ_tight x y (len1 hy)
  have key := parts_spl hy _ 0 f (Nat.zero_le _) g hn
  rw [List.drop_zero] at key
  have none_case : occurrences x y 0 x.length (x.length + 1) = [] → [x].map tl = spl (tl y) 0 [] (tl x) := fun ho => by
    rw [ho] at key
    rw [← key]
    show [tl x] = [tl (strSub x 0 x.length)]
    rw [sub_whole]
  unfold Txt.split
  by_cases h1 : (decide (x.length < y.length) || decide (Builtin.Str.strKind x < Builtin.Str.strKind y)) = true
  · rw [if_pos h1]
    have hlt : x.length < y.length := by
      simp only [Bool.or_eq_true, decide_eq_true_eq] at h1
      rcases h1 with h | h
      · exact h
      · exact absurd h hk
    refine none_case ?_
    cases ho : occurrences x y 0 x.length (x.length + 1) with
    | nil => rfl
    | cons c r =>
      rw [ho] at g
      have hc : c + y.length ≤ x.length := g.2.1.1
      omega
  · rw [if_neg h1]
    by_cases h2 : (occurrences x y 0 x.length (x.length + 1)).isEmpty = true
    · rw [if_pos h2]
      exact none_case (List.isEmpty_iff.mp h2)
    · rw [if_neg h2, partsBetween_eq]
      exact key
theorem kind_ok {x y : Str} (h : y.cps.all (· < 256) = true) : ¬ Builtin.Str.strKind x < Builtin.Str.strKind y := by
  have e : Builtin.Str.strKind y = 1 := by unfold PySem.Builtin.Str.strKind; rw [if_pos h]
  rw [e]
  unfold PySem.Builtin.Str.strKind
  split
  · omega
  · split <;> omega
end TL
end
namespace L2
open PySem PySem.Spec PyProof.Rows
theorem vals_strs : ∀ l : List (Str × Tok), Vals ((l.map (·.1)).map V.str) (strValues l)
  | [] => .nil
  | p :: r => .cons ⟨p.2, rfl⟩ (vals_strs r)
theorem strs_of_vals : ∀ {ys : List Str} {us : List Value}, Vals (ys.map V.str) us → StrsAre us ys
  | [], _, .nil => .nil
  | y :: ys, _, .cons r t => by
    obtain ⟨k, rfl⟩ := r
    exact .cons y k (strs_of_vals t)
def rNewStrs (ys : List Str) : Hp → VK → Prop := fun H Q => ∀ p, H p = none → Q (.ref p) (upd H p (.lst (ys.map V.str)))
section
variable {X : Cx} {pins : List (Addr × Obj)} {σ : St} {H : Hp} {s : Shared} {Q : VK}
theorem laid_strs {l : List (Str × Tok)} {ys : List Str} {k : Nat} (I : Inv X pins σ H s) (e : l.map (·.1) = ys) (hz : ys.length ≤ sizeLine) (h : rNewStrs ys H Q) :
    EP X pins σ Q (.ref s.heap.objs.size) { s with toks := k, heap := s.heap.push { cls := .type "list", data := .seq (strValues l).toArray } } := by
  have hp := I.hok.fresh (Nat.le_refl _)
  refine ⟨.ref s.heap.objs.size, upd H s.heap.objs.size (.lst (ys.map V.str)), I.laid (fun b u q => Heap.get?_push_of_some _ q) (Nat.le_refl _) ⟨by rw [List.length_map]; exact hz, strValues l, _, ?_, Heap.get?_push_size _ rfl⟩, rfl, h _ hp⟩
  rw [← e]
  exact vals_strs l
end
section
variable {X : Cx}
theorem mt_split : MtR X "str.split" (fun x xs H Q => ∃ a b, x = .str a ∧ xs = [.str b] ∧ (b.length == 0) = false ∧ a.length + 2 ≤ sizeLine ∧ rNewStrs (Txt.split a b) H Q) := by
  intro pins s σ H x xs v us Q I rx rs h
  obtain ⟨a, b, rfl, rfl, hb, hz, h⟩ := h
  obtain ⟨t, rfl⟩ := rx
  cases rs with
  | cons r1 rs =>
    cases rs
    obtain ⟨u, rfl⟩ := r1
    have hl : (Txt.split a b).length ≤ sizeLine := Nat.le_trans (PyProof.Rows.split_le a b) hz
    have hn : (Builtin.Str.partsBetween a (Builtin.Str.occurrences a b 0 a.length (a.length + 1)) b.length).length ≤ sizeLine := by
      have e1 := StrLaws.occ_length_le a b 0 a.length (a.length + 1)
      rw [length_partsBetween]; omega
    cases h1 : (decide (a.length < b.length) || decide (Builtin.Str.strKind a < Builtin.Str.strKind b))
    · cases hf : (Builtin.Str.occurrences a b 0 a.length (a.length + 1)).isEmpty
      · refine call_meets F.slot_str_split (typeIs_str _ _ _) F.entry_str_split (F.args_str_split_2 _ _) (meets_str_split_sep a b t u h1 hb hf (by omega) hn) ?_
        show EP X pins σ Q (.ref s.heap.objs.size) { s with toks := _, heap := s.heap.push { cls := .type "list", data := .seq (strsFrom s.toks (Builtin.Str.partsBetween a (Builtin.Str.occurrences a b 0 a.length (a.length + 1)) b.length)).toArray } }
        rw [strsFrom_eq]
        exact laid_strs (ys := Txt.split a b) I ((numbered_texts _ _).trans ((if_neg (ne_true_of_eq_false h1)).trans (if_neg (ne_true_of_eq_false hf))).symm) hl h
      · refine call_meets F.slot_str_split (typeIs_str _ _ _) F.entry_str_split (F.args_str_split_2 _ _) (meets_str_split_not_found a b t u h1 hb hf) ?_
        exact laid_strs (l := [(a, t)]) (ys := Txt.split a b) (k := s.toks) I ((if_neg (ne_true_of_eq_false h1)).trans (if_pos hf)).symm hl h
    · refine call_meets F.slot_str_split (typeIs_str _ _ _) F.entry_str_split (F.args_str_split_2 _ _) (meets_str_split_cannot_occur a b t u h1) ?_
      exact laid_strs (l := [(a, t)]) (ys := Txt.split a b) (k := s.toks) I (if_pos h1).symm hl h
theorem mt_join : MtR X "str.join" (fun x xs H Q => ∃ a p, ∃ ys : List Str, x = .str a ∧ xs = [.ref p] ∧ (SqL X.K H p (ys.map V.str) ∨ SqT X.K H p (ys.map V.str)) ∧
    (ys.map (·.length)).sum + ys.length * a.length ≤ 16777216 ∧ Q (.str (Txt.join a ys)) H) := by
  intro pins s σ H x xs v us Q I rx rs h
  obtain ⟨a, p, ys, rfl, rfl, hp, hz, h⟩ := h
  obtain ⟨t, rfl⟩ := rx
  cases rs with
  | cons r1 rs =>
    cases rs
    cases r1
    rcases hp with hp | hp
    · obtain ⟨its, r, ⟨o, n, ho, hc, _, hd⟩, _⟩ := I.list hp
      exact PyProof.Rows.join_list (items := its.toArray) ⟨o, ho, hc, n, hd⟩ (by rw [List.toList_toArray]; exact strs_of_vals r) hz fun t' k => ⟨.str _, H, I.tok k, ⟨t', rfl⟩, h⟩
    · obtain ⟨its, r, ht, _⟩ := I.tuple hp
      exact PyProof.Rows.join_tuple (items := its.toArray) ht (by rw [List.toList_toArray]; exact strs_of_vals r) hz fun t' k => ⟨.str _, H, I.tok k, ⟨t', rfl⟩, h⟩
theorem mt0 {id : String} {C : Str → Prop} {g : Str → V} (rule : ∀ (a : Str) (t : Tok) (s : Shared) (Q : Value → Shared → Prop), C a → (∀ (u : Value) (k : Nat), RelV (g a) u → Q u { s with toks := k }) →
    wpAny (model X.prog X.w) X.A (call (.builtin id) [.str a t]) Q X.xe s) : MtR X id (fun x xs H Q => ∃ a, x = .str a ∧ xs = [] ∧ C a ∧ Q (g a) H) := by
  intro pins s σ H x xs v us Q I rx rs h
  obtain ⟨a, rfl, rfl, hc, h⟩ := h
  obtain ⟨t, rfl⟩ := rx
  cases rs
  exact rule a t s _ hc fun u k r => ⟨g a, H, I.tok k, r, h⟩
theorem mt_isdigit : MtR X "str.isdigit" (fun x xs H Q => ∃ a, x = .str a ∧ xs = [] ∧ True ∧ Q (.bl (Txt.isdigit a)) H) :=
  mt0 (C := fun _ => True) (g := fun a => .bl (Txt.isdigit a)) fun _ _ s _ _ h => PySem.SC.isdigit (h _ s.toks rfl)
theorem mt1 {id : String} {g : Str → Str → V} (rule : ∀ (a b : Str) (t u : Tok) (s : Shared) (Q : Value → Shared → Prop), (∀ (v : Value) (k : Nat), RelV (g a b) v → Q v { s with toks := k }) →
    wpAny (model X.prog X.w) X.A (call (.builtin id) [.str a t, .str b u]) Q X.xe s) : MtR X id (fun x xs H Q => ∃ a b, x = .str a ∧ xs = [.str b] ∧ Q (g a b) H) := by
  intro pins s σ H x xs v us Q I rx rs h
  obtain ⟨a, b, rfl, rfl, h⟩ := h
  obtain ⟨t, rfl⟩ := rx
  cases rs with
  | cons r1 rs =>
    cases rs
    obtain ⟨u, rfl⟩ := r1
    exact rule a b t u s _ fun v k r => ⟨g a b, H, I.tok k, r, h⟩
theorem mt_startswith : MtR X "str.startswith" (fun x xs H Q => ∃ a b, x = .str a ∧ xs = [.str b] ∧ Q (.bl (Txt.startswith a b)) H) :=
  mt1 (g := fun a b => .bl (Txt.startswith a b)) fun _ _ _ _ s _ h => PySem.SC.startswith (h _ s.toks rfl)
theorem mt_endswith : MtR X "str.endswith" (fun x xs H Q => ∃ a b, x = .str a ∧ xs = [.str b] ∧ Q (.bl (Txt.endswith a b)) H) :=
  mt1 (g := fun a b => .bl (Txt.endswith a b)) fun _ _ _ _ s _ h => PySem.SC.endswith (h _ s.toks rfl)
theorem mt_find : MtR X "str.find" (fun x xs H Q => ∃ a b, x = .str a ∧ xs = [.str b] ∧ Q (.int (Txt.find a b)) H) :=
  mt1 (g := fun a b => .int (Txt.find a b)) fun _ _ _ _ s _ h => PySem.SC.find (h _ (s.toks + 1) ⟨_, rfl⟩)
theorem call_int_str : CallR X (.type "int") (fun xs H Q => ∃ a n, xs = [.str a] ∧ PySem.intText? a = some n ∧ a.length ≤ 640 ∧ Q (.int n) H) := by
  intro pins s σ H xs us Q I rs h
  obtain ⟨a, n, rfl, hn, hl, h⟩ := h
  cases rs with
  | cons r1 rs =>
    cases rs
    obtain ⟨t, rfl⟩ := r1
    exact PySem.W.KIN.call_text hn hl ⟨.int n, H, I.tok _, ⟨_, rfl⟩, h⟩
end
section
variable {X : Cx} {o e : Expr} {to te : TE}
def tM0 (r : V → List V → Hp → VK → Prop) (to : TE) : TE := fun σ H Q => to σ H fun x H1 => (∃ a, x = .str a) ∧ r x [] H1 Q
def tM1 (r : V → List V → Hp → VK → Prop) (to te : TE) : TE := fun σ H Q => to σ H fun x H1 => (∃ a, x = .str a) ∧ te σ H1 fun y H2 => r x [y] H2 Q
theorem pe_m0 {id : String} {name : Str} {apos pos : Pos} {r : V → List V → Hp → VK → Prop} (slot : Slot "str" name id) (ty : typeOf (.builtin id) = pure (.type "method_descriptor")) (rule : MtR X id r) (ho : PE X o to)
    (hbase : attributeBase o name X.env (eval o X.env) = eval o X.env := by rfl) (hline : (apos.endLine == pos.line) = true := by rfl) : PE X (.Call (.Attribute o name apos) [] [] pos) (tM0 r to) := by
  intro pins s σ H Q I h
  refine PySem.Call_method0 hbase hline (thn (ho pins s σ H _ I h) fun v s1 ⟨x, H1, I1, r1, q1⟩ => ?_)
  obtain ⟨⟨a, rfl⟩, q1⟩ := q1
  obtain ⟨t, rfl⟩ := _root_.id r1
  exact ⟨"str", _, F.plainAttrs_str, slot, ty, typeIs_str _ _ _, (fun _ e => nomatch e), Calls.callWith_builtin rfl (PySem.evalArgs_none (rule pins s1 σ H1 _ [] _ [] Q I1 r1 .nil q1))⟩
theorem pe_m1 {id : String} {name : Str} {apos pos : Pos} {r : V → List V → Hp → VK → Prop} (slot : Slot "str" name id) (ty : typeOf (.builtin id) = pure (.type "method_descriptor")) (rule : MtR X id r) (ho : PE X o to) (he : PE X e te)
    (hs : starEach [e] X.env = [(false, eval e X.env)] := by rfl) (hbase : attributeBase o name X.env (eval o X.env) = eval o X.env := by rfl) (hline : (apos.endLine == pos.line) = true := by rfl) :
    PE X (.Call (.Attribute o name apos) [e] [] pos) (tM1 r to te) := by
  intro pins s σ H Q I h
  refine PySem.Call_method1 hbase hs hline (thn (ho pins s σ H _ I h) fun v s1 ⟨x, H1, I1, r1, q1⟩ => ?_)
  obtain ⟨⟨a, rfl⟩, q1⟩ := q1
  obtain ⟨t, rfl⟩ := _root_.id r1
  refine ⟨"str", _, F.plainAttrs_str, slot, ty, typeIs_str _ _ _, (fun _ e => nomatch e), Calls.callWith_builtin rfl (Calls.evalArgs_plain (Calls.spliced_cons ?_))⟩
  exact thn (he pins s1 σ H1 _ I1 q1) fun u s2 ⟨y, H2, I2, r2, q2⟩ => Calls.spliced_nil (rule pins s2 σ H2 _ [y] _ [u] Q I2 r1 (.cons r2 .nil) q2)
theorem pe_split {apos pos : Pos} (ho : PE X o to) (he : PE X e te) (hs : starEach [e] X.env = [(false, eval e X.env)] := by rfl) (hbase : attributeBase o "split" X.env (eval o X.env) = eval o X.env := by rfl) (hline : (apos.endLine == pos.line) = true := by rfl) :
    PE X (.Call (.Attribute o "split" apos) [e] [] pos) (tM1 (fun x xs H Q => ∃ a b, x = .str a ∧ xs = [.str b] ∧ (b.length == 0) = false ∧ a.length + 2 ≤ sizeLine ∧ rNewStrs (Txt.split a b) H Q) to te) :=
  pe_m1 F.slot_str_split F.type_str_split mt_split ho he hs hbase hline
theorem pe_join {apos pos : Pos} (ho : PE X o to) (he : PE X e te) (hs : starEach [e] X.env = [(false, eval e X.env)] := by rfl) (hbase : attributeBase o "join" X.env (eval o X.env) = eval o X.env := by rfl) (hline : (apos.endLine == pos.line) = true := by rfl) :
    PE X (.Call (.Attribute o "join" apos) [e] [] pos) (tM1 (fun x xs H Q => ∃ a p, ∃ ys : List Str, x = .str a ∧ xs = [.ref p] ∧ (SqL X.K H p (ys.map V.str) ∨ SqT X.K H p (ys.map V.str)) ∧
      (ys.map (·.length)).sum + ys.length * a.length ≤ 16777216 ∧ Q (.str (Txt.join a ys)) H) to te) :=
  pe_m1 F.slot_str_join F.type_str_join mt_join ho he hs hbase hline
end
end L2
namespace L2
open PySem PySem.Spec PyProof.Rows
section
variable {X : Cx}
end
theorem IsPart.raw {v : Value} {o : Option Int} (p : IsPart v o) : ∃ l : Option (Int × Tok), v = partValue l ∧ l.map (·.1) = o := by
  cases p with
  | none => exact ⟨none, rfl, rfl⟩
  | int i t => exact ⟨some (i, t), rfl, rfl⟩
def clipS (n d : Nat) : Option Int → Int
  | none => (d : Int)
  | some i => max 0 (min (if i < 0 then i + (n : Int) else i) (n : Int))
theorem clipS_eq (n d : Nat) (o : Option Int) : clipS n d o = ((HT.sIx n d o : Nat) : Int) := by
  cases o with
  | none => rfl
  | some v =>
    show max (0 : Int) (min (if v < 0 then v + (n : Int) else v) (n : Int)) = (((if v < 0 then (v + (n : Int)).toNat else min v.toNat n) : Nat) : Int)
    by_cases hv : v < 0
    · simp only [if_pos hv]
      omega
    · simp only [if_neg hv]
      omega
theorem sidx_clip (a b : Option Int) (n : Nat) : Builtin.Str.strSliceIndices a b 1 n = sliceRange (clipS n 0 a) (clipS n n b) 1 := by
  have h1 : ((1 : Int) > 0) = True := by simp
  cases a <;> cases b <;> first
    | rfl
    | (simp only [Builtin.Str.strSliceIndices, clipS, h1, if_true]; rfl)
    | simp [Builtin.Str.strSliceIndices, clipS]
theorem sidx (a b : Option Int) (n : Nat) : Builtin.Str.strSliceIndices a b 1 n = (List.range (HT.sIx n n b - HT.sIx n 0 a)).map (fun k => HT.sIx n 0 a + k) := by
  rw [sidx_clip, clipS_eq, clipS_eq]
  generalize HT.sIx n 0 a = p
  generalize HT.sIx n n b = q
  simp only [sliceRange, show ((1 : Int) > 0) = True from by simp, if_true]
  by_cases hlt : (p : Int) < q
  · have e3 : (((q : Int) - p + 1 - 1) / 1).toNat = q - p := by first | omega | (simp; done) | (simp; omega)
    simp only [hlt, if_true, e3]
    refine List.map_congr_left fun k _ => ?_
    omega
  · have : q - p = 0 := by omega
    simp [hlt, this]
def cutS (z : Str) (lo hi : Option Int) : Str :=
  ⟨((z.cps.toList.drop (HT.sIx z.length 0 lo)).take (HT.sIx z.length z.length hi - HT.sIx z.length 0 lo)).toArray⟩
theorem sliceText_cut (z : Str) (lo hi : Option Int) : PySem.StrLaws.sliceText z lo hi = cutS z lo hi := by
  have h1 : HT.sIx z.length 0 lo ≤ z.length := HT.sIx_le _ _ (Nat.zero_le _) _
  have h2 : HT.sIx z.length z.length hi ≤ z.length := HT.sIx_le _ _ (Nat.le_refl _) _
  have hp : HT.sIx z.length 0 lo ≤ max (HT.sIx z.length 0 lo) (HT.sIx z.length z.length hi) := Nat.le_max_left _ _
  have hq : max (HT.sIx z.length 0 lo) (HT.sIx z.length z.length hi) ≤ z.length := Nat.max_le.mpr ⟨h1, h2⟩
  have hd : max (HT.sIx z.length 0 lo) (HT.sIx z.length z.length hi) - HT.sIx z.length 0 lo = HT.sIx z.length z.length hi - HT.sIx z.length 0 lo := by omega
  have e : Builtin.Str.strSliceIndices lo hi 1 z.length =
      Builtin.Str.strSliceIndices (some ((HT.sIx z.length 0 lo : Nat) : Int)) (some ((max (HT.sIx z.length 0 lo) (HT.sIx z.length z.length hi) : Nat) : Int)) 1 z.length := by
    rw [PySem.StrLaws.strSliceIndices_plain hp hq, hd, sidx]
  have e2 : PySem.StrLaws.sliceText z lo hi =
      PySem.StrLaws.sliceText z (some ((HT.sIx z.length 0 lo : Nat) : Int)) (some ((max (HT.sIx z.length 0 lo) (HT.sIx z.length z.length hi) : Nat) : Int)) := by
    unfold PySem.StrLaws.sliceText
    rw [e]
  rw [e2, PySem.StrLaws.sliceText_nat z hp hq, hd]
  rfl
theorem cutS_length (z : Str) (lo hi : Option Int) : (cutS z lo hi).length ≤ z.length := by
  show (((z.cps.toList.drop (HT.sIx z.length 0 lo)).take (HT.sIx z.length z.length hi - HT.sIx z.length 0 lo)).toArray).size ≤ z.cps.size
  rw [List.size_toArray, List.length_take, List.length_drop, Array.length_toList]
  omega
def rSlS : V → Option Int → Option Int → Hp → VK → Prop := fun x lo hi H Q => ∃ z, x = .str z ∧ z.length ≤ sizeLine ∧ Q (.str (cutS z lo hi)) H
theorem sl_str {X : Cx} : SlR X rSlS := by
  intro pins s σ H x v vl vu lo hi sl Q I rx hs pl pu h
  obtain ⟨z, rfl, hz, q⟩ := h
  obtain ⟨t, rfl⟩ := rx
  obtain ⟨os, hos, hcs, hds⟩ := hs
  obtain ⟨l, rfl, rfl⟩ := IsPart.raw pl
  obtain ⟨u, rfl, rfl⟩ := IsPart.raw pu
  refine ⟨"str", _, F.slot_str_getitem.lookup, typeIs_str _ _ _, ?_⟩
  refine wpAny_getItem_str_slice (l := l) (u := u) (st := none) ⟨os, hos, hcs, hds⟩ rfl ?_
  have hl : (PySem.StrLaws.sliceText z (l.map (·.1)) (u.map (·.1))).length ≤ sizeLine := by
    rw [sliceText_cut]
    exact Nat.le_trans (cutS_length z _ _) hz
  rw [← sliceText_cut] at q
  unfold PySem.StrLaws.sliceText at q hl
  show Made.post (if ((1 : Int) == 1 && (Builtin.Str.strSliceIndices (l.map (·.1)) (u.map (·.1)) 1 z.length).length == z.length) = true then Made.val (.str z t)
    else Made.str ⟨((Builtin.Str.strSliceIndices (l.map (·.1)) (u.map (·.1)) 1 z.length).filterMap (z.cps[·]?)).toArray⟩) (EP X pins σ Q) s
  by_cases c : ((1 : Int) == 1 && (Builtin.Str.strSliceIndices (l.map (·.1)) (u.map (·.1)) 1 z.length).length == z.length) = true
  · rw [if_pos c] at q ⊢
    exact ⟨.str z, H, I, ⟨t, rfl⟩, q⟩
  · rw [if_neg c] at q hl ⊢
    exact ⟨hl, .str _, H, I.tok _, ⟨_, rfl⟩, q⟩
end L2
namespace Att
open PySem PySem.W PySem.Calls PyProof.Rows
section
variable {prog : Program} {w : World} {A : Around} {E : Value → Shared → Prop} {s : Shared} {K : Frag}
end
end Att
namespace L2
open PySem PySem.Spec PyProof.Rows
end L2
namespace L2
open PySem PySem.Spec PyProof.Rows
end L2
namespace L2
open PySem PySem.Spec PyProof.Rows
def inClass (s : Stmt) (j : Nat) : Stmt := match s with
  | .ClassDef _ _ _ body _ _ _ _ _ _ _ => body.getD j (.Pass ⟨0, 0, 0, 0⟩)
  | _ => .Pass ⟨0, 0, 0, 0⟩
def defArgs (s : Stmt) : Arguments := match s with
  | .FunctionDef _ a _ _ _ _ _ _ _ _ => a
  | _ => { posonlyargs := [], args := [], vararg := none, kwonlyargs := [], kw_defaults := [], kwarg := none, defaults := [] }
def defBody (s : Stmt) : List Stmt := match s with
  | .FunctionDef _ _ b _ _ _ _ _ _ _ => b
  | _ => []
def defScope (s : Stmt) : Scope := match s with
  | .FunctionDef _ _ _ _ _ _ sc _ _ _ => sc
  | _ => { kind := .function, names := [], isGenerator := false, isCoroutine := false }
abbrev CX0 : CXT := fun _ _ _ _ _ _ => False
abbrev E0 : XK := fun _ _ _ => False
structure Fun (K : PySem.W.Frag) (x qual : Str) (st : Stmt) (f : Addr) (fd : FuncData) : Prop where
  ex : ∃ (oc : Value) (od : Option Addr) (kV doc pm : Value) (an : Option Addr) (cdv ct : Value) (osl : Array (Option Value)),
    fd = PySem.W.fnOf x qual (defArgs st) (defBody st) (defScope st) .none kV doc pm an cdv ct ∧ K.lookup f = some ⟨oc, od, .func fd, osl⟩ ∧ PySem.W.codeIn K cdv qual = true
  kp : PySem.W.keepIn K (.ref f) = true
section
variable {P : Program} {w : World} {K : PySem.W.Frag} {mg : Str → Option Value} {base : Heap}
theorem Fun.binds {x qual : Str} {st : Stmt} {f : Addr} {fd : FuncData} {ps : List Str} (F : Fun K x qual st f fd)
    (h : ∀ (kV doc pm : Value) (an : Option Addr) (cdv ct : Value) (us : List Value), us.length = ps.length → bindArgs (PySem.W.fnOf x qual (defArgs st) (defBody st) (defScope st) .none kV doc pm an cdv ct) ⟨us, []⟩ = pure (ps.zip us)) : Binds K fd ps [] := by
  obtain ⟨oc, od, kV, doc, pm, an, cdv, ct, osl, rfl, lk, hcd⟩ := F.ex
  exact .all (h kV doc pm an cdv ct)
theorem fun_mk {x qual : Str} {st : Stmt} {f : Addr} {oc : Value} {od an : Option Addr} {osl : Array (Option Value)} {kV doc pm cdv ct : Value} (l : K.lookup f = some ⟨oc, od, .func (PySem.W.fnOf x qual (defArgs st) (defBody st) (defScope st) .none kV doc pm an cdv ct), osl⟩)
    (c : PySem.W.codeIn K cdv qual = true) (k : PySem.W.keepIn K (.ref f) = true) : Fun K x qual st f (PySem.W.fnOf x qual (defArgs st) (defBody st) (defScope st) .none kV doc pm an cdv ct) := ⟨⟨oc, od, kV, doc, pm, an, cdv, ct, osl, rfl, l, c⟩, k⟩
end
section
variable {X : Cx}
theorem pv (i : Nat) {x : Str} {pos : Pos} (hN : X.N[i]? = some x := by rfl) (hv : Vis X.env.scope x := by first | exact Or.inl rfl | exact Or.inr (Or.inl rfl) | exact Or.inr (Or.inr rfl)) (hd : (x == ("__debug__" : Str)) = false := by decide)
    (hcd : (x == ("__classdict__" : Str)) = false := by decide) : PE X (.Name x pos) (tVar i) := pe_var hN hv hd hcd
end
def Same (H H' : Hp) : Prop := ∀ b o, H b = some o → H' b = some o
theorem Same.refl (H : Hp) : Same H H := fun _ _ h => h
theorem Same.trans {H H1 H2 : Hp} (a : Same H H1) (b : Same H1 H2) : Same H H2 := fun c o h => b c o (a c o h)
theorem Same.free {H H' : Hp} (e : Same H H') {l : Addr} (h : H' l = Option.none) : H l = Option.none := by
  cases q : H l with
  | none => rfl
  | some o =>
    rw [e l o q] at h
    cases h
theorem Same.seq {K : PySem.W.Frag} {H H' : Hp} {a : Addr} {xs : List V} (e : Same H H') (h : SqL K H a xs) : SqL K H' a xs := by
  rcases h with (h | ⟨o, h⟩) | h
  · exact .inl (.inl (e _ _ h))
  · exact .inl (.inr ⟨o, e _ _ h⟩)
  · exact .inr h
section
variable {κ : Type} [DecidableEq κ]
end
end L2

section
set_option Elab.async false
set_option linter.all false
set_option maxRecDepth 100000
set_option maxHeartbeats 2000000
namespace L2
open PySem PySem.Spec PyProof.Rows
open PySem.W (WData Codec OpenSpec Well WellAll ReadsW ReadsAllW)
mutual
inductive Dw (K : PySem.W.Frag) (H : Hp) : V → WData → Prop
  | non : Dw K H .non .none
  | bl (b : Bool) : Dw K H (.bl b) (.bool b)
  | int (i : Int) : Dw K H (.int i) (.int i)
  | str (x : Str) : Dw K H (.str x) (.str x)
  | byt (b : Array UInt8) : Dw K H (.byt b) (.bytes b.toList)
  | lst {a : Addr} {xs : List V} {ds : List WData} : SqL K H a xs → DwAll K H xs ds → Dw K H (.ref a) (.list ds)
  | tup {a : Addr} {xs : List V} {ds : List WData} : SqT K H a xs → DwAll K H xs ds → Dw K H (.ref a) (.tuple ds)
inductive DwAll (K : PySem.W.Frag) (H : Hp) : List V → List WData → Prop
  | nil : DwAll K H [] []
  | cons {v : V} {vs : List V} {d : WData} {ds : List WData} : Dw K H v d → DwAll K H vs ds → DwAll K H (v :: vs) (d :: ds)
end
theorem dw_ints {K : PySem.W.Frag} {H : Hp} : ∀ ns : List Int, DwAll K H (ns.map V.int) (ns.map WData.int)
  | [] => .nil
  | n :: r => .cons (.int n) (dw_ints r)
theorem ints_dw {K : PySem.W.Frag} {H : Hp} : ∀ (ns : List Int) (xs : List V), DwAll K H xs (ns.map WData.int) → xs = ns.map V.int
  | [], xs, h => by
    cases h
    rfl
  | n :: r, xs, h => by
    cases h with
    | cons h1 h2 =>
      cases h1
      rw [ints_dw r _ h2] <;> rfl
section
variable {P : Program} {w : World} {K : PySem.W.Frag} {H : Hp} {h : Heap} {R : PySem.W.WRecords} {cl : Str → Option Addr}
theorem sqL_at {a : Addr} {xs : List V} (hok : HOk P w H h) (KX : K.In h) (q : SqL K H a xs) : ∃ (its : List Value) (o : Obj) (n : Nat), Vals xs its ∧ h.get? a = some o ∧ o.cls = .type "list" ∧ o.data = .seq its.toArray n := by
  rcases q with q | ⟨o, its, n, e, hc, _, hd, _, hv⟩
  · obtain ⟨_, its, n, hv, e⟩ := (show ObjOk P w H h a (.lst xs) from q.ok hok)
    exact ⟨its, _, n, hv, e, rfl, rfl⟩
  · exact ⟨its.toList, o, n, hv, KX _ _ e, hc, by simp [hd]⟩
theorem sqT_at {a : Addr} {xs : List V} (hok : HOk P w H h) (KX : K.In h) (q : SqT K H a xs) : ∃ (its : List Value) (o : Obj) (n : Nat), Vals xs its ∧ h.get? a = some o ∧ o.cls = .type "tuple" ∧ o.data = .seq its.toArray n := by
  rcases q with q | ⟨o, its, n, e, hc, hd, _, hv⟩
  · obtain ⟨_, its, hv, o, e, hc, n, hd⟩ := (show ObjOk P w H h a (.tup xs) from q.ok hok)
    exact ⟨its, o, n, hv, e, hc, hd⟩
  · exact ⟨its.toList, o, n, hv, KX _ _ e, hc, by simp [hd]⟩
mutual
theorem Dw.reads (hok : HOk P w H h) (KX : K.In h) : ∀ (d : WData) (v : V) (u : Value), Dw K H v d → RelV v u → ∃ as, ReadsW R cl h u d as
  | .none, _, _, x, r => by
    cases x
    cases r
    exact ⟨_, ReadsW.none⟩
  | .bool b, _, _, x, r => by
    cases x
    cases r
    exact ⟨_, ReadsW.bool b⟩
  | .int i, _, _, x, r => by
    cases x
    obtain ⟨t, rfl⟩ := r
    exact ⟨_, ReadsW.int i t⟩
  | .str s, _, _, x, r => by
    cases x
    obtain ⟨t, rfl⟩ := r
    exact ⟨_, ReadsW.str s t⟩
  | .bytes b, _, _, x, r => by
    cases x
    obtain ⟨t, rfl⟩ := r
    exact ⟨_, ReadsW.bytes _ t⟩
  | .list ds, _, _, x, r => by
    cases x with
    | lst hs ha =>
      cases r
      obtain ⟨its, o, n, rv, ho, hc, hd⟩ := sqL_at hok KX hs
      obtain ⟨as, hr⟩ := Dw.readsAll hok KX ds _ its ha rv
      exact ⟨_, ReadsW.list ho hc hd hr⟩
  | .tuple ds, _, _, x, r => by
    cases x with
    | tup hs ha =>
      cases r
      obtain ⟨its, o, n, rv, ho, hc, hd⟩ := sqT_at hok KX hs
      obtain ⟨as, hr⟩ := Dw.readsAll hok KX ds _ its ha rv
      exact ⟨_, ReadsW.tuple ho hc hd hr⟩
  | .float _, _, _, x, _ => by cases x
  | .dict _, _, _, x, _ => by cases x
  | .bytearray _, _, _, x, _ => by cases x
  | .set _, _, _, x, _ => by cases x
  | .frozenset _, _, _, x, _ => by cases x
  | .obj _ _, _, _, x, _ => by cases x
theorem Dw.readsAll (hok : HOk P w H h) (KX : K.In h) : ∀ (ds : List WData) (vs : List V) (us : List Value), DwAll K H vs ds → Vals vs us → ∃ as, ReadsAllW R cl h us ds as
  | [], _, _, x, r => by
    cases x
    cases r
    exact ⟨_, ReadsAllW.nil⟩
  | d :: ds, _, _, x, r => by
    cases x with
    | cons h1 h2 =>
      cases r with
      | cons r1 r2 =>
        obtain ⟨as, q1⟩ := Dw.reads hok KX d _ _ h1 r1
        obtain ⟨bs, q2⟩ := Dw.readsAll hok KX ds _ _ h2 r2
        exact ⟨_, ReadsAllW.cons q1 q2⟩
end
end
mutual
def plW : WData → Bool
  | .none => true
  | .bool _ => true
  | .int _ => true
  | .str _ => true
  | .bytes _ => true
  | .list xs => plWs xs
  | .tuple xs => plWs xs
  | _ => false
def plWs : List WData → Bool
  | [] => true
  | x :: r => plW x && plWs r
end
theorem plWs_map {α : Type} {f : α → WData} (h : ∀ a, plW (f a) = true) : ∀ l : List α, plWs (l.map f) = true
  | [] => rfl
  | x :: r => by
    show (plW (f x) && plWs (r.map f)) = true
    rw [h x, plWs_map h r] <;> rfl
theorem pl_enc : ∀ (c : Codec) (a : c.denote), plW (c.enc a) = true
  | .unit, _ => rfl
  | .bool, _ => rfl
  | .int _ _, _ => rfl
  | .nat _ _, _ => rfl
  | .u8, _ => rfl
  | .bytes _ _, _ => rfl
  | .text _ _ _ _, _ => rfl
  | .list _ _ c, a => plWs_map (fun x => pl_enc c x) a
  | .pair c d, a => by
    show (plW (c.enc a.1) && (plW (d.enc a.2) && true)) = true
    rw [pl_enc c a.1, pl_enc d a.2] <;> rfl
  | .triple c d e, a => by
    show (plW (c.enc a.1) && (plW (d.enc a.2.1) && (plW (e.enc a.2.2) && true))) = true
    rw [pl_enc c a.1, pl_enc d a.2.1, pl_enc e a.2.2] <;> rfl
  | .option c, none => rfl
  | .option c, some x => pl_enc c x
theorem pl_encAll : ∀ (cs : List Codec) (a : Codec.denoteAll cs), plWs (Codec.encAll cs a) = true
  | [], _ => rfl
  | c :: cs, a => by
    show (plW (c.enc a.1) && plWs (Codec.encAll cs a.2)) = true
    rw [pl_enc c a.1, pl_encAll cs a.2] <;> rfl
theorem weight_mem : ∀ {xs : List WData} {d : WData}, d ∈ xs → d.weight ≤ WData.weightAll xs
  | [], d, h => absurd h (by simp)
  | x :: r, d, h => by
    show d.weight ≤ x.weight + 1 + WData.weightAll r
    rcases List.mem_cons.mp h with e | m
    · rw [e]
      omega
    · have z := weight_mem m
      omega
def toV : Value → V
  | .none => .non
  | .bool b => .bl b
  | .int i _ => .int i
  | .str x _ => .str x
  | .bytes b _ => .byt b
  | .ref a => .ref a
  | _ => .non
def OkU (A : List Addr) : Value → Prop
  | .none => True
  | .bool _ => True
  | .int _ _ => True
  | .str _ _ => True
  | .bytes _ _ => True
  | .ref a => a ∈ A
  | _ => False
theorem OkU.mono {A B : List Addr} (h : ∀ a ∈ A, a ∈ B) : ∀ {u : Value}, OkU A u → OkU B u := fun {u} x => by
  cases u with
  | ref a => exact h a x
  | none => trivial
  | bool b => trivial
  | int i t => trivial
  | str s t => trivial
  | bytes b t => trivial
  | _ => exact False.elim x
theorem relV_toV {A : List Addr} {u : Value} (x : OkU A u) : RelV (toV u) u := by
  cases u with
  | ref a => rfl
  | none => rfl
  | bool b => rfl
  | int i t => exact ⟨t, rfl⟩
  | str s t => exact ⟨t, rfl⟩
  | bytes b t => exact ⟨t, rfl⟩
  | _ => exact False.elim x
theorem vals_toV {A : List Addr} : ∀ {vs : List Value}, (∀ u ∈ vs, OkU A u) → Vals (vs.map toV) vs
  | [], _ => .nil
  | u :: r, h => .cons (relV_toV (h u (List.mem_cons_self ..))) (vals_toV fun x hx => h x (List.mem_cons_of_mem _ hx))
def ArgOb (h : Heap) (A : List Addr) (a : Addr) : Prop := ∃ vs : List Value, vs.length ≤ sizeLine ∧ (∀ u ∈ vs, OkU A u) ∧
  (h.get? a = some { cls := .type "list", data := .seq vs.toArray } ∨ h.get? a = some { cls := .type "tuple", data := .seq vs.toArray })
theorem ArgOb.mono {h : Heap} {A B : List Addr} {a : Addr} (k : ∀ a ∈ A, a ∈ B) (x : ArgOb h A a) : ArgOb h B a := by
  obtain ⟨vs, h1, h2, h3⟩ := x
  exact ⟨vs, h1, fun u hu => (h2 u hu).mono k, h3⟩
theorem wellAll_len {P : Params} {h : Heap} : ∀ {vs : List Value} {ds : List WData}, WellAll P h vs ds → vs.length = ds.length
  | _, _, .nil => rfl
  | _, _, .cons _ b => by
    show _ + 1 = _ + 1
    rw [wellAll_len b]
theorem well_list {P : Params} {h : Heap} {v : Value} {ds : List WData} (x : Well P h v (.list ds)) : ∃ (a : Addr) (vs : List Value), v = .ref a ∧ h.get? a = some { cls := .type "list", data := .seq vs.toArray } ∧ WellAll P h vs ds := by
  cases x with
  | list ho hall => exact ⟨_, _, rfl, ho, hall⟩
theorem well_tuple {P : Params} {h : Heap} {v : Value} {ds : List WData} (x : Well P h v (.tuple ds)) : ∃ (a : Addr) (vs : List Value), v = .ref a ∧ h.get? a = some { cls := .type "tuple", data := .seq vs.toArray } ∧ WellAll P h vs ds := by
  cases x with
  | tuple ho hall => exact ⟨_, _, rfl, ho, hall⟩
theorem well_cons {P : Params} {h : Heap} {us : List Value} {d : WData} {ds : List WData} (x : WellAll P h us (d :: ds)) : ∃ (v : Value) (vs : List Value), us = v :: vs ∧ Well P h v d ∧ WellAll P h vs ds := by
  cases x with
  | cons a b => exact ⟨_, _, rfl, a, b⟩
theorem line_of {n : Nat} (h : n ≤ 1048576) : n ≤ sizeLine := Nat.le_trans h (by decide)
section
variable {P : Params} {h : Heap}
mutual
theorem area_one : ∀ (d : WData) (v : Value), Well P h v d → plW d = true → d.weight ≤ 1048576 → ∃ A : List Addr, OkU A v ∧ ∀ a ∈ A, ArgOb h A a
  | .none, _, x, _, _ => by
    cases x
    exact ⟨[], trivial, fun a m => absurd m (by simp)⟩
  | .bool b, _, x, _, _ => by
    cases x
    exact ⟨[], trivial, fun a m => absurd m (by simp)⟩
  | .int i, _, x, _, _ => by
    cases x
    exact ⟨[], trivial, fun a m => absurd m (by simp)⟩
  | .str s, _, x, _, _ => by
    cases x
    exact ⟨[], trivial, fun a m => absurd m (by simp)⟩
  | .bytes b, _, x, _, _ => by
    cases x
    exact ⟨[], trivial, fun a m => absurd m (by simp)⟩
  | .list ds, _, x, p, z => by
    obtain ⟨a, vs, rfl, ho, hall⟩ := well_list x
    have z2 : WData.weightAll ds ≤ 1048576 := z
    obtain ⟨A, h1, h2⟩ := area_all ds _ hall p fun d hd => Nat.le_trans (weight_mem hd) z2
    have k : ∀ b ∈ A, b ∈ a :: A := fun b hb => List.mem_cons_of_mem _ hb
    refine ⟨a :: A, List.mem_cons_self .., fun b hb => ?_⟩
    rcases List.mem_cons.mp hb with e | m
    · rw [e]
      exact ⟨vs, line_of (by rw [wellAll_len hall]; exact Nat.le_trans (PySem.W.length_le_weightAllW ds) z2), fun u hu => (h1 u hu).mono k, .inl ho⟩
    · exact (h2 b m).mono k
  | .tuple ds, _, x, p, z => by
    obtain ⟨a, vs, rfl, ho, hall⟩ := well_tuple x
    have z2 : WData.weightAll ds ≤ 1048576 := z
    obtain ⟨A, h1, h2⟩ := area_all ds _ hall p fun d hd => Nat.le_trans (weight_mem hd) z2
    have k : ∀ b ∈ A, b ∈ a :: A := fun b hb => List.mem_cons_of_mem _ hb
    refine ⟨a :: A, List.mem_cons_self .., fun b hb => ?_⟩
    rcases List.mem_cons.mp hb with e | m
    · rw [e]
      exact ⟨vs, line_of (by rw [wellAll_len hall]; exact Nat.le_trans (PySem.W.length_le_weightAllW ds) z2), fun u hu => (h1 u hu).mono k, .inr ho⟩
    · exact (h2 b m).mono k
  | .float _, _, _, p, _ => Bool.noConfusion (show false = true from p)
  | .dict _, _, _, p, _ => Bool.noConfusion (show false = true from p)
  | .bytearray _, _, _, p, _ => Bool.noConfusion (show false = true from p)
  | .set _, _, _, p, _ => Bool.noConfusion (show false = true from p)
  | .frozenset _, _, _, p, _ => Bool.noConfusion (show false = true from p)
  | .obj _ _, _, _, p, _ => Bool.noConfusion (show false = true from p)
theorem area_all : ∀ (ds : List WData) (vs : List Value), WellAll P h vs ds → plWs ds = true → (∀ d ∈ ds, d.weight ≤ 1048576) → ∃ A : List Addr, (∀ u ∈ vs, OkU A u) ∧ ∀ a ∈ A, ArgOb h A a
  | [], _, x, _, _ => by
    cases x
    exact ⟨[], fun u m => absurd m (by simp), fun a m => absurd m (by simp)⟩
  | d :: ds, _, x, p, z => by
    obtain ⟨v, vs, rfl, x1, x2⟩ := well_cons x
    have q : plW d = true ∧ plWs ds = true := Bool.and_eq_true_iff.mp p
    obtain ⟨A, a1, a2⟩ := area_one d v x1 q.1 (z d (List.mem_cons_self ..))
    obtain ⟨B, b1, b2⟩ := area_all ds vs x2 q.2 fun e he => z e (List.mem_cons_of_mem _ he)
    have kA : ∀ b ∈ A, b ∈ A ++ B := fun b hb => List.mem_append.mpr (.inl hb)
    have kB : ∀ b ∈ B, b ∈ A ++ B := fun b hb => List.mem_append.mpr (.inr hb)
    refine ⟨A ++ B, fun u hu => ?_, fun b hb => ?_⟩
    · rcases List.mem_cons.mp hu with e | m
      · rw [e]
        exact a1.mono kA
      · exact (b1 u m).mono kB
    · rcases List.mem_append.mp hb with m | m
      · exact (a2 b m).mono kA
      · exact (b2 b m).mono kB
end
end
def hoOf (o : Obj) : Option HO := match o.data with
  | .seq vs _ => if (o.cls == Value.type "list") = true then some (.frz o (.lst (vs.toList.map toV))) else some (.frz o (.tup (vs.toList.map toV)))
  | _ => none
def argH (K : PySem.W.Frag) (h : Heap) (A : List Addr) : Hp := fun b => if b ∈ A then (if (K.lookup b).isNone = true then (h.get? b).bind hoOf else none) else none
def OnlyF (H : Hp) : Prop := ∀ b, H b = none ∨ ∃ o u, H b = some (.frz o u)
theorem hoOf_lst (vs : List Value) : hoOf { cls := .type "list", data := .seq vs.toArray } = some (.frz { cls := .type "list", data := .seq vs.toArray } (.lst (vs.map toV))) := by
  show (if (Value.type "list" == Value.type "list") = true then some (HO.frz { cls := .type "list", data := .seq vs.toArray } (.lst (vs.toArray.toList.map toV))) else some (HO.frz { cls := .type "list", data := .seq vs.toArray } (.tup (vs.toArray.toList.map toV)))) = _
  rw [if_pos (beq_self_eq_true _)]
theorem hoOf_tup (vs : List Value) : hoOf { cls := .type "tuple", data := .seq vs.toArray } = some (.frz { cls := .type "tuple", data := .seq vs.toArray } (.tup (vs.map toV))) := by
  show (if (Value.type "tuple" == Value.type "list") = true then some (HO.frz { cls := .type "tuple", data := .seq vs.toArray } (.lst (vs.toArray.toList.map toV))) else some (HO.frz { cls := .type "tuple", data := .seq vs.toArray } (.tup (vs.toArray.toList.map toV)))) = _
  rw [if_neg (by decide)]
section
variable {P : Program} {w : World} {K : PySem.W.Frag} {h : Heap} {A : List Addr}
theorem argH_at {b : Addr} {o : Obj} (hb : b ∈ A) (hk : K.lookup b = none) (e : h.get? b = some o) : argH K h A b = hoOf o := by
  unfold argH
  rw [if_pos hb, hk, if_pos (show (none : Option Obj).isNone = true from rfl), e] <;> rfl
theorem of_argH {b : Addr} {u : HO} (q : argH K h A b = some u) : b ∈ A ∧ K.lookup b = none := by
  unfold argH at q
  by_cases hb : b ∈ A
  · rw [if_pos hb] at q
    cases hk : K.lookup b with
    | none => exact ⟨hb, rfl⟩
    | some o =>
      rw [hk, if_neg (by simp)] at q
      cases q
  · rw [if_neg hb] at q
    cases q
theorem argH_is (ar : ∀ a ∈ A, ArgOb h A a) {b : Addr} {u : HO} (q : argH K h A b = some u) : K.lookup b = none ∧ ∃ vs : List Value, vs.length ≤ sizeLine ∧ (∀ u ∈ vs, OkU A u) ∧
    ((h.get? b = some { cls := .type "list", data := .seq vs.toArray } ∧ u = .frz { cls := .type "list", data := .seq vs.toArray } (.lst (vs.map toV))) ∨
     (h.get? b = some { cls := .type "tuple", data := .seq vs.toArray } ∧ u = .frz { cls := .type "tuple", data := .seq vs.toArray } (.tup (vs.map toV)))) := by
  obtain ⟨hb, hk⟩ := of_argH q
  obtain ⟨vs, h1, h2, h3⟩ := ar b hb
  refine ⟨hk, vs, h1, h2, ?_⟩
  rcases h3 with e | e
  · rw [argH_at hb hk e, hoOf_lst] at q
    exact .inl ⟨e, (Option.some.inj q).symm⟩
  · rw [argH_at hb hk e, hoOf_tup] at q
    exact .inr ⟨e, (Option.some.inj q).symm⟩
theorem argH_only (ar : ∀ a ∈ A, ArgOb h A a) : OnlyF (argH K h A) := fun b => by
  cases q : argH K h A b with
  | none => exact .inl rfl
  | some u =>
    obtain ⟨_, vs, _, _, ⟨_, e⟩ | ⟨_, e⟩⟩ := argH_is ar q
    · exact .inr ⟨_, _, by rw [e]⟩
    · exact .inr ⟨_, _, by rw [e]⟩
theorem argH_ok (ar : ∀ a ∈ A, ArgOb h A a) : HOk P w (argH K h A) h := fun b u q => by
  obtain ⟨_, vs, h1, h2, ⟨e, rfl⟩ | ⟨e, rfl⟩⟩ := argH_is ar q
  · exact ⟨e, by rw [List.length_map]; exact h1, vs, _, vals_toV h2, e⟩
  · exact ⟨e, by rw [List.length_map]; exact h1, vs, vals_toV h2, _, e, rfl, _, rfl⟩
theorem seq_inj {c c' : Value} {vs us : List Value} (e : (some { cls := c, data := .seq vs.toArray } : Option Obj) = some { cls := c', data := .seq us.toArray }) : c = c' ∧ vs = us := by
  have e1 := Option.some.inj e
  have e2 : c = c' := congrArg Obj.cls e1
  have e3 : Data.seq vs.toArray = Data.seq us.toArray := congrArg Obj.data e1
  injection e3 with e4
  refine ⟨e2, ?_⟩
  have e5 := congrArg Array.toList e4
  simpa using e5
theorem argL (KX : K.In h) (ar : ∀ a ∈ A, ArgOb h A a) {a : Addr} {vs : List Value} (ha : a ∈ A) (e : h.get? a = some { cls := .type "list", data := .seq vs.toArray }) : (∀ u ∈ vs, OkU A u) ∧ SqL K (argH K h A) a (vs.map toV) := by
  obtain ⟨us, h1, h2, h3⟩ := ar a ha
  have hu : us = vs := by
    rcases h3 with q | q
    · rw [e] at q
      exact (seq_inj q).2.symm
    · rw [e] at q
      exact absurd (Value.type.inj (seq_inj q).1) (by decide)
  subst hu
  refine ⟨h2, ?_⟩
  cases hk : K.lookup a with
  | none => exact .inl (.inr ⟨_, by rw [argH_at ha hk e, hoOf_lst]⟩)
  | some o =>
    have e2 := KX a o hk
    rw [e] at e2
    obtain rfl := Option.some.inj e2
    exact .inr ⟨_, us.toArray, _, hk, rfl, rfl, rfl, by rw [List.size_toArray]; exact h1, by simpa using vals_toV h2⟩
theorem argT (KX : K.In h) (ar : ∀ a ∈ A, ArgOb h A a) {a : Addr} {vs : List Value} (ha : a ∈ A) (e : h.get? a = some { cls := .type "tuple", data := .seq vs.toArray }) : (∀ u ∈ vs, OkU A u) ∧ SqT K (argH K h A) a (vs.map toV) := by
  obtain ⟨us, h1, h2, h3⟩ := ar a ha
  have hu : us = vs := by
    rcases h3 with q | q
    · rw [e] at q
      exact absurd (Value.type.inj (seq_inj q).1) (by decide)
    · rw [e] at q
      exact (seq_inj q).2.symm
  subst hu
  refine ⟨h2, ?_⟩
  cases hk : K.lookup a with
  | none => exact .inl (.inr ⟨_, by rw [argH_at ha hk e, hoOf_tup]⟩)
  | some o =>
    have e2 := KX a o hk
    rw [e] at e2
    obtain rfl := Option.some.inj e2
    exact .inr ⟨_, us.toArray, _, hk, rfl, rfl, by rw [List.size_toArray]; exact h1, by simpa using vals_toV h2⟩
mutual
theorem dw_one {Pm : Params} (KX : K.In h) (ar : ∀ a ∈ A, ArgOb h A a) : ∀ (d : WData) (v : Value), Well Pm h v d → plW d = true → OkU A v → Dw K (argH K h A) (toV v) d
  | .none, _, x, _, _ => by
    cases x
    exact .non
  | .bool b, _, x, _, _ => by
    cases x
    exact .bl b
  | .int i, _, x, _, _ => by
    cases x
    exact .int i
  | .str s, _, x, _, _ => by
    cases x
    exact .str s
  | .bytes b, _, x, _, _ => by
    cases x
    have z := Dw.byt (K := K) (H := argH K h A) b.toArray
    exact z
  | .list ds, _, x, p, hu => by
    obtain ⟨a, vs, rfl, ho, hall⟩ := well_list x
    obtain ⟨h2, hs⟩ := argL KX ar hu ho
    exact .lst hs (dw_all KX ar ds _ hall p h2)
  | .tuple ds, _, x, p, hu => by
    obtain ⟨a, vs, rfl, ho, hall⟩ := well_tuple x
    obtain ⟨h2, hs⟩ := argT KX ar hu ho
    exact .tup hs (dw_all KX ar ds _ hall p h2)
  | .float _, _, _, p, _ => Bool.noConfusion (show false = true from p)
  | .dict _, _, _, p, _ => Bool.noConfusion (show false = true from p)
  | .bytearray _, _, _, p, _ => Bool.noConfusion (show false = true from p)
  | .set _, _, _, p, _ => Bool.noConfusion (show false = true from p)
  | .frozenset _, _, _, p, _ => Bool.noConfusion (show false = true from p)
  | .obj _ _, _, _, p, _ => Bool.noConfusion (show false = true from p)
theorem dw_all {Pm : Params} (KX : K.In h) (ar : ∀ a ∈ A, ArgOb h A a) : ∀ (ds : List WData) (vs : List Value), WellAll Pm h vs ds → plWs ds = true → (∀ u ∈ vs, OkU A u) → DwAll K (argH K h A) (vs.map toV) ds
  | [], _, x, _, _ => by
    cases x
    exact .nil
  | d :: ds, _, x, p, hu => by
    obtain ⟨v, vs, rfl, x1, x2⟩ := well_cons x
    have q : plW d = true ∧ plWs ds = true := Bool.and_eq_true_iff.mp p
    exact .cons (dw_one KX ar d v x1 q.1 (hu _ (List.mem_cons_self ..))) (dw_all KX ar ds vs x2 q.2 fun u m => hu u (List.mem_cons_of_mem _ m))
end
end
theorem spec_call {P : Program} {w : World} {K : PySem.W.Frag} {mg mb : Str → Option Value} {CX : CXT} {k : Nat} {fa : Addr} {fd : FuncData} {ps : List Str} {sp : Sp} {s₁ : Shared} {vals : List Value} {ds : List WData} {R : PySem.W.WRecords} {cl : Str → Option Addr} {d0 : WData}
    (KX : K.In s₁.heap) (hns : s₁.heap.Ns mainGlobals mg) (hb : s₁.heap.Ns builtinsNs mb) (hbb : ∀ x : Str, x ≠ "__name__" → mb x = bootBuiltins x) (hlim : s₁.heap.NoLimit) (hg : s₁.gens = #[])
    (hwl : WellAll w.params s₁.heap vals ds) (hpl : plWs ds = true) (hwt : ∀ d ∈ ds, d.weight ≤ 1048576) (hr : Room k callerA)
    (F : ∀ base : Heap, K.In base → base.Ns mainGlobals mg → FnOk P w K mg base CX k fa fd ps sp) (hbind : ∀ (s : Shared) (us : List Value), us.length = ps.length → BindsTo s fd ⟨us, []⟩ (ps.zip us)) (hlen : ds.length = ps.length)
    (hsp : ∀ (H : Hp) (xs : List V), OnlyF H → DwAll K H xs ds → sp xs H (fun v H' => Dw K H' v d0) fun _ _ _ => False)
    (hCX : ∀ H e s', CX [] H s₁ (fun _ _ _ => False) e s' → False) :
    codeAny (model P w) callerA (.call (.ref fa) ⟨vals, []⟩) (fun r s' => ∃ u as, r = .ok (.ret u) ∧ ReadsW R cl s'.heap u d0 as ∧ OldK s₁.heap s'.heap ∧ s'.os = s₁.os ∧ AllBare s'.gens) s₁ := by
  obtain ⟨A, ho, ar⟩ := area_all ds vals hwl hpl hwt
  have hO : OnlyF (argH K s₁.heap A) := argH_only ar
  have hok : HOk P w (argH K s₁.heap A) s₁.heap := argH_ok ar
  have hS := dw_all KX ar ds vals hwl hpl ho
  have hV := vals_toV ho
  have hK : ∀ b u, argH K s₁.heap A b = some u → K.lookup b = none := fun b u q => (argH_is ar q).1
  have noA : ∀ {b : Addr} {o : Obj} {es : Array DictEntry} {ep : Nat}, s₁.heap.get? b = some o → o.data = .dict es ep → argH K s₁.heap A b = none := fun {b o es ep} e d => by
    cases q : argH K s₁.heap A b with
    | none => rfl
    | some u =>
      obtain ⟨_, vs, _, _, ⟨e2, _⟩ | ⟨e2, _⟩⟩ := argH_is ar q
      · rw [e2] at e
        cases e
        have d' : Data.seq vs.toArray _ = Data.dict es ep := d
        cases d'
      · rw [e2] at e
        cases e
        have d' : Data.seq vs.toArray _ = Data.dict es ep := d
        cases d'
  generalize argH K s₁.heap A = H at hO hok hS hK noA
  have base_of : ∀ {b : Addr} {o : Obj}, s₁.heap.get? b = some o → H b = none → (hidT s₁.heap H).get? b = some o := fun e n => hidT_get e n
  have nsK : ∀ {b : Addr} {m : Str → Option Value}, s₁.heap.Ns b m → (hidT s₁.heap H).Ns b m := fun {b m} ⟨o, es, ep, e, d, r⟩ => ⟨o, es, ep, base_of e (noA e d), d, r⟩
  have nK : ∀ b o, K.lookup b = some o → H b = none := fun b o e => by
    cases q : H b with
    | none => rfl
    | some u =>
      rw [hK b u q] at e
      cases e
  have hKb : K.In (hidT s₁.heap H) := fun b o e => base_of (KX b o e) (nK b o e)
  have hM : Mod K mg (hidT s₁.heap H) := ⟨hKb, nsK hns, ⟨mb, nsK hb, hbb⟩, let ⟨mc, h1, h2⟩ := hlim; ⟨mc, nsK h1, h2⟩⟩
  have e0 : Env0 P w K mg (hidT s₁.heap H) callerA [] s₁ H := ⟨rfl, hM, fun b o e => of_hidT e, Nat.le_of_eq (hidT_size _ _), trivial, fun b hb => absurd (show b ∈ ([] : List Addr) from hb) (by simp), hok, .of_eq hg⟩
  have hl : vals.length = ps.length := by rw [wellAll_len hwl]; exact hlen
  refine codeAny_mono ((F _ hKb (nsK hns)).run callerA [] s₁ H ⟨vals, []⟩ vals (vals.map toV) _ _ hr e0 (hbind s₁ vals hl) hV (hsp H _ hO hS)) fun r s' x => ?_
  cases r with
  | error e => exact (hCX H e s' x).elim
  | ok fl =>
    cases fl with
    | next => exact False.elim x
    | brk => exact False.elim x
    | cont => exact False.elim x
    | ret u =>
      obtain ⟨v, H', os, bare, un, hok', r', q⟩ := x
      have kept : ∀ b o, s₁.heap.get? b = some o → s'.heap.get? b = some o := fun b o e => by
        cases q2 : H b with
        | none => exact un.keep b o e q2 (by intro z; exact absurd (show b ∈ ([] : List Addr) from z) (by simp)) (by simp)
        | some u2 =>
          rcases hO b with z | ⟨ob, u3, z⟩
          · rw [q2] at z
            cases z
          · have z2 := un.frzs b ob _ z
            obtain ⟨e1, _⟩ := hok b _ z
            obtain ⟨e2, _⟩ := hok' b _ z2
            rw [e] at e1
            cases e1
            exact e2
      have KX' : K.In s'.heap := fun b o e => kept b o (KX b o e)
      obtain ⟨as, hrd⟩ := Dw.reads (R := R) (cl := cl) hok' KX' d0 v u q r'
      exact ⟨u, as, rfl, hrd, OldK.of_keep kept, os, bare⟩
theorem layable_weight {ds : List WData} (h : WData.layableAll ds = true) : ∀ d ∈ ds, d.weight ≤ 1048576 := fun d hd =>
  (PySem.W.layableW_iff.mp (List.all_eq_true.mp h d hd)).2.2
theorem encAll_len : ∀ (cs : List Codec) (a : Codec.denoteAll cs), (Codec.encAll cs a).length = cs.length
  | [], _ => rfl
  | c :: cs, a => by
    show (Codec.encAll cs a.2).length + 1 = cs.length + 1
    rw [encAll_len cs a.2]
theorem walk_spec {r : OpenSpec} {k : Nat} {q : Program} {loose : List Str} {XP : (Str → Option Value) → Heap → Prop} {YP : World → Heap → Prop} {d : DefRec} {K : Params → PySem.W.Frag} {CX : World → CXT} {ps : List Str} {sp : World → Sp}
    (hwell : r.wellSaid = true) (hdf : d.params.defaults = []) (hlen : r.args.length = ps.length) (hr : Room k callerA)
    (hY : ∀ (w : World) (h : Heap), YP w h → (K w.params).In h)
    (F : ∀ (w : World) (mg : Str → Option Value) (fa : Addr) (h : Heap), YP w h → (K w.params).In h → h.Ns mainGlobals mg → mg d.name = some (.ref fa) →
      ∃ fd : FuncData, (∀ (s : Shared) (us : List Value), us.length = ps.length → BindsTo s fd ⟨us, []⟩ (ps.zip us)) ∧
        ∀ base : Heap, (K w.params).In base → base.Ns mainGlobals mg → FnOk r.prog w (K w.params) mg base (CX w) k fa fd ps (sp w))
    (hsp : ∀ (w : World) (H : Hp) (xs : List V) (a : Codec.denoteAll r.args), OnlyF H → Codec.withinAll r.args a = true → Codec.app r.args r.asked a = true → DwAll (K w.params) H xs (Codec.encAll r.args a) →
      sp w xs H (fun v H' => Dw (K w.params) H' v (r.ret.enc (Codec.app r.args r.f a))) fun _ _ _ => False)
    (hCX : ∀ (w : World) (H : Hp) (s : Shared) (e : Value) (s' : Shared), CX w [] H s (fun _ _ _ => False) e s' → False) :
    PySem.W.WalkOS q loose XP YP r d [] (fun f vs => PySem.call f vs) := by
  intro w s_0 s₁ mg mb G Y fa o pm cd doc dV kV ho hd hcd hD hmg hg args vals as hpre hlay hrd hwl hlo
  obtain ⟨a, e1, e2⟩ := PySem.W.os_pre_some hpre
  obtain ⟨e3, hwi⟩ := Codec.encAll_of_decAll r.args args a e1
  subst e3
  have KX := hY w _ Y
  obtain ⟨fd, hb, hF⟩ := F w mg fa _ Y KX G.T.g hmg
  refine PySem.W.enter_call (codeAny_mono (spec_call (R := []) (cl := classAt s_0.heap) (d0 := r.ret.enc (Codec.app r.args r.f a)) KX G.T.g G.T.b G.T.builtins G.T.nolimit hg hwl (pl_encAll _ _) (layable_weight hlay) hr hF hb (by rw [encAll_len]; exact hlen)
    (fun H xs hO hS => hsp w H xs a hO hwi e2 hS) fun H e s' => hCX w H s₁ e s') fun r' s' hq => ?_)
  obtain ⟨u, as', rfl, h1, h2, h3, h4⟩ := hq
  exact ⟨.inl ⟨u, _, as', rfl, fun _ => rfl, h1, (OpenSpec.post_iff hwell hwi _ _).mpr rfl, fun z => Bool.noConfusion (show false = true from z)⟩, h2, h3, h4⟩
theorem walk_specK {r : OpenSpec} {k : Nat} {q : Program} {loose : List Str} {XP : (Str → Option Value) → Heap → Prop} {YP : World → Heap → Prop} {d : DefRec} {K : Params → PySem.W.Frag} {CX : CXT} {ps : List Str} {sp : PySem.W.Frag → Sp}
    (hwell : r.wellSaid = true) (hdf : d.params.defaults = []) (hlen : r.args.length = ps.length) (hr : Room k callerA)
    (hY : ∀ (w : World) (h : Heap), YP w h → (K w.params).In h)
    (F : ∀ (w : World) (mg : Str → Option Value) (fa : Addr) (h : Heap), YP w h → (K w.params).In h → h.Ns mainGlobals mg → mg d.name = some (.ref fa) →
      ∃ fd : FuncData, (∀ (s : Shared) (us : List Value), us.length = ps.length → BindsTo s fd ⟨us, []⟩ (ps.zip us)) ∧
        ∀ base : Heap, (K w.params).In base → base.Ns mainGlobals mg → FnOk r.prog w (K w.params) mg base CX k fa fd ps (sp (K w.params)))
    (hsp : ∀ (K : PySem.W.Frag) (H : Hp) (xs : List V) (a : Codec.denoteAll r.args), OnlyF H → Codec.withinAll r.args a = true → Codec.app r.args r.asked a = true → DwAll K H xs (Codec.encAll r.args a) →
      sp K xs H (fun v H' => Dw K H' v (r.ret.enc (Codec.app r.args r.f a))) fun _ _ _ => False)
    (hCX : ∀ (H : Hp) (s : Shared) (e : Value) (s' : Shared), CX [] H s (fun _ _ _ => False) e s' → False) :
    PySem.W.WalkOS q loose XP YP r d [] (fun f vs => PySem.call f vs) :=
  walk_spec (K := K) (CX := fun _ => CX) (sp := fun w => sp (K w.params)) hwell hdf hlen hr hY F (fun w H xs a h1 h2 h3 h4 => hsp (K w.params) H xs a h1 h2 h3 h4) fun _ H s e s' => hCX H s e s'
end L2
end

set_option Elab.async false
set_option linter.all false
set_option maxRecDepth 100000
namespace L2
open PySem PySem.Spec PyProof.Rows
theorem Same.updN {H : Hp} {p : Addr} {o : HO} (h : H p = none) : Same H (upd H p o) := fun b u e => by
  rw [upd_ne (ne_of_none e h)]; exact e
theorem Same.mine {G H : Hp} {l : Addr} {o : HO} (s : Same G H) (n : G l = none) : Same G (upd H l o) := fun b u e => by
  rw [upd_ne (ne_of_none e n)]; exact s _ _ e
theorem Same.seqT {K : PySem.W.Frag} {H H' : Hp} {a : Addr} {xs : List V} (e : Same H H') (h : SqT K H a xs) : SqT K H' a xs := by
  rcases h with (h | ⟨o, h⟩) | h
  · exact .inl (.inl (e _ _ h))
  · exact .inl (.inr ⟨o, e _ _ h⟩)
  · exact .inr h
def CXok (CX : CXT) : Prop := ∀ o H s e s', ¬ CX o H s E0 e s'
theorem passC {CX : CXT} {X : Cx} (h : CXok CX) : Passes CX X E0 := fun _ _ _ _ _ _ _ q => (h _ _ _ _ _ q).elim
structure Def (P : Program) (w : World) (K : PySem.W.Frag) (mg : Str → Option Value) (base : Heap) (CX : CXT) (k : Nat) (x : Str) (ps : List Str) (sp : Sp) : Prop where
  ex : ∃ f fd, FnOk P w K mg base CX k f fd ps sp ∧ mg x = some (.ref f) ∧ PySem.W.keepIn K (.ref f) = true ∧ Binds K fd ps []
structure Src (K : PySem.W.Frag) (mg : Str → Option Value) (x : Str) (st : Stmt) (ps : List Str) : Prop where
  ex : ∃ f fd, Fun K x x st f fd ∧ mg x = some (.ref f) ∧ Binds K fd ps []
section
variable {P : Program} {w : World} {K : PySem.W.Frag} {mg : Str → Option Value} {base : Heap} {CX : CXT}
theorem Src.pure {x : Str} {st : Stmt} {N ps : List Str} {k : Nat} {sp : Sp} (F : Src K mg x st ps) (S : FnScope N ps (defScope st)) (len : ∀ vs H Q E, sp vs H Q E → vs.length = ps.length)
    (hbody : ∀ (f : Addr) (cdv : Value) (A : Around) (outer : List Env) (s : Shared) (H : Hp) (vs : List V) (Q : VK) (E : XK), Room k (A.deeper (envOfC x (defScope st) s.heap.objs.size f cdv)) → sp vs H Q E →
      ∃ t, PSs (cxOf CX P w K mg base N x (defScope st) f cdv A outer s H E).nox (defBody st) t ∧ t { nx := fun _ H' => Q .non H', rt := Q } (start N vs) H) : Def P w K mg base CX (k + 1) x ps sp := by
  obtain ⟨f, fd, F, hm, hb⟩ := F.ex
  refine ⟨f, fd, ?_, hm, F.kp, hb⟩
  obtain ⟨oc, od, kV, doc, pm, an, cdv, ct, osl, rfl, lk, hcd⟩ := F.ex
  refine fn_of lk hcd S len fun A outer s H vs Q E hr hsp => ?_
  obtain ⟨t, h, q⟩ := hbody f cdv A outer s H vs Q E hr hsp
  exact ⟨t, h.nox, q⟩
end
section
variable {X : Cx} {CX : CXT} {k : Nat} {ps : List Str} {sp : Sp} {E : XK} {x : Str} {p pos : Pos} {e : Expr} {es : List Expr} {t : TA}
theorem pe_callD (D : Def X.prog X.w X.K X.mg X.base CX k x ps sp) (hr : Room k X.A) (hx : Passes CX X E) (ha : PA X (e :: es) t) (hg : Gl X x := by rfl) (hdb : (x == ("__debug__" : Str)) = false := by decide)
    (he : starEach (e :: es) X.env = (false, eval e X.env) :: starEach es X.env := by rfl) (hpl : (backTo pos (starEach es X.env)).any (·.1) = false := by rfl) : PE X (.Call (.Name x p) (e :: es) [] pos) (tCall sp [] E t) := by
  obtain ⟨f, fd, F, hm, hk, hb⟩ := D.ex
  exact pe_call F hr hg hm hk hb .nil hx ha hdb he hpl
def Con1 (mg : Str → Option Value) (x : Str) (v : V) : Prop := ∃ u, mg x = some u ∧ RelV v u
theorem pe_con1 {v : V} (h : Con1 X.mg x v) (hg : Gl X x := by rfl) (hd : (x == ("__debug__" : Str)) = false := by decide) : PE X (.Name x pos) (tC v) := by
  obtain ⟨u, hm, r⟩ := h
  exact pe_glob hg hm r hd
end
section
variable {σ : St} {H : Hp} {Q : VK} {QT : Bool → Hp → Prop} {QA : List V → Hp → Prop} {D : Ends}
end
end L2

set_option Elab.async false
set_option linter.all false
set_option maxRecDepth 100000
namespace PySem
namespace SeqAt
open Builtin
theorem tuple_indexAt (l : Addr) (items : Array Value) (n : Nat) (dd : Option Addr) (sl : Array (Option Value)) (x : Value) (e : Value → Bool) (j : Nat) (hj : j < items.size)
    (hit : e items[j] = true) (hno : ∀ m (hm : m < items.size), m < j → e items[m] = false) :
    Meets (Builtin.«tuple.index» ⟨[.ref l, x], []⟩)
      (fun A R s => s.heap.get? l = some { cls := .type "tuple", dict := dd, data := .seq items n, slots := sl } ∧ (∀ y, y ∈ items → EqAt A.in1 s y x (e y)) ∧ R (.ok (.ret (.int j s.toks))) { s with toks := s.toks + 1 }) := by
  intro prog w A R s h
  obtain ⟨hp, g, d, tk, os⟩ := s; obtain ⟨hl, he, h⟩ := h
  unfold Builtin.«tuple.index»
  simp only [Std.Legacy.Range.forIn_eq_forIn_range', Std.Legacy.Range.size]
  wp_walk using wpAny_loadPart' hl, wpAny_forIn_list _ (fun rest (b : Option Fin × Unit) s' => s' = ⟨hp, g, d, tk, os⟩ ∧ ∃ i, i ≤ j ∧ rest = List.range' i (items.size - i)) _
  case h.h.h.h.hq.h => exact ⟨rfl, 0, Nat.zero_le _, by simp⟩
  case h.h.h.h.hq.fin =>
    rintro b s' ⟨rfl, i, hi, e0⟩
    have := congrArg List.length e0
    simp at this
    omega
  case h.h.h.h.hq.turn =>
    rintro y rest b s' ⟨rfl, i, hi, e0⟩
    have e1 : items.size - i = (items.size - i - 1) + 1 := by omega
    rw [e1, List.range'_succ] at e0
    obtain ⟨rfl, rfl⟩ := List.cons.inj e0
    have hy : y < items.size := by omega
    have hg : items[y]? = some items[y] := by simp [hy]
    rw [hg]
    refine wpAny_bind (he _ (by simp) prog w _ _ ?_)
    by_cases hyj : y = j
    · subst hyj
      rw [hit]
      wp_walk
      exact h
    · rw [hno y hy (by omega)]
      wp_walk
      exact ⟨rfl, y + 1, by omega, by congr 1⟩
end SeqAt
end PySem
namespace L2
open PySem PySem.Spec PyProof.Rows
section
variable {X : Cx}
theorem mt_rstripC : MtR X "str.rstrip" (fun x xs H Q => ∃ a b, x = .str a ∧ xs = [.str b] ∧ a.length ≤ sizeLine ∧ Q (.str (Txt.rstripChars a b)) H) := by
  intro pins s σ H x xs v us Q I rx rs h
  obtain ⟨a, b, rfl, rfl, hz, h⟩ := h
  obtain ⟨t, rfl⟩ := rx
  cases rs with
  | cons r1 rs =>
    cases rs
    obtain ⟨u, rfl⟩ := r1
    exact PySem.SC.rstripChars (fun t' k => ⟨.str _, H, I.tok k, ⟨t', rfl⟩, h⟩) hz
def iSeq (K : PySem.W.Frag) (tl : TE) : TI := fun σ H R => iList K tl σ H R ∨ iTup K tl σ H R
theorem pi_seq {tg l : Expr} {tl : TE} (hl : PE X l tl) : PI X tg l (iSeq X.K tl) := by
  intro pins s σ H R I h
  rcases h with h | h
  · exact pi_list hl pins s σ H R I h
  · exact pi_tup hl pins s σ H R I h
def rIndexT (K : PySem.W.Frag) : V → List V → Hp → VK → Prop := fun x xs H Q => ∃ (a : Addr) (ys : List V) (y : V) (j : Nat) (z : V), x = V.ref a ∧ xs = [y] ∧ SqT K H a ys ∧ flatV y = true ∧ ys.all flatV = true ∧ ys[j]? = some z ∧ eqV z y = true ∧
  (∀ (m : Nat) (z' : V), m < j → ys[m]? = some z' → eqV z' y = false) ∧ Q (.int (j : Nat)) H
theorem mt_tindex : MtR X "tuple.index" (rIndexT X.K) := by
  intro pins s σ H x xs v us Q I rx rxs h
  obtain ⟨a, ys, y, j, z, rfl, rfl, hs, fy, fys, hz, hzj, hno, q⟩ := h
  cases rx
  cases rxs with
  | cons ry rt =>
    rename_i uy ut
    cases rt
    obtain ⟨its, rv, ⟨⟨cls, dd, data, sl⟩, ho, hc, n, hd⟩, hlen⟩ := I.tuple hs
    simp only at hc hd
    subst hc hd
    obtain ⟨u, hu, ru⟩ := rv.get hz
    obtain ⟨hjl, hje⟩ := List.getElem?_eq_some_iff.mp hu
    have hvl := rv.length
    have hj : j < its.toArray.size := by simpa using hjl
    refine call_meets PySem.F.slot_tuple_index ⟨_, ho, rfl⟩ PySem.F.entry_tuple_index (PySem.F.args_tuple_index_2 _ _)
      (SeqAt.tuple_indexAt a its.toArray n dd sl uy (eqU y) j hj ?_ ?_) ⟨ho, fun u' hu' => mem_eqAt ry fy rv fys u' (by simpa using hu'), ?_⟩
    · have e1 : its.toArray[j] = u := by simpa using hje
      rw [e1, eqU_of ru (flat_at fys hz)]
      exact hzj
    · intro m hm hmj
      have hml : m < its.length := by simpa using hm
      have hmy : m < ys.length := by omega
      have hy' : ys[m]? = some ys[m] := List.getElem?_eq_getElem hmy
      obtain ⟨u2, hu2, ru2⟩ := rv.get hy'
      obtain ⟨_, hme⟩ := List.getElem?_eq_some_iff.mp hu2
      have e1 : its.toArray[m] = u2 := by simpa using hme
      rw [e1, eqU_of ru2 (flat_at fys hy')]
      exact hno m _ hmj hy'
    · exact ⟨.int (j : Nat), H, I.tok _, ⟨_, rfl⟩, q⟩
theorem op_catT0 : OpR X (binaryOp .Add) (fun x y H Q => ∃ a b ys, x = .ref a ∧ y = .ref b ∧ SqT X.K H a [] ∧ SqT X.K H b ys ∧ Q (.ref b) H) := by
  intro pins s σ H x y v u Q I rx ry h
  obtain ⟨a, b, ys, rfl, rfl, ha, hb, q⟩ := h
  cases rx
  cases ry
  obtain ⟨its, r1, p1, _⟩ := I.tuple ha
  obtain ⟨its2, r2, p2, _⟩ := I.tuple hb
  cases r1
  obtain ⟨⟨cls, dd, data, sl⟩, ho, hc, n, hd⟩ := id p1
  obtain ⟨⟨cls2, dd2, data2, sl2⟩, ho2, hc2, n2, hd2⟩ := id p2
  simp only at hc hd hc2 hd2
  subst hc hd hc2 hd2
  exact concat_meets ⟨_, ho, rfl⟩ ⟨_, ho2, rfl⟩ noFill_tuple_add seq_tuple_add PySem.F.slot_tuple_add PySem.F.entry_tuple_add (PySem.F.args_tuple_add_2 _ _)
    (tuple_addW0 a b #[] its2.toArray n n2 dd dd2 sl sl2 (by simp)) ⟨ho, ho2, ⟨.ref b, H, I, rfl, q⟩⟩
end
structure DicM (P : Program) (w : World) (K : PySem.W.Frag) (mg : Str → Option Value) (x : Str) (kvs : List (Key × V)) : Prop where
  ex : ∃ a o es ep vs, mg x = some (.ref a) ∧ K.lookup a = some o ∧ o.ExactDict ∧ o.data = .dict es ep ∧ (a == sysModules) = false ∧ KeysOf (mixKind P w) es ∧ Pairs (mixKind P w) es.toList vs ∧ (vs.map (·.1)).Nodup ∧ KV kvs vs
section
variable {X : Cx} {x : Str} {kvs : List (Key × V)} {p pos apos cpos : Pos} {i e f : Expr} {ty tz : TE}
theorem DicM.at (D : DicM X.prog X.w X.K X.mg x kvs) : ∃ a vs, X.mg x = some (.ref a) ∧ (a == sysModules) = false ∧ KV kvs vs ∧ ∀ pins σ H s, Inv X pins σ H s → s.heap.DictOf (mixKind X.prog X.w) a vs := by
  obtain ⟨a, o, es, ep, vs, h1, h2, h3, h4, h5, h6, h7, h8, h9⟩ := D.ex
  exact ⟨a, vs, h1, h5, h9, fun pins σ H s I => ⟨o, es, ep, I.kIn _ _ h2, h3, h4, h6, h7, h8⟩⟩
def tDGetK (kvs : List (Key × V)) (ty : TE) : TE := fun σ H Q => ty σ H fun y H1 => ∃ k v, y = kV k ∧ valV kvs k = some v ∧ Q v H1
def tDInK (kvs : List (Key × V)) (ty : TE) : TE := fun σ H Q => ty σ H fun y H1 => ∃ k, y = kV k ∧ Q (.bl (valV kvs k).isSome) H1
def tDGet2K (kvs : List (Key × V)) (ty tz : TE) : TE := fun σ H Q => ty σ H fun y H1 => tz σ H1 fun z H2 => ∃ k, y = kV k ∧ Q ((valV kvs k).getD z) H2
theorem pe_dgetK (D : DicM X.prog X.w X.K X.mg x kvs) (hi : PE X i ty) (hs : NoSl i) (hg : Gl X x := by rfl) (hd : (x == ("__debug__" : Str)) = false := by decide) : PE X (.Subscript (.Name x p) i pos) (tDGetK kvs ty) := by
  obtain ⟨a, vs, hm, _, rel, dd⟩ := D.at
  intro pins s σ H Q I h
  refine subD_of PySem.F.slot_dict_getitem.lookup hs (thn (pe_glob (v := .ref a) hg hm rfl hd pins s σ H (fun v H1 => v = .ref a ∧ H1 = H) I ⟨rfl, rfl⟩) fun u s1 ⟨x', H1, I1, rx, ex, eh⟩ => ?_)
  subst ex eh
  obtain rfl : u = Value.ref a := rx
  refine thn (hi pins s1 σ H1 _ I1 h) fun iv s2 ⟨y, H2, I2, ry, k, v, ey, hv, q2⟩ => ?_
  subst ey
  refine ⟨(dd _ _ _ _ I2).typeIs, ?_⟩
  obtain ⟨w', hw, rw'⟩ := RelO.some_of (v := v) (o := valueAt vs k) (by rw [← hv]; exact rel.val k)
  exact wpAny_getItem_of (kV_is ry) (dd _ _ _ _ I2).mapOf hw ⟨v, H2, I2.tok _, rw', q2⟩
theorem pc_dinK (D : DicM X.prog X.w X.K X.mg x kvs) (hi : PE X i ty) (hg : Gl X x := by rfl) (hd : (x == ("__debug__" : Str)) = false := by decide) : PC X .In i (.Name x p) (tDInK kvs ty) := by
  obtain ⟨a, vs, hm, hsys, rel, dd⟩ := D.at
  intro pins s σ H Q I h
  refine thn (hi pins s σ H _ I h) fun iv s1 ⟨y, H1, I1, ry, k, ey, q1⟩ => thn (pe_glob (v := .ref a) hg hm rfl hd pins s1 σ H1 (fun v H => v = .ref a ∧ H = H1) I1 ⟨rfl, rfl⟩) fun u s2 ⟨x', H2, I2, rx, ex, eh⟩ => ?_
  subst ex eh ey
  obtain rfl : u = Value.ref a := rx
  refine wpAny_in_of (kV_is ry) hsys (dd _ _ _ _ I2).mapOf ?_
  rw [← (rel.val k).isSome_eq]
  exact ⟨.bl _, H2, I2.tok _, rfl, q1⟩
theorem pe_dget2K (D : DicM X.prog X.w X.K X.mg x kvs) (he : PE X e ty) (hf : PE X f tz) (m : M2 X (.Name x p) "get" apos e f cpos) (hg : Gl X x := by rfl) (hd : (x == ("__debug__" : Str)) = false := by decide) :
    PE X (.Call (.Attribute (.Name x p) "get" apos) [e, f] [] cpos) (tDGet2K kvs ty tz) := by
  obtain ⟨a, vs, hm, hsys, rel, dd⟩ := D.at
  intro pins s σ H Q I h
  refine wpAny_Call_method m.base m.few m.line PySem.F.plainAttrs_dict PySem.F.slot_dict_get PySem.F.type_dict_get (thn (pe_glob (v := .ref a) hg hm rfl hd pins s σ H (fun v H1 => v = .ref a ∧ H1 = H) I ⟨rfl, rfl⟩) fun u s1 ⟨x', H1, I1, rx, ex, eh⟩ => ?_)
  subst ex eh
  obtain rfl : u = Value.ref a := rx
  refine ⟨(dd _ _ _ _ I1).typeIs, fun b q => ?_, ?_⟩
  · cases q
    obtain ⟨ob, _, _, h1, h2, _⟩ := dd _ _ _ _ I1
    exact ⟨ob, h1, h2.2.1⟩
  rw [m.trees]
  refine Calls.callWith_builtin rfl (Calls.evalArgs_plain (Calls.spliced_cons (thn (he pins s1 σ H1 _ I1 h) fun iv s2 ⟨y, H2, I2, ry, q2⟩ =>
    Calls.spliced_cons (thn (hf pins s2 σ H2 _ I2 q2) fun fv s3 ⟨z, H3, I3, rz, k, ey, q3⟩ => Calls.spliced_nil ?_))))
  subst ey
  exact call_meetsIn PySem.F.slot_dict_get (dd _ _ _ _ I3).typeIs PySem.F.entry_dict_get (PySem.F.args_dict_get_3 _ _ _) (meets_dict_get_default (mixKind X.prog X.w) a (kV_is ry) hsys fv) ⟨_, (dd _ _ _ _ I3).mapOf, ⟨_, H3, I3.tok _, (rel.val k).getD rz, q3⟩⟩
end
end L2

set_option Elab.async false
set_option linter.all false
set_option maxRecDepth 100000
namespace L2
open PySem
section
variable {M : Model} {A : Around} {E : Value → Shared → Prop} {s : Shared}
def tbO (head : Value) (L : Addr) (pl : List Value) : Obj :=
  { cls := .type "traceback", dict := none, data := .fields ([head, .ref L, .none, rawInt L, .none] ++ (if pl.isEmpty then List.replicate 6 Value.none else pl)).toArray }
structure Noted (h h' : Heap) (fs : List Addr) (e T2 : Addr) (oe : Obj) : Prop where
  keep : ∀ b o, b ≠ e → b ∉ fs → h.get? b = some o → h'.get? b = some o
  slot : ∀ b o, b ≠ e → h.get? b = some o → ∃ sl, h'.get? b = some { o with slots := sl }
  exc : h'.get? e = some (oe.mapFields (·.setIfInBounds 1 (.ref T2)))
  new : h.objs.size ≤ T2
  tb : ∃ o2 ts, h'.get? T2 = some o2 ∧ o2.data = .fields ts ∧ ts[3]? = some .none
theorem entry_heap {base : Heap} {env : Env} {outer : List Env} {L e : Addr} {oe : Obj} {vs : Array Value} {head : Value} {hn : Bool} {Q : Unit → Shared → Prop}
    (hfr : A.frames = some (env :: outer)) (hl : s.heap.FunFrames base (env :: outer)) (hf : env.frame = some L) (he : s.heap.get? e = some oe) (hd : oe.data = .fields vs) (hz : 1 < vs.size)
    (k : ∀ (h' : Heap) (T2 : Addr), Noted s.heap h' ((env :: outer).filterMap (·.frame)) e T2 oe → Q () { s with heap := h' }) :
    wpAny M A (do let a ← frameOf env; let pl ← entryPlaceOf L hn; let b ← EntryCells.newEntry head a .none (rawInt L) .none pl; setField (.ref e) 1 b) (fun _ s' => wpAny M A (setFlight (.ref e) none) Q E s') E s := by
  have nfr : e ∉ (env :: outer).filterMap (·.frame) := fun hm => by
    obtain ⟨_, o, ho, hnf⟩ := hl.mem hm
    rw [he] at ho
    cases ho
    exact hnf vs hd
  refine wpAny_bind (wpAny_frameOf_fun hfr hl hf fun g1 x1 => wpAny_bind (wpAny_entryPlaceOf fun pl hpl => ?_))
  unfold EntryCells.newEntry newFields
  have e1 : g1.get? e = some oe := (x1.2.1 e nfr).trans he
  refine wpAny_bind (wpAny_newObj_type (wpAny_setField (Heap.get?_push_of_some (tbO head L pl) e1) hd hz ?_) (hpl.sizeOk5 _ _ _ _ _))
  have hT : g1.objs.size ≠ e := Nat.ne_of_gt (Heap.lt_size e1)
  have e2 := Heap.get?_push_of_some (tbO head L pl) e1
  have d3 := Obj.data_mapFields hd (·.setIfInBounds 1 (Value.ref g1.objs.size))
  have e3 := Heap.get?_update_self (Obj.mapFields (·.setIfInBounds 1 (Value.ref g1.objs.size))) e2 (Obj.isFreed_of_fields d3)
  have t3 := (Heap.get?_update_other (g1.push (tbO head L pl)) (Obj.mapFields (·.setIfInBounds 1 (Value.ref g1.objs.size))) (Ne.symm hT)).trans (Heap.get?_push_size g1 (o := tbO head L pl) rfl)
  unfold setFlight
  refine wpAny_bind (wpAny_field e3 d3 (x := .ref g1.objs.size) (by simp [hz]) ?_)
  rw [if_pos (show (Value.ref g1.objs.size != Value.none) = true by simp)]
  refine wpAny_setField t3 rfl (by simp only [List.size_toArray, List.length_append, List.length_cons, List.length_nil]; omega) (k _ g1.objs.size ?_)
  have stay : ∀ b o, b ≠ e → g1.get? b = some o → (((g1.push (tbO head L pl)).update e (Obj.mapFields (·.setIfInBounds 1 (Value.ref g1.objs.size)))).update g1.objs.size
      (Obj.mapFields (·.setIfInBounds 3 ((none : Option Addr).elim Value.none fun f => rawInt f)))).get? b = some o := fun b o nb hb => by
    rw [Heap.get?_update_other _ _ (Nat.ne_of_gt (Heap.lt_size hb)), Heap.get?_update_other _ _ (Ne.symm nb)]
    exact Heap.get?_push_of_some _ hb
  refine ⟨fun b o nb nf hb => stay b o nb ((x1.2.1 b nf).trans hb), fun b o nb hb => ?_, ?_, Nat.le_of_eq x1.1.symm, ?_⟩
  · obtain ⟨sl, q⟩ := x1.2.2 b o hb
    exact ⟨sl, stay b _ nb q⟩
  · rw [Heap.get?_update_other _ _ hT]
    exact e3
  · exact ⟨_, _, Heap.get?_update_self _ t3 (Obj.isFreed_of_fields (Obj.data_mapFields rfl _)), Obj.data_mapFields rfl _, by
      first
        | (simp; done)
        | (rcases hpl with rfl | ⟨_, _, _, _, _, _, _, rfl⟩ <;> simp)⟩
theorem note_first {base : Heap} {env : Env} {outer : List Env} {L e : Addr} {oe : Obj} {vs : Array Value} {Q : Unit → Shared → Prop}
    (hfr : A.frames = some (env :: outer)) (hl : s.heap.FunFrames base (env :: outer)) (hf : env.frame = some L) (he : s.heap.get? e = some oe) (hd : oe.data = .fields vs) (h1 : vs[1]? = some .none)
    (k : ∀ (h' : Heap) (T2 : Addr), Noted s.heap h' ((env :: outer).filterMap (·.frame)) e T2 oe → Q () { s with heap := h' }) :
    wpAny M A (noteFrame (.ref e) env) (fun _ s' => wpAny M A (setFlight (.ref e) none) Q E s') E s := by
  unfold noteFrame
  simp only [hf]
  refine wpAny_bind (wpAny_field he hd h1 ?_)
  rw [if_neg (by decide)]
  exact entry_heap hfr hl hf he hd (Array.getElem?_eq_some_iff.mp h1).1 k
theorem note_next {base : Heap} {env : Env} {outer : List Env} {L e T : Addr} {oe oT : Obj} {vs ts : Array Value} {Q : Unit → Shared → Prop}
    (hfr : A.frames = some (env :: outer)) (hl : s.heap.FunFrames base (env :: outer)) (hf : env.frame = some L) (he : s.heap.get? e = some oe) (hd : oe.data = .fields vs) (h1 : vs[1]? = some (.ref T))
    (hTe : T ≠ e) (hT : s.heap.get? T = some oT) (hdT : oT.data = .fields ts) (h3 : ts[3]? = some .none)
    (k : ∀ (h1 h' : Heap) (T2 : Addr), h1 = s.heap.update T (Obj.mapFields (·.setIfInBounds 3 Value.none)) → Noted h1 h' ((env :: outer).filterMap (·.frame)) e T2 oe → Q () { s with heap := h' }) :
    wpAny M A (noteFrame (.ref e) env) (fun _ s' => wpAny M A (setFlight (.ref e) none) Q E s') E s := by
  unfold noteFrame
  simp only [hf]
  refine wpAny_bind (wpAny_field he hd h1 ?_)
  rw [if_pos (show (Value.ref T != Value.none) = true by simp)]
  refine wpAny_bind (wpAny_field hT hdT h3 ?_)
  rw [if_neg (show ¬ ((Value.none == rawInt L) = true) by simp [rawInt])]
  refine wpAny_bind (wpAny_setField hT hdT (Array.getElem?_eq_some_iff.mp h3).1 ?_)
  have oth : ∀ b, b ≠ T → (s.heap.update T (Obj.mapFields (·.setIfInBounds 3 Value.none))).get? b = s.heap.get? b := fun b hb => Heap.get?_update_other _ _ (Ne.symm hb)
  have hl' : (s.heap.update T (Obj.mapFields (·.setIfInBounds 3 Value.none))).FunFrames base (env :: outer) := hl.of_keeps fun b o hb hnf => ⟨o, (oth b fun q => by
    rw [q, hT] at hb
    cases hb
    exact hnf ts hdT).trans hb, rfl⟩
  exact entry_heap hfr hl' hf ((oth e (Ne.symm hTe)).trans he) hd (Array.getElem?_eq_some_iff.mp h1).1 fun h' T2 x => k _ h' T2 rfl x
end
end L2

set_option Elab.async false
set_option linter.all false
set_option maxRecDepth 100000
namespace L2
open PySem PySem.Builtin PySem.Builtin.ObjectAttr
abbrev VEm : List Value := [.type "ValueError", .type "Exception", .type "BaseException", .type "object"]
section
variable {prog : Program} {w : World} {A : Around} {E : Value → Shared → Prop} {h : Heap} {g : Array GenState} {d : Drawn} {t : Nat} {os : OsState}
variable {nm q : Str} {C N e : Addr} {bs : List Value} {hdct : Bool} {sn : List Str} {sub : List Value} {ab : Bool} {col : Option Bool} {dd : Option Addr} {k0 k1 k2 k3 k5 : Option Value} {od : Option Addr} {sl : Array (Option Value)} {vs : Array Value}
theorem vinit_call {u : Value} {t0 : Addr} {Q : Value → Shared → Prop} (hC : h.get? C = some (excClassObj nm q C N bs VEm hdct sn sub ab col dd k0 k1 k2 k3 k5 "ValueError.__new__")) (he : h.get? e = some ⟨.ref C, od, .fields vs, sl⟩) (h0 : vs[0]? = some (.ref t0))
    (hq : Q .none ⟨(h.push { cls := .type "tuple", data := .seq #[u] }).update e (Obj.mapFields (·.setIfInBounds 0 (.ref h.objs.size))), g, d, t, os⟩) :
    wpAny (model prog w) A (call (.builtin "ValueError.__init__") [.ref e, u]) Q E ⟨h, g, d, t, os⟩ := by
  have F := F.excBase_ValueError
  have hz : 0 < vs.size := (Array.getElem?_eq_some_iff.mp h0).1
  refine wpAny_call (codeAny_call_builtin F.init.plain F.initEntry (wpAny_check_init_sub F hC he rfl ?_))
  wp_walk
  rw [h0]
  have he2 := Heap.get?_push_of_some { cls := .type "tuple", data := .seq #[u] } he
  wp_walk
  exact hq
set_option maxHeartbeats 2000000 in
theorem xset {name : Str} {mN : Str → Option Value} {v : Value} {Q : Unit → Shared → Prop} (hC : h.get? C = some (excClassObj nm q C N bs VEm true sn sub ab col dd k0 k1 k2 k3 k5 "ValueError.__new__")) (hN : h.Ns N mN)
    (n1 : mN "__setattr__" = none) (n2 : mN name = none) (n3 : typeLookup (.type "ValueError") name = pure none) (he : h.get? e = some ⟨.ref C, none, .fields vs, sl⟩)
    (hq : ∀ h' tk, h'.get? e = some ⟨.ref C, some h.objs.size, .fields vs, sl⟩ → h'.Ns1 h.objs.size (fun y => if y = name then some v else none) → (∀ b o, b ≠ e → h.get? b = some o → h'.get? b = some o) → Q () ⟨h', g, d, tk, os⟩) :
    wpAny (model prog w) A (setAttr (.ref e) name v) Q E ⟨h, g, d, t, os⟩ := by
  have SF := F.store_ValueError
  have f3 := SF.slot.bind (.ref e)
  unfold setAttr callSpecial? specialOf
  repeat (any_goals (first | with_reducible refine wpAny_loadPart_at he ?_ | (with_reducible refine wpAny_typeLookup_exc hC hN SF.mro SF.slot.lookup ?_; rw [n1]) | wp_step))
  show codeAny _ A (.call (.builtin "object.__setattr__") ⟨[.ref e, .str name t, v], []⟩) _ _
  have hck : ∀ {Q : Unit → Shared → Prop} {E : Value → Shared → Prop}, Q () ⟨h, g, d, t + 1, os⟩ → wpAny (model prog w) A.in1 (checkBuiltinCall "object.__setattr__" ⟨[.ref e, .str name t, v], []⟩) Q E ⟨h, g, d, t + 1, os⟩ := fun hq =>
    wpAny_check_sa (M := model prog w) (B := "ValueError") (sa := "object.__setattr__") (owner := "object") (bm := VEm) (x := e) (v := v) (nameV := .str name t) (o := ⟨.ref C, none, .fields vs, sl⟩) SF hC he rfl hq
  refine codeAny_call_builtin SF.slot.plain SF.entry ?_
  refine hck ?_
  clear hck
  have pass := SF.passes (.ref e)
  have es : e ≠ h.objs.size := Nat.ne_of_lt (Heap.lt_size he)
  have x1 := Heap.get?_push_of_some { cls := .type "dict", data := .dict #[] } he
  have x2 : ((h.push { cls := .type "dict", data := .dict #[] }).update e fun o => { o with dict := some h.objs.size }).get? e = some ⟨.ref C, some h.objs.size, .fields vs, sl⟩ := Heap.get?_update_self _ x1 rfl
  have x3 : ((h.push { cls := .type "dict", data := .dict #[] }).update e fun o => { o with dict := some h.objs.size }).get? h.objs.size = some { cls := .type "dict", data := .dict #[] } :=
    (Heap.get?_update_other _ _ es).trans (Heap.get?_push_size h rfl)
  have x4 : ((h.push { cls := .type "dict", data := .dict #[] }).update e fun o => { o with dict := some h.objs.size }).Ns h.objs.size (fun _ => none) := ⟨_, #[], _, x3, rfl, fun z hz => absurd hz (by simp), fun _ => rfl⟩
  have x5 := Heap.Ns1.of_empty x4
  unfold Builtin.«object.__setattr__»
  repeat (first | rw [refuse_eq] | (rw [refuseLoop_ref, pass]) | with_reducible refine wpAny_loadPart_at he ?_ | with_reducible refine wpAny_mroOf_exc hC ?_ | (with_reducible refine wpAny_typeLookup_exc hC hN SF.mro n3 ?_; rw [n2]) | (with_reducible refine wpAny_nsSet1 x5 ?_) | wp_step)
  intro h' hn' hs
  obtain ⟨oD, esD, epD, hoD, hdD, hcD⟩ := hn'.count (Within.cons name v Within.nil)
  refine wpAny_bind (wpAny_lookBehind hoD (by rw [hdD]; exact pastItsLine_dict (Nat.le_trans hcD (by rw [List.length_cons, List.length_nil, sizeLine_eq]; decide))) ?_)
  wp_walk
  refine hq h' _ ((hs.2 e es).trans x2) hn' fun b o nb hb => ?_
  exact (hs.2 b (Nat.ne_of_lt (Heap.lt_size hb))).trans ((Heap.get?_update_other _ _ (Ne.symm nb)).trans (Heap.get?_push_of_some _ hb))
end
end L2

set_option Elab.async false
set_option linter.all false
set_option maxRecDepth 100000
namespace L2
open PySem
section
variable {M : Model} {prog : Program} {w : World} {A : Around} {E : Value → Shared → Prop} {env : Env}
variable {nm q : Str} {C N : Addr} {bs : List Value} {hdct : Bool} {sn : List Str} {sub : List Value} {ab : Bool} {col : Option Bool} {dd : Option Addr} {k0 k1 k2 k3 k5 : Option Value}
theorem xraise {s : Shared} {x : Sem Value} {Q : Flow → Shared → Prop} (hh : A.handled = none)
    (k : wpAny M A x (fun v s1 => ∃ e od vs sl, v = .ref e ∧ s1.heap.get? C = some (excClassObj nm q C N bs VEm hdct sn sub ab col dd k0 k1 k2 k3 k5 "ValueError.__new__") ∧
      s1.heap.get? e = some ⟨.ref C, od, .fields vs, sl⟩ ∧ vs[1]? = some .none ∧ E (.ref e) s1) E s) : wpAny M A (raiseStmt env (some x) none) Q E s := by
  have hcB : (Value.ref C :: VEm).contains (.type "BaseException") = true := by rw [List.contains_cons, show VEm.contains (.type "BaseException") = true by decide, Bool.or_true]
  unfold raiseStmt
  refine wpAny_bind (wpAny_mono k (fun v s1 k1 => ?_) fun _ _ z => z)
  obtain ⟨e, od, vs, sl, rfl, hC, he, h1, hE⟩ := k1
  obtain ⟨hp, g, d, tk, os⟩ := s1
  repeat (first | with_reducible refine wpAny_loadPart_at he ?_ | with_reducible refine wpAny_loadPart_at hC ?_ | (with_reducible refine wpAny_isSubtype_exc hC ?_; rw [hcB]) | (with_reducible refine wpAny_field he rfl h1 ?_) | wp_step)
  exact wpAny_raiseNew_none hh hE
end
end L2

set_option Elab.async false
set_option linter.all false
set_option maxRecDepth 100000
set_option maxHeartbeats 2000000
namespace L2
open PySem PySem.Spec PyProof.Rows
def NO (e C : Addr) (d : Option Addr) : HO := .ext fun h => ∃ vs sl, h.get? e = some ⟨.ref C, d, .fields vs, sl⟩ ∧ vs[1]? = some .none ∧ ∃ t0, vs[0]? = some (.ref t0)
def XO (e C dx T : Addr) : HO := .ext fun h => ∃ vs sl, h.get? e = some ⟨.ref C, some dx, .fields vs, sl⟩ ∧ vs[1]? = some (.ref T) ∧ T ≠ e
def TBO (T : Addr) : HO := .ext fun h => ∃ o ts, h.get? T = some o ∧ o.data = .fields ts ∧ ts[3]? = some .none
section
variable {P : Program} {w : World} {H : Hp} {h : Heap} {e C dx T : Addr} {d : Option Addr}
theorem NO.get (hok : HOk P w H h) (q : H e = some (NO e C d)) : ∃ vs sl, h.get? e = some ⟨.ref C, d, .fields vs, sl⟩ ∧ vs[1]? = some .none ∧ ∃ t0, vs[0]? = some (.ref t0) := (show ObjOk P w H h e (NO e C d) from hok e _ q).1
theorem XO.get (hok : HOk P w H h) (q : H e = some (XO e C dx T)) : ∃ vs sl, h.get? e = some ⟨.ref C, some dx, .fields vs, sl⟩ ∧ vs[1]? = some (.ref T) ∧ T ≠ e := (show ObjOk P w H h e (XO e C dx T) from hok e _ q).1
theorem TBO.get (hok : HOk P w H h) (q : H T = some (TBO T)) : ∃ o ts, h.get? T = some o ∧ o.data = .fields ts ∧ ts[3]? = some .none := (show ObjOk P w H h T (TBO T) from hok T _ q).1
theorem NO.ok {vs : Array Value} {sl : Array (Option Value)} (q : h.get? e = some ⟨.ref C, d, .fields vs, sl⟩) (h1 : vs[1]? = some .none) {t0 : Addr} (h0 : vs[0]? = some (.ref t0)) : ObjOk P w H h e (NO e C d) :=
  ⟨⟨vs, sl, q, h1, t0, h0⟩, ⟨_, q⟩, fun _ _ ⟨vs, sl, q, r⟩ k => ⟨vs, sl, k _ q, r⟩⟩
theorem XO.ok {vs : Array Value} {sl : Array (Option Value)} (q : h.get? e = some ⟨.ref C, some dx, .fields vs, sl⟩) (h1 : vs[1]? = some (.ref T)) (n : T ≠ e) : ObjOk P w H h e (XO e C dx T) :=
  ⟨⟨vs, sl, q, h1, n⟩, ⟨_, q⟩, fun _ _ ⟨vs, sl, q, r⟩ k => ⟨vs, sl, k _ q, r⟩⟩
theorem TBO.ok {o : Obj} {ts : Array Value} (q : h.get? T = some o) (hd : o.data = .fields ts) (h3 : ts[3]? = some .none) : ObjOk P w H h T (TBO T) :=
  ⟨⟨o, ts, q, hd, h3⟩, ⟨_, q⟩, fun _ _ ⟨o, ts, q, r⟩ k => ⟨o, ts, k _ q, r⟩⟩
end
section
variable {X : Cx} {pins : List (Addr × Obj)} {σ : St} {H H' : Hp} {s : Shared} {h' : Heap}
theorem Inv.noted {Z : Addr → Prop} (I : Inv X pins σ H s) (zt : ∀ b, Z b → ∃ φ, H b = some (.ext φ)) (keep : ∀ b o, ¬ Z b → b ∉ frs X.stack → s.heap.get? b = some o → h'.get? b = some o)
    (slot : ∀ b o, ¬ Z b → s.heap.get? b = some o → ∃ sl, h'.get? b = some { o with slots := sl }) (thr : ∀ b, Z b → ∃ o, h'.get? b = some o) (hH : ∀ b u, H b = some u → ¬ Z b → H' b = some u)
    (fr : ∀ b o, s.heap.get? b = some o → H b = none → H' b = none) (new : ∀ b u, H' b = some u → (H b = some u ∧ ¬ Z b) ∨ ObjOk X.prog X.w H' h' b u) : Inv X pins σ H' { s with heap := h' } := by
  have nz : ∀ b, H b = none → ¬ Z b := fun b n z => by
    obtain ⟨φ, q⟩ := zt b z
    rw [n] at q
    cases q
  have nt : ∀ b u, H b = some u → (∀ φ, u ≠ .ext φ) → ¬ Z b := fun b u q nu z => by
    obtain ⟨φ, q'⟩ := zt b z
    rw [q] at q'
    exact nu φ (Option.some.inj q')
  refine I.step (g' := s.gens) (t' := s.toks) (d' := s.drawn) (ch := []) (fun _ z => nomatch z) (fun b o hL hb _ e n => keep b o (nz b n) (fun z => (List.mem_cons.mp (I.stkSub b z)).elim hL hb) e)
    (fun b o _ _ _ e n => slot b o (nz b n) e) (fun b o _ e n => fr b o e n) (fun b o _ e => ?_) (fun b xs q => hH b _ q (nt b _ q fun φ z => nomatch z)) (fun b o u q => hH b _ q (nt b _ q fun φ z => nomatch z))
    (fun b ps q => ⟨#[], by rw [hH b _ q (nt b _ q fun φ z => nomatch z)]; simp⟩) (fun m hm => ?_) (fun b u q => ?_) I.bare
  · by_cases z : Z b
    · exact thr b z
    · obtain ⟨sl, q⟩ := slot b o z e
      exact ⟨_, q⟩
  · obtain ⟨o, es, ep, ho, r⟩ := hm
    obtain ⟨sl, q⟩ := slot _ o (nz _ I.free) ho
    exact ⟨_, es, ep, q, r⟩
  · rcases new b u q with ⟨q0, z0⟩ | ok
    · refine (I.hok b u q0).stay (fun c v hc e => keep c v ?_ ?_ e) (fun c r => hH c _ r (nt c _ r fun φ z => nomatch z)) fun c xs r => hH c _ r (nt c _ r fun φ z => nomatch z)
      · rcases hc with rfl | hc
        · exact z0
        · exact nt c _ hc fun φ z => nomatch z
      · intro z
        have n := I.stkFree c z
        rcases hc with rfl | hc
        · rw [q0] at n; cases n
        · rw [hc] at n; cases n
    · exact ok
theorem Inv.ltT {b : Addr} {u : HO} (I : Inv X pins σ H s) (q : H b = some u) : b < s.heap.objs.size := I.hok.lt q
theorem note_fly {M : Model} {E : Value → Shared → Prop} {C a dx T : Addr} {Q : Unit → Shared → Prop} (I : Inv X pins σ H s) (stk : X.stack = X.env :: X.outer) (hf : X.env.frame = some X.env.locals)
    (ha : H a = some (XO a C dx T)) (hT : H T = some (TBO T))
    (k : ∀ (s' : Shared) (H' : Hp) (T2 : Addr), Inv X pins σ H' s' → H T2 = none → H' a = some (XO a C dx T2) → H' T2 = some (TBO T2) → (∀ b u, H b = some u → b ≠ a → b ≠ T → H' b = some u) → Q () s') :
    wpAny M X.A (noteFrame (.ref a) X.env) (fun _ s' => wpAny M X.A (setFlight (.ref a) none) Q E s') E s := by
  obtain ⟨vs, sl, qa, h1, nTa⟩ := XO.get I.hok ha
  obtain ⟨oT, ts, qT, hdT, h3⟩ := TBO.get I.hok hT
  have hfr : X.A.frames = some (X.env :: X.outer) := by rw [← stk]; exact I.ok.frames
  have hl : s.heap.FunFrames X.base (X.env :: X.outer) := by rw [← stk]; exact I.stack
  refine note_next hfr hl hf qa rfl h1 nTa qT hdT h3 fun g1 h' T2 eg x => ?_
  subst eg
  have oth : ∀ b, b ≠ T → (s.heap.update T (Obj.mapFields (·.setIfInBounds 3 Value.none))).get? b = s.heap.get? b := fun b hb => Heap.get?_update_other _ _ (Ne.symm hb)
  have dT := Obj.data_mapFields hdT (·.setIfInBounds 3 Value.none)
  have qT1 := Heap.get?_update_self (Obj.mapFields (·.setIfInBounds 3 Value.none)) qT (Obj.isFreed_of_fields dT)
  have nfT : T ∉ (X.env :: X.outer).filterMap (·.frame) := fun z => by
    rw [← stk] at z
    have := I.stkFree T z
    rw [hT] at this
    cases this
  have qT2 := x.keep T _ nTa nfT qT1
  have hn2 : s.heap.objs.size ≤ T2 := by
    have := x.new
    rw [Heap.size_after_update] at this
    exact this
  have n2 : H T2 = none := I.hok.fresh hn2
  have n2a : T2 ≠ a := Nat.ne_of_gt (Nat.lt_of_lt_of_le (I.ltT ha) hn2)
  have n2T : T2 ≠ T := Nat.ne_of_gt (Nat.lt_of_lt_of_le (I.ltT hT) hn2)
  obtain ⟨o2, t2, q2, d2, h23⟩ := x.tb
  have hs : 1 < vs.size := (Array.getElem?_eq_some_iff.mp h1).1
  refine k _ (upd (upd H T2 (TBO T2)) a (XO a C dx T2)) T2 (I.noted (Z := fun b => b = a ∨ b = T) ?_ (fun b o z nf q => ?_) (fun b o z q => ?_) ?_ (fun b u q z => ?_) (fun b o q n => ?_) fun b u q => ?_) n2 upd_same
    (by rw [upd_ne n2a, upd_same]) fun b u q na nT => by rw [upd_ne na, upd_ne (ne_of_none q n2)]; exact q
  · rintro b (rfl | rfl)
    · exact ⟨_, ha⟩
    · exact ⟨_, hT⟩
  · rw [stk] at nf
    exact x.keep b o (fun q => z (.inl q)) nf ((oth b fun q => z (.inr q)).trans q)
  · exact x.slot b o (fun q => z (.inl q)) ((oth b fun q => z (.inr q)).trans q)
  · rintro b (rfl | rfl)
    · exact ⟨_, x.exc⟩
    · exact ⟨_, qT2⟩
  · rw [upd_ne (fun r => z (.inl r)), upd_ne (ne_of_none q n2)]
    exact q
  · have nb : b ≠ T2 := Nat.ne_of_lt (Nat.lt_of_lt_of_le (Heap.lt_size q) hn2)
    rw [upd_ne (fun r => by rw [r, ha] at n; cases n), upd_ne nb]
    exact n
  · by_cases ea : b = a
    · subst ea
      rw [upd_same] at q
      cases q
      exact .inr (XO.ok x.exc (by simp [hs]) n2a)
    · rw [upd_ne ea] at q
      by_cases e2 : b = T2
      · subst e2
        rw [upd_same] at q
        cases q
        exact .inr (TBO.ok q2 d2 h23)
      · rw [upd_ne e2] at q
        by_cases eT : b = T
        · subst eT
          rw [hT] at q
          cases q
          exact .inr (TBO.ok qT2 dT (by
            have : 3 < ts.size := (Array.getElem?_eq_some_iff.mp h3).1
            simp [this]))
        · exact .inl ⟨q, fun z => z.elim ea eT⟩
theorem note_made {M : Model} {E : Value → Shared → Prop} {C a dx : Addr} {Q : Unit → Shared → Prop} (I : Inv X pins σ H s) (stk : X.stack = X.env :: X.outer) (hf : X.env.frame = some X.env.locals)
    (ha : H a = some (NO a C (some dx)))
    (k : ∀ (s' : Shared) (H' : Hp) (T2 : Addr), Inv X pins σ H' s' → H T2 = none → H' a = some (XO a C dx T2) → H' T2 = some (TBO T2) → (∀ b u, H b = some u → b ≠ a → H' b = some u) → Q () s') :
    wpAny M X.A (noteFrame (.ref a) X.env) (fun _ s' => wpAny M X.A (setFlight (.ref a) none) Q E s') E s := by
  obtain ⟨vs, sl, qa, h1, _⟩ := NO.get I.hok ha
  have hfr : X.A.frames = some (X.env :: X.outer) := by rw [← stk]; exact I.ok.frames
  have hl : s.heap.FunFrames X.base (X.env :: X.outer) := by rw [← stk]; exact I.stack
  refine note_first hfr hl hf qa rfl h1 fun h' T2 x => ?_
  have hn2 : s.heap.objs.size ≤ T2 := x.new
  have n2 : H T2 = none := I.hok.fresh hn2
  have n2a : T2 ≠ a := Nat.ne_of_gt (Nat.lt_of_lt_of_le (I.ltT ha) hn2)
  obtain ⟨o2, t2, q2, d2, h23⟩ := x.tb
  have hs : 1 < vs.size := (Array.getElem?_eq_some_iff.mp h1).1
  refine k _ (upd (upd H T2 (TBO T2)) a (XO a C dx T2)) T2 (I.noted (Z := fun b => b = a) ?_ (fun b o z nf q => ?_) (fun b o z q => x.slot b o z q) ?_ (fun b u q z => ?_) (fun b o q n => ?_) fun b u q => ?_) n2 upd_same
    (by rw [upd_ne n2a, upd_same]) fun b u q na => by rw [upd_ne na, upd_ne (ne_of_none q n2)]; exact q
  · rintro b rfl
    exact ⟨_, ha⟩
  · rw [stk] at nf
    exact x.keep b o z nf q
  · rintro b rfl
    exact ⟨_, x.exc⟩
  · rw [upd_ne z, upd_ne (ne_of_none q n2)]
    exact q
  · have nb : b ≠ T2 := Nat.ne_of_lt (Nat.lt_of_lt_of_le (Heap.lt_size q) hn2)
    rw [upd_ne (fun r => by rw [r, ha] at n; cases n), upd_ne nb]
    exact n
  · by_cases ea : b = a
    · subst ea
      rw [upd_same] at q
      cases q
      exact .inr (XO.ok x.exc (by simp [hs]) n2a)
    · rw [upd_ne ea] at q
      by_cases e2 : b = T2
      · subst e2
        rw [upd_same] at q
        cases q
        exact .inr (TBO.ok q2 d2 h23)
      · rw [upd_ne e2] at q
        exact .inl ⟨q, ea⟩
end
def CXN (P : Program) (w : World) (C : Addr) : CXT := fun outer H s E e s' => ∃ (a dx T : Addr) (H' : Hp), e = .ref a ∧ s'.os = s.os ∧ AllBare s'.gens ∧ Un (frs outer) [] H H' s.heap s'.heap ∧ HOk P w H' s'.heap ∧
  H' a = some (XO a C dx T) ∧ H' T = some (TBO T) ∧ ∀ H'' : Hp, (∀ b u, H' b = some u → b ≠ a → b ≠ T → H'' b = some u) → E (.ref C) (some dx) H''
section
variable {P : Program} {w : World} {K : PySem.W.Frag} {mg : Str → Option Value} {base : Heap} {N : List Str} {qual : Str} {scope : Scope} {f C : Addr} {cd : Value} {A : Around} {outer : List Env} {s : Shared} {H : Hp} {E : XK}
theorem pass_body : Passes (CXN P w C) (cxOf (CXN P w C) P w K mg base N qual scope f cd A outer s H E) E := by
  intro pins σ H1 s1 e s' I h
  obtain ⟨a, dx, T, H', rfl, os, bare, un, hok, ha, hT, k⟩ := h
  have I' := I.call' (ch := []) os un hok bare fun b z => nomatch z
  show wpAny _ _ (leaving _ _) _ _ _
  unfold leaving
  refine wpAny_bind (note_fly I' rfl rfl ha hT fun s2 H2 T2 J n2 ha2 hT2 kk => ?_)
  exact ⟨a, dx, T2, H2, rfl, J.os, J.bare, J.base, J.hok, ha2, hT2, fun H3 h3 => k H3 fun b u q n1 n3 => h3 b u (kk b u q n1 n3) n1 (ne_of_none q n2)⟩
theorem raise_body {pins : List (Addr × Obj)} {σ : St} {H1 : Hp} {s1 : Shared} {a dx : Addr} (I : Inv (cxOf (CXN P w C) P w K mg base N qual scope f cd A outer s H E) pins σ H1 s1) (ha : H1 a = some (NO a C (some dx)))
    (k : ∀ H'' : Hp, (∀ b u, H1 b = some u → b ≠ a → H'' b = some u) → E (.ref C) (some dx) H'') : (cxOf (CXN P w C) P w K mg base N qual scope f cd A outer s H E).xe (.ref a) s1 := by
  show wpAny _ _ (leaving _ _) _ _ _
  unfold leaving
  refine wpAny_bind (note_made I rfl rfl ha fun s2 H2 T2 J n2 ha2 hT2 kk => ?_)
  exact ⟨a, dx, T2, H2, rfl, J.os, J.bare, J.base, J.hok, ha2, hT2, fun H3 h3 => k H3 fun b u q n1 => h3 b u (kk b u q n1) n1 (ne_of_none q n2)⟩
end
end L2

set_option Elab.async false
set_option linter.all false
set_option maxRecDepth 100000
set_option maxHeartbeats 2000000
namespace L2
open PySem PySem.Spec PyProof.Rows
theorem upd_id {H : Hp} {a : Addr} {o : HO} (h : H a = some o) : upd H a o = H := by
  funext b
  unfold upd
  split
  · rename_i e
    rw [e, h]
  · rfl
structure XC (K : PySem.W.Frag) (C fI : Addr) : Prop where
  lk : ∃ (nm q : Str) (N : Addr) (bs : List Value) (sn : List Str) (sub : List Value) (ab : Bool) (col : Option Bool) (dd : Option Addr) (k0 k1 k2 k3 k5 : Option Value),
    K.lookup C = some (excClassObj nm q C N bs VEm true sn sub ab col dd k0 k1 k2 k3 k5 "ValueError.__new__") ∧ PySem.W.nsOkIn K N = true ∧ PySem.W.nsIn K N "__init__" = some (some (.ref fI)) ∧
    PySem.W.nsIn K N "__getattribute__" = some none ∧ PySem.W.nsIn K N "__getattr__" = some none ∧ PySem.W.nsIn K N "__setattr__" = some none ∧ PySem.W.nsIn K N "place" = some none
  kp : PySem.W.keepIn K (.ref C) = true
  fn : PySem.W.isFn K (.ref fI) = true
theorem ns_some {K : PySem.W.Frag} {h : Heap} {N : Addr} {m : Str → Option Value} {n : Str} {v : Value} (X : K.In h) (G : h.Ns N m) (e : PySem.W.nsIn K N n = some (some v)) : m n = some v := by
  obtain ⟨o, es, ep, ho, hd, _, hf⟩ := G
  unfold PySem.W.nsIn at e
  split at e
  · rename_i c d es' n' sl q
    have z := X _ _ q
    rw [ho] at z
    cases z
    cases hd
    split at e
    · rename_i en he
      cases e
      have y := hf n
      unfold nsFind findBy at y
      rw [← Array.find?_toList, he] at y
      exact y.symm
    · split at e <;> cases e
  · cases e
theorem XC.at {K : PySem.W.Frag} {C fI : Addr} (x : XC K C fI) {h : Heap} (X : K.In h) : ∃ (nm q : Str) (N : Addr) (bs : List Value) (sn : List Str) (sub : List Value) (ab : Bool) (col : Option Bool) (dd : Option Addr) (k0 k1 k2 k3 k5 : Option Value) (mN : Str → Option Value),
    h.get? C = some (excClassObj nm q C N bs VEm true sn sub ab col dd k0 k1 k2 k3 k5 "ValueError.__new__") ∧ h.Ns N mN ∧ mN "__init__" = some (.ref fI) ∧ mN "__getattribute__" = none ∧ mN "__getattr__" = none ∧ mN "__setattr__" = none ∧ mN "place" = none := by
  obtain ⟨nm, q, N, bs, sn, sub, ab, col, dd, k0, k1, k2, k3, k5, h1, h2, h3, h4, h5, h6, h7⟩ := x.lk
  have G : h.Ns N (h.nsMap N) := .of_isNs (PySem.W.isNs_of_in X h2)
  exact ⟨nm, q, N, bs, sn, sub, ab, col, dd, k0, k1, k2, k3, k5, h.nsMap N, X _ _ h1, G, ns_some X G h3, PySem.W.ns_none_of X G h4, PySem.W.ns_none_of X G h5, PySem.W.ns_none_of X G h6, PySem.W.ns_none_of X G h7⟩
theorem noPlace : typeLookup (.type "ValueError") "place" = pure none := by rw [typeLookup_type, builtinLookup_eq_fast]; kernel_rfl
theorem veCls (K : PySem.W.Frag) : PySem.W.findCls K (.type "ValueError") (.type "type") "__init__" = some (.val (.builtin "ValueError.__init__")) := by rfl
theorem veStub : Manifest.isStub "ValueError" = false := by decide +kernel
theorem veType : typeOf (.type "ValueError") = pure (.type "type") := by kernel_rfl
section
variable {X : Cx} {C fI : Addr}
def tVI (C : Addr) (ta tb : TE) : TE := fun σ H Q => ta σ H fun x H1 => tb σ H1 fun y H2 => ∃ e z, x = .ref e ∧ y = .str z ∧ H2 e = some (NO e C none) ∧ Q .non H2
theorem pe_vinit {p apos pos : Pos} {a b : Expr} {ta tb : TE} (xc : XC X.K C fI) (hg : Gl X "ValueError") (hm : X.mg "ValueError" = none) (ha : PE X a ta) (hb : PE X b tb) {pl : Sem Bool}
    (hst : starEach [a, b] X.env = [(false, eval a X.env), (false, eval b X.env)] := by rfl)
    (ht : eval (.Call (.Attribute (.Name "ValueError" p) "__init__" apos) [a, b] [] pos) X.env = (do
      let ov ← eval (.Name "ValueError" p) X.env
      standAt apos.atName
      let (f, first) ← holding [ov] (getMethod ov "__init__" pl)
      callWith pos f first (backTo pos (starEach [a, b] X.env)) (backToKw pos (keywordEach [] X.env))) := by rfl) :
    PE X (.Call (.Attribute (.Name "ValueError" p) "__init__" apos) [a, b] [] pos) (tVI C ta tb) := by
  intro pins s σ H Q I h
  refine PySem.W.methodCall_KW (pl := pl) (thn (pe_bltn (v := .ty "ValueError") hg hm rfl rfl (by decide) (by decide) pins s σ H (fun v H1 => v = .ty "ValueError" ∧ H1 = H) I ⟨rfl, rfl⟩) fun u s1 ⟨x, H1, I1, rx, ex, eh⟩ => ?_) ht
  subst ex eh
  obtain rfl : u = Value.type "ValueError" := rx
  obtain ⟨m, Fm⟩ := I1.fr
  refine PySem.W.method_type (K := X.K) (T := "ValueError") (name := "__init__") (v := .builtin "ValueError.__init__") Fm I1.mod.kin veType veStub (veCls X.K) rfl ?_
  rw [hst]
  have I2 := I1.tok (s1.toks + 1)
  refine Calls.callWith_builtin rfl (Calls.evalArgs_plain (Calls.spliced_cons (thn (ha pins _ σ H1 _ I2 h) fun av s3 ⟨y, H3, I3, ry, q3⟩ =>
    Calls.spliced_cons (thn (hb pins s3 σ H3 _ I3 q3) fun bv s4 ⟨z, H4, I4, rz, q4⟩ => Calls.spliced_nil ?_))))
  obtain ⟨e, tx, rfl, rfl, he, q⟩ := q4
  obtain rfl : av = Value.ref e := ry
  obtain ⟨tt, rfl⟩ := (show ∃ t, bv = Value.str tx t from rz)
  obtain ⟨vs, sl, qe, h1, t0, h0⟩ := NO.get I4.hok he
  obtain ⟨nm, qn, N, bs, sn, sub, ab, col, dd, k0, k1, k2, k3, k5, mN, hC, hN, _⟩ := xc.at I4.kIn
  obtain ⟨hp, g, d, tk, os⟩ := s4
  have hz : 0 < vs.size := (Array.getElem?_eq_some_iff.mp h0).1
  refine vinit_call hC qe h0 ?_
  have e2 := Heap.get?_push_of_some { cls := .type "tuple", data := .seq #[Value.str tx tt] } qe
  have e3 := Heap.get?_update_self (Obj.mapFields (·.setIfInBounds 0 (.ref hp.objs.size))) e2 rfl
  have I5 := I4.write (x := e) (e := e) (o := NO e C none) (t' := tk) (h' := (hp.push { cls := .type "tuple", data := .seq #[Value.str tx tt] }).update e (Obj.mapFields (·.setIfInBounds 0 (.ref hp.objs.size)))) (by rw [he]; exact True.intro) (.inl rfl)
    (fun b u nb q => by rw [Heap.get?_update_other _ _ (Ne.symm nb)]; exact Heap.get?_push_of_some _ q) ⟨_, e3⟩ (NO.ok e3 (by simp [h1]) (t0 := hp.objs.size) (by simp [hz]))
  rw [upd_id he] at I5
  exact ⟨.non, H4, I5, rfl, q⟩
def sXset (C : Addr) (ta tv : TE) : TS := fun D σ H => tv σ H fun y H1 => ta σ H1 fun x H2 => ∃ e, x = .ref e ∧ H2 e = some (NO e C none) ∧ ∀ dx, H2 dx = none → dx ≠ e → D.nx σ (upd (upd H2 dx (.xd [("place", y)])) e (NO e C (some dx)))
theorem ps_xset {o value : Expr} {pos pos' : Pos} {ta tv : TE} (xc : XC X.K C fI) (ha : PE X o ta) (hv : PE X value tv) (hs : swapsWith value (some (.Attribute o "place" pos')) pos.line X.env = pure false) :
    PS X (.Assign [.Attribute o "place" pos'] value pos) (sXset C ta tv) := by
  intro pins s σ H D I h
  refine plainObj_wpAny_Assign_Attribute (thn (hv pins s σ H _ I h) fun u s1 ⟨y, H1, I1, ry, q⟩ => thn (ha pins s1 σ H1 _ I1 q) fun ov s2 ⟨x, H2, I2, rx, e, ex, he, k⟩ => ?_) hs
  subst ex
  obtain rfl : ov = Value.ref e := rx
  obtain ⟨vs, sl, qe, h1, t0, h0⟩ := NO.get I2.hok he
  obtain ⟨nm, qn, N, bs, sn, sub, ab, col, dd, k0, k1, k2, k3, k5, mN, hC, hN, _, _, _, n1, n2⟩ := xc.at I2.kIn
  obtain ⟨hp, g, d, tk, os⟩ := s2
  refine xset hC hN n1 n2 noPlace qe fun h' tk' g1 g2 g3 => ?_
  have nd : H2 hp.objs.size = none := I2.hok.fresh (Nat.le_refl _)
  have ne : hp.objs.size ≠ e := Nat.ne_of_gt (I2.ltT he)
  refine ⟨σ, _, (I2.noted (Z := fun b => b = e) (H' := upd (upd H2 hp.objs.size (.xd [("place", y)])) e (NO e C (some hp.objs.size))) (h' := h') ?_ (fun b o z _ q => g3 b o z q) (fun b o z q => ⟨o.slots, g3 b o z q⟩) ?_ (fun b u q z => ?_) (fun b o q n => ?_) fun b u q => ?_).tok tk', k _ nd ne⟩
  · rintro b rfl
    exact ⟨_, he⟩
  · rintro b rfl
    exact ⟨_, g1⟩
  · rw [upd_ne z, upd_ne (ne_of_none q nd)]
    exact q
  · rw [upd_ne (fun r => by rw [r, he] at n; cases n), upd_ne (Nat.ne_of_lt (Heap.lt_size q))]
    exact n
  · by_cases eb : b = e
    · subst eb
      rw [upd_same] at q
      cases q
      exact .inr (NO.ok g1 h1 h0)
    · rw [upd_ne eb] at q
      by_cases e2 : b = hp.objs.size
      · subst e2
        rw [upd_same] at q
        cases q
        refine .inr ⟨_, g2, fun f => ?_⟩
        show RelO (List.lookup f [("place", y)]) (if f = "place" then some u else none)
        by_cases ef : f = "place"
        · have : (f == ("place" : Str)) = true := beq_iff_eq.mpr ef
          simp only [List.lookup, this, if_pos ef]
          exact ry
        · have : (f == ("place" : Str)) = false := beq_eq_false_iff_ne.mpr ef
          simp only [List.lookup, this, if_neg ef]
          exact True.intro
      · rw [upd_ne e2] at q
        exact .inl ⟨q, eb⟩
def tFs (x : Str) (tv : TE) : TE := fun σ H Q => tv σ H fun y H1 => ∃ n : Int, y = .int n ∧ 0 ≤ n ∧ n < 1000000 ∧ ∀ z, Q (.str z) H1
theorem small_log {n : Int} (h0 : 0 ≤ n) (h1 : n < 1000000) : n.natAbs.log2 < 1920 := by
  have h2 : n.natAbs < 2 ^ 20 := by
    have : (2 : Nat) ^ 20 = 1048576 := by decide
    omega
  by_cases hz : n.natAbs = 0
  · rw [hz]; decide
  · exact Nat.lt_of_lt_of_le ((Nat.log2_lt hz).mpr h2) (by decide)
theorem int_short {n : Int} (h0 : 0 ≤ n) (h1 : n < 1000000) : (toString n : Str).length ≤ 20 := by
  have e := PySem.int_text_length_le10 (k := 6) (a := n) (by decide) (by omega)
  show (Str.ofString (toString n)).length ≤ 20
  rw [PySem.ofString_length]; omega
theorem pe_fs {x : Str} {v : Expr} {tv : TE} {i : Nat} {p1 p2 pos : Pos} (hv : PE X v tv) (hx : x.length ≤ 1000) : PE X (.JoinedStr [.Constant (.str x) i p1, .FormattedValue v (-1) none p2] pos) (tFs x tv) := by
  intro pins s σ H Q I h
  refine JoinedStr_many (joinParts_cons (Calls.Constant_str ⟨?_, joinParts_cons (FormattedValue_plain (thn (hv pins _ σ H _ (I.tok (s.toks + 1)) h) fun u s1 ⟨y, H1, I1, ry, n, ey, n0, n1, q⟩ => ?_))⟩))
  · rw [strLen_append]
    have : Str.empty.length = 0 := rfl
    rw [sizeLine_eq]; omega
  · subst ey
    obtain ⟨t, rfl⟩ := (show ∃ t, u = Value.int n t from ry)
    have hl : (toString n : Str).length ≤ 20 := int_short n0 n1
    have e0 : (Str.empty ++ x).length = x.length := by
      rw [strLen_append]
      exact Nat.zero_add _
    refine formatField_int_small (small_log n0 n1) ⟨?_, joinParts_nil ?_ ?_⟩
    · rw [strLen_append, e0, sizeLine_eq]; omega
    · exact ⟨.str _, H1, (I1.tok _), ⟨_, rfl⟩, q _⟩
    · rw [strLen_append, e0, sizeLine_eq]; omega
end
end L2

set_option Elab.async false
set_option linter.all false
set_option maxRecDepth 100000
set_option maxHeartbeats 2000000
namespace L2
open PySem PySem.Spec PyProof.Rows
theorem ObjOk.there {P : Program} {w : World} {H : Hp} {h : Heap} {a : Addr} {o : HO} (x : ObjOk P w H h a o) : ∃ u, h.get? a = some u := by
  cases o with
  | lst xs => obtain ⟨_, _, _, _, e⟩ := x; exact ⟨_, e⟩
  | tup xs => obtain ⟨_, _, _, ⟨_, e, _⟩⟩ := x; exact ⟨_, e⟩
  | dK kvs => obtain ⟨_, _, _, _, o, _, _, e, _⟩ := x; exact ⟨_, e⟩
  | dT kvs => obtain ⟨_, _, _, _, o, _, _, e, _⟩ := x; exact ⟨_, e⟩
  | set S n => obtain ⟨o, _, _, _, e, _⟩ := x; exact ⟨_, e⟩
  | ins C dx fs => obtain ⟨_, _, _, e, _⟩ := x; exact ⟨_, e⟩
  | own y => obtain ⟨_, e⟩ := x; exact ⟨_, e⟩
  | xd fs => obtain ⟨_, ⟨_, _, _, e, _⟩, _⟩ := x; exact ⟨_, e⟩
  | rng lo hi => obtain ⟨_, _, _, e⟩ := x; exact ⟨_, e⟩
  | frz ob u => obtain ⟨e, _⟩ := x; exact ⟨_, e⟩
  | tbl ps => exact ⟨_, (show h.get? a = some _ from x)⟩
  | met f y => exact ⟨_, (show h.get? a = some _ from x)⟩
  | ext φ => obtain ⟨_, ⟨_, e⟩, _⟩ := x; exact ⟨_, e⟩
section
variable {X : Cx} {C fI : Addr}
def spXI (C : Addr) : Sp := fun vs H Q _ => ∃ (e : Addr) (n : Int), vs = [.ref e, .int n] ∧ 0 ≤ n ∧ n < 1000000 ∧ H e = some (NO e C none) ∧
  ∀ (H' : Hp) (dx : Addr), H' e = some (NO e C (some dx)) → H' dx = some (.xd [("place", .int n)]) → dx ≠ e → (∀ b u, H b = some u → b ≠ e → H' b = some u) → Q .non H'
def XW (C : Addr) (E : XK) (n : Int) (H : Hp) : Prop := ∀ (H' : Hp) (dx : Addr), Same H H' → H' dx = some (.xd [("place", .int n)]) → E (.ref C) (some dx) H'
def tRaise (C : Addr) (E : XK) (te : TE) : TS := fun _ σ H => te σ H fun v H1 => ∃ n : Int, v = .int n ∧ 0 ≤ n ∧ n < 1000000 ∧ XW C E n H1
def Reach (X : Cx) (C : Addr) (E : XK) : Prop := ∀ (pins : List (Addr × Obj)) (σ : St) (H : Hp) (s : Shared) (a dx : Addr), Inv X pins σ H s → H a = some (NO a C (some dx)) → (∀ H'' : Hp, (∀ b u, H b = some u → b ≠ a → H'' b = some u) → E (.ref C) (some dx) H'') → X.xe (.ref a) s
theorem ps_raise {CX : CXT} {k : Nat} {fd : FuncData} {E : XK} {np cpos pos : Pos} {a : Expr} {te : TE} (hc : X.calm = true) (ok : CXok CX) (xc : XC X.K C fI) (hg : Gl X "NoRecord") (hm : X.mg "NoRecord" = some (.ref C)) (G : FnOk X.prog X.w X.K X.mg X.base CX k fI fd ["self", "place"] (spXI C))
    (hb : Binds X.K fd ["self", "place"] []) (hr : Room (k + 1) X.A) (reach : Reach X C E) (ha : PE X a te) (he : starEach [a] X.env = [(false, eval a X.env)] := by rfl) :
    PS X (.Raise (some (.Call (.Name "NoRecord" np) [a] [] cpos)) none pos) (tRaise C E te) := by
  intro pins s σ H D I h
  rw [arm_exec_Raise]
  refine wpAny_bind (wpAny_standAt ?_)
  show wpAny _ _ (raiseStmt X.env (some (do let v ← eval (.Call (.Name "NoRecord" np) [a] [] cpos) X.env; standAt pos; pure v)) none) _ _ _
  obtain ⟨nm, qn, N, bs, sn, sub, ab, col, dd, k0, k1, k2, k3, k5, mN, hC, hN, hi, _⟩ := xc.at I.ok.mod.kin
  refine xraise (C := C) (nm := nm) (q := qn) (N := N) (bs := bs) (hdct := true) (sn := sn) (sub := sub) (ab := ab) (col := col) (dd := dd) (k0 := k0) (k1 := k1) (k2 := k2) (k3 := k3) (k5 := k5) (I.ok.hd hc) (wpAny_bind ?_)
  have pa := pa_cons ha pa_nil (hs := he)
  refine wpAny_Call_Name_kw (ld_glob I hg hm ?_ (by decide))
  have h : tCons te tNil σ H (fun vs H1 => match vs with | [v] => (∃ n : Int, v = .int n ∧ 0 ≤ n ∧ n < 1000000 ∧ XW C E n H1) | _ => False) := h
  refine PySem.W.callWith_K (h₀ := X.base) I.ok.mod.kin xc.kp (thn (pa cpos pins s σ H _ I h) fun us s1 ⟨vs, H1, I1, r, q⟩ => ⟨I1.kIn, ?_⟩) he rfl
  match vs, r, q with
  | [v], .cons (b := u) (l₂ := l) rv rn, q =>
    cases rn
    obtain ⟨n, rfl, n0, n1, xw⟩ := q
    obtain ⟨tv, rfl⟩ := (show ∃ t, u = Value.int n t from rv)
    have hC1 := I1.bk _ _ hC
    obtain ⟨oF, lF, cF⟩ := Option.map_eq_some_iff.mp (show (X.K.lookup fI).map (·.cls) = some (.type "function") from beq_iff_eq.mp xc.fn)
    have hF1 := I1.kIn _ _ lF
    have hN1 : s1.heap.Ns N mN := let ⟨o, es, ep, e, z⟩ := hN; ⟨o, es, ep, I1.bk _ _ e, z⟩
    obtain ⟨hp, g, d, tk, os⟩ := s1
    refine wpAny_call_exc_init F.excBase_ValueError hC1 hN1 hi hF1 cF (fun h' e m => ?_) (by show 1 ≤ sizeLine; decide)
    obtain ⟨t0, ge, _, gt⟩ := m.there
    have ne : H1 e = none := by
      cases z : H1 e with
      | none => rfl
      | some u =>
        obtain ⟨o, y⟩ := (I1.hok e u z).there
        rw [m.new] at y
        cases y
    have I2 : Inv X pins σ (upd H1 e (NO e C none)) ⟨h', g, d, tk, os⟩ := by
      refine I1.noted (Z := fun _ => False) (fun _ z => z.elim) (fun b o _ _ q => m.keeps b o q) (fun b o _ q => ⟨o.slots, m.keeps b o q⟩) (fun _ z => z.elim) (fun b u q _ => ?_) (fun b o q n => ?_) fun b u q => ?_
      · rw [upd_ne (ne_of_none q ne)]; exact q
      · rw [upd_ne (fun r => by rw [r, m.new] at q; cases q)]; exact n
      · by_cases eb : b = e
        · subst eb
          rw [upd_same] at q
          cases q
          exact .inr (NO.ok ge rfl rfl)
        · rw [upd_ne eb] at q
          exact .inl ⟨q, fun z => z⟩
    have r2 : Vals [V.ref e, V.int n] [Value.ref e, Value.int n tv] := .cons rfl (.cons ⟨tv, rfl⟩ .nil)
    refine wpAny_call (codeAny_mono (G.run _ X.stack _ _ ⟨[Value.ref e, Value.int n tv], []⟩ [Value.ref e, Value.int n tv] [V.ref e, V.int n] (fun v H' => v = .non ∧ ∃ dx, H' e = some (NO e C (some dx)) ∧ H' dx = some (.xd [("place", .int n)]) ∧ dx ≠ e ∧ ∀ b u, upd H1 e (NO e C none) b = some u → b ≠ e → H' b = some u) E0
      (hr.make C [.int n tv] []) (I2.env0.make C [.int n tv] []) (hb _ [Value.ref e, Value.int n tv] I2.kIn rfl) r2 ⟨e, n, rfl, n0, n1, upd_same, fun H' dx a1 a2 a3 a4 => ⟨rfl, dx, a1, a2, a3, a4⟩⟩) fun r s' hq => ?_)
    cases r with
    | error x => exact (ok _ _ _ _ _ hq).elim
    | ok fl =>
      cases fl with
      | ret u =>
        obtain ⟨v, H', I3, rv, ev, dx, a1, a2, a3, a4⟩ := I2.after hq
        subst ev
        obtain rfl : u = Value.none := rv
        obtain ⟨vs3, sl3, q3, h31, _⟩ := NO.get I3.hok a1
        refine ⟨rfl, wpAny_bind (wpAny_standAt (wpAny_pure ⟨e, _, vs3, sl3, rfl, I3.bk _ _ hC, q3, h31, ?_⟩))⟩
        refine reach pins σ H' s' e dx I3 a1 fun H'' hk => xw H'' dx (fun b u q => hk b u (a4 b u ?_ (ne_of_none q ne)) (ne_of_none q ne)) (hk dx _ a2 a3)
        rw [upd_ne (ne_of_none q ne)]; exact q
      | next => exact False.elim hq
      | brk => exact False.elim hq
      | cont => exact False.elim hq
end
end L2

set_option Elab.async false
set_option linter.all false
set_option maxRecDepth 100000
set_option maxHeartbeats 2000000
namespace L2
open PySem PySem.Spec PyProof.Rows
theorem cxn_ok {P : Program} {w : World} {C : Addr} : CXok (CXN P w C) := fun o H s e s' h => by
  obtain ⟨a, dx, T, H', _, _, _, _, _, _, _, k⟩ := h
  exact k H' fun b u q _ _ => q
theorem reach_body {P : Program} {w : World} {K : PySem.W.Frag} {mg : Str → Option Value} {base : Heap} {N : List Str} {qual : Str} {scope : Scope} {f C : Addr} {cd : Value} {A : Around} {outer : List Env} {s : Shared} {H : Hp} {E : XK} :
    Reach (cxOf (CXN P w C) P w K mg base N qual scope f cd A outer s H E) C E := fun _ _ _ _ _ _ I ha k => raise_body I ha k
abbrev Cx.inX (X : Cx) (a : Addr) : Cx := { X with A := X.A.mark (some (.ref a)), calm := false, xe := fun _ _ => False }
section
variable {X : Cx} {pins : List (Addr × Obj)} {σ : St} {H : Hp} {s : Shared} {C fI : Addr}
theorem Inv.toX (I : Inv X pins σ H s) (a : Addr) : Inv (X.inX a) pins σ H s :=
  ⟨⟨I.ok.mod, I.ok.kind, I.ok.glob, I.ok.blt, I.ok.above, I.ok.inj, I.ok.has, I.ok.cab, fun z => Bool.noConfusion z, I.ok.frames, I.ok.stk, I.ok.exf, I.ok.bs, I.ok.bsz, I.ok.noex, I.ok.exfs, I.ok.funs, I.ok.frf⟩, I.os, I.bare, I.base, I.loc, I.cell, I.free, I.freeC, I.pin, I.hok, I.len⟩
theorem Inv.ofX {a : Addr} (hd : X.calm = true → X.A.handled = none) (I : Inv (X.inX a) pins σ H s) : Inv X pins σ H s :=
  ⟨⟨I.ok.mod, I.ok.kind, I.ok.glob, I.ok.blt, I.ok.above, I.ok.inj, I.ok.has, I.ok.cab, hd, I.ok.frames, I.ok.stk, I.ok.exf, I.ok.bs, I.ok.bsz, I.ok.noex, I.ok.exfs, I.ok.funs, I.ok.frf⟩, I.os, I.bare, I.base, I.loc, I.cell, I.free, I.freeC, I.pin, I.hok, I.len⟩
abbrev Cx.keepP (X : Cx) (pn : List (Addr × Obj)) (xe : Value → Shared → Prop) : Cx := { X with pn := pn, xe := xe }
theorem Inv.toP (I : Inv X pins σ H s) (xe : Value → Shared → Prop) : Inv (X.keepP (X.pn ++ pins) xe) [] σ H s :=
  ⟨⟨I.ok.mod, I.ok.kind, I.ok.glob, I.ok.blt, I.ok.above, I.ok.inj, I.ok.has, I.ok.cab, I.ok.hd, I.ok.frames, I.ok.stk, I.ok.exf, I.ok.bs, I.ok.bsz, I.ok.noex, I.ok.exfs, I.ok.funs, I.ok.frf⟩, I.os, I.bare, I.base, I.loc, I.cell, I.free, I.freeC,
    fun p hp => I.pin p (by simpa using hp), I.hok, I.len⟩
theorem Inv.ofP {pins' : List (Addr × Obj)} {xe : Value → Shared → Prop} (I : Inv (X.keepP (X.pn ++ pins) xe) pins' σ H s) : Inv X pins σ H s :=
  ⟨⟨I.ok.mod, I.ok.kind, I.ok.glob, I.ok.blt, I.ok.above, I.ok.inj, I.ok.has, I.ok.cab, I.ok.hd, I.ok.frames, I.ok.stk, I.ok.exf, I.ok.bs, I.ok.bsz, I.ok.noex, I.ok.exfs, I.ok.funs, I.ok.frf⟩, I.os, I.bare, I.base, I.loc, I.cell, I.free, I.freeC,
    fun p hp => I.pin p (List.mem_append_left _ hp), I.hok, I.len⟩
theorem land_again {M : Model} {A : Around} {E : Value → Shared → Prop} {a dx T : Addr} {Q : Unit → Shared → Prop} (I : Inv X pins σ H s) (ha : H a = some (XO a C dx T)) (hT : H T = some (TBO T)) (k : ∀ s', Inv X pins σ H s' → Q () s') :
    wpAny M A (setFlight (.ref a) none) Q E s := by
  obtain ⟨vs, sl, qa, h1, nTa⟩ := XO.get I.hok ha
  obtain ⟨oT, ts, qT, hdT, h3⟩ := TBO.get I.hok hT
  have hs : 3 < ts.size := (Array.getElem?_eq_some_iff.mp h3).1
  unfold setFlight
  refine wpAny_bind (wpAny_field qa rfl h1 ?_)
  rw [if_pos (show (Value.ref T != Value.none) = true by simp)]
  refine wpAny_setField qT hdT hs ?_
  have dT := Obj.data_mapFields hdT (·.setIfInBounds 3 Value.none)
  have q2 := Heap.get?_update_self (Obj.mapFields (·.setIfInBounds 3 Value.none)) qT (Obj.isFreed_of_fields dT)
  have I2 := I.write (x := T) (e := T) (o := TBO T) (t' := s.toks) (h' := s.heap.update T (Obj.mapFields (·.setIfInBounds 3 Value.none))) (by rw [hT]; exact True.intro) (.inl rfl)
    (fun b u nb q => by rw [Heap.get?_update_other _ _ (Ne.symm nb)]; exact q) ⟨_, q2⟩ (TBO.ok q2 dT (by simp [hs]))
  rw [upd_id hT] at I2
  exact k _ I2
theorem clause_hit {a dx T : Addr} {np hpos : Pos} {R : Result → Shared → Prop} (xc : XC X.K C fI) (hg : Gl X "NoRecord") (hm : X.mg "NoRecord" = some (.ref C)) (I : Inv X pins σ H s) (ha : H a = some (XO a C dx T))
    (k : ∀ s', Inv X pins σ H s' → R (.ok .brk) s') : codeAny (model X.prog X.w) (X.A.mark (some (.ref a))) (.handlers (.ref a) [.ExceptHandler (some (.Name "NoRecord" np)) none [] hpos] X.env) R s := by
  have hd := I.ok.hd
  have p : PE (X.inX a) (.Name "NoRecord" np) (tC (.ref C)) := pe_glob hg hm rfl (by decide)
  refine codeAny_handlers_test (wpAny_mono (p pins s σ H (fun v H1 => v = .ref C ∧ H1 = H) (I.toX a) ⟨rfl, rfl⟩) (fun c s1 q => ?_) fun _ _ z => z.elim)
  obtain ⟨v, H1, I1, rv, ev, eh⟩ := q
  subst ev eh
  obtain rfl : c = Value.ref C := rv
  obtain ⟨vs, sl, qa, _⟩ := XO.get I1.hok ha
  obtain ⟨nm, qn, N, bs, sn, sub, ab, col, dd, k0, k1, k2, k3, k5, mN, hC, _⟩ := xc.at I1.kIn
  obtain ⟨hp, g, d, tk, os⟩ := s1
  exact wpAny_excMatches_sub_self hC qa rfl (by decide) (k _ (I1.ofX hd))
def tTry0 (tb : XK → TS) (th : TS) : TS := fun D σ H => tb (fun _ _ H' => ∀ σ' : St, th D σ' H') D σ H
theorem ps_try0 {body : List Stmt} {b0 : Stmt} {rest : List Stmt} {np hpos pos : Pos} {tb : XK → TS} {th : TS} (stk : X.stack = X.env :: X.outer) (hf : X.env.frame = some X.env.locals) (xc : XC X.K C fI) (hg : Gl X "NoRecord") (hm : X.mg "NoRecord" = some (.ref C))
    (hb : ∀ (pn : List (Addr × Obj)) (xe : Value → Shared → Prop) (E : XK), Passes (CXN X.prog X.w C) (X.keepP pn xe) E → PSs (X.keepP pn xe) body (tb E)) (hs : ∀ a, PSs (X.inX a) (b0 :: rest) th) :
    PS X (.Try body [.ExceptHandler (some (.Name "NoRecord" np)) none (b0 :: rest) hpos] [] [] pos) (tTry0 tb th) := by
  intro pins s σ H D I h
  have hd := I.ok.hd
  refine wpAny_Try_except ?_
  have key := hb (X.pn ++ pins) (fun e s₁ => wpAny (model X.prog X.w) X.A (noteFrame e X.env) (fun _ s₂ => wpAny (model X.prog X.w) X.A (setFlight e none) (fun _ s₃ =>
      wpAny (model X.prog X.w) X.A (handleBy e X.env [.ExceptHandler (some (.Name "NoRecord" np)) none (b0 :: rest) hpos]) (SP X pins D) X.xe s₃) X.xe s₂) X.xe s₁) (fun _ _ H' => ∀ σ' : St, th D σ' H') ?_ [] s σ H D (I.toP _) h
  · refine wpAny_mono key (fun f s1 q => ?_) fun _ _ z => z
    cases f with
    | next =>
      obtain ⟨σ', H', J, q⟩ := q
      exact wpAny_execs_nil ⟨σ', H', J.ofP, q⟩
    | ret u =>
      obtain ⟨v, σ', H', J, r, q⟩ := q
      exact ⟨v, σ', H', J.ofP, r, q⟩
    | brk =>
      obtain ⟨σ', H', J, q⟩ := q
      exact ⟨σ', H', J.ofP, q⟩
    | cont =>
      obtain ⟨σ', H', J, q⟩ := q
      exact ⟨σ', H', J.ofP, q⟩
  · intro pins' σ1 H1 s1 e s' I1 hx
    obtain ⟨a, dx, T, H', rfl, os, bare, un, hok, ha, hT, k⟩ := hx
    have I2 := (I1.call' (ch := []) os un hok bare fun b z => nomatch z).ofP
    refine note_fly I2 stk hf ha hT fun s2 H2 T2 J n2 ha2 hT2 kk => ?_
    have rd : th D σ1 H2 := k H2 kk σ1
    refine wpAny_handleBy_cons (clause_hit xc hg hm J ha2 fun s3 J3 => ?_) (by intro z; cases z)
    refine codeAny_handlers_suite (land_again J3 ha2 hT2 fun s4 J4 => ?_)
    refine wpAny_mono (hs a pins s4 σ1 H2 D (J4.toX a) rd) (fun f s5 q => ?_) fun _ _ z => z.elim
    cases f with
    | next =>
      obtain ⟨σ', H', J, q⟩ := q
      exact ⟨σ', H', J.ofX hd, q⟩
    | ret u =>
      obtain ⟨v, σ', H', J, r, q⟩ := q
      exact ⟨v, σ', H', J.ofX hd, r, q⟩
    | brk =>
      obtain ⟨σ', H', J, q⟩ := q
      exact ⟨σ', H', J.ofX hd, q⟩
    | cont =>
      obtain ⟨σ', H', J, q⟩ := q
      exact ⟨σ', H', J.ofX hd, q⟩
def tTry1 (C : Addr) (i : Nat) (tb : XK → TS) (th : TS) : TS := fun D σ H => tb (fun _ d H' => ∀ (σ' : St) (a dx T : Addr), d = some dx → H' a = some (XO a C dx T) → σ'.length = σ.length → th { nx := fun _ _ => False, rt := D.rt } (σ'.set i (some (.ref a))) H') D σ H
def tXfld (C : Addr) (ta : TE) : TE := fun σ H Q => ta σ H fun x H1 => ∃ (a dx T : Addr) (n : Int), x = .ref a ∧ H1 a = some (XO a C dx T) ∧ H1 dx = some (.xd [("place", .int n)]) ∧ Q (.int n) H1
end
end L2

set_option Elab.async false
set_option linter.all false
set_option maxRecDepth 100000
set_option maxHeartbeats 2000000
namespace L2
open PySem PySem.Spec PyProof.Rows
section
variable {X : Cx}
theorem lc_str {x : Str} {g : TG} {tt : TT} {te : TE} {vs : List Nat} {σ : St} {H1 : Hp} {D : Addr} {Qd : Hp → Prop} (Pv : Nat → Hp → Prop) (h0 : Pv 0 (upd H1 D (.lst [])))
    (hs : ∀ i c H, x.cps.toList[i]? = some c → Pv i H → g (.str ⟨#[c]⟩) (wipe σ vs) H fun σ2 H2 => wipe σ2 vs = wipe σ vs ∧ tt σ2 H2 fun b H3 =>
      if b = true then te σ2 H3 fun y H4 => ∃ acc, H4 D = some (.lst acc) ∧ acc.length < sizeLine ∧ Pv (i + 1) (upd H4 D (.lst (acc ++ [y]))) else Pv (i + 1) H3) (hd : ∀ H, Pv x.cps.size H → Qd H) :
    ∃ W : Nat → Nat → Hp → Prop, (∃ m, W 0 m (upd H1 D (.lst []))) ∧ ∀ i m H, W i m H →
      ((Its x).stop i H ∧ Qd H) ∨ ((Its x).go i H ∧ ∃ Nx : Hp → Prop, (∀ H', Nx H' → ∃ m', m' < m ∧ W (i + 1) m' H') ∧ ∀ v H', (Its x).yld i H v H' → g v (wipe σ vs) H' fun σ2 H2 => wipe σ2 vs = wipe σ vs ∧ tt σ2 H2 fun b H3 =>
        if b = true then te σ2 H3 fun y H4 => ∃ acc, H4 D = some (.lst acc) ∧ acc.length < sizeLine ∧ Nx (upd H4 D (.lst (acc ++ [y]))) else Nx H3) := by
  refine ⟨fun i m H => m = x.cps.size - i ∧ i ≤ x.cps.size ∧ Pv i H, ⟨x.cps.size, by simp, Nat.zero_le _, h0⟩, ?_⟩
  rintro i m H ⟨rfl, hi, p⟩
  by_cases hlt : i < x.cps.size
  · refine .inr ⟨hlt, Pv (i + 1), fun H' p' => ⟨x.cps.size - (i + 1), by omega, rfl, hlt, p'⟩, ?_⟩
    rintro v H' ⟨rfl, c, hc, rfl⟩
    exact hs i c H' (by rw [Array.getElem?_toList]; exact hc) p
  · have e : i = x.cps.size := by omega
    subst e
    exact .inl ⟨Nat.le_refl _, hd H p⟩
end
end L2

namespace M
open Vbdcam
inductive FI where
  | move (m : Move) (marks : List Nat)
  | note (t : Text)
  | opn (b : Bool)
  | cls (b : Bool)
mutual
def flatItem : Item → List FI
  | .move m l => [.move m l]
  | .note t => [.note t]
  | .alt l => .opn false :: (flat l ++ [.cls false])
  | .back l => .opn true :: (flat l ++ [.cls true])
def flat : Items → List FI
  | .nil => []
  | .cons i r => flatItem i ++ flat r
end
structure OL where
  ply : Nat
  moves : Nat
  closing : Option Bool
structure RS where
  line : List FI
  top : OL
  rest : List OL
def canMark (l : List FI) : Bool := match l.getLast? with
  | some (.move _ ms) => decide (ms.length < 4)
  | _ => false
def addMark (l : List FI) (n : Nat) : List FI := match l.getLast? with
  | some (.move m ms) => l.dropLast ++ [.move m (ms ++ [n])]
  | _ => l
def numOk (n dots ply : Nat) : Bool := decide (n = ply / 2 + 1 ∧ dots = (if ply % 2 = 0 then 1 else 3))
def mstep (t : Tok) (p : Nat) (nm : Bool) (s : RS) : Except Nat RS :=
  match t with
  | .move m a => .ok { s with line := s.line ++ [.move m a.toList], top := { s.top with ply := s.top.ply + 1, moves := s.top.moves + 1 } }
  | .mark n => if canMark s.line = true then .ok { s with line := addMark s.line n } else .error p
  | .num n d => if numOk n d s.top.ply = true ∧ nm = true then .ok s else .error p
  | .note c => .ok { s with line := s.line ++ [.note c] }
  | .open_ b => if 40 < s.rest.length + 1 ∨ (b = false ∧ s.top.moves = 0) then .error p
      else .ok { line := s.line ++ [.opn b], top := ⟨if b = true then s.top.ply else s.top.ply - 1, 0, some b⟩, rest := s.top :: s.rest }
  | .close b => (match s.rest with
      | [] => .error p
      | o :: r => if s.top.closing = some b ∧ 0 < s.top.moves then .ok { line := s.line ++ [.cls b], top := o, rest := r } else .error p)
  | _ => .error p
def run (e : Nat) : Toks → RS → Except Nat (List FI × Nat × Toks)
  | [], _ => .error e
  | (t, p) :: r, s => match t with
    | .result k => if s.rest = [] then .ok (s.line, k, r) else .error p
    | t => match mstep t p (isMove r) s with
      | .error q => .error q
      | .ok s' => run e r s'
theorem canMark_snoc_move (l : List FI) (m : Move) (ms : List Nat) : canMark (l ++ [.move m ms]) = decide (ms.length < 4) := by
  simp [canMark]
theorem addMark_snoc (l : List FI) (m : Move) (ms : List Nat) (n : Nat) : addMark (l ++ [.move m ms]) n = l ++ [.move m (ms ++ [n])] := by
  simp [addMark]
def noMark : Toks → Prop
  | (.mark _, _) :: _ => False
  | _ => True
theorem marks_run (e : Nat) : ∀ (k : Nat) (r : Toks) (s : RS) (l : List FI) (m : Move) (ms : List Nat), s.line = l ++ [.move m ms] → ms.length + k = 4 →
    match marksOf k r with
    | .error p => run e r s = .error p
    | .ok (x, u) => run e r s = run e u { s with line := l ++ [.move m (ms ++ x)] } ∧ u.length ≤ r.length ∧ noMark u
  | k, [], s, l, m, ms, hs, hk => by
    have e1 : marksOf k ([] : Toks) = .ok ([], []) := by cases k <;> rfl
    rw [e1]
    refine ⟨?_, Nat.le_refl _, trivial⟩
    rw [List.append_nil, ← hs]
  | k, (.mark n, p) :: r, s, l, m, ms, hs, hk => by
    match k, hk with
    | 0, hk =>
      have e1 : marksOf 0 ((Tok.mark n, p) :: r) = .error p := rfl
      rw [e1]
      show (match mstep (.mark n) p (isMove r) s with | .error q => Except.error q | .ok s' => run e r s') = _
      have : canMark s.line = false := by rw [hs, canMark_snoc_move]; simp; omega
      simp [mstep, this]
    | j + 1, hk =>
      have ih := marks_run e j r { s with line := l ++ [.move m (ms ++ [n])] } l m (ms ++ [n]) rfl (by simp; omega)
      have e0 : marksOf (j + 1) ((Tok.mark n, p) :: r) = (match marksOf j r with | .ok (l, u) => .ok (n :: l, u) | .error e => .error e) := rfl
      have e2 : run e ((Tok.mark n, p) :: r) s = run e r { s with line := l ++ [.move m (ms ++ [n])] } := by
        show (match mstep (.mark n) p (isMove r) s with | .error q => Except.error q | .ok s' => run e r s') = _
        have : canMark s.line = true := by rw [hs, canMark_snoc_move]; simp; omega
        simp [mstep, this]
        rw [hs, addMark_snoc]
      rw [e0, e2]
      cases h : marksOf j r with
      | error p => rw [h] at ih; exact ih
      | ok x =>
        obtain ⟨x, u⟩ := x
        rw [h] at ih
        obtain ⟨h1, h2, h3⟩ := ih
        refine ⟨?_, by simp; omega, h3⟩
        rw [h1]
        simp
  | k, (.open_ b, p) :: r, s, l, m, ms, hs, hk => by
    have e1 : marksOf k ((Tok.open_ b, p) :: r) = .ok ([], (Tok.open_ b, p) :: r) := by cases k <;> rfl
    rw [e1]; exact ⟨by rw [List.append_nil, ← hs], Nat.le_refl _, trivial⟩
  | k, (.close b, p) :: r, s, l, m, ms, hs, hk => by
    have e1 : marksOf k ((Tok.close b, p) :: r) = .ok ([], (Tok.close b, p) :: r) := by cases k <;> rfl
    rw [e1]; exact ⟨by rw [List.append_nil, ← hs], Nat.le_refl _, trivial⟩
  | k, (.note b, p) :: r, s, l, m, ms, hs, hk => by
    have e1 : marksOf k ((Tok.note b, p) :: r) = .ok ([], (Tok.note b, p) :: r) := by cases k <;> rfl
    rw [e1]; exact ⟨by rw [List.append_nil, ← hs], Nat.le_refl _, trivial⟩
  | k, (.num b d, p) :: r, s, l, m, ms, hs, hk => by
    have e1 : marksOf k ((Tok.num b d, p) :: r) = .ok ([], (Tok.num b d, p) :: r) := by cases k <;> rfl
    rw [e1]; exact ⟨by rw [List.append_nil, ← hs], Nat.le_refl _, trivial⟩
  | k, (.result b, p) :: r, s, l, m, ms, hs, hk => by
    have e1 : marksOf k ((Tok.result b, p) :: r) = .ok ([], (Tok.result b, p) :: r) := by cases k <;> rfl
    rw [e1]; exact ⟨by rw [List.append_nil, ← hs], Nat.le_refl _, trivial⟩
  | k, (.move b d, p) :: r, s, l, m, ms, hs, hk => by
    have e1 : marksOf k ((Tok.move b d, p) :: r) = .ok ([], (Tok.move b d, p) :: r) := by cases k <;> rfl
    rw [e1]; exact ⟨by rw [List.append_nil, ← hs], Nat.le_refl _, trivial⟩
  | k, (.head b d, p) :: r, s, l, m, ms, hs, hk => by
    have e1 : marksOf k ((Tok.head b d, p) :: r) = .ok ([], (Tok.head b d, p) :: r) := by cases k <;> rfl
    rw [e1]; exact ⟨by rw [List.append_nil, ← hs], Nat.le_refl _, trivial⟩
  | k, (.bad, p) :: r, s, l, m, ms, hs, hk => by
    have e1 : marksOf k ((Tok.bad, p) :: r) = .ok ([], (Tok.bad, p) :: r) := by cases k <;> rfl
    rw [e1]; exact ⟨by rw [List.append_nil, ← hs], Nat.le_refl _, trivial⟩
def stops : Toks → Prop
  | [] => True
  | (.mark _, _) :: _ => True
  | (.result _, _) :: _ => True
  | (.close _, _) :: _ => True
  | (.head _ _, _) :: _ => True
  | (.bad, _) :: _ => True
  | _ => False
def LineOk (e : Nat) (t : Toks) (s : RS) (x : Except Nat (Items × Bool × Toks)) : Prop :=
  match x with
  | .error p => run e t s = .error p
  | .ok (i, a, v) => ∃ ply' moves', run e t s = run e v { s with line := s.line ++ flat i, top := { s.top with ply := ply', moves := moves' } } ∧ (0 < moves' ↔ a = true) ∧ stops v ∧ v.length ≤ t.length ∧
      (canMark (s.line ++ flat i) = false ∨ noMark v)
theorem run_cons (e : Nat) (t : Tok) (p : Nat) (r : Toks) (s : RS) (h : ∀ k, t ≠ .result k) : run e ((t, p) :: r) s = (match mstep t p (isMove r) s with | .error q => .error q | .ok s' => run e r s') := by
  cases t <;> first | rfl | (exact absurd rfl (h _))
theorem canMark_note (l : List FI) (c : Text) : canMark (l ++ [.note c]) = false := by simp [canMark]
theorem canMark_opn (l : List FI) (c : Bool) : canMark (l ++ [.opn c]) = false := by simp [canMark]
theorem canMark_cls (l : List FI) (c : Bool) : canMark (l ++ [.cls c]) = false := by simp [canMark]
theorem line_run (e : Nat) : ∀ (k : Nat) (t : Toks) (s : RS) (ply d : Nat) (any : Bool), t.length < k → s.top.ply = ply → (0 < s.top.moves ↔ any = true) → d + s.rest.length = 40 →
    (canMark s.line = false ∨ noMark t) → LineOk e t s (line k e t ply d any)
  | 0, t, s, ply, d, any, hk, _, _, _, _ => absurd hk (Nat.not_lt_zero _)
  | k + 1, [], s, ply, d, any, hk, hp, ha, hd, hm => by
    show LineOk e [] s (.ok (.nil, any, []))
    refine ⟨s.top.ply, s.top.moves, ?_, ha, trivial, Nat.le_refl _, ?_⟩
    · simp [flat]
    · exact .inr trivial
  | k + 1, (.num n dots, p) :: r, s, ply, d, any, hk, hp, ha, hd, hm => by
    show LineOk e _ s (if n = ply / 2 + 1 ∧ dots = (if ply % 2 = 0 then 1 else 3) ∧ isMove r = true then line k e r ply d any else .error p)
    have hr := run_cons e (.num n dots) p r s (by intro k h; cases h)
    by_cases hc : n = ply / 2 + 1 ∧ dots = (if ply % 2 = 0 then 1 else 3) ∧ isMove r = true
    · rw [if_pos hc]
      have ih := line_run e k r s ply d any (by simp at hk; omega) hp ha hd (by
        right
        cases r with
        | nil => exact absurd hc.2.2 (by simp [isMove])
        | cons x r =>
          obtain ⟨x, q⟩ := x
          cases x <;> first | trivial | exact absurd hc.2.2 (by simp [isMove]))
      have e2 : run e ((.num n dots, p) :: r) s = run e r s := by
        rw [hr]
        have : numOk n dots s.top.ply = true := by rw [hp]; simp [numOk, hc.1]; exact hc.2.1
        simp [mstep, this, hc.2.2]
      cases h : line k e r ply d any with
      | error q => rw [h] at ih; show run e _ s = _; rw [e2]; exact ih
      | ok x =>
        obtain ⟨i, a, v⟩ := x
        rw [h] at ih
        obtain ⟨p', m', h1, h2, h3, h4, h5⟩ := ih
        exact ⟨p', m', by rw [e2]; exact h1, h2, h3, by simp; omega, h5⟩
    · rw [if_neg hc]
      show run e _ s = _
      rw [hr]
      have : ¬ (numOk n dots s.top.ply = true ∧ isMove r = true) := by
        rw [hp]
        intro h
        apply hc
        have h1 := of_decide_eq_true h.1
        exact ⟨h1.1, h1.2, h.2⟩
      simp only [mstep]
      rw [if_neg this]
  | k + 1, (.move m a, p) :: r, s, ply, d, any, hk, hp, ha, hd, hm => by
    have hr := run_cons e (.move m a) p r s (by intro k h; cases h)
    have e2 : run e ((.move m a, p) :: r) s = run e r { s with line := s.line ++ [.move m a.toList], top := { s.top with ply := s.top.ply + 1, moves := s.top.moves + 1 } } := by rw [hr]; rfl
    have hmk := marks_run e (if a.isSome = true then MARKS - 1 else MARKS) r { s with line := s.line ++ [.move m a.toList], top := { s.top with ply := s.top.ply + 1, moves := s.top.moves + 1 } } s.line m a.toList rfl (by cases a <;> rfl)
    show LineOk e _ s (match marksOf (if a.isSome = true then MARKS - 1 else MARKS) r with
        | .error p => .error p
        | .ok (l, u) => match line k e u (ply + 1) d true with
          | .ok (i, a', v) => .ok (.cons (.move m (a.toList ++ l)) i, a', v)
          | .error p => .error p)
    cases hq : marksOf (if a.isSome = true then MARKS - 1 else MARKS) r with
    | error q =>
      rw [hq] at hmk
      show run e _ s = _
      rw [e2]; exact hmk
    | ok x =>
      obtain ⟨l, u⟩ := x
      rw [hq] at hmk
      obtain ⟨h1, h2, h3⟩ := hmk
      have ih := line_run e k u { s with line := s.line ++ [.move m (a.toList ++ l)], top := { s.top with ply := s.top.ply + 1, moves := s.top.moves + 1 } } (ply + 1) d true (by simp at hk; omega) (by simp [hp]) (by simp) hd (.inr h3)
      show LineOk e _ s (match line k e u (ply + 1) d true with
          | .ok (i, a', v) => .ok (.cons (.move m (a.toList ++ l)) i, a', v)
          | .error p => .error p)
      cases hl : line k e u (ply + 1) d true with
      | error q => rw [hl] at ih; show run e _ s = _; rw [e2, h1]; exact ih
      | ok x =>
        obtain ⟨i, a', v⟩ := x
        rw [hl] at ih
        obtain ⟨p', m', g1, g2, g3, g4, g5⟩ := ih
        refine ⟨p', m', ?_, g2, g3, by simp; omega, ?_⟩
        · rw [e2, h1, g1]
          simp [flat, flatItem]
        · simpa [flat, flatItem] using g5
  | k + 1, (.note c, p) :: r, s, ply, d, any, hk, hp, ha, hd, hm => by
    have e2 : run e ((.note c, p) :: r) s = run e r { s with line := s.line ++ [.note c] } := by rw [run_cons e (.note c) p r s (by intro k h; cases h)]; rfl
    have ih := line_run e k r { s with line := s.line ++ [.note c] } ply d any (by simp at hk; omega) hp ha hd (.inl (canMark_note _ _))
    show LineOk e _ s (match line k e r ply d any with
      | .ok (i, a, v) => .ok (.cons (.note c) i, a, v)
      | .error p => .error p)
    cases hl : line k e r ply d any with
    | error q => rw [hl] at ih; show run e _ s = _; rw [e2]; exact ih
    | ok x =>
      obtain ⟨i, a', v⟩ := x
      rw [hl] at ih
      obtain ⟨p', m', g1, g2, g3, g4, g5⟩ := ih
      refine ⟨p', m', ?_, g2, g3, by simp; omega, ?_⟩
      · rw [e2, g1]
        simp [flat, flatItem]
      · simpa [flat, flatItem] using g5
  | k + 1, (.open_ b, p) :: r, s, ply, d, any, hk, hp, ha, hd, hm => by
    have hr := run_cons e (.open_ b) p r s (by intro k h; cases h)
    show LineOk e _ s (if d = 0 ∨ (b = false ∧ any = false) then .error p
      else match line k e r (if b = true then ply else ply - 1) (d - 1) false with
        | .error q => .error q
        | .ok (_, false, u) => .error ((u.head?.map fun x => x.2).getD e)
        | .ok (l, true, u) => match u with
          | (.close c, q) :: v =>
            if c ≠ b then .error q
            else (match line k e v ply d any with
              | .ok (i, a, w) => .ok (.cons (if b = true then .back l else .alt l) i, a, w)
              | .error z => .error z)
          | (_, q) :: _ => .error q
          | [] => .error e)
    by_cases hc : d = 0 ∨ (b = false ∧ any = false)
    · rw [if_pos hc]
      show run e _ s = _
      rw [hr]
      have : 40 < s.rest.length + 1 ∨ (b = false ∧ s.top.moves = 0) := by
        rcases hc with h | ⟨h1, h2⟩
        · left; omega
        · right
          refine ⟨h1, ?_⟩
          rw [h2] at ha
          simp at ha
          exact ha
      simp only [mstep]
      rw [if_pos this]
    · rw [if_neg hc]
      have hn : ¬ (40 < s.rest.length + 1 ∨ (b = false ∧ s.top.moves = 0)) := by
        intro h
        apply hc
        rcases h with h | ⟨h1, h2⟩
        · left; omega
        · right
          refine ⟨h1, ?_⟩
          rw [h2] at ha
          simpa using ha
      have e2 : run e ((.open_ b, p) :: r) s = run e r { line := s.line ++ [.opn b], top := ⟨if b = true then s.top.ply else s.top.ply - 1, 0, some b⟩, rest := s.top :: s.rest } := by
        rw [hr]
        simp only [mstep]
        rw [if_neg hn]
      have ih := line_run e k r { line := s.line ++ [.opn b], top := ⟨if b = true then s.top.ply else s.top.ply - 1, 0, some b⟩, rest := s.top :: s.rest } (if b = true then ply else ply - 1) (d - 1) false (by simp at hk; omega) (by simp [hp]) (by simp) (by simp; omega) (.inl (canMark_opn _ _))
      cases hl : line k e r (if b = true then ply else ply - 1) (d - 1) false with
      | error q => rw [hl] at ih; show run e _ s = _; rw [e2]; exact ih
      | ok x =>
        obtain ⟨l, a', u⟩ := x
        rw [hl] at ih
        obtain ⟨p', m', g1, g2, g3, g4, g5⟩ := ih
        rw [List.append_assoc] at g1 g5
        cases a' with
        | false =>
          show run e _ s = .error _
          rw [e2, g1]
          have m0 : m' = 0 := by simpa using g2
          cases u with
          | nil => rfl
          | cons x u =>
            obtain ⟨x, q⟩ := x
            show _ = Except.error q
            cases x with
            | result n => simp [run]
            | mark n =>
              rw [run_cons _ _ _ _ _ (by intro k h; cases h)]
              rcases g5 with g5 | g5
              · simp only [mstep]
                rw [if_neg (by rw [← List.append_assoc]; rw [← List.append_assoc] at g5; rw [g5]; simp)]
              · exact g5.elim
            | close c =>
              rw [run_cons _ _ _ _ _ (by intro k h; cases h)]
              simp only [mstep]
              rw [if_neg (by rw [m0]; simp)]
            | head n v => rw [run_cons _ _ _ _ _ (by intro k h; cases h)]; rfl
            | bad => rw [run_cons _ _ _ _ _ (by intro k h; cases h)]; rfl
            | open_ b => exact g3.elim
            | note b => exact g3.elim
            | num b c => exact g3.elim
            | move b c => exact g3.elim
        | true =>
          have m1 : 0 < m' := by simpa using g2
          cases u with
          | nil => show run e _ s = .error _; rw [e2, g1]; rfl
          | cons x u =>
            obtain ⟨x, q⟩ := x
            cases x with
            | result n => show run e _ s = .error _; rw [e2, g1]; simp [run]
            | mark n =>
              show run e _ s = .error _; rw [e2, g1]
              rw [run_cons _ _ _ _ _ (by intro k h; cases h)]
              rcases g5 with g5 | g5
              · simp only [mstep]
                rw [if_neg (by rw [← List.append_assoc]; rw [← List.append_assoc] at g5; rw [g5]; simp)]
              · exact g5.elim
            | head n v => show run e _ s = .error _; rw [e2, g1]; rw [run_cons _ _ _ _ _ (by intro k h; cases h)]; rfl
            | bad => show run e _ s = .error _; rw [e2, g1]; rw [run_cons _ _ _ _ _ (by intro k h; cases h)]; rfl
            | open_ b => exact g3.elim
            | note b => exact g3.elim
            | num b c => exact g3.elim
            | move b c => exact g3.elim
            | close c =>
              show LineOk e _ s (if c ≠ b then .error q
                else (match line k e u ply d any with
                  | .ok (i, a, w) => .ok (.cons (if b = true then .back l else .alt l) i, a, w)
                  | .error z => .error z))
              by_cases hcb : c = b
              · subst hcb
                rw [if_neg (by simp)]
                have e3 : run e ((.open_ c, p) :: r) s = run e u { s with line := s.line ++ (.opn c :: (flat l ++ [.cls c])) } := by
                  rw [e2, g1, run_cons _ _ _ _ _ (by intro k h; cases h)]
                  simp only [mstep]
                  rw [if_pos ⟨trivial, m1⟩]
                  simp
                have ih2 := line_run e k u { s with line := s.line ++ (.opn c :: (flat l ++ [.cls c])) } ply d any (by simp at hk g4; omega) hp ha hd (.inl (by
                  have : s.line ++ (FI.opn c :: (flat l ++ [FI.cls c])) = (s.line ++ (FI.opn c :: flat l)) ++ [FI.cls c] := by simp
                  show canMark (s.line ++ (FI.opn c :: (flat l ++ [FI.cls c]))) = false
                  rw [this]; exact canMark_cls _ _))
                cases hl2 : line k e u ply d any with
                | error z => rw [hl2] at ih2; show run e _ s = _; rw [e3]; exact ih2
                | ok y =>
                  obtain ⟨i, a, w⟩ := y
                  rw [hl2] at ih2
                  obtain ⟨p2, m2, f1, f2, f3, f4, f5⟩ := ih2
                  have ef : flat (.cons (if c = true then .back l else .alt l) i) = .opn c :: (flat l ++ [.cls c]) ++ flat i := by
                    cases c <;> simp [flat, flatItem]
                  refine ⟨p2, m2, ?_, f2, f3, by simp at g4 ⊢; omega, ?_⟩
                  · rw [e3, f1, ef]
                    simp
                  · rw [ef]; simpa using f5
              · rw [if_pos hcb]
                show run e _ s = .error _
                rw [e2, g1, run_cons _ _ _ _ _ (by intro k h; cases h)]
                simp only [mstep]
                rw [if_neg (by intro h; exact hcb (Option.some.inj h.1).symm)]
  | k + 1, (.mark n, p) :: r, s, ply, d, any, hk, hp, ha, hd, hm => by
    show LineOk e _ s (.ok (.nil, any, _))
    refine ⟨s.top.ply, s.top.moves, by simp [flat], ha, trivial, Nat.le_refl _, ?_⟩
    simpa [flat] using hm
  | k + 1, (.close n, p) :: r, s, ply, d, any, hk, hp, ha, hd, hm => by
    show LineOk e _ s (.ok (.nil, any, _))
    exact ⟨s.top.ply, s.top.moves, by simp [flat], ha, trivial, Nat.le_refl _, .inr trivial⟩
  | k + 1, (.result n, p) :: r, s, ply, d, any, hk, hp, ha, hd, hm => by
    show LineOk e _ s (.ok (.nil, any, _))
    exact ⟨s.top.ply, s.top.moves, by simp [flat], ha, trivial, Nat.le_refl _, .inr trivial⟩
  | k + 1, (.head n v, p) :: r, s, ply, d, any, hk, hp, ha, hd, hm => by
    show LineOk e _ s (.ok (.nil, any, _))
    exact ⟨s.top.ply, s.top.moves, by simp [flat], ha, trivial, Nat.le_refl _, .inr trivial⟩
  | k + 1, (.bad, p) :: r, s, ply, d, any, hk, hp, ha, hd, hm => by
    show LineOk e _ s (.ok (.nil, any, _))
    exact ⟨s.top.ply, s.top.moves, by simp [flat], ha, trivial, Nat.le_refl _, .inr trivial⟩
end M

namespace M
open Vbdcam
def init : RS := ⟨[], ⟨0, 0, none⟩, []⟩
def mread (t : Text) : Except Nat (List (Text × Text) × List FI × Nat) :=
  if LONGEST < t.length then .error (LONGEST + 1)
  else match heads [] (tokens (t.length + 1) 1 t) with
    | .error p => .error p
    | .ok (hs, u) => match run (t.length + 1) u init with
      | .error p => .error p
      | .ok (l, k, rest) => match rest with
        | [] => .ok (hs, l, k)
        | (_, p) :: _ => .error p
theorem tokens_len : ∀ (k p : Nat) (t : Text), (tokens k p t).length ≤ k
  | 0, _, _ => by simp [tokens]
  | k + 1, p, [] => by simp [tokens]
  | k + 1, p, c :: r => by
    unfold tokens
    simp only []
    split
    · exact Nat.le_succ_of_le (tokens_len k _ _)
    split
    · simp; exact tokens_len k _ _
    split
    · simp; exact tokens_len k _ _
    split
    · simp; exact tokens_len k _ _
    split
    · simp; exact tokens_len k _ _
    split
    · split
      · split
        · simp; exact tokens_len k _ _
        · simp
      · simp
    split
    · split
      · simp; exact tokens_len k _ _
      · simp
    split
    · simp
    · split
      · simp
      · simp; exact tokens_len k _ _
theorem heads_len : ∀ (t : Toks) (l : List (Text × Text)) (hs : List (Text × Text)) (u : Toks), heads l t = .ok (hs, u) → u.length ≤ t.length
  | [], l, hs, u, h => by cases h; exact Nat.le_refl _
  | (.head n v, p) :: r, l, hs, u, h => by
    have h : (if (l.any fun h => h.1 == n) = true ∨ 20 ≤ l.length then (.error p : Except Nat (List (Text × Text) × Toks)) else heads (l ++ [(n, v)]) r) = .ok (hs, u) := h
    split at h
    · cases h
    · have := heads_len r _ hs u h
      simp; omega
  | (.open_ b, p) :: r, l, hs, u, h => by cases h; exact Nat.le_refl _
  | (.close b, p) :: r, l, hs, u, h => by cases h; exact Nat.le_refl _
  | (.note b, p) :: r, l, hs, u, h => by cases h; exact Nat.le_refl _
  | (.mark b, p) :: r, l, hs, u, h => by cases h; exact Nat.le_refl _
  | (.num b c, p) :: r, l, hs, u, h => by cases h; exact Nat.le_refl _
  | (.result b, p) :: r, l, hs, u, h => by cases h; exact Nat.le_refl _
  | (.move b c, p) :: r, l, hs, u, h => by cases h; exact Nat.le_refl _
  | (.bad, p) :: r, l, hs, u, h => by cases h; exact Nat.le_refl _
def told (x : Except Nat Record) : Except Nat (List (Text × Text) × List FI × Nat) := match x with
  | .error p => .error p
  | .ok r => .ok (r.heads, flat r.line, r.result)
theorem mread_eq (t : Text) : mread t = told (readRecord t) := by
  unfold mread readRecord
  split
  · rfl
  · simp only []
    cases hh : heads [] (tokens (t.length + 1) 1 t) with
    | error p => rfl
    | ok x =>
      obtain ⟨hs, u⟩ := x
      have hl : u.length < 4 * (t.length + 1) := by
        have h1 := heads_len _ _ _ _ hh
        have h2 := tokens_len (t.length + 1) 1 t
        omega
      have key := line_run (t.length + 1) (4 * (t.length + 1)) u init 0 DEEP false hl rfl (by simp [init]) (by simp [init, DEEP]) (.inl rfl)
      simp only []
      cases hq : line (4 * (t.length + 1)) (t.length + 1) u 0 DEEP false with
      | error p => rw [hq] at key; have key : run (t.length + 1) u init = .error p := key; rw [key]; rfl
      | ok y =>
        obtain ⟨i, a, v⟩ := y
        rw [hq] at key
        obtain ⟨p', m', h1, h2, h3, h4, h5⟩ := key
        rw [h1]
        simp only []
        have e0 : init.line ++ flat i = flat i := rfl
        rw [e0] at h5 ⊢
        cases v with
        | nil => rfl
        | cons x v =>
          obtain ⟨x, q⟩ := x
          cases x with
          | result n =>
            cases v with
            | nil => simp [run, init, told]
            | cons y v => simp [run, init, told]
          | mark n =>
            rw [run_cons _ _ _ _ _ (by intro k h; cases h)]
            rcases h5 with g5 | g5
            · simp only [mstep]
              rw [if_neg (by rw [g5]; simp)]
              rfl
            · exact g5.elim
          | close c =>
            rw [run_cons _ _ _ _ _ (by intro k h; cases h)]
            rfl
          | head n v => rw [run_cons _ _ _ _ _ (by intro k h; cases h)]; rfl
          | bad => rw [run_cons _ _ _ _ _ (by intro k h; cases h)]; rfl
          | open_ b => exact h3.elim
          | note b => exact h3.elim
          | num b c => exact h3.elim
          | move b c => exact h3.elim
end M

namespace M
open Vbdcam
mutual
def wfI (any : Bool) : Item → Prop
  | .alt l => any = true ∧ wf false l
  | .back l => wf false l
  | _ => True
def wf (any : Bool) : Items → Prop
  | .nil => True
  | .cons i r => wfI any i ∧ wf (match i with | .move _ _ => true | _ => any) r
end
end M

namespace M
open Vbdcam
end M

namespace M
open Vbdcam
def fcheck : List FI → Game → Game → List (Game × Game) → Nat → Except Nat (Game × Nat)
  | [], _, g, _, n => .ok (g, n)
  | .move m _ :: r, _, g, st, n => (match play g m with
    | none => .error (n + 1)
    | some g' => fcheck r g g' st (n + 1))
  | .note _ :: r, b, g, st, n => fcheck r b g st n
  | .opn k :: r, b, g, st, n => fcheck r b (if k = true then g else b) ((b, g) :: st) n
  | .cls _ :: r, b, g, st, n => (match st with
    | [] => .ok (g, n)
    | x :: s => fcheck r x.1 x.2 s n)
def fseen : List FI → Game → Game → List (Game × Game) → Option (List Game)
  | [], _, _, _ => some []
  | .move m _ :: r, _, g, st => (play g m).bind fun g' => (fseen r g g' st).map fun l => g' :: l
  | .note _ :: r, b, g, st => fseen r b g st
  | .opn k :: r, b, g, st => fseen r b (if k = true then g else b) ((b, g) :: st)
  | .cls _ :: r, _, _, st => (match st with
    | [] => some []
    | x :: s => fseen r x.1 x.2 s)
end M

namespace M
open Vbdcam
def anyOf (any : Bool) : Items → Bool
  | .nil => any
  | .cons (.move _ _) r => anyOf true r
  | .cons _ r => anyOf any r
theorem line_wf (e : Nat) : ∀ (k : Nat) (t : Toks) (ply d : Nat) (any : Bool) (i : Items) (a : Bool) (v : Toks), line k e t ply d any = .ok (i, a, v) → wf any i ∧ a = anyOf any i
  | 0, _, _, _, _, _, _, _, h => by cases h
  | k + 1, t, ply, d, any, i, a, v, h => by
    match t, h with
    | [], h => cases h; exact ⟨trivial, rfl⟩
    | (.num n dots, p) :: r, h =>
      have h : (if n = ply / 2 + 1 ∧ dots = (if ply % 2 = 0 then 1 else 3) ∧ isMove r = true then line k e r ply d any else .error p) = .ok (i, a, v) := h
      by_cases hc : n = ply / 2 + 1 ∧ dots = (if ply % 2 = 0 then 1 else 3) ∧ isMove r = true
      · rw [if_pos hc] at h
        exact line_wf e k _ _ _ _ _ _ _ h
      · rw [if_neg hc] at h
        cases h
    | (.move m s, p) :: r, h =>
      have h : (match marksOf (if s.isSome = true then MARKS - 1 else MARKS) r with
        | .error p => .error p
        | .ok (l, u) => match line k e u (ply + 1) d true with
          | .ok (i, a', v) => .ok (.cons (.move m (s.toList ++ l)) i, a', v)
          | .error p => .error p) = (.ok (i, a, v) : Except Nat (Items × Bool × Toks)) := h
      split at h
      · cases h
      · split at h
        · rename_i hq
          cases h
          obtain ⟨h1, h2⟩ := line_wf e k _ _ _ _ _ _ _ hq
          exact ⟨⟨trivial, h1⟩, h2⟩
        · cases h
    | (.note c, p) :: r, h =>
      have h : (match line k e r ply d any with
        | .ok (i, a, v) => .ok (.cons (.note c) i, a, v)
        | .error p => .error p) = (.ok (i, a, v) : Except Nat (Items × Bool × Toks)) := h
      split at h
      · rename_i hq
        cases h
        obtain ⟨h1, h2⟩ := line_wf e k _ _ _ _ _ _ _ hq
        exact ⟨⟨trivial, h1⟩, h2⟩
      · cases h
    | (.open_ b, p) :: r, h =>
      have h : (if d = 0 ∨ (b = false ∧ any = false) then .error p
      else match line k e r (if b = true then ply else ply - 1) (d - 1) false with
        | .error q => .error q
        | .ok (_, false, u) => .error ((u.head?.map fun x => x.2).getD e)
        | .ok (l, true, u) => match u with
          | (.close c, q) :: v =>
            if c ≠ b then .error q
            else (match line k e v ply d any with
              | .ok (i, a, w) => .ok (.cons (if b = true then .back l else .alt l) i, a, w)
              | .error z => .error z)
          | (_, q) :: _ => .error q
          | [] => .error e) = (.ok (i, a, v) : Except Nat (Items × Bool × Toks)) := h
      split at h
      · cases h
      · rename_i hc
        split at h
        · cases h
        · cases h
        · rename_i l u hq
          obtain ⟨g1, g2⟩ := line_wf e k _ _ _ _ _ _ _ hq
          split at h
          · split at h
            · cases h
            · split at h
              · rename_i hq2
                cases h
                obtain ⟨f1, f2⟩ := line_wf e k _ _ _ _ _ _ _ hq2
                cases b with
                | true => exact ⟨⟨g1, f1⟩, f2⟩
                | false =>
                  have ha : any = true := by
                    cases any with
                    | true => rfl
                    | false => exact absurd (Or.inr ⟨rfl, rfl⟩) hc
                  exact ⟨⟨⟨ha, g1⟩, f1⟩, f2⟩
              · cases h
          · cases h
          · cases h
    | (.mark n, p) :: r, h => cases h; exact ⟨trivial, rfl⟩
    | (.close n, p) :: r, h => cases h; exact ⟨trivial, rfl⟩
    | (.result n, p) :: r, h => cases h; exact ⟨trivial, rfl⟩
    | (.head n v, p) :: r, h => cases h; exact ⟨trivial, rfl⟩
    | (.bad, p) :: r, h => cases h; exact ⟨trivial, rfl⟩
theorem read_wf {t : Text} {r : Record} (h : readRecord t = .ok r) : wf false r.line := by
  unfold readRecord at h
  split at h
  · cases h
  · simp only [] at h
    split at h
    · cases h
    · split at h
      · cases h
      · rename_i hq
        split at h
        · cases h; exact (line_wf _ _ _ _ _ _ _ _ _ hq).1
        · cases h
        · cases h
        · cases h
end M

namespace M
open Vbdcam
def isSg (c : Nat) : Bool := [32, 33, 36, 42, 45, 46, 47, 48, 49, 50, 51, 52, 53, 54, 55, 56, 57, 63, 97, 98, 99, 100, 101, 102, 103, 104].contains c
def sg (c : Nat) : Nat := if isSg c = true then c else 35
def sgs (w : List Nat) : List Nat := w.map sg
theorem sg_iff {c k : Nat} (hk : isSg k = true) : sg c = k ↔ c = k := by
  unfold sg
  constructor
  · intro h
    split at h
    · exact h
    · subst h; exact absurd hk (by decide)
  · intro h; subst h; rw [if_pos hk]
theorem sg_lt (c : Nat) : sg c < 128 := by
  unfold sg
  split
  · rename_i h
    simp [isSg] at h
    omega
  · decide
theorem digit_isSg {c : Nat} (h : digit c = true) : isSg c = true := by
  simp [digit] at h
  have : c = 48 ∨ c = 49 ∨ c = 50 ∨ c = 51 ∨ c = 52 ∨ c = 53 ∨ c = 54 ∨ c = 55 ∨ c = 56 ∨ c = 57 := by omega
  rcases this with h | h | h | h | h | h | h | h | h | h <;> subst h <;> decide
theorem place_isSg {c h : Nat} (e : place c = some h) : isSg c = true := by
  unfold place at e
  split at e
  · rename_i q
    have : c = 97 ∨ c = 98 ∨ c = 99 ∨ c = 100 ∨ c = 101 ∨ c = 102 ∨ c = 103 ∨ c = 104 := by omega
    rcases this with h | h | h | h | h | h | h | h <;> subst h <;> decide
  · cases e
theorem sg_self {c : Nat} (h : isSg c = true) : sg c = c := by unfold sg; rw [if_pos h]
theorem digit_sg (c : Nat) : digit (sg c) = digit c := by
  by_cases h : digit c = true
  · rw [sg_self (digit_isSg h)]
  · by_cases q : isSg c = true
    · rw [sg_self q]
    · have : sg c = 35 := by unfold sg; rw [if_neg q]
      rw [this]
      rw [Bool.not_eq_true] at h
      rw [h]; decide
theorem place_sg (c : Nat) : place (sg c) = place c := by
  cases h : place c with
  | some k => rw [sg_self (place_isSg h), h]
  | none =>
    by_cases q : isSg c = true
    · rw [sg_self q, h]
    · have : sg c = 35 := by unfold sg; rw [if_neg q]
      rw [this]; decide
theorem sgs_fix : ∀ {w : List Nat}, (∀ c ∈ w, isSg c = true) → sgs w = w
  | [], _ => rfl
  | c :: r, h => by
    show sg c :: sgs r = c :: r
    rw [sg_self (h c (List.mem_cons_self ..)), sgs_fix fun x m => h x (List.mem_cons_of_mem _ m)]
theorem sgs_iff : ∀ {w R : List Nat}, (∀ c ∈ R, isSg c = true) → (sgs w = R ↔ w = R)
  | [], [], _ => by simp [sgs]
  | [], _ :: _, _ => by simp [sgs]
  | _ :: _, [], _ => by simp [sgs]
  | c :: r, k :: s, h => by
    show sg c :: sgs r = k :: s ↔ _
    rw [List.cons.injEq, List.cons.injEq, sg_iff (h k (List.mem_cons_self ..)), sgs_iff fun x m => h x (List.mem_cons_of_mem _ m)]
theorem all_sgs (w : List Nat) : (sgs w).all digit = w.all digit := by
  induction w with
  | nil => rfl
  | cons c r ih =>
    show (digit (sg c) && (sgs r).all digit) = (digit c && r.all digit)
    rw [digit_sg, ih]
theorem numeral_sgs (w : List Nat) : numeral (sgs w) = numeral w := by
  by_cases h : w.all digit = true
  · rw [sgs_fix fun c m => digit_isSg (List.all_eq_true.mp h c m)]
  · rw [Bool.not_eq_true] at h
    unfold numeral
    rw [if_pos (Or.inr (Or.inl (by rw [all_sgs]; exact h))), if_pos (Or.inr (Or.inl h))]
def pNum (l : List Nat) (most : Nat) : Int := match numeral l with
  | some n => if n ≤ most then (n : Int) else -1
  | none => -1
theorem pNum_some {l : List Nat} {most n : Nat} (h : numeral l = some n) (hn : n ≤ most) : pNum l most = n := by unfold pNum; rw [h]; simp [hn]
theorem pNum_none {l : List Nat} {most : Nat} (h : numeral l = none) : pNum l most = -1 := by unfold pNum; rw [h]
theorem pNum_big {l : List Nat} {most n : Nat} (h : numeral l = some n) (hn : ¬ n ≤ most) : pNum l most = -1 := by unfold pNum; rw [h]; simp [hn]
def pHeap (l : List Nat) : Int := match l with
  | [c] => (match place c with
    | some h => (h : Int)
    | none => -1)
  | _ => -1
def pMove (l : List Nat) : Option Move :=
  if l = [45, 45] then some .pass
  else
    let s := pHeap (l.take 1)
    let g := pHeap (l.drop (l.length - 1))
    let n := pNum (if g < 0 then l.drop 1 else (l.drop 1).dropLast) MOST
    if s < 0 ∨ n < 1 then none else if g < 0 then some (.take s.toNat n.toNat) else some (.split s.toNat n.toNat g.toNat)
theorem place_digit {c h : Nat} (e : place c = some h) : digit c = false := by
  unfold place at e
  split at e
  · simp [digit]; omega
  · cases e
theorem takeWhile_all {p : Nat → Bool} : ∀ {l : List Nat}, l.all p = true → l.takeWhile p = l
  | [], _ => rfl
  | c :: r, h => by
    rw [List.all_cons, Bool.and_eq_true] at h
    rw [List.takeWhile_cons, if_pos h.1, takeWhile_all h.2]
theorem takeWhile_snoc {p : Nat → Bool} {e : Nat} (he : p e = false) : ∀ {l : List Nat}, l.all p = true → (l ++ [e]).takeWhile p = l
  | [], _ => by simp [List.takeWhile_cons, he]
  | c :: r, h => by
    rw [List.all_cons, Bool.and_eq_true] at h
    rw [List.cons_append, List.takeWhile_cons, if_pos h.1, takeWhile_snoc he h.2]
theorem takeWhile_short {p : Nat → Bool} : ∀ {l : List Nat}, l.all p = false → (l.takeWhile p).length < l.length
  | [], h => by simp at h
  | c :: r, h => by
    rw [List.takeWhile_cons]
    by_cases q : p c = true
    · rw [if_pos q]
      rw [List.all_cons, q, Bool.true_and] at h
      have := takeWhile_short h
      simp; omega
    · rw [if_neg q]; simp
theorem takeWhile_app_short {p : Nat → Bool} (s : List Nat) : ∀ {l : List Nat}, l.all p = false → (l ++ s).takeWhile p = l.takeWhile p
  | [], h => by simp at h
  | c :: r, h => by
    rw [List.cons_append, List.takeWhile_cons, List.takeWhile_cons]
    by_cases q : p c = true
    · rw [if_pos q, if_pos q]
      rw [List.all_cons, q, Bool.true_and] at h
      rw [takeWhile_app_short s h]
    · rw [if_neg q, if_neg q]
theorem take_takeWhile (p : Nat → Bool) : ∀ l : List Nat, l.take (l.takeWhile p).length = l.takeWhile p
  | [] => rfl
  | c :: r => by
    rw [List.takeWhile_cons]
    by_cases q : p c = true
    · rw [if_pos q]
      show c :: r.take (r.takeWhile p).length = _
      rw [take_takeWhile p r]
    · rw [if_neg q]; rfl
theorem snoc_cases (l : List Nat) : l = [] ∨ ∃ r e, l = r ++ [e] := by
  rcases List.eq_nil_or_concat l with h | ⟨r, e, h⟩
  · exact .inl h
  · exact .inr ⟨r, e, by rw [h]; simp⟩
theorem numeral_not {l : List Nat} (h : l.all digit = false) : numeral l = none := by
  unfold numeral
  rw [if_pos (Or.inr (Or.inl h))]
theorem sgs_app (a b : List Nat) : sgs (a ++ b) = sgs a ++ sgs b := by simp [sgs]
theorem sgs_len (a : List Nat) : (sgs a).length = a.length := by simp [sgs]
theorem pNum_sgs (l : List Nat) (m : Nat) : pNum (sgs l) m = pNum l m := by unfold pNum; rw [numeral_sgs]
theorem pMove_eq (w : List Nat) : pMove (sgs w) = moveOf w := by
  unfold pMove moveOf
  by_cases h0 : w = [45, 45]
  · subst h0; rfl
  have h0' : ¬ sgs w = [45, 45] := fun e => h0 ((sgs_iff (by decide)).mp e)
  rw [if_neg h0', if_neg h0]
  match w with
  | [] => simp [sgs, pHeap]
  | c :: r =>
    have hs : pHeap ((sgs (c :: r)).take 1) = (match place c with | some h => (h : Int) | none => -1) := by
      show pHeap [sg c] = _
      unfold pHeap
      simp only [place_sg]
    simp only [hs]
    cases hc : place c with
    | none => simp
    | some h =>
      simp only []
      rcases snoc_cases r with hr | ⟨r', e, hr⟩
      · subst hr
        have hg : pHeap ((sgs [c]).drop ((sgs [c]).length - 1)) = (h : Int) := by
          show pHeap [sg c] = _
          unfold pHeap
          simp only [place_sg, hc]
        rw [hg]
        have : ¬ ((h : Int) < 0) := by omega
        simp only [this, if_false]
        have : pNum ((List.drop 1 (sgs [c])).dropLast) MOST = -1 := rfl
        rw [this]
        simp [numeral]
      · subst hr
        have hl : (sgs (c :: (r' ++ [e]))).drop ((sgs (c :: (r' ++ [e]))).length - 1) = [sg e] := by
          rw [show sgs (c :: (r' ++ [e])) = sgs (c :: r') ++ [sg e] from by rw [show c :: (r' ++ [e]) = (c :: r') ++ [e] from rfl, sgs_app]; rfl]
          rw [List.length_append]
          simp
        have hg : pHeap [sg e] = (match place e with | some h => (h : Int) | none => -1) := by
          unfold pHeap
          simp only [place_sg]
        rw [hl, hg]
        have hd1 : (sgs (c :: (r' ++ [e]))).drop 1 = sgs (r' ++ [e]) := rfl
        have hd2 : (sgs (r' ++ [e])).dropLast = sgs r' := by
          rw [sgs_app]; show (sgs r' ++ [sg e]).dropLast = _; simp
        rw [hd1, hd2]
        have hh : ¬ ((h : Int) < 0) := by omega
        cases he : place e with
        | some g =>
          have hgg : ¬ ((g : Int) < 0) := by omega
          simp only [hgg, if_false, hh, false_or, pNum_sgs]
          by_cases ha : r'.all digit = true
          · rw [takeWhile_snoc (place_digit he) ha]
            rw [List.drop_left]
            cases hn : numeral r' with
            | none => rw [pNum_none hn]; simp
            | some n =>
              by_cases hm : n ≤ MOST
              · rw [pNum_some hn hm]
                by_cases h1 : 1 ≤ n
                · have : ¬ ((n : Int) < 1) := by omega
                  simp [this, h1, hm, he]
                · have : ((n : Int) < 1) := by omega
                  simp [this, h1, he]
              · rw [pNum_big hn hm]
                simp [hm, he]
          · rw [Bool.not_eq_true] at ha
            rw [takeWhile_app_short _ ha, pNum_none (numeral_not ha)]
            have hlt := takeWhile_short ha
            have : 2 ≤ ((r' ++ [e]).drop (r'.takeWhile digit).length).length := by
              rw [List.length_drop, List.length_append]; simp; omega
            simp only [show ((-1 : Int) < 1) from by decide, if_true]
            match hx : (r' ++ [e]).drop (r'.takeWhile digit).length, this with
            | [], q => simp at q
            | [_], q => simp at q
            | _ :: _ :: _, _ => cases numeral (List.takeWhile digit r') <;> rfl
        | none =>
          simp only [show ((-1 : Int) < 0) from by decide, if_true, hh, false_or, pNum_sgs]
          by_cases ha : (r' ++ [e]).all digit = true
          · rw [takeWhile_all ha, List.drop_length]
            cases hn : numeral (r' ++ [e]) with
            | none => rw [pNum_none hn]; simp
            | some n =>
              by_cases hm : n ≤ MOST
              · rw [pNum_some hn hm]
                by_cases h1 : 1 ≤ n
                · have : ¬ ((n : Int) < 1) := by omega
                  simp [this, h1, hm]
                · have : ((n : Int) < 1) := by omega
                  simp [this, h1]
              · rw [pNum_big hn hm]
                simp [hm]
          · rw [Bool.not_eq_true] at ha
            rw [pNum_none (numeral_not ha)]
            simp only [show ((-1 : Int) < 1) from by decide, if_true]
            have hlt := takeWhile_short ha
            have hpre := List.takeWhile_append_dropWhile (p := digit) (l := r' ++ [e])
            match hx : (r' ++ [e]).drop ((r' ++ [e]).takeWhile digit).length with
            | [] =>
              have := congrArg List.length hx
              rw [List.length_drop] at this
              simp at this hlt
              omega
            | [x] =>
              have hx2 : r' ++ [e] = (r' ++ [e]).takeWhile digit ++ [x] := by
                have h2 := List.take_append_drop ((r' ++ [e]).takeWhile digit).length (r' ++ [e])
                rw [hx] at h2
                have h3 : (r' ++ [e]).take ((r' ++ [e]).takeWhile digit).length = (r' ++ [e]).takeWhile digit := take_takeWhile ..
                rw [h3] at h2
                exact h2.symm
              have hxe : x = e := by
                have := congrArg List.getLast? hx2
                simp at this
                exact this.symm
              subst hxe
              cases numeral (List.takeWhile digit (r' ++ [x])) <;> simp [he]
            | _ :: _ :: _ => cases numeral (List.takeWhile digit (r' ++ [e])) <;> rfl
end M

namespace M
open Vbdcam
def rstrip (p : Nat → Bool) (l : List Nat) : List Nat := (l.reverse.dropWhile p).reverse
theorem rstrip_snoc_no (p : Nat → Bool) {e : Nat} (h : p e = false) (l : List Nat) : rstrip p (l ++ [e]) = l ++ [e] := by
  unfold rstrip
  rw [List.reverse_append]
  show (List.dropWhile p (e :: l.reverse)).reverse = _
  rw [List.dropWhile_cons, if_neg (by rw [h]; decide)]
  simp
theorem rstrip_parts (p : Nat → Bool) (l : List Nat) : ∃ s, l = rstrip p l ++ s ∧ (∀ c ∈ s, p c = true) ∧ (rstrip p l = [] ∨ ∃ r e, rstrip p l = r ++ [e] ∧ p e = false) := by
  refine ⟨(l.reverse.takeWhile p).reverse, ?_, ?_, ?_⟩
  · unfold rstrip
    rw [← List.reverse_append, List.takeWhile_append_dropWhile, List.reverse_reverse]
  · intro c hc
    rw [List.mem_reverse] at hc
    have := List.all_takeWhile (l := l.reverse) (p := p)
    exact List.all_eq_true.mp this c hc
  · unfold rstrip
    cases h : l.reverse.dropWhile p with
    | nil => exact .inl rfl
    | cons e r =>
      refine .inr ⟨r.reverse, e, by simp, ?_⟩
      have := List.head?_dropWhile_not p l.reverse
      rw [h] at this
      simpa using this
theorem rstrip_of {p : Nat → Bool} {a s : List Nat} (hs : ∀ c ∈ s, p c = true) (ha : a = [] ∨ ∃ r e, a = r ++ [e] ∧ p e = false) : rstrip p (a ++ s) = a := by
  unfold rstrip
  rw [List.reverse_append, List.dropWhile_append_of_pos (by intro x hx; exact hs x (List.mem_reverse.mp hx))]
  rcases ha with h | ⟨r, e, h, he⟩
  · subst h; rfl
  · subst h
    rw [List.reverse_append]
    show (List.dropWhile p (e :: r.reverse)).reverse = _
    rw [List.dropWhile_cons, if_neg (by rw [he]; decide)]
    simp
def dotP (c : Nat) : Bool := c == 46
def bangP (c : Nat) : Bool := c == 33 || c == 63
def pMarked (l : List Nat) : Tok :=
  let b := rstrip bangP l
  let e := l.drop b.length
  match pMove b with
  | none => .bad
  | some v => if e = [] then .move v none else if SUFFIXES.contains e = true then .move v (some (SUFFIXES.idxOf e + 1)) else .bad
def pNumber (l : List Nat) : Tok :=
  let ds := rstrip dotP l
  let pts := l.length - ds.length
  let n := pNum ds MOST
  if n < 0 ∨ ¬ (pts = 1 ∨ pts = 3) then .bad else .num n.toNat pts
def pMark (l : List Nat) : Tok :=
  let m := pNum (l.drop 1) 255
  if 0 ≤ m then .mark m.toNat else .bad
def pWord (l : List Nat) : Tok :=
  if RESULTS.contains l = true then .result (RESULTS.idxOf l)
  else if l.head? = some 36 then pMark l
  else if l.getLast? = some 46 then pNumber l
  else pMarked l
theorem results_sgs (w : List Nat) : RESULTS.contains (sgs w) = RESULTS.contains w ∧ RESULTS.idxOf (sgs w) = RESULTS.idxOf w := by
  have e0 : RESULTS = [[42], [49, 45, 48], [48, 45, 49], [49, 47, 50]] := by decide
  have h1 : (sgs w = [42]) = (w = [42]) := propext (sgs_iff (by decide))
  have h2 : (sgs w = [49, 45, 48]) = (w = [49, 45, 48]) := propext (sgs_iff (by decide))
  have h3 : (sgs w = [48, 45, 49]) = (w = [48, 45, 49]) := propext (sgs_iff (by decide))
  have h4 : (sgs w = [49, 47, 50]) = (w = [49, 47, 50]) := propext (sgs_iff (by decide))
  have b1 : ([42] == sgs w) = ([42] == w) := by rw [Bool.eq_iff_iff, beq_iff_eq, beq_iff_eq, eq_comm, h1, eq_comm]
  have b2 : ([49, 45, 48] == sgs w) = ([49, 45, 48] == w) := by rw [Bool.eq_iff_iff, beq_iff_eq, beq_iff_eq, eq_comm, h2, eq_comm]
  have b3 : ([48, 45, 49] == sgs w) = ([48, 45, 49] == w) := by rw [Bool.eq_iff_iff, beq_iff_eq, beq_iff_eq, eq_comm, h3, eq_comm]
  have b4 : ([49, 47, 50] == sgs w) = ([49, 47, 50] == w) := by rw [Bool.eq_iff_iff, beq_iff_eq, beq_iff_eq, eq_comm, h4, eq_comm]
  have c1 : (sgs w == [42]) = (w == [42]) := by rw [Bool.eq_iff_iff, beq_iff_eq, beq_iff_eq, h1]
  have c2 : (sgs w == [49, 45, 48]) = (w == [49, 45, 48]) := by rw [Bool.eq_iff_iff, beq_iff_eq, beq_iff_eq, h2]
  have c3 : (sgs w == [48, 45, 49]) = (w == [48, 45, 49]) := by rw [Bool.eq_iff_iff, beq_iff_eq, beq_iff_eq, h3]
  have c4 : (sgs w == [49, 47, 50]) = (w == [49, 47, 50]) := by rw [Bool.eq_iff_iff, beq_iff_eq, beq_iff_eq, h4]
  constructor
  · rw [e0]
    simp only [List.contains_cons, c1, c2, c3, c4, List.contains_nil]
  · rw [e0]
    simp only [List.idxOf, List.findIdx_cons, b1, b2, b3, b4, List.findIdx_nil]
theorem suffixes_sgs (w : List Nat) : SUFFIXES.contains (sgs w) = SUFFIXES.contains w ∧ SUFFIXES.idxOf (sgs w) = SUFFIXES.idxOf w := by
  have e0 : SUFFIXES = [[33], [63], [33, 33], [63, 63], [33, 63], [63, 33]] := by decide
  have h1 : (sgs w = [33]) = (w = [33]) := propext (sgs_iff (by decide))
  have h2 : (sgs w = [63]) = (w = [63]) := propext (sgs_iff (by decide))
  have h3 : (sgs w = [33, 33]) = (w = [33, 33]) := propext (sgs_iff (by decide))
  have h4 : (sgs w = [63, 63]) = (w = [63, 63]) := propext (sgs_iff (by decide))
  have h5 : (sgs w = [33, 63]) = (w = [33, 63]) := propext (sgs_iff (by decide))
  have h6 : (sgs w = [63, 33]) = (w = [63, 33]) := propext (sgs_iff (by decide))
  have bb : ∀ R : List Nat, ((sgs w = R) = (w = R)) → (R == sgs w) = (R == w) ∧ (sgs w == R) = (w == R) := fun R h => by
    constructor
    · rw [Bool.eq_iff_iff, beq_iff_eq, beq_iff_eq, eq_comm, h, eq_comm]
    · rw [Bool.eq_iff_iff, beq_iff_eq, beq_iff_eq, h]
  have c1 := bb _ h1; have c2 := bb _ h2; have c3 := bb _ h3; have c4 := bb _ h4; have c5 := bb _ h5; have c6 := bb _ h6
  constructor
  · rw [e0]
    simp only [List.contains_cons, c1.2, c2.2, c3.2, c4.2, c5.2, c6.2, List.contains_nil]
  · rw [e0]
    simp only [List.idxOf, List.findIdx_cons, c1.1, c2.1, c3.1, c4.1, c5.1, c6.1, List.findIdx_nil]
theorem suffix_bang {e : List Nat} (h : SUFFIXES.contains e = true) : ∀ c ∈ e, bangP c = true := by
  have e0 : SUFFIXES = [[33], [63], [33, 33], [63, 63], [33, 63], [63, 33]] := by decide
  rw [e0] at h
  simp only [List.contains_cons, List.contains_nil, Bool.or_eq_true, beq_iff_eq, Bool.false_eq_true, or_false] at h
  rcases h with h | h | h | h | h | h <;> subst h <;> decide
theorem rstrip_sgs (p : Nat → Bool) (hp : ∀ c, p (sg c) = p c) (w : List Nat) : rstrip p (sgs w) = sgs (rstrip p w) := by
  obtain ⟨s, h1, h2, h3⟩ := rstrip_parts p w
  conv => lhs; rw [h1]
  rw [sgs_app]
  refine rstrip_of (fun c hc => ?_) ?_
  · obtain ⟨x, hx, rfl⟩ := List.mem_map.mp hc
    rw [hp]; exact h2 x hx
  · rcases h3 with h | ⟨r, e, h, he⟩
    · exact .inl (by rw [h]; rfl)
    · exact .inr ⟨sgs r, sg e, by rw [h, sgs_app]; rfl, by rw [hp]; exact he⟩
theorem beq_sg {k : Nat} (hk : isSg k = true) (c : Nat) : (sg c == k) = (c == k) := by
  rw [Bool.eq_iff_iff, beq_iff_eq, beq_iff_eq]
  exact sg_iff hk
theorem dot_sg (c : Nat) : dotP (sg c) = dotP c := beq_sg (by decide) c
theorem bang_sg (c : Nat) : bangP (sg c) = bangP c := by
  unfold bangP
  rw [beq_sg (by decide), beq_sg (by decide)]
theorem pMarked_sgs (w : List Nat) : pMarked (sgs w) = (match moveOf (rstrip bangP w) with
    | none => .bad
    | some v => if w.drop (rstrip bangP w).length = [] then .move v none else if SUFFIXES.contains (w.drop (rstrip bangP w).length) = true then .move v (some (SUFFIXES.idxOf (w.drop (rstrip bangP w).length) + 1)) else .bad) := by
  unfold pMarked
  simp only [rstrip_sgs bangP bang_sg, pMove_eq, sgs_len]
  have hd : (sgs w).drop (rstrip bangP w).length = sgs (w.drop (rstrip bangP w).length) := by simp [sgs]
  rw [hd, (suffixes_sgs _).1, (suffixes_sgs _).2]
  have hn : (sgs (w.drop (rstrip bangP w).length) = []) = (w.drop (rstrip bangP w).length = []) := by
    simp only [sgs, List.map_eq_nil_iff]
  simp only [hn]
theorem last_cs (c : Nat) (a : List Nat) (e : Nat) : (c :: (a ++ [e])).getLast? = some e := by
  rw [show c :: (a ++ [e]) = (c :: a) ++ [e] from rfl, List.getLast?_append]; rfl
theorem moveOf_signs {m : List Nat} {v : Move} (h : moveOf m = some v) : (∀ c ∈ m, bangP c = false) ∧ (∃ c r, m = c :: r ∧ digit c = false ∧ c ≠ 36) ∧ m.getLast? ≠ some 46 := by
  unfold moveOf at h
  by_cases h45 : m = [45, 45]
  · subst h45
    refine ⟨by decide, ⟨45, [45], rfl, by decide, by decide⟩, by decide⟩
  · rw [if_neg h45] at h
    clear h45
    match m, h with
    | [], h => cases h
    | c :: r, h =>
      simp only [] at h
      split at h
      · cases h
      · rename_i k hc
        have hbc : bangP c = false := by
          cases q : bangP c with
          | false => rfl
          | true =>
            unfold bangP at q
            simp at q
            rcases q with q | q <;> subst q <;> cases hc
        have hdig : ∀ x, digit x = true → bangP x = false := by
          intro x hx
          simp [digit] at hx
          simp [bangP]
          omega
        have hpl : ∀ x g, place x = some g → bangP x = false ∧ x ≠ 46 := by
          intro x g hx
          unfold place at hx
          split at hx
          · constructor
            · simp [bangP]; omega
            · omega
          · cases hx
        have hfirst : ∃ c' r', c :: r = c' :: r' ∧ digit c' = false ∧ c' ≠ 36 := ⟨c, r, rfl, place_digit hc, by
          intro q; subst q; cases hc⟩
        have htd := take_takeWhile digit r
        have hsplit := List.take_append_drop (r.takeWhile digit).length r
        rw [htd] at hsplit
        have hall : ∀ x ∈ r.takeWhile digit, digit x = true := fun x hx => List.all_eq_true.mp (List.all_takeWhile (l := r) (p := digit)) x hx
        split at h
        · rename_i n hn hd
          rw [hd, List.append_nil] at hsplit
          have hall' : ∀ x ∈ r, digit x = true := by rw [← hsplit]; exact hall
          refine ⟨?_, hfirst, ?_⟩
          · intro x hx
            rcases List.mem_cons.mp hx with q | q
            · rw [q]; exact hbc
            · exact hdig x (hall' x q)
          · intro q
            rcases snoc_cases r with hr | ⟨r', e, hr⟩
            · subst hr
              simp at q; subst q; cases hc
            · subst hr
              have : (c :: (r' ++ [e])).getLast? = some e := last_cs ..
              rw [this] at q
              cases q
              exact absurd (hall' 46 (by simp)) (by decide)
        · rename_i n e hn hd
          split at h
          · rename_i g hg
            rw [hd] at hsplit
            refine ⟨?_, hfirst, ?_⟩
            · intro x hx
              rcases List.mem_cons.mp hx with q | q
              · rw [q]; exact hbc
              · rw [← hsplit] at q
                rcases List.mem_append.mp q with q | q
                · exact hdig x (hall x q)
                · rw [List.mem_singleton.mp q]; exact (hpl e g hg).1
            · rw [← hsplit]
              have : (c :: (r.takeWhile digit ++ [e])).getLast? = some e := last_cs ..
              rw [this]
              intro q
              exact (hpl e g hg).2 (Option.some.inj q)
          · cases h
        · cases h
theorem takeWhile_bang (w : List Nat) : (w.takeWhile fun c => c != 33 && c != 63) = w.takeWhile fun c => !bangP c := by
  congr 1
  funext c
  simp [bangP, bne]
theorem bang_sides {w : List Nat} {v : Move} :
    (moveOf (rstrip bangP w) = some v → (w.takeWhile fun c => !bangP c) = rstrip bangP w) ∧
    (moveOf (w.takeWhile fun c => !bangP c) = some v → (∀ c ∈ w.drop (w.takeWhile fun c => !bangP c).length, bangP c = true) → rstrip bangP w = w.takeWhile fun c => !bangP c) := by
  constructor
  · intro h
    obtain ⟨h1, _, _⟩ := moveOf_signs h
    obtain ⟨s, e1, e2, e3⟩ := rstrip_parts bangP w
    conv => lhs; rw [e1]
    have ha : (rstrip bangP w).all (fun c => !bangP c) = true := List.all_eq_true.mpr fun c hc => by rw [h1 c hc]; rfl
    cases s with
    | nil => rw [List.append_nil]; exact takeWhile_all ha
    | cons x s' =>
      have hx : (!bangP x) = false := by rw [e2 x (List.mem_cons_self ..)]; rfl
      have : ∀ (a : List Nat), a.all (fun c => !bangP c) = true → (a ++ x :: s').takeWhile (fun c => !bangP c) = a := by
        intro a
        induction a with
        | nil => intro _; rw [List.nil_append, List.takeWhile_cons, if_neg (by rw [hx]; decide)]
        | cons y r ih =>
          intro q
          rw [List.all_cons, Bool.and_eq_true] at q
          rw [List.cons_append, List.takeWhile_cons, if_pos q.1, ih q.2]
      exact this _ ha
  · intro h hs
    have hsplit := List.take_append_drop (w.takeWhile fun c => !bangP c).length w
    rw [take_takeWhile] at hsplit
    conv => lhs; rw [← hsplit]
    refine rstrip_of hs ?_
    rcases snoc_cases (w.takeWhile fun c => !bangP c) with q | ⟨r, e, q⟩
    · exact .inl q
    · refine .inr ⟨r, e, q, ?_⟩
      have := List.all_eq_true.mp (List.all_takeWhile (l := w) (p := fun c => !bangP c)) e (by rw [q]; simp)
      simpa using this
def specMarked (w : List Nat) : Tok := match moveOf (w.takeWhile fun c => c != 33 && c != 63) with
  | none => .bad
  | some v => if w.drop (w.takeWhile fun c => c != 33 && c != 63).length = [] then .move v none else if SUFFIXES.contains (w.drop (w.takeWhile fun c => c != 33 && c != 63).length) = true then .move v (some (SUFFIXES.idxOf (w.drop (w.takeWhile fun c => c != 33 && c != 63).length) + 1)) else .bad
theorem marked_eq (w : List Nat) : pMarked (sgs w) = specMarked w := by
  rw [pMarked_sgs]
  unfold specMarked
  rw [takeWhile_bang]
  cases h : moveOf (rstrip bangP w) with
  | some v =>
    rw [bang_sides.1 h, h]
  | none =>
    cases h2 : moveOf (w.takeWhile fun c => !bangP c) with
    | none => rfl
    | some v =>
      simp only []
      by_cases e0 : w.drop (w.takeWhile fun c => !bangP c).length = []
      · have := bang_sides.2 h2 (by rw [e0]; simp)
        rw [this, h2] at h; cases h
      · rw [if_neg e0]
        by_cases e1 : SUFFIXES.contains (w.drop (w.takeWhile fun c => !bangP c).length) = true
        · have := bang_sides.2 h2 (suffix_bang e1)
          rw [this, h2] at h; cases h
        · rw [if_neg e1]
theorem number_of (w : List Nat) (hl : w.getLast? = some 46) : pNumber (sgs w) = (
      if w.takeWhile digit ≠ [] then (match numeral (w.takeWhile digit) with
        | some n => if MOST < n then .bad else if w.drop (w.takeWhile digit).length = [46] then .num n 1 else if w.drop (w.takeWhile digit).length = [46, 46, 46] then .num n 3 else .bad
        | none => .bad)
      else .bad) := by
  unfold pNumber
  simp only [rstrip_sgs dotP dot_sg, sgs_len, pNum_sgs]
  obtain ⟨s, e1, e2, e3⟩ := rstrip_parts dotP w
  have hs : s = List.replicate s.length 46 := List.eq_replicate_iff.mpr ⟨rfl, fun b hb => beq_iff_eq.mp (e2 b hb)⟩
  have hlen : w.length - (rstrip dotP w).length = s.length := by
    have := congrArg List.length e1
    rw [List.length_append] at this
    omega
  rw [hlen]
  by_cases ha : (rstrip dotP w).all digit = true
  ·
    have htw : w.takeWhile digit = rstrip dotP w := by
      conv => lhs; rw [e1]
      cases s with
      | nil => rw [List.append_nil]; exact takeWhile_all ha
      | cons x s' =>
        have hx : digit x = false := by
          have : x = 46 := beq_iff_eq.mp (e2 x (List.mem_cons_self ..))
          subst this; decide
        have : ∀ (a : List Nat), a.all digit = true → (a ++ x :: s').takeWhile digit = a := by
          intro a
          induction a with
          | nil => intro _; rw [List.nil_append, List.takeWhile_cons, if_neg (by rw [hx]; decide)]
          | cons y r ih =>
            intro q
            rw [List.all_cons, Bool.and_eq_true] at q
            rw [List.cons_append, List.takeWhile_cons, if_pos q.1, ih q.2]
        exact this _ ha
    have hdr : w.drop (w.takeWhile digit).length = s := by
      rw [htw]
      have := congrArg (List.drop (rstrip dotP w).length) e1
      rw [List.drop_left] at this
      exact this
    rw [hdr, htw]
    by_cases h0 : rstrip dotP w = []
    · rw [h0]
      simp [pNum, numeral]
    · rw [if_pos h0]
      have q1 : (s = [46]) = (s.length = 1) := by
        apply propext; constructor
        · intro h; rw [h]; rfl
        · intro h; rw [hs, h]; rfl
      have q3 : (s = [46, 46, 46]) = (s.length = 3) := by
        apply propext; constructor
        · intro h; rw [h]; rfl
        · intro h; rw [hs, h]; rfl
      simp only [q1, q3]
      cases hn : numeral (rstrip dotP w) with
      | none => rw [pNum_none hn]; simp
      | some n =>
        by_cases hm : n ≤ MOST
        · rw [pNum_some hn hm]
          have hm' : ¬ MOST < n := by omega
          have hneg : ¬ ((n : Int) < 0) := by omega
          simp only [hneg, false_or, hm', if_false, Int.toNat_natCast]
          by_cases s1 : s.length = 1
          · simp [s1]
          · by_cases s3 : s.length = 3
            · simp [s3]
            · simp [s1, s3]
        · rw [pNum_big hn hm]
          have hm' : MOST < n := by omega
          simp [hm']
  · rw [Bool.not_eq_true] at ha
    rw [pNum_none (numeral_not ha)]
    simp only [show ((-1 : Int) < 0) from by decide, true_or, if_true]
    split
    ·
      have ht : w.takeWhile digit = (rstrip dotP w).takeWhile digit := by
        conv => lhs; rw [e1]
        exact takeWhile_app_short _ ha
      have hlt := takeWhile_short ha
      have hd : w.drop (w.takeWhile digit).length = (rstrip dotP w).drop ((rstrip dotP w).takeWhile digit).length ++ s := by
        rw [ht]
        have hw : ∀ n, n ≤ (rstrip dotP w).length → w.drop n = (rstrip dotP w).drop n ++ s := fun n hn => by
          have := congrArg (List.drop n) e1
          rw [List.drop_append_of_le_length hn] at this
          exact this
        exact hw _ (by omega)
      have hne : ∃ r e, w.drop (w.takeWhile digit).length = r ++ e :: s ∧ e ≠ 46 := by
        rcases e3 with q | ⟨r, e, q, he⟩
        · rw [q] at hlt; simp at hlt
        · rw [hd, q]
          rw [q, List.length_append] at hlt
          rw [List.drop_append_of_le_length (by simp at hlt; omega)]
          refine ⟨_, e, by rw [List.append_assoc]; rfl, fun z => ?_⟩
          subst z; exact absurd he (by decide)
      obtain ⟨r, e, h1, h2⟩ := hne
      rw [h1]
      have n1 : ¬ (r ++ e :: s = [46]) := fun q => by
        have : e ∈ [46] := by rw [← q]; simp
        exact h2 (List.mem_singleton.mp this)
      have n3 : ¬ (r ++ e :: s = [46, 46, 46]) := fun q => by
        have : e ∈ [46, 46, 46] := by rw [← q]; simp
        simp at this; exact h2 this
      simp only [n1, n3, if_false]
      cases numeral (List.takeWhile digit w) with
      | none => rfl
      | some n => simp
    · rfl
theorem spec_word {c : Nat} {r : List Nat} (hres : ¬ RESULTS.contains (c :: r) = true) (h36 : c ≠ 36) : wordTok (c :: r) =
            (if (c :: r).takeWhile digit ≠ [] then (match numeral ((c :: r).takeWhile digit) with
              | some n => if MOST < n then .bad else if (c :: r).drop ((c :: r).takeWhile digit).length = [46] then .num n 1 else if (c :: r).drop ((c :: r).takeWhile digit).length = [46, 46, 46] then .num n 3 else .bad
              | none => .bad)
            else specMarked (c :: r)) := by
  unfold wordTok
  rw [if_neg hres]
  split
  · rename_i h; exact absurd (List.cons.inj h).1 h36
  · rfl
theorem spec_mark {r : List Nat} (hres : ¬ RESULTS.contains (36 :: r) = true) : wordTok (36 :: r) = (match numeral r with | some n => if n ≤ 255 then Tok.mark n else Tok.bad | none => Tok.bad) := by
  unfold wordTok
  rw [if_neg hres]
  rfl
theorem pWord_eq (w : List Nat) : pWord (sgs w) = wordTok w := by
  unfold pWord
  rw [(results_sgs w).1, (results_sgs w).2]
  by_cases hres : RESULTS.contains w = true
  · rw [if_pos hres]
    unfold wordTok
    rw [if_pos hres]
  · rw [if_neg hres]
    match w, hres with
    | [], _ => rfl
    | c :: r, hres =>
      by_cases h36 : c = 36
      · subst h36
        have : (sgs (36 :: r)).head? = some 36 := rfl
        rw [if_pos this]
        rw [spec_mark hres]
        unfold pMark
        show (if 0 ≤ pNum (sgs r) 255 then Tok.mark (pNum (sgs r) 255).toNat else Tok.bad) = _
        rw [pNum_sgs]
        cases hn : numeral r with
        | none => rw [pNum_none hn]; rfl
        | some n =>
          by_cases hm : n ≤ 255
          · rw [pNum_some hn hm]; simp [hm]
          · rw [pNum_big hn hm]; simp [hm]
      · have hh : ¬ (sgs (c :: r)).head? = some 36 := fun q => h36 ((sg_iff (by decide)).mp (Option.some.inj q))
        rw [if_neg hh]
        have hlast : (sgs (c :: r)).getLast? = some 46 ↔ (c :: r).getLast? = some 46 := by
          rcases snoc_cases (c :: r) with q | ⟨r', e, q⟩
          · cases q
          · rw [q, sgs_app]
            show (sgs r' ++ [sg e]).getLast? = _ ↔ _
            simp only [List.getLast?_append, List.getLast?_singleton, Option.some_or, Option.some.injEq]
            exact sg_iff (by decide)
        rw [spec_word hres h36]
        by_cases hl : (c :: r).getLast? = some 46
        · rw [if_pos (hlast.mpr hl), number_of _ hl]
          split
          · rfl
          ·
            symm
            rw [← marked_eq, pMarked_sgs]
            have hr : rstrip bangP (c :: r) = c :: r := by
              rcases snoc_cases (c :: r) with q | ⟨r', e, q⟩
              · cases q
              · rw [q] at hl
                have : e = 46 := by simpa using hl
                subst this
                rw [q]; exact rstrip_snoc_no _ (by decide) _
            rw [hr]
            cases hm : moveOf (c :: r) with
            | none => rfl
            | some v => exact absurd hl (moveOf_signs hm).2.2
        · rw [if_neg fun q => hl (hlast.mp q), marked_eq]
          split
          · rename_i hd
            have hdig : digit c = true := by
              rw [List.takeWhile_cons] at hd
              split at hd
              · assumption
              · exact absurd rfl hd
            have hbad : specMarked (c :: r) = .bad := by
              unfold specMarked
              cases hm : moveOf ((c :: r).takeWhile fun c => c != 33 && c != 63) with
              | none => rfl
              | some v =>
                obtain ⟨_, ⟨c', r', e1, e2, _⟩, _⟩ := moveOf_signs hm
                rw [List.takeWhile_cons] at e1
                split at e1
                · cases e1; rw [hdig] at e2; cases e2
                · cases e1
            rw [hbad]
            have n1 : ¬ ((c :: r).drop ((c :: r).takeWhile digit).length = [46]) := fun q => by
              have h2 := List.take_append_drop ((c :: r).takeWhile digit).length (c :: r)
              rw [q] at h2
              rw [← h2] at hl
              exact hl (by simp)
            have n3 : ¬ ((c :: r).drop ((c :: r).takeWhile digit).length = [46, 46, 46]) := fun q => by
              have h2 := List.take_append_drop ((c :: r).takeWhile digit).length (c :: r)
              rw [q] at h2
              rw [← h2] at hl
              exact hl (by simp)
            simp only [n1, n3, if_false]
            cases numeral (List.takeWhile digit (c :: r)) with
            | none => rfl
            | some n => simp
          · rfl
end M

namespace M
open Vbdcam
def run1 (p : Nat → Bool) (t : List Nat) (s : Nat) : Nat := s + ((t.drop s).takeWhile p).length
def pFind (t : List Nat) (b s : Nat) : Nat := run1 (fun c => c != b) t s
def pBlanks (t : List Nat) (s : Nat) : Nat := run1 blank t s
def sl (t : List Nat) (a b : Nat) : List Nat := (t.take b).drop a
theorem run1_step {p : Nat → Bool} {t : List Nat} {s c : Nat} (h : t[s]? = some c) (hp : p c = true) : run1 p t s = run1 p t (s + 1) := by
  unfold run1
  obtain ⟨hs, he⟩ := List.getElem?_eq_some_iff.mp h
  rw [List.drop_eq_getElem_cons hs, List.takeWhile_cons, if_pos (by rw [he]; exact hp), List.length_cons]
  omega
theorem run1_stop {p : Nat → Bool} {t : List Nat} {s : Nat} (h : ∀ c, t[s]? = some c → p c = false) : run1 p t s = s := by
  unfold run1
  cases hs : t[s]? with
  | none =>
    rw [List.drop_eq_nil_of_le (List.getElem?_eq_none_iff.mp hs)]; rfl
  | some c =>
    obtain ⟨hl, he⟩ := List.getElem?_eq_some_iff.mp hs
    rw [List.drop_eq_getElem_cons hl, List.takeWhile_cons, if_neg (by rw [he, h c hs]; decide)]; rfl
theorem run1_le {p : Nat → Bool} {t : List Nat} {s : Nat} (h : s ≤ t.length) : run1 p t s ≤ t.length := by
  unfold run1
  have := List.takeWhile_prefix p (l := t.drop s) |>.length_le
  rw [List.length_drop] at this
  omega
theorem run1_ge (p : Nat → Bool) (t : List Nat) (s : Nat) : s ≤ run1 p t s := Nat.le_add_right ..
theorem sl_run1 (p : Nat → Bool) (t : List Nat) (s : Nat) : sl t s (run1 p t s) = (t.drop s).takeWhile p := by
  unfold sl run1
  rw [List.drop_take]
  rw [show s + ((t.drop s).takeWhile p).length - s = ((t.drop s).takeWhile p).length from by omega]
  exact take_takeWhile ..
theorem drop_run1 (p : Nat → Bool) (t : List Nat) (s : Nat) : t.drop (run1 p t s) = (t.drop s).drop ((t.drop s).takeWhile p).length := by
  unfold run1
  rw [List.drop_drop]
def pNote (t : List Nat) (s : Nat) : Tok × Nat :=
  let e := pFind t 125 s
  if e = t.length ∨ goodNote (sl t (s + 1) e) = false then (.bad, s + 1) else (.note (sl t (s + 1) e), e + 1)
def pHead (t : List Nat) (s : Nat) : Tok × Nat :=
  let ne := pFind t 32 s
  let vb := ne + 2
  let ve := pFind t 34 vb
  if sl t ne vb ≠ [32, 34] ∨ sl t ve (ve + 2) ≠ [34, 93] then (.bad, s + 1)
  else if goodName (sl t (s + 1) ne) = false ∨ goodValue (sl t vb ve) = false then (.bad, s + 1)
  else (.head (sl t (s + 1) ne) (sl t vb ve), ve + 2)
def pWordAt (t : List Nat) (s : Nat) : Tok × Nat := (pWord (sgs (sl t s (run1 inWord t s))), run1 inWord t s)
def pTok (t : List Nat) (s : Nat) : Tok × Nat :=
  let c := t.getD s 0
  if c = 40 then (.open_ false, s + 1)
  else if c = 41 then (.close false, s + 1)
  else if c = 60 then (.open_ true, s + 1)
  else if c = 62 then (.close true, s + 1)
  else if c = 123 then pNote t s
  else if c = 91 then pHead t s
  else if c = 125 ∨ c = 93 then (.bad, s + 1)
  else pWordAt t s
def toks (p : Nat) (t : List Nat) : Toks := tokens (t.length + 1) p t
theorem headTok_len {t u : Text} {h : Tok} (e : headTok t = some (h, u)) : u.length < t.length := by
  unfold headTok at e
  simp only [] at e
  split at e
  · rename_i r hr
    split at e
    · rename_i u' hu
      split at e
      · cases e
        have h1 := congrArg List.length hr
        have h2 := congrArg List.length hu
        rw [List.length_drop] at h1 h2
        simp at h1 h2
        omega
      · cases e
    · cases e
  · cases e
theorem inWord_first {c : Nat} {r : List Nat} (h : inWord c = true) : 0 < ((c :: r).takeWhile inWord).length := by
  rw [List.takeWhile_cons, if_pos h]; simp
theorem tokens_fuel : ∀ (n k p : Nat) (t : List Nat), t.length ≤ n → t.length < k → tokens k p t = toks p t := by
  intro n
  induction n with
  | zero =>
    intro k p t h1 h2
    have : t = [] := List.eq_nil_of_length_eq_zero (by omega)
    subst this
    match k, h2 with
    | k + 1, _ => rfl
  | succ n ih =>
    intro k p t h1 h2
    match k, t, h1, h2 with
    | k + 1, [], _, _ => rfl
    | k + 1, c :: r, h1, h2 =>
      have hr : r.length ≤ n := by simp at h1; omega
      have hrk : r.length < k := by simp at h2; omega
      have key : ∀ (q : Nat) (u : List Nat), u.length ≤ r.length → tokens k q u = tokens (c :: r).length q u := fun q u hu => by
        rw [ih k q u (by omega) (by omega), ih (c :: r).length q u (by omega) (by simp; omega)]
      show tokens (k + 1) p (c :: r) = tokens ((c :: r).length + 1) p (c :: r)
      unfold tokens
      simp only []
      have e0 : ∀ q, tokens k q r = tokens (c :: r).length q r := fun q => key q r (Nat.le_refl _)
      simp only [e0]
      split
      · rfl
      split
      · rfl
      split
      · rfl
      split
      · rfl
      split
      · rfl
      split
      · split
        · rename_i u hu
          have hl : u.length ≤ r.length := by
            have := congrArg List.length hu
            rw [List.length_drop] at this
            simp at this; omega
          rw [key _ u hl]
        · rfl
      split
      · split
        · rename_i h u hu
          rw [key _ u (Nat.le_of_lt (headTok_len hu))]
        · rfl
      split
      · rfl
      · rename_i hb h40 h60 h41 h62 h123 h91 hbr
        have hin : inWord c = true := by
          unfold inWord
          simp only [not_or] at hbr
          simp at hb
          simp [hb, h40, h41, h60, h62, h123, h91, hbr.1, hbr.2]
        have hl : ((c :: r).drop ((c :: r).takeWhile inWord).length).length ≤ r.length := by
          have := inWord_first (r := r) hin
          rw [List.length_drop, List.length_cons]; omega
        rw [key _ _ hl]
theorem toks_nil (p : Nat) : toks p [] = [] := rfl
theorem toks_blank {p c : Nat} {r : List Nat} (h : blank c = true) : toks p (c :: r) = toks (p + 1) r := by
  unfold toks
  show tokens ((c :: r).length + 1) p (c :: r) = _
  conv => lhs; unfold tokens
  simp only [h, if_true]
  exact tokens_fuel r.length _ _ _ (Nat.le_refl _) (by simp)
theorem toks_blanks (t : List Nat) : ∀ (n s : Nat), t.length - s ≤ n → toks (s + 1) (t.drop s) = toks (pBlanks t s + 1) (t.drop (pBlanks t s))
  | n, s, h => by
    cases hs : t[s]? with
    | none =>
      rw [show pBlanks t s = s from run1_stop fun c hc => by rw [hs] at hc; cases hc]
    | some c =>
      obtain ⟨hl, he⟩ := List.getElem?_eq_some_iff.mp hs
      by_cases hb : blank c = true
      · rw [show pBlanks t s = pBlanks t (s + 1) from run1_step hs hb]
        match n, h with
        | 0, h => omega
        | n + 1, h =>
          rw [← toks_blanks t n (s + 1) (by omega)]
          rw [List.drop_eq_getElem_cons hl, he]
          exact toks_blank hb
      · rw [show pBlanks t s = s from run1_stop fun c' hc => by rw [hs] at hc; cases hc; simpa using hb]
theorem pBlanks_stop (t : List Nat) : ∀ (n s : Nat), t.length - s ≤ n → ∀ c, t[pBlanks t s]? = some c → blank c = false
  | n, s, h, c, hc => by
    cases hs : t[s]? with
    | none =>
      have e : pBlanks t s = s := run1_stop fun c' hc' => by rw [hs] at hc'; cases hc'
      rw [e, hs] at hc; cases hc
    | some d =>
      obtain ⟨hl, _⟩ := List.getElem?_eq_some_iff.mp hs
      by_cases hb : blank d = true
      · rw [show pBlanks t s = pBlanks t (s + 1) from run1_step hs hb] at hc
        match n, h with
        | 0, h => omega
        | n + 1, h => exact pBlanks_stop t n (s + 1) (by omega) c hc
      · have e : pBlanks t s = s := run1_stop fun c' hc => by rw [hs] at hc; cases hc; simpa using hb
        rw [e, hs] at hc; cases hc; simpa using hb
def isBad : Tok → Bool
  | .bad => true
  | _ => false
def conT (t : List Nat) (s : Nat) (x : Tok × Nat) : Toks := match x.1 with
  | .bad => [(.bad, s + 1)]
  | y => (y, s + 1) :: toks (x.2 + 1) (t.drop x.2)
def noteE (t : List Nat) (s : Nat) : Toks := match (t.drop (s + 1)).drop ((t.drop (s + 1)).takeWhile fun x => x != 125).length with
  | _ :: u => if goodNote ((t.drop (s + 1)).takeWhile fun x => x != 125) = true then (.note ((t.drop (s + 1)).takeWhile fun x => x != 125), s + 1) :: toks (s + 1 + ((t.drop (s + 1)).takeWhile fun x => x != 125).length + 2) u else [(.bad, s + 1)]
  | [] => [(.bad, s + 1)]
def headE (t : List Nat) (s : Nat) : Toks := match headTok (t.drop (s + 1)) with
  | some (h, u) => (h, s + 1) :: toks (s + 1 + ((t.drop s).length - u.length)) u
  | none => [(.bad, s + 1)]
def wordE (t : List Nat) (s : Nat) : Toks := match wordTok ((t.drop s).takeWhile inWord) with
  | .bad => [(.bad, s + 1)]
  | x => (x, s + 1) :: toks (s + 1 + ((t.drop s).takeWhile inWord).length) ((t.drop s).drop ((t.drop s).takeWhile inWord).length)
def TokAt (t : List Nat) (s : Nat) : Prop :=
  s < (pTok t s).2 ∧ (pTok t s).2 ≤ t.length ∧ toks (s + 1) (t.drop s) = conT t s (pTok t s)
theorem sl_full {t : List Nat} {a b : Nat} {x y : Nat} {r : List Nat} (h : t.drop a = x :: y :: r) (hb : b = a + 2) : sl t a b = [x, y] := by
  subst hb
  unfold sl
  rw [List.drop_take, h, show a + 2 - a = 2 from by omega]
  rfl
theorem sl_two {t : List Nat} {a : Nat} {x y : Nat} (h : sl t a (a + 2) = [x, y]) : ∃ r, t.drop a = x :: y :: r := by
  unfold sl at h
  rw [List.drop_take, show a + 2 - a = 2 from by omega] at h
  match hd : t.drop a with
  | [] => rw [hd] at h; cases h
  | [_] => rw [hd] at h; cases h
  | x' :: y' :: r =>
    rw [hd] at h
    have h : [x', y'] = [x, y] := h
    cases h
    exact ⟨r, rfl⟩
theorem drop_of {t : List Nat} {s c : Nat} (h : t[s]? = some c) : t.drop s = c :: t.drop (s + 1) := by
  obtain ⟨hl, he⟩ := List.getElem?_eq_some_iff.mp h
  rw [List.drop_eq_getElem_cons hl, he]
theorem lt_of_get {t : List Nat} {s c : Nat} (h : t[s]? = some c) : s < t.length := (List.getElem?_eq_some_iff.mp h).1
theorem tokens_of_drop {t : List Nat} {s c : Nat} (h : t[s]? = some c) (hb : blank c = false) : toks (s + 1) (t.drop s) = (
      if c = 40 then (.open_ false, s + 1) :: toks (s + 2) (t.drop (s + 1))
      else if c = 60 then (.open_ true, s + 1) :: toks (s + 2) (t.drop (s + 1))
      else if c = 41 then (.close false, s + 1) :: toks (s + 2) (t.drop (s + 1))
      else if c = 62 then (.close true, s + 1) :: toks (s + 2) (t.drop (s + 1))
      else if c = 123 then noteE t s
      else if c = 91 then headE t s
      else if c = 93 ∨ c = 125 then [(.bad, s + 1)]
      else wordE t s) := by
  have fu : ∀ q u, u.length ≤ (t.drop (s + 1)).length → tokens ((t.drop s).length) q u = toks q u := fun q u hu =>
    tokens_fuel u.length _ q u (Nat.le_refl _) (by have := lt_of_get h; rw [List.length_drop] at hu ⊢; omega)
  unfold toks noteE headE wordE
  rw [drop_of h] at fu ⊢
  conv => lhs; unfold tokens
  simp only [hb, Bool.false_eq_true, if_false]
  have e0 : ∀ q, tokens ((c :: t.drop (s + 1)).length) q (t.drop (s + 1)) = toks q (t.drop (s + 1)) := fun q => fu q _ (Nat.le_refl _)
  simp only [e0]
  split
  · rfl
  split
  · rfl
  split
  · rfl
  split
  · rfl
  split
  · split
    · rename_i u hu
      have hl : u.length ≤ (t.drop (s + 1)).length := by
        have := congrArg List.length hu
        rw [List.length_drop] at this
        simp only [List.length_cons] at this; omega
      rw [fu _ u hl, hu]
    · rename_i hu
      rw [hu]
  split
  · split
    · rename_i hh u hu
      rw [fu _ u (Nat.le_of_lt (headTok_len hu)), hu]
    · rename_i hu
      rw [hu]
  split
  · rfl
  · rename_i h40 h60 h41 h62 h123 h91 hbr
    have hin : inWord c = true := by
      unfold inWord
      simp only [not_or] at hbr
      simp [hb, h40, h41, h60, h62, h123, h91, hbr.1, hbr.2]
    have hl : ((c :: t.drop (s + 1)).drop ((c :: t.drop (s + 1)).takeWhile inWord).length).length ≤ (t.drop (s + 1)).length := by
      have := inWord_first (r := t.drop (s + 1)) hin
      rw [List.length_drop, List.length_cons]; omega
    rw [fu _ _ hl]; rfl
end M

namespace M
open Vbdcam
theorem getD_of {t : List Nat} {s c : Nat} (h : t[s]? = some c) : t.getD s 0 = c := by
  rw [List.getD_eq_getElem?_getD, h]; rfl
theorem find_step {t : List Nat} {b s c : Nat} (h : t[s]? = some c) (hc : c ≠ b) : pFind t b s = pFind t b (s + 1) := run1_step h (by simp [hc])
theorem drop_split {p : Nat → Bool} {t r : List Nat} {s c : Nat} (h : (t.drop s).drop ((t.drop s).takeWhile p).length = c :: r) : run1 p t s < t.length ∧ t.drop (run1 p t s) = c :: r := by
  rw [← drop_run1] at h
  refine ⟨?_, h⟩
  have := congrArg List.length h
  rw [List.length_drop, List.length_cons] at this
  omega
theorem tok_note {t : List Nat} {s : Nat} (h : t[s]? = some 123) : s < (pNote t s).2 ∧ (pNote t s).2 ≤ t.length ∧
    noteE t s = conT t s (pNote t s) := by
  have hl := lt_of_get h
  have hf : pFind t 125 s = run1 (fun x => x != 125) t (s + 1) := find_step h (by decide)
  have hsl : sl t (s + 1) (pFind t 125 s) = (t.drop (s + 1)).takeWhile fun x => x != 125 := by rw [hf]; exact sl_run1 ..
  unfold pNote noteE
  simp only []
  rw [hsl]
  have hge : s + 1 ≤ pFind t 125 s := by rw [hf]; exact run1_ge ..
  have hle : pFind t 125 s ≤ t.length := by rw [hf]; exact run1_le (by omega)
  have hlen : pFind t 125 s = s + 1 + ((t.drop (s + 1)).takeWhile fun x => x != 125).length := by rw [hf]; rfl
  cases hd : (t.drop (s + 1)).drop ((t.drop (s + 1)).takeWhile fun x => x != 125).length with
  | nil =>
    have he : pFind t 125 s = t.length := by
      have := congrArg List.length hd
      rw [List.length_drop, List.length_drop, List.length_nil] at this
      omega
    rw [if_pos (Or.inl he)]
    exact ⟨by simp, by simp; omega, rfl⟩
  | cons x u =>
    obtain ⟨h1, h2⟩ := drop_split hd
    have hne : ¬ pFind t 125 s = t.length := by rw [hf]; omega
    simp only [hne, false_or]
    by_cases hg : goodNote ((t.drop (s + 1)).takeWhile fun x => x != 125) = true
    · rw [if_pos hg, if_neg (by rw [hg]; decide)]
      refine ⟨by simp only []; omega, by simp only []; rw [hf] at *; omega, ?_⟩
      unfold conT
      have hu : t.drop (pFind t 125 s + 1) = u := by
        rw [hf, ← List.drop_drop, h2]; rfl
      rw [hu, hlen]
    · rw [if_neg hg]
      rw [Bool.not_eq_true] at hg
      rw [if_pos hg]
      exact ⟨by simp, by simp; omega, rfl⟩
theorem alpha_ne {c : Nat} (h : alpha c = true) : c ≠ 32 ∧ c ≠ 34 := by
  simp [alpha] at h; omega
theorem goodName_all {n : Text} (h : goodName n = true) : n.all alpha = true := by
  unfold goodName at h
  rw [Bool.and_eq_true] at h
  exact h.2
theorem goodValue_all {v : Text} (h : goodValue v = true) : (v.all fun c => c != 34) = true := by
  unfold goodValue at h
  rw [Bool.and_eq_true] at h
  rw [List.all_eq_true] at h ⊢
  intro c hc
  have := h.2 c hc
  rw [Bool.and_eq_true] at this
  exact this.2
theorem takeWhile_before {p : Nat → Bool} {x : Nat} {r : List Nat} (hx : p x = false) : ∀ {a : List Nat}, a.all p = true → (a ++ x :: r).takeWhile p = a
  | [], _ => by rw [List.nil_append, List.takeWhile_cons, if_neg (by rw [hx]; decide)]
  | y :: a, q => by
    rw [List.all_cons, Bool.and_eq_true] at q
    rw [List.cons_append, List.takeWhile_cons, if_pos q.1, takeWhile_before hx q.2]
theorem tok_head {t : List Nat} {s : Nat} (h : t[s]? = some 91) : s < (pHead t s).2 ∧ (pHead t s).2 ≤ t.length ∧
    headE t s = conT t s (pHead t s) := by
  unfold headE
  have hl := lt_of_get h
  have hf : pFind t 32 s = pFind t 32 (s + 1) := find_step h (by decide)
  have hge : s + 1 ≤ pFind t 32 s := by rw [hf]; exact run1_ge ..
  by_cases good : (sl t (pFind t 32 s) (pFind t 32 s + 2) = [32, 34] ∧ sl t (pFind t 34 (pFind t 32 s + 2)) (pFind t 34 (pFind t 32 s + 2) + 2) = [34, 93]) ∧
      goodName (sl t (s + 1) (pFind t 32 s)) = true ∧ goodValue (sl t (pFind t 32 s + 2) (pFind t 34 (pFind t 32 s + 2))) = true
  · obtain ⟨⟨g1, g2⟩, g3, g4⟩ := good
    have hp : pHead t s = (.head (sl t (s + 1) (pFind t 32 s)) (sl t (pFind t 32 s + 2) (pFind t 34 (pFind t 32 s + 2))), pFind t 34 (pFind t 32 s + 2) + 2) := by
      unfold pHead
      simp only [g1, g2, g3, g4, ne_eq, not_true_eq_false, or_self, if_false, Bool.true_eq_false]
    obtain ⟨r1, d1⟩ := sl_two g1
    obtain ⟨r2, d2⟩ := sl_two g2
    have hn : sl t (s + 1) (pFind t 32 s) = (t.drop (s + 1)).takeWhile fun c => c != 32 := by rw [hf]; exact sl_run1 ..
    have hv : sl t (pFind t 32 s + 2) (pFind t 34 (pFind t 32 s + 2)) = (t.drop (pFind t 32 s + 2)).takeWhile fun c => c != 34 := sl_run1 ..
    have hsp1 : t.drop (s + 1) = sl t (s + 1) (pFind t 32 s) ++ 32 :: 34 :: r1 := by
      rw [hn, ← d1, hf]
      have := List.take_append_drop ((t.drop (s + 1)).takeWhile fun c => c != 32).length (t.drop (s + 1))
      rw [take_takeWhile, ← drop_run1] at this
      exact this.symm
    have hr1 : t.drop (pFind t 32 s + 2) = r1 := by rw [← List.drop_drop, d1]; rfl
    have hsp2 : r1 = sl t (pFind t 32 s + 2) (pFind t 34 (pFind t 32 s + 2)) ++ 34 :: 93 :: r2 := by
      rw [hv, ← d2]
      have := List.take_append_drop ((t.drop (pFind t 32 s + 2)).takeWhile fun c => c != 34).length (t.drop (pFind t 32 s + 2))
      rw [take_takeWhile, ← drop_run1, hr1] at this
      rw [hr1]
      exact this.symm
    have hT : headTok (t.drop (s + 1)) = some (.head (sl t (s + 1) (pFind t 32 s)) (sl t (pFind t 32 s + 2) (pFind t 34 (pFind t 32 s + 2))), r2) := by
      unfold headTok
      have w1 : (t.drop (s + 1)).takeWhile alpha = sl t (s + 1) (pFind t 32 s) := by
        rw [hsp1]; exact takeWhile_before (by decide) (goodName_all g3)
      have w2 : (t.drop (s + 1)).drop (sl t (s + 1) (pFind t 32 s)).length = 32 :: 34 :: r1 := by
        conv => lhs; rw [hsp1]
        exact List.drop_left ..
      simp only [w1, w2]
      have w3 : (r1.takeWhile fun c => c != 34) = sl t (pFind t 32 s + 2) (pFind t 34 (pFind t 32 s + 2)) := by
        conv => lhs; rw [hsp2]
        exact takeWhile_before (by decide) (goodValue_all g4)
      have w4 : r1.drop (sl t (pFind t 32 s + 2) (pFind t 34 (pFind t 32 s + 2))).length = 34 :: 93 :: r2 := by
        conv => lhs; rw [hsp2]
        exact List.drop_left ..
      simp only [w3, w4, g3, g4, and_self, if_true]
    rw [hT, hp]
    have hr2 : t.drop (pFind t 34 (pFind t 32 s + 2) + 2) = r2 := by rw [← List.drop_drop, d2]; rfl
    have l2 : pFind t 34 (pFind t 32 s + 2) + 2 ≤ t.length := by
      have := congrArg List.length d2
      rw [List.length_drop] at this
      simp only [List.length_cons] at this
      omega
    have hge2 : pFind t 32 s + 2 ≤ pFind t 34 (pFind t 32 s + 2) := run1_ge ..
    refine ⟨by simp only []; omega, l2, ?_⟩
    unfold conT
    simp only []
    rw [hr2]
    have : s + 1 + ((t.drop s).length - r2.length) = pFind t 34 (pFind t 32 s + 2) + 2 + 1 := by
      have := congrArg List.length hr2
      rw [List.length_drop] at this ⊢
      omega
    rw [this]
  · have hp : pHead t s = (.bad, s + 1) := by
      unfold pHead
      simp only []
      by_cases g : sl t (pFind t 32 s) (pFind t 32 s + 2) ≠ [32, 34] ∨ sl t (pFind t 34 (pFind t 32 s + 2)) (pFind t 34 (pFind t 32 s + 2) + 2) ≠ [34, 93]
      · rw [if_pos g]
      · rw [if_neg g]
        simp only [not_or, ne_eq, Decidable.not_not] at g
        refine if_pos ?_
        by_cases g3 : goodName (sl t (s + 1) (pFind t 32 s)) = true
        · by_cases g4 : goodValue (sl t (pFind t 32 s + 2) (pFind t 34 (pFind t 32 s + 2))) = true
          · exact absurd ⟨g, g3, g4⟩ good
          · exact .inr (by simpa using g4)
        · exact .inl (by simpa using g3)
    rw [hp]
    refine ⟨by simp, by simp; omega, ?_⟩
    unfold conT
    cases hT : headTok (t.drop (s + 1)) with
    | none => rfl
    | some x =>
      exfalso
      apply good
      unfold headTok at hT
      simp only [] at hT
      split at hT
      · rename_i r1 d1
        split at hT
        · rename_i u d2
          split at hT
          · rename_i gg
            have hall : ((t.drop (s + 1)).takeWhile alpha).all (fun c => c != 32) = true := List.all_eq_true.mpr fun c hc => by
              have := List.all_eq_true.mp (List.all_takeWhile (l := t.drop (s + 1)) (p := alpha)) c hc
              simp [(alpha_ne this).1]
            have hsp1 : t.drop (s + 1) = (t.drop (s + 1)).takeWhile alpha ++ 32 :: 34 :: r1 := by
              have := List.take_append_drop ((t.drop (s + 1)).takeWhile alpha).length (t.drop (s + 1))
              rw [take_takeWhile, d1] at this
              exact this.symm
            have htw : ((t.drop (s + 1)).takeWhile fun c => c != 32) = (t.drop (s + 1)).takeWhile alpha := by
              conv => lhs; rw [hsp1]
              exact takeWhile_before (by decide) hall
            have hne : pFind t 32 s = s + 1 + ((t.drop (s + 1)).takeWhile alpha).length := by
              rw [hf]
              show s + 1 + ((t.drop (s + 1)).takeWhile fun c => c != 32).length = _
              rw [htw]
            have dn : t.drop (pFind t 32 s) = 32 :: 34 :: r1 := by
              rw [hne, ← List.drop_drop, d1]
            have hname : sl t (s + 1) (pFind t 32 s) = (t.drop (s + 1)).takeWhile alpha := by
              rw [hf]
              exact (sl_run1 ..).trans htw
            have hr1 : t.drop (pFind t 32 s + 2) = r1 := by rw [← List.drop_drop, dn]; rfl
            have hval : sl t (pFind t 32 s + 2) (pFind t 34 (pFind t 32 s + 2)) = r1.takeWhile fun c => c != 34 := by
              rw [← hr1]; exact sl_run1 ..
            have dv : t.drop (pFind t 34 (pFind t 32 s + 2)) = 34 :: 93 :: u := by
              show t.drop (run1 _ t _) = _
              rw [drop_run1, hr1]; exact d2
            rw [hname, hval]
            exact ⟨⟨sl_full dn rfl, sl_full dv rfl⟩, gg.1, gg.2⟩
          · cases hT
        · cases hT
      · cases hT
theorem tok_word {t : List Nat} {s c : Nat} (h : t[s]? = some c) (hin : inWord c = true) : s < (pWordAt t s).2 ∧ (pWordAt t s).2 ≤ t.length ∧
    wordE t s = conT t s (pWordAt t s) := by
  have hl := lt_of_get h
  unfold pWordAt wordE conT
  rw [sl_run1, pWord_eq]
  refine ⟨?_, run1_le (by omega), ?_⟩
  · simp only []
    rw [run1_step h hin]
    have := run1_ge inWord t (s + 1)
    omega
  · simp only []
    rw [← drop_run1]
    have : s + 1 + ((t.drop s).takeWhile inWord).length = run1 inWord t s + 1 := by unfold run1; omega
    rw [this]
theorem tok_at {t : List Nat} {s c : Nat} (h : t[s]? = some c) (hb : blank c = false) : TokAt t s := by
  have hl := lt_of_get h
  unfold TokAt
  rw [tokens_of_drop h hb]
  unfold pTok
  rw [getD_of h]
  simp only []
  by_cases c40 : c = 40
  · subst c40; exact ⟨by simp, by simp; omega, rfl⟩
  by_cases c41 : c = 41
  · subst c41; exact ⟨by simp, by simp; omega, rfl⟩
  by_cases c60 : c = 60
  · subst c60; exact ⟨by simp, by simp; omega, rfl⟩
  by_cases c62 : c = 62
  · subst c62; exact ⟨by simp, by simp; omega, rfl⟩
  by_cases c123 : c = 123
  · subst c123
    simpa using tok_note h
  by_cases c91 : c = 91
  · subst c91
    simpa using tok_head h
  simp only [c40, c41, c60, c62, c123, c91, if_false]
  by_cases cb : c = 93 ∨ c = 125
  · rw [if_pos cb, if_pos (by rcases cb with q | q <;> simp [q])]
    exact ⟨by simp, by simp; omega, rfl⟩
  · rw [if_neg cb, if_neg (by rcases not_or.mp cb with ⟨q1, q2⟩; simp [q1, q2])]
    refine tok_word h ?_
    unfold inWord
    rcases not_or.mp cb with ⟨q1, q2⟩
    simp [hb, c40, c41, c60, c62, c123, c91, q1, q2]
end M

namespace M
open Vbdcam
def MvOk : Move → Prop
  | .take h n => h < 8 ∧ 1 ≤ n ∧ n ≤ 1000000000
  | .split h n g => h < 8 ∧ 1 ≤ n ∧ n ≤ 1000000000 ∧ g < 8
  | .pass => True
def HdOk (h : Text × Text) : Prop := goodName h.1 = true ∧ goodValue h.2 = true
def TkOk : Tok → Prop
  | .note t => goodNote t = true
  | .mark n => n ≤ 255
  | .result r => r < 4
  | .move m s => MvOk m ∧ ∀ n ∈ s.toList, n ≤ 255
  | .head n v => HdOk (n, v)
  | _ => True
def FiOk : FI → Prop
  | .move m ms => MvOk m ∧ ms.length ≤ 4 ∧ ∀ n ∈ ms, n ≤ 255
  | .note t => goodNote t = true
  | _ => True
theorem plc_lt {c h : Nat} (e : place c = some h) : h < 8 := by
  unfold place at e
  split at e
  · have := Option.some.inj e; omega
  · cases e
theorem moveOf_ok {t : Text} {m : Move} (h : moveOf t = some m) : MvOk m := by
  unfold moveOf at h
  split at h
  · cases h; trivial
  · split at h
    · cases h
    · rename_i c r _
      split at h
      · cases h
      · rename_i hh hp
        simp only [] at h
        split at h
        · split at h
          · rename_i hn
            cases h
            exact ⟨plc_lt hp, hn.1, hn.2⟩
          · cases h
        · split at h
          · rename_i g hg
            split at h
            · rename_i hn
              cases h
              exact ⟨plc_lt hp, hn.1, hn.2, plc_lt hg⟩
            · cases h
          · cases h
        · cases h
theorem wordTok_ok (w : Text) : TkOk (wordTok w) := by
  unfold wordTok
  split
  · rename_i hc
    have : RESULTS.idxOf w < RESULTS.length := List.idxOf_lt_length_of_mem (List.contains_iff_mem.mp hc)
    exact this
  · split
    · split
      · split
        · rename_i hn; exact hn
        · trivial
      · trivial
    · simp only []
      split
      · split
        · split
          · trivial
          · split
            · trivial
            · split <;> trivial
        · trivial
      · split
        · trivial
        · rename_i v hv
          split
          · exact ⟨moveOf_ok hv, fun n hn => by simp at hn⟩
          · split
            · rename_i hs
              refine ⟨moveOf_ok hv, fun n hn => ?_⟩
              have h1 : n = SUFFIXES.idxOf (w.drop (w.takeWhile fun c => c != 33 && c != 63).length) + 1 := by simpa using hn
              have h2 : SUFFIXES.idxOf (w.drop (w.takeWhile fun c => c != 33 && c != 63).length) < SUFFIXES.length := List.idxOf_lt_length_of_mem (List.contains_iff_mem.mp hs)
              have h3 : SUFFIXES.length = 6 := rfl
              omega
            · trivial
theorem headTok_ok {t u : Text} {h : Tok} (e : headTok t = some (h, u)) : TkOk h := by
  unfold headTok at e
  simp only [] at e
  split at e
  · split at e
    · split at e
      · rename_i hg
        cases e
        exact hg
      · cases e
    · cases e
  · cases e
theorem tokens_ok : ∀ (k p : Nat) (t : Text), ∀ x ∈ tokens k p t, TkOk x.1
  | 0, _, _, x, h => by cases h
  | k + 1, p, [], x, h => by cases h
  | k + 1, p, c :: r, x, h => by
    have ih := tokens_ok k
    unfold tokens at h
    simp only [] at h
    split at h
    · exact ih _ _ x h
    split at h
    · rcases List.mem_cons.mp h with rfl | h
      · trivial
      · exact ih _ _ x h
    split at h
    · rcases List.mem_cons.mp h with rfl | h
      · trivial
      · exact ih _ _ x h
    split at h
    · rcases List.mem_cons.mp h with rfl | h
      · trivial
      · exact ih _ _ x h
    split at h
    · rcases List.mem_cons.mp h with rfl | h
      · trivial
      · exact ih _ _ x h
    split at h
    · split at h
      · split at h
        · rename_i hg
          rcases List.mem_cons.mp h with rfl | h
          · exact hg
          · exact ih _ _ x h
        · rw [List.mem_singleton.mp h]; trivial
      · rw [List.mem_singleton.mp h]; trivial
    split at h
    · split at h
      · rename_i hh
        rcases List.mem_cons.mp h with rfl | h
        · exact headTok_ok hh
        · exact ih _ _ x h
      · rw [List.mem_singleton.mp h]; trivial
    split at h
    · rw [List.mem_singleton.mp h]; trivial
    · split at h
      · rw [List.mem_singleton.mp h]; trivial
      · rcases List.mem_cons.mp h with rfl | h
        · exact wordTok_ok _
        · exact ih _ _ x h
theorem heads_ok : ∀ (t : Toks) (l hs : List (Text × Text)) (u : Toks), heads l t = .ok (hs, u) → (∀ h ∈ l, HdOk h) → (∀ x ∈ t, TkOk x.1) → (∀ h ∈ hs, HdOk h) ∧ ∀ x ∈ u, TkOk x.1
  | [], l, hs, u, h, h1, h2 => by cases h; exact ⟨h1, h2⟩
  | (.head n v, p) :: r, l, hs, u, h, h1, h2 => by
    have h : (if (l.any fun h => h.1 == n) = true ∨ 20 ≤ l.length then (.error p : Except Nat (List (Text × Text) × Toks)) else heads (l ++ [(n, v)]) r) = .ok (hs, u) := h
    split at h
    · cases h
    · refine heads_ok r _ hs u h (fun x hx => ?_) fun x hx => h2 x (List.mem_cons_of_mem _ hx)
      rcases List.mem_append.mp hx with hx | hx
      · exact h1 x hx
      · rw [List.mem_singleton.mp hx]; exact h2 (.head n v, p) (by simp)
  | (.open_ _, p) :: r, l, hs, u, h, h1, h2 => by cases h; exact ⟨h1, h2⟩
  | (.close _, p) :: r, l, hs, u, h, h1, h2 => by cases h; exact ⟨h1, h2⟩
  | (.note _, p) :: r, l, hs, u, h, h1, h2 => by cases h; exact ⟨h1, h2⟩
  | (.mark _, p) :: r, l, hs, u, h, h1, h2 => by cases h; exact ⟨h1, h2⟩
  | (.num _ _, p) :: r, l, hs, u, h, h1, h2 => by cases h; exact ⟨h1, h2⟩
  | (.result _, p) :: r, l, hs, u, h, h1, h2 => by cases h; exact ⟨h1, h2⟩
  | (.move _ _, p) :: r, l, hs, u, h, h1, h2 => by cases h; exact ⟨h1, h2⟩
  | (.bad, p) :: r, l, hs, u, h, h1, h2 => by cases h; exact ⟨h1, h2⟩
theorem canMark_ends {l : List FI} (h : canMark l = true) : ∃ l0 m ms, l = l0 ++ [.move m ms] ∧ ms.length < 4 := by
  unfold canMark at h
  cases hl : l.getLast? with
  | none => rw [hl] at h; cases h
  | some y =>
    rw [hl] at h
    obtain ⟨l0, rfl⟩ := List.getLast?_eq_some_iff.mp hl
    cases y with
    | move m ms => exact ⟨l0, m, ms, rfl, by simpa using h⟩
    | note _ => cases h
    | opn _ => cases h
    | cls _ => cases h
theorem mstep_ok {x : Tok} {p : Nat} {nm : Bool} {rs s' : RS} (hx : TkOk x) (hl : ∀ i ∈ rs.line, FiOk i) (h : mstep x p nm rs = .ok s') : ∀ i ∈ s'.line, FiOk i := by
  have snoc : ∀ i, FiOk i → ∀ j ∈ rs.line ++ [i], FiOk j := fun i hi j hj => by
    rcases List.mem_append.mp hj with hj | hj
    · exact hl j hj
    · rw [List.mem_singleton.mp hj]; exact hi
  cases x with
  | move m a =>
    cases h
    refine snoc _ ⟨hx.1, ?_, hx.2⟩
    cases a <;> simp
  | mark n =>
    have h : (if canMark rs.line = true then Except.ok { rs with line := addMark rs.line n } else .error p) = .ok s' := h
    split at h
    · rename_i hc
      cases h
      obtain ⟨l0, m, ms, e, hm⟩ := canMark_ends hc
      show ∀ i ∈ addMark rs.line n, FiOk i
      rw [e, addMark_snoc]
      intro i hi
      rcases List.mem_append.mp hi with hi | hi
      · exact hl i (by rw [e]; exact List.mem_append_left _ hi)
      · rw [List.mem_singleton.mp hi]
        have := hl (.move m ms) (by rw [e]; simp)
        refine ⟨this.1, by rw [List.length_append]; simp; omega, fun k hk => ?_⟩
        rcases List.mem_append.mp hk with hk | hk
        · exact this.2.2 k hk
        · rw [List.mem_singleton.mp hk]; exact hx
    · cases h
  | num n d =>
    have h : (if numOk n d rs.top.ply = true ∧ nm = true then Except.ok rs else .error p) = .ok s' := h
    split at h
    · cases h; exact hl
    · cases h
  | note c => cases h; exact snoc _ hx
  | open_ b =>
    have h : (if 40 < rs.rest.length + 1 ∨ (b = false ∧ rs.top.moves = 0) then Except.error p else .ok { line := rs.line ++ [.opn b], top := ⟨if b = true then rs.top.ply else rs.top.ply - 1, 0, some b⟩, rest := rs.top :: rs.rest }) = .ok s' := h
    split at h
    · cases h
    · cases h; exact snoc _ trivial
  | close b =>
    have h : (match rs.rest with | [] => Except.error p | o :: r => if rs.top.closing = some b ∧ 0 < rs.top.moves then Except.ok (RS.mk (rs.line ++ [FI.cls b]) o r) else .error p) = .ok s' := h
    split at h
    · cases h
    · split at h
      · cases h; exact snoc _ trivial
      · cases h
  | result _ => cases h
  | head _ _ => cases h
  | bad => cases h
theorem run_ok (e : Nat) : ∀ (u : Toks) (rs : RS) (l : List FI) (k : Nat) (r : Toks), run e u rs = .ok (l, k, r) → (∀ x ∈ u, TkOk x.1) → (∀ i ∈ rs.line, FiOk i) → (∀ i ∈ l, FiOk i) ∧ k < 4
  | [], rs, l, k, r, h, _, _ => by cases h
  | (x, p) :: u, rs, l, k, r, h, h1, h2 => by
    by_cases hx : ∃ j, x = .result j
    · obtain ⟨j, rfl⟩ := hx
      have h : (if rs.rest = [] then Except.ok (rs.line, j, u) else .error p) = .ok (l, k, r) := h
      split at h
      · cases h
        exact ⟨h2, h1 (.result k, p) (by simp)⟩
      · cases h
    · have h : (match mstep x p (isMove u) rs with | .error q => Except.error q | .ok s' => run e u s') = .ok (l, k, r) := by
        cases x with
        | result j => exact absurd ⟨j, rfl⟩ hx
        | _ => exact h
      cases hm : mstep x p (isMove u) rs with
      | error q => rw [hm] at h; cases h
      | ok s' =>
        rw [hm] at h
        exact run_ok e u s' l k r h (fun y hy => h1 y (List.mem_cons_of_mem _ hy)) (mstep_ok (h1 (x, p) (by simp)) h2 hm)
theorem mread_ok {t : Text} {hs : List (Text × Text)} {l : List FI} {k : Nat} (h : mread t = .ok (hs, l, k)) : (∀ h ∈ hs, HdOk h) ∧ (∀ i ∈ l, FiOk i) ∧ k < 4 := by
  unfold mread at h
  split at h
  · cases h
  · cases hh : heads [] (tokens (t.length + 1) 1 t) with
    | error p => rw [hh] at h; cases h
    | ok y =>
      obtain ⟨hs', u⟩ := y
      rw [hh] at h
      simp only [] at h
      obtain ⟨h1, h2⟩ := heads_ok _ _ _ _ hh (fun _ z => by cases z) (tokens_ok _ _ _)
      cases hr : run (t.length + 1) u init with
      | error p => rw [hr] at h; cases h
      | ok z =>
        obtain ⟨l', k', r⟩ := z
        rw [hr] at h
        simp only [] at h
        split at h
        · cases h
          obtain ⟨h3, h4⟩ := run_ok _ _ _ _ _ _ hr h2 (fun _ z => by cases z)
          exact ⟨h1, h3, h4⟩
        · cases h
end M

namespace M
open Vbdcam
def fwok : List FI → Nat → List Nat → Prop
  | [], _, _ => True
  | .move _ _ :: r, ply, st => fwok r (ply + 1) st
  | .note _ :: r, ply, st => fwok r ply st
  | .opn b :: r, ply, st => (b = true ∨ 1 ≤ ply) ∧ fwok r (if b = true then ply else ply - 1) (ply :: st)
  | .cls _ :: r, _, st => st ≠ [] ∧ fwok r (st.headD 0) st.tail
mutual
theorem fwok_item : ∀ (i : Item) (rest : List FI) (ply : Nat) (st : List Nat) (any : Bool), wfI any i → (any = true → 1 ≤ ply) → fwok rest (match i with | .move _ _ => ply + 1 | _ => ply) st → fwok (flatItem i ++ rest) ply st
  | .move m l, rest, ply, st, any, _, _, h => h
  | .note t, rest, ply, st, any, _, _, h => h
  | .alt l, rest, ply, st, any, hw, ha, h => by
    show fwok ((.opn false :: (flat l ++ [.cls false])) ++ rest) ply st
    rw [List.cons_append, List.append_assoc]
    refine ⟨.inr (ha hw.1), ?_⟩
    exact fwok_line l (FI.cls false :: rest) _ (ply :: st) false hw.2 (fun z => by cases z) fun p => ⟨by simp, h⟩
  | .back l, rest, ply, st, any, hw, ha, h => by
    show fwok ((.opn true :: (flat l ++ [.cls true])) ++ rest) ply st
    rw [List.cons_append, List.append_assoc]
    refine ⟨.inl rfl, ?_⟩
    exact fwok_line l (FI.cls true :: rest) _ (ply :: st) false hw (fun z => by cases z) fun p => ⟨by simp, h⟩
theorem fwok_line : ∀ (l : Items) (rest : List FI) (ply : Nat) (st : List Nat) (any : Bool), wf any l → (any = true → 1 ≤ ply) → (∀ p, fwok rest p st) → fwok (flat l ++ rest) ply st
  | .nil, rest, ply, st, any, _, _, h => h ply
  | .cons i r, rest, ply, st, any, hw, ha, h => by
    show fwok ((flatItem i ++ flat r) ++ rest) ply st
    rw [List.append_assoc]
    refine fwok_item i _ ply st any hw.1 ha ?_
    cases i with
    | move m l => exact fwok_line r rest (ply + 1) st true hw.2 (fun _ => Nat.le_add_left 1 ply) h
    | note t => exact fwok_line r rest _ st any hw.2 ha h
    | alt t => exact fwok_line r rest _ st any hw.2 ha h
    | back t => exact fwok_line r rest _ st any hw.2 ha h
end
theorem fwok_wf {l : Items} (h : wf false l) : fwok (flat l) 0 [] := by
  have := fwok_line l [] 0 [] false h (fun z => by cases z) fun _ => trivial
  simpa using this
structure FrOk (hs : List (Text × Text)) (l : List FI) (k : Nat) : Prop where
  hd : ∀ h ∈ hs, HdOk h
  it : ∀ i ∈ l, FiOk i
  rs : k < 4
  ok : fwok l 0 []
  n1 : l.length ≤ 10000
  n2 : hs.length ≤ 10000
theorem fr_ok {t : Text} {hs : List (Text × Text)} {l : List FI} {k : Nat} (h : mread t = .ok (hs, l, k)) (h1 : l.length ≤ 10000) (h2 : hs.length ≤ 10000) : FrOk hs l k ∧ ∃ r, readRecord t = .ok r ∧ hs = r.heads ∧ l = flat r.line ∧ k = r.result := by
  obtain ⟨a, b, c⟩ := mread_ok h
  have e := mread_eq t
  rw [h] at e
  cases hr : readRecord t with
  | error p => rw [hr] at e; cases e
  | ok r =>
    rw [hr] at e
    have e : (hs, l, k) = (r.heads, flat r.line, r.result) := Except.ok.inj e
    cases e
    exact ⟨⟨a, b, c, fwok_wf (read_wf hr), h1, h2⟩, r, rfl, rfl, rfl, rfl⟩
end M

namespace M
open Vbdcam
end M

namespace M
open Vbdcam
def ftr : List FI → Game → Game → List (Game × Game) → List Game × Option Game
  | [], _, g, _ => ([], some g)
  | .move m _ :: r, _, g, st => (match play g m with
    | none => ([], none)
    | some g' => (g' :: (ftr r g g' st).1, (ftr r g g' st).2))
  | .note _ :: r, b, g, st => ftr r b g st
  | .opn k :: r, b, g, st => ftr r b (if k = true then g else b) ((b, g) :: st)
  | .cls _ :: r, _, g, st => (match st with
    | [] => ([], some g)
    | x :: s => ftr r x.1 x.2 s)
theorem fseen_ftr : ∀ (l : List FI) (b g : Game) (st : List (Game × Game)), fseen l b g st = (ftr l b g st).2.map fun _ => (ftr l b g st).1
  | [], _, _, _ => rfl
  | .move m ms :: r, b, g, st => by
    unfold fseen ftr
    cases play g m with
    | none => rfl
    | some g' =>
      simp only [Option.bind_some]
      rw [fseen_ftr r g g' st]
      cases (ftr r g g' st).2 <;> rfl
  | .note _ :: r, b, g, st => by unfold fseen ftr; exact fseen_ftr r b g st
  | .opn k :: r, b, g, st => by unfold fseen ftr; exact fseen_ftr r _ _ _
  | .cls _ :: r, b, g, st => by
    unfold fseen ftr
    cases st with
    | nil => rfl
    | cons x s => exact fseen_ftr r _ _ _
def SeenOk (l rest : List FI) (b g : Game) (st : List (Game × Game)) (g' : Game) (x : Option (List Game)) : Prop :=
  match x with
  | none => fseen (l ++ rest) b g st = none
  | some p => ∃ b', fseen (l ++ rest) b g st = (fseen rest b' g' st).map fun q => p ++ q
def lastG (prev g : Game) : Items → Game
  | .nil => g
  | .cons (.move m _) r => (match play g m with | none => g | some g' => lastG g g' r)
  | .cons _ r => lastG prev g r
theorem seen_line : ∀ (l : Items) (any : Bool) (rest : List FI) (prev b g : Game) (st : List (Game × Game)), wf any l → (any = true → b = prev) → SeenOk (flat l) rest b g st (lastG prev g l) (seen prev g l)
  | .nil, any, rest, prev, b, g, st, hw, hb => ⟨b, by show fseen rest b g st = (fseen rest b g st).map fun q => [] ++ q; cases fseen rest b g st <;> rfl⟩
  | .cons (.move m ms) r, any, rest, prev, b, g, st, hw, hb => by
    have e0 : fseen (flat (.cons (.move m ms) r) ++ rest) b g st = (play g m).bind fun g' => (fseen (flat r ++ rest) g g' st).map fun l => g' :: l := rfl
    have e1 : seen prev g (.cons (.move m ms) r) = ((play g m).map fun g' => (g, g', [g'])).bind fun x => (seen x.1 x.2.1 r).map fun l => x.2.2 ++ l := rfl
    cases hp : play g m with
    | none =>
      rw [hp] at e0 e1
      rw [e1]
      exact e0
    | some g' =>
      have ih := seen_line r true rest g g g' st hw.2 (fun _ => rfl)
      rw [hp] at e0 e1
      have el : lastG prev g (.cons (.move m ms) r) = lastG g g' r := by show (match play g m with | none => g | some g' => lastG g g' r) = _; rw [hp]
      rw [e1, el]
      show SeenOk _ rest b g st _ ((seen g g' r).map fun l => [g'] ++ l)
      cases hc : seen g g' r with
      | none => rw [hc] at ih; have ih : fseen (flat r ++ rest) g g' st = none := ih; show fseen _ _ _ _ = none; rw [e0]; show (fseen (flat r ++ rest) g g' st).map _ = none; rw [ih]; rfl
      | some p =>
        rw [hc] at ih
        obtain ⟨b', h⟩ := ih
        refine ⟨b', ?_⟩
        rw [e0]
        show (fseen (flat r ++ rest) g g' st).map _ = _
        rw [h, Option.map_map]
        rfl
  | .cons (.note t) r, any, rest, prev, b, g, st, hw, hb => by
    have ih := seen_line r any rest prev b g st hw.2 hb
    have e1 : seen prev g (.cons (.note t) r) = (seen prev g r).map fun l => [] ++ l := rfl
    have e2 : (seen prev g r).map (fun l => [] ++ l) = seen prev g r := by cases seen prev g r <;> rfl
    rw [e1, e2]
    show SeenOk (.note t :: flat r) rest b g st (lastG prev g r) _
    cases hc : seen prev g r with
    | none => rw [hc] at ih; exact ih
    | some p => rw [hc] at ih; exact ih
  | .cons (.alt l) r, any, rest, prev, b, g, st, hw, hb => by
    obtain ⟨⟨ha, hwl⟩, hwr⟩ := hw
    have hb := hb ha
    subst hb
    have hwr : wf any r := hwr
    have e0 : (flat (.cons (.alt l) r)) ++ rest = .opn false :: (flat l ++ (.cls false :: (flat r ++ rest))) := by simp [flat, flatItem]
    have ih := seen_line l false (.cls false :: (flat r ++ rest)) b b b ((b, g) :: st) hwl (fun h => by cases h)
    have ih2 := seen_line r any rest b b g st hwr (fun _ => rfl)
    have e1 : fseen (flat (.cons (.alt l) r) ++ rest) b g st = fseen (flat l ++ (.cls false :: (flat r ++ rest))) b b ((b, g) :: st) := by rw [e0]; rfl
    have e3 : seen b g (.cons (.alt l) r) = ((seen b b l).map fun x => (b, g, x)).bind fun x => (seen x.1 x.2.1 r).map fun l => x.2.2 ++ l := rfl
    rw [e3]
    show SeenOk _ rest b g st (lastG b g r) _
    cases hc : seen b b l with
    | none => rw [hc] at ih; exact e1.trans ih
    | some p =>
      rw [hc] at ih
      obtain ⟨b', h⟩ := ih
      have e2 : fseen (flat (.cons (.alt l) r) ++ rest) b g st = (fseen (flat r ++ rest) b g st).map fun q => p ++ q := e1.trans (h.trans rfl)
      show SeenOk _ rest b g st (lastG b g r) ((seen b g r).map fun l => p ++ l)
      cases hc2 : seen b g r with
      | none => rw [hc2] at ih2; have ih2 : fseen (flat r ++ rest) b g st = none := ih2; show fseen _ _ _ _ = none; rw [e2, ih2]; rfl
      | some p2 =>
        rw [hc2] at ih2
        obtain ⟨b2, h2⟩ := ih2
        refine ⟨b2, ?_⟩
        rw [e2, h2, Option.map_map]
        congr 1
        funext q
        show p ++ (p2 ++ q) = (p ++ p2) ++ q
        rw [List.append_assoc]
  | .cons (.back l) r, any, rest, prev, b, g, st, hw, hb => by
    obtain ⟨hwl, hwr⟩ := hw
    have hwl : wf false l := hwl
    have hwr : wf any r := hwr
    have e0 : (flat (.cons (.back l) r)) ++ rest = .opn true :: (flat l ++ (.cls true :: (flat r ++ rest))) := by simp [flat, flatItem]
    have ih := seen_line l false (.cls true :: (flat r ++ rest)) g b g ((b, g) :: st) hwl (fun h => by cases h)
    have ih2 := seen_line r any rest prev b g st hwr hb
    have e1 : fseen (flat (.cons (.back l) r) ++ rest) b g st = fseen (flat l ++ (.cls true :: (flat r ++ rest))) b g ((b, g) :: st) := by rw [e0]; rfl
    have e3 : seen prev g (.cons (.back l) r) = ((seen g g l).map fun x => (prev, g, x)).bind fun x => (seen x.1 x.2.1 r).map fun l => x.2.2 ++ l := rfl
    rw [e3]
    show SeenOk _ rest b g st (lastG prev g r) _
    cases hc : seen g g l with
    | none => rw [hc] at ih; exact e1.trans ih
    | some p =>
      rw [hc] at ih
      obtain ⟨b', h⟩ := ih
      have e2 : fseen (flat (.cons (.back l) r) ++ rest) b g st = (fseen (flat r ++ rest) b g st).map fun q => p ++ q := e1.trans (h.trans rfl)
      show SeenOk _ rest b g st (lastG prev g r) ((seen prev g r).map fun l => p ++ l)
      cases hc2 : seen prev g r with
      | none => rw [hc2] at ih2; have ih2 : fseen (flat r ++ rest) b g st = none := ih2; show fseen _ _ _ _ = none; rw [e2, ih2]; rfl
      | some p2 =>
        rw [hc2] at ih2
        obtain ⟨b2, h2⟩ := ih2
        refine ⟨b2, ?_⟩
        rw [e2, h2, Option.map_map]
        congr 1
        funext q
        show p ++ (p2 ++ q) = (p ++ p2) ++ q
        rw [List.append_assoc]
theorem fseen_eq (l : Items) (g : Game) (hw : wf false l) : fseen (flat l) g g [] = seen g g l := by
  have h := seen_line l false [] g g g [] hw (fun h => by cases h)
  cases hc : seen g g l with
  | none => rw [hc] at h; have h : fseen (flat l ++ []) g g [] = none := h; rwa [List.append_nil] at h
  | some p =>
    rw [hc] at h
    obtain ⟨b', h⟩ := h
    rw [List.append_nil] at h
    rw [h]
    show some (p ++ []) = some p
    rw [List.append_nil]
structure GmOk (g : Game) : Prop where
  hp : g.heaps ≠ []
  ps : g.passed.length = 2
  n8 : g.heaps.length ≤ 8
theorem play_ok {g g' : Game} {m : Move} (h : play g m = some g') (o : GmOk g) : GmOk g' := by
  unfold play at h
  split at h
  · cases h
  · cases m with
    | take hh n =>
      simp only [] at h
      split at h
      · cases h; exact ⟨fun z => o.hp (by have := congrArg List.length z; simp at this; exact this), o.ps, by simpa using o.n8⟩
      · cases h
    | split hh n e =>
      simp only [] at h
      split at h
      · cases h; exact ⟨fun z => o.hp (by have := congrArg List.length z; simp at this; exact this), o.ps, by simpa using o.n8⟩
      · cases h
    | pass =>
      simp only [] at h
      split at h
      · cases h
      · cases h; exact ⟨o.hp, by simp [o.ps], o.n8⟩
def heapsL (t : Text) : List Int := (splitAt_ [] t).map fun p => pNum p MOST
theorem split_ne : ∀ (t acc : Text), splitAt_ acc t ≠ []
  | [], acc => by simp [splitAt_]
  | c :: r, acc => by
    unfold splitAt_
    split
    · simp
    · exact split_ne r _
theorem pNum_ge (p : Text) (m : Nat) : 0 ≤ pNum p m ↔ (numeral p).any (fun n => decide (n ≤ m)) = true := by
  unfold pNum
  cases h : numeral p with
  | none => simp
  | some n =>
    by_cases hn : n ≤ m
    · simp [hn]
    · simp [hn]
theorem heapsOf_eq (t : Text) : heapsOf t = if (heapsL t).length ≤ 8 ∧ ∀ x ∈ heapsL t, 0 ≤ x then some ((heapsL t).map Int.toNat) else none := by
  unfold heapsOf
  simp only []
  have e1 : ((splitAt_ [] t).map numeral).length = (heapsL t).length := by unfold heapsL; simp
  have e2 : (((splitAt_ [] t).map numeral).all fun x => x.any fun n => decide (n ≤ MOST)) = true ↔ ∀ x ∈ heapsL t, 0 ≤ x := by
    unfold heapsL
    rw [List.all_eq_true]
    constructor
    · intro h x hx
      obtain ⟨p, hp, rfl⟩ := List.mem_map.mp hx
      exact (pNum_ge p MOST).mpr (h _ (List.mem_map.mpr ⟨p, hp, rfl⟩))
    · intro h x hx
      obtain ⟨p, hp, rfl⟩ := List.mem_map.mp hx
      exact (pNum_ge p MOST).mp (h _ (List.mem_map.mpr ⟨p, hp, rfl⟩))
  by_cases hc : (heapsL t).length ≤ 8 ∧ ∀ x ∈ heapsL t, 0 ≤ x
  · rw [if_pos hc, if_neg]
    · congr 1
      have := hc.2
      unfold heapsL at this ⊢
      generalize splitAt_ [] t = ps at this
      induction ps with
      | nil => rfl
      | cons p r ih =>
        have hp := this (pNum p MOST) (by simp)
        have hr := ih (fun x hx => this x (by rw [List.map_cons]; exact List.mem_cons_of_mem _ hx))
        have hq := (pNum_ge p MOST).mp hp
        cases hn : numeral p with
        | none => rw [hn] at hq; cases hq
        | some n =>
          rw [hn] at hq
          have hq : n ≤ MOST := by simpa using hq
          rw [List.map_cons, List.map_cons, List.map_cons, hn, pNum_some hn hq]
          simp only [List.filterMap_cons, id]
          rw [hr]
          simp
    · rintro (h | h)
      · rw [e1] at h; omega
      · have := e2.mpr hc.2
        rw [this] at h; cases h
  · rw [if_neg hc, if_pos]
    by_cases h8 : (heapsL t).length ≤ 8
    · right
      cases h : ((splitAt_ [] t).map numeral).all fun x => x.any fun n => decide (n ≤ MOST) with
      | false => rfl
      | true => exact absurd ⟨h8, e2.mp h⟩ hc
    · left; rw [e1]; omega
theorem split_sgs : ∀ (t acc : Text), splitAt_ (sgs acc) (sgs t) = (splitAt_ acc t).map sgs
  | [], acc => rfl
  | c :: r, acc => by
    show (if sg c = 32 then sgs acc :: splitAt_ [] (sgs r) else splitAt_ (sgs acc ++ [sg c]) (sgs r)) = (if c = 32 then acc :: splitAt_ [] r else splitAt_ (acc ++ [c]) r).map sgs
    have e : sg c = 32 ↔ c = 32 := by
      constructor
      · intro h
        unfold sg at h
        split at h
        · exact h
        · cases h
      · rintro rfl; rfl
    by_cases h : c = 32
    · rw [if_pos h, if_pos (e.mpr h), List.map_cons, ← split_sgs r []]; rfl
    · rw [if_neg h, if_neg (fun z => h (e.mp z)), ← split_sgs r (acc ++ [c])]
      unfold sgs
      rw [List.map_append]
      rfl
theorem heapsL_sgs (t : Text) : ((splitAt_ [] (sgs t)).map fun p => pNum p MOST) = heapsL t := by
  have := split_sgs t []
  rw [show sgs [] = [] from rfl] at this
  rw [this, List.map_map]
  unfold heapsL
  congr 1
  funext p
  exact pNum_sgs p MOST
end M

set_option Elab.async false
set_option linter.all false
set_option maxRecDepth 100000
set_option maxHeartbeats 2000000
namespace GR
open PySem PySem.Spec PyProof.Rows L2 M
abbrev Mv := Vbdcam.Move
abbrev Tk := Vbdcam.Tok
abbrev Tt := Vbdcam.Text
def top (i : Nat) : Stmt := PySem.Challenge.pw_gamerecord_s06_walk.main.body.getD i (.Pass ⟨0, 0, 0, 0⟩)
structure Adr where
  RESULTS : Addr
  MOVE_ENDS : Addr
  WORD_STOPS : Addr
  cPosition : Addr
  iPosition : Addr
  cRecord : Addr
  iRecord : Addr
  cTrail : Addr
  iTrail : Addr
  cToken : Addr
  iToken : Addr
  cNoRecord : Addr
  iNoRecord : Addr
  cOpenLine : Addr
  iOpenLine : Addr
  cReader : Addr
  iReader : Addr
structure Tx (P : Program) (w : World) (K : PySem.W.Frag) (mg : Str → Option Value) (A : Adr) : Prop where
  k_MOST : Con1 mg "MOST" (.int 1000000000)
  k_MOST_HEAPS : Con1 mg "MOST_HEAPS" (.int 8)
  k_HEAP_LETTERS : Con1 mg "HEAP_LETTERS" (.str "abcdefgh")
  k_TAKE : Con1 mg "TAKE" (.str "take")
  k_SPLIT : Con1 mg "SPLIT" (.str "split")
  k_PASS : Con1 mg "PASS" (.str "pass")
  k_MOVE : Con1 mg "MOVE" (.str "move")
  k_NOTE : Con1 mg "NOTE" (.str "note")
  k_OPEN_OTHER : Con1 mg "OPEN_OTHER" (.str "(")
  dk_CLOSED_BY : DicM P w K mg "CLOSED_BY" [(Sum.inr ("(" : Str), .str ")"), (Sum.inr ("<" : Str), .str ">")]
  k_MOST_HEADS : Con1 mg "MOST_HEADS" (.int 20)
  k_MOST_MARKS : Con1 mg "MOST_MARKS" (.int 4)
  k_MOST_DEPTH : Con1 mg "MOST_DEPTH" (.int 40)
  k_MOST_BYTES : Con1 mg "MOST_BYTES" (.int 8192)
  k_MOST_NOTE_BYTES : Con1 mg "MOST_NOTE_BYTES" (.int 200)
  k_MOST_NAME_LETTERS : Con1 mg "MOST_NAME_LETTERS" (.int 20)
  k_MOST_VALUE_BYTES : Con1 mg "MOST_VALUE_BYTES" (.int 100)
  k_BLANK : Con1 mg "BLANK" (.int 32)
  k_ROW_END : Con1 mg "ROW_END" (.int 10)
  k_QUOTE : Con1 mg "QUOTE" (.int 34)
  k_HEAD_BEGIN : Con1 mg "HEAD_BEGIN" (.int 91)
  k_HEAD_END : Con1 mg "HEAD_END" (.int 93)
  k_NOTE_BEGIN : Con1 mg "NOTE_BEGIN" (.int 123)
  k_NOTE_END : Con1 mg "NOTE_END" (.int 125)
  dk_SIGNS : DicM P w K mg "SIGNS" [(Sum.inl 32, .str " "), (Sum.inl 33, .str "!"), (Sum.inl 36, .str "$"), (Sum.inl 42, .str "*"), (Sum.inl 45, .str "-"), (Sum.inl 46, .str "."), (Sum.inl 47, .str "/"), (Sum.inl 48, .str "0"), (Sum.inl 49, .str "1"), (Sum.inl 50, .str "2"), (Sum.inl 51, .str "3"), (Sum.inl 52, .str "4"), (Sum.inl 53, .str "5"), (Sum.inl 54, .str "6"), (Sum.inl 55, .str "7"), (Sum.inl 56, .str "8"), (Sum.inl 57, .str "9"), (Sum.inl 63, .str "?"), (Sum.inl 97, .str "a"), (Sum.inl 98, .str "b"), (Sum.inl 99, .str "c"), (Sum.inl 100, .str "d"), (Sum.inl 101, .str "e"), (Sum.inl 102, .str "f"), (Sum.inl 103, .str "g"), (Sum.inl 104, .str "h")]
  k_OTHER_SIGN : Con1 mg "OTHER_SIGN" (.str "#")
  k_HEAPS_NAME : Con1 mg "HEAPS_NAME" (.str "Heaps")
  k_RESULT : Con1 mg "RESULT" (.str "result")
  k_MARK : Con1 mg "MARK" (.str "mark")
  k_NUMBER : Con1 mg "NUMBER" (.str "number")
  k_WRONG : Con1 mg "WRONG" (.str "wrong")
  k_MOST_MARK : Con1 mg "MOST_MARK" (.int 255)
  k_PASS_SIGNS : Con1 mg "PASS_SIGNS" (.str "--")
  k_RESULTS : Con1 mg "RESULTS" (.ref A.RESULTS)
  q_RESULTS : ∀ H, SqT K H A.RESULTS [.str "*", .str "1-0", .str "0-1", .str "1/2"]
  ty_RESULTS : ∃ o, K.lookup A.RESULTS = some o ∧ o.cls = .type "tuple" ∧ o.dict = none
  k_MOVE_ENDS : Con1 mg "MOVE_ENDS" (.ref A.MOVE_ENDS)
  q_MOVE_ENDS : ∀ H, SqT K H A.MOVE_ENDS [.str "!", .str "?", .str "!!", .str "??", .str "!?", .str "?!"]
  ty_MOVE_ENDS : ∃ o, K.lookup A.MOVE_ENDS = some o ∧ o.cls = .type "tuple" ∧ o.dict = none
  k_HEAD : Con1 mg "HEAD" (.str "head")
  k_TEXT_END : Con1 mg "TEXT_END" (.str "end")
  dk_LINE_BRACKETS : DicM P w K mg "LINE_BRACKETS" [(Sum.inl 40, .str "("), (Sum.inl 41, .str ")"), (Sum.inl 60, .str "<"), (Sum.inl 62, .str ">")]
  k_WORD_STOPS : Con1 mg "WORD_STOPS" (.ref A.WORD_STOPS)
  q_WORD_STOPS : ∀ H, SqT K H A.WORD_STOPS [.int 32, .int 10, .int 40, .int 41, .int 60, .int 62, .int 91, .int 93, .int 123, .int 125]
  ty_WORD_STOPS : ∃ o, K.lookup A.WORD_STOPS = some o ∧ o.cls = .type "tuple" ∧ o.dict = none
  k_DONE : Con1 mg "DONE" (.int 0)
  k_WRONG_FORM : Con1 mg "WRONG_FORM" (.int (-1))
  k_NO_TEXT : Con1 mg "NO_TEXT" (.int (-2))
  k_NOT_NOW : Con1 mg "NOT_NOW" (.int (-3))
  k_AGAINST_RULES : Con1 mg "AGAINST_RULES" (.int (-6))
  b_len : mg "len" = none
  b_max : mg "max" = none
  b_min : mg "min" = none
  b_all : mg "all" = none
  b_ord : mg "ord" = none
  b_list : mg "list" = none
  b_tuple : mg "tuple" = none
  b_str : mg "str" = none
  b_int : mg "int" = none
  cl_Position : Cls K A.cPosition
  mk_Position : Mk K A.cPosition A.iPosition
  mg_Position : mg "Position" = some (.ref A.cPosition)
  na_Position_heaps : NoAttr K A.cPosition "heaps"
  na_Position_passed : NoAttr K A.cPosition "passed"
  na_Position_ply : NoAttr K A.cPosition "ply"
  f_Position : ∃ fd, Fun K "__init__" "Position.__init__" (inClass (top 7) 0) A.iPosition fd ∧ Binds K fd ["self", "heaps", "passed", "ply"] []
  cl_Record : Cls K A.cRecord
  mk_Record : Mk K A.cRecord A.iRecord
  mg_Record : mg "Record" = some (.ref A.cRecord)
  na_Record_heads : NoAttr K A.cRecord "heads"
  na_Record_line : NoAttr K A.cRecord "line"
  na_Record_result : NoAttr K A.cRecord "result"
  f_Record : ∃ fd, Fun K "__init__" "Record.__init__" (inClass (top 25) 0) A.iRecord fd ∧ Binds K fd ["self", "heads", "line", "result"] []
  cl_Trail : Cls K A.cTrail
  mk_Trail : Mk K A.cTrail A.iTrail
  mg_Trail : mg "Trail" = some (.ref A.cTrail)
  na_Trail_positions : NoAttr K A.cTrail "positions"
  na_Trail_end : NoAttr K A.cTrail "end"
  f_Trail : ∃ fd, Fun K "__init__" "Trail.__init__" (inClass (top 54) 0) A.iTrail fd ∧ Binds K fd ["self", "first"] []
  cl_Token : Cls K A.cToken
  mk_Token : Mk K A.cToken A.iToken
  mg_Token : mg "Token" = some (.ref A.cToken)
  na_Token_kind : NoAttr K A.cToken "kind"
  na_Token_told : NoAttr K A.cToken "told"
  na_Token_begin : NoAttr K A.cToken "begin"
  na_Token_end : NoAttr K A.cToken "end"
  f_Token : ∃ fd, Fun K "__init__" "Token.__init__" (inClass (top 79) 0) A.iToken fd ∧ Binds K fd ["self", "kind", "told", "begin", "end"] []
  cl_OpenLine : Cls K A.cOpenLine
  mk_OpenLine : Mk K A.cOpenLine A.iOpenLine
  mg_OpenLine : mg "OpenLine" = some (.ref A.cOpenLine)
  na_OpenLine_ply : NoAttr K A.cOpenLine "ply"
  na_OpenLine_moves : NoAttr K A.cOpenLine "moves"
  na_OpenLine_closing : NoAttr K A.cOpenLine "closing"
  f_OpenLine : ∃ fd, Fun K "__init__" "OpenLine.__init__" (inClass (top 90) 0) A.iOpenLine fd ∧ Binds K fd ["self", "ply", "closing"] []
  cl_Reader : Cls K A.cReader
  mk_Reader : Mk K A.cReader A.iReader
  mg_Reader : mg "Reader" = some (.ref A.cReader)
  na_Reader_tokens : NoAttr K A.cReader "tokens"
  na_Reader_spot : NoAttr K A.cReader "spot"
  na_Reader_heads : NoAttr K A.cReader "heads"
  na_Reader_line : NoAttr K A.cReader "line"
  na_Reader_open_lines : NoAttr K A.cReader "open_lines"
  f_Reader : ∃ fd, Fun K "__init__" "Reader.__init__" (inClass (top 91) 0) A.iReader fd ∧ Binds K fd ["self", "tokens"] []
  xc : XC K A.cNoRecord A.iNoRecord
  mg_NoRecord : mg "NoRecord" = some (.ref A.cNoRecord)
  b_ValueError : mg "ValueError" = none
  f_NoRecord : ∃ fd, Fun K "__init__" "NoRecord.__init__" (inClass (top 89) 0) A.iNoRecord fd ∧ Binds K fd ["self", "place"] []
  ne_Reader_Token : A.cReader ≠ A.cToken
  ne_OpenLine_Token : A.cOpenLine ≠ A.cToken
  ne_OpenLine_Reader : A.cOpenLine ≠ A.cReader
  ne_Record_Token : A.cRecord ≠ A.cToken
  ne_Record_OpenLine : A.cRecord ≠ A.cOpenLine
  ne_Record_Reader : A.cRecord ≠ A.cReader
  s_first_position : Src K mg "first_position" (top 8) ["heaps"]
  s_is_over : Src K mg "is_over" (top 9) ["position"]
  s_side_to_move : Src K mg "side_to_move" (top 10) ["position"]
  s_is_allowed : Src K mg "is_allowed" (top 11) ["position", "move"]
  s_can_take : Src K mg "can_take" (top 12) ["heaps", "n", "source"]
  s_can_split : Src K mg "can_split" (top 13) ["heaps", "n", "source", "target"]
  s_position_after : Src K mg "position_after" (top 14) ["position", "move"]
  s_game_row : Src K mg "game_row" (top 15) ["position"]
  s_can_take_mark : Src K mg "can_take_mark" (top 26) ["line"]
  s_marked : Src K mg "marked" (top 27) ["move_item", "mark"]
  s_signs_of : Src K mg "signs_of" (top 41) ["row"]
  s_bytes_of : Src K mg "bytes_of" (top 42) ["signs"]
  s_numeral : Src K mg "numeral" (top 43) ["signs", "most"]
  s_is_letter : Src K mg "is_letter" (top 44) ["byte"]
  s_is_shown : Src K mg "is_shown" (top 45) ["byte"]
  s_is_note : Src K mg "is_note" (top 46) ["row"]
  s_is_head_name : Src K mg "is_head_name" (top 47) ["row"]
  s_is_head_value : Src K mg "is_head_value" (top 48) ["row"]
  s_is_heaps_name : Src K mg "is_heaps_name" (top 51) ["name"]
  s_heaps_of : Src K mg "heaps_of" (top 52) ["record"]
  s_read_heaps : Src K mg "read_heaps" (top 53) ["value"]
  s_follow : Src K mg "follow" (top 55) ["heaps", "line"]
  s_trail_of : Src K mg "trail_of" (top 56) ["record"]
  s_positions_of : Src K mg "positions_of" (top 57) ["record"]
  s_read_word : Src K mg "read_word" (top 67) ["signs"]
  s_read_mark : Src K mg "read_mark" (top 68) ["signs"]
  s_read_number : Src K mg "read_number" (top 69) ["signs"]
  s_read_marked_move : Src K mg "read_marked_move" (top 70) ["signs"]
  s_read_move : Src K mg "read_move" (top 71) ["signs"]
  s_heap_of : Src K mg "heap_of" (top 72) ["letter"]
  s_number_at : Src K mg "number_at" (top 73) ["ply"]
  s_tokens_of : Src K mg "tokens_of" (top 80) ["text"]
  s_behind_blanks : Src K mg "behind_blanks" (top 81) ["text", "spot"]
  s_token_at : Src K mg "token_at" (top 82) ["text", "spot"]
  s_wrong_at : Src K mg "wrong_at" (top 83) ["spot"]
  s_note_at : Src K mg "note_at" (top 84) ["text", "spot"]
  s_head_at : Src K mg "head_at" (top 85) ["text", "spot"]
  s_word_at : Src K mg "word_at" (top 86) ["text", "spot"]
  s_find_byte : Src K mg "find_byte" (top 87) ["text", "byte", "spot"]
  s_read_record : Src K mg "read_record" (top 92) ["text"]
  s_read_if_record : Src K mg "read_if_record" (top 93) ["text"]
  s_token_now : Src K mg "token_now" (top 94) ["reader"]
  s_need : Src K mg "need" (top 95) ["holds", "token"]
  s_read_head : Src K mg "read_head" (top 96) ["reader", "token"]
  s_read_item_token : Src K mg "read_item_token" (top 97) ["reader", "token"]
  s_take_move : Src K mg "take_move" (top 98) ["reader", "token"]
  s_take_mark : Src K mg "take_mark" (top 99) ["reader", "token"]
  s_check_number : Src K mg "check_number" (top 100) ["reader", "token"]
  s_begin_line : Src K mg "begin_line" (top 101) ["reader", "token"]
  s_end_line : Src K mg "end_line" (top 102) ["reader", "token"]
  s_walk : Src K mg "walk" (top 109) ["k", "text"]
section
variable {X : Cx} {K : PySem.W.Frag}
theorem ix_listK (h : X.K = K) : IxR X (rIxL K) := h ▸ ix_list
theorem ix_tupK (h : X.K = K) : IxR X (rIxT K) := h ▸ ix_tup
theorem op_in_seqK (h : X.K = K) : OpR X (compareOp .In) (rIn K false) := h ▸ op_in_seq
theorem op_notIn_seqK (h : X.K = K) : OpR X (compareOp .NotIn) (rIn K true) := h ▸ op_notIn_seq
def rCatTT (K : PySem.W.Frag) : R2 := fun x y H Q => rCatT K x y H Q ∨ ∃ a b ys, x = .ref a ∧ y = .ref b ∧ SqT K H a [] ∧ SqT K H b ys ∧ Q (.ref b) H
theorem op_catTT (h : X.K = K) : OpR X (binaryOp .Add) (rCatTT K) := by
  subst h
  intro pins s σ H x y v u Q I rx ry h
  rcases h with h | h
  · exact op_catT pins s σ H x y v u Q I rx ry h
  · exact op_catT0 pins s σ H x y v u Q I rx ry h
theorem call_len_seqK (h : X.K = K) : CallR X (.builtin "len") (fun xs H Q => ∃ p ys, xs = [.ref p] ∧ (SqL K H p ys ∨ SqT K H p ys) ∧ Q (.int ys.length) H) := h ▸ call_len_seq
end
def S (l : List Nat) : Str := ⟨l.toArray⟩
abbrev nv (n : Nat) : V := .int n
def iv (l : List Nat) : List V := l.map nv
def mvT : Mv → List V
  | .take h n => [.str "take", nv n, nv h]
  | .split h n g => [.str "split", nv n, nv h, nv g]
  | .pass => [.str "pass"]
def MvAt (K : PySem.W.Frag) (H : Hp) (v : V) (m : Mv) : Prop := ∃ a, v = .ref a ∧ SqT K H a (mvT m)
def TuAt (K : PySem.W.Frag) (H : Hp) (v : V) (l : List Nat) : Prop := ∃ a, v = .ref a ∧ SqT K H a (iv l)
def opS (b : Bool) : Str := if b = true then "<" else "("
def clS (b : Bool) : Str := if b = true then ">" else ")"
def ItAt (K : PySem.W.Frag) (H : Hp) (v : V) (i : FI) : Prop := ∃ a, v = .ref a ∧ match i with
  | .move m ms => ∃ x y, SqT K H a [.str "move", x, y] ∧ MvAt K H x m ∧ TuAt K H y ms
  | .note t => ∃ y, SqT K H a [.str "note", y] ∧ TuAt K H y t
  | .opn b => SqT K H a [.str (opS b)]
  | .cls b => SqT K H a [.str (clS b)]
def HdAt (K : PySem.W.Frag) (H : Hp) (v : V) (h : Tt × Tt) : Prop := ∃ a x y, v = .ref a ∧ SqT K H a [x, y] ∧ TuAt K H x h.1 ∧ TuAt K H y h.2
def OMv (K : PySem.W.Frag) (H : Hp) (v : V) (o : Option Mv) : Prop := match o with
  | none => v = .non
  | some m => MvAt K H v m
def kind : Tk → Str
  | .open_ b => opS b
  | .close b => clS b
  | .note _ => "note"
  | .mark _ => "mark"
  | .num _ _ => "number"
  | .result _ => "result"
  | .move _ _ => "move"
  | .head _ _ => "head"
  | .bad => "wrong"
def Told (K : PySem.W.Frag) (H : Hp) (v : V) : Tk → Prop
  | .open_ _ => v = .non
  | .close _ => v = .non
  | .note t => TuAt K H v t
  | .mark n => v = nv n
  | .num n d => ∃ a, v = .ref a ∧ SqT K H a [nv n, nv d]
  | .result r => v = nv r
  | .move m o => ∃ a x y, v = .ref a ∧ SqT K H a [x, y] ∧ MvAt K H x m ∧ TuAt K H y o.toList
  | .head n w => HdAt K H v (n, w)
  | .bad => v = .non
def WdAt (K : PySem.W.Frag) (H : Hp) (v : V) (x : Tk) : Prop := ∃ a y, v = .ref a ∧ SqT K H a [.str (kind x), y] ∧ Told K H y x
def okind : Option Tk → Str
  | some x => kind x
  | none => "end"
def OTold (K : PySem.W.Frag) (H : Hp) (v : V) : Option Tk → Prop
  | some x => Told K H v x
  | none => v = .non
def TkAt (K : PySem.W.Frag) (C : Addr) (H : Hp) (a : Addr) (x : Option Tk) (b e : Nat) : Prop := ∃ dx y, H a = some (.ins C dx [("kind", .str (okind x)), ("told", y), ("begin", nv b), ("end", nv e)]) ∧ OTold K H y x
section
variable {K : PySem.W.Frag} {H H' : Hp} {v : V}
theorem MvAt.keep (s : Same H H') {m : Mv} (x : MvAt K H v m) : MvAt K H' v m := let ⟨a, e, q⟩ := x; ⟨a, e, s.seqT q⟩
theorem TuAt.keep (s : Same H H') {l : List Nat} (x : TuAt K H v l) : TuAt K H' v l := let ⟨a, e, q⟩ := x; ⟨a, e, s.seqT q⟩
theorem ItAt.keep (s : Same H H') {i : FI} (x : ItAt K H v i) : ItAt K H' v i := by
  obtain ⟨a, e, q⟩ := x
  refine ⟨a, e, ?_⟩
  cases i with
  | move m ms =>
    obtain ⟨x, y, q1, q2, q3⟩ := q
    exact ⟨x, y, s.seqT q1, q2.keep s, q3.keep s⟩
  | note t =>
    obtain ⟨y, q1, q2⟩ := q
    exact ⟨y, s.seqT q1, q2.keep s⟩
  | opn b => exact s.seqT q
  | cls b => exact s.seqT q
theorem HdAt.keep (s : Same H H') {h : Tt × Tt} (x : HdAt K H v h) : HdAt K H' v h := let ⟨a, x, y, e, q1, q2, q3⟩ := x; ⟨a, x, y, e, s.seqT q1, q2.keep s, q3.keep s⟩
theorem Told.keep (s : Same H H') {x : Tk} (q : Told K H v x) : Told K H' v x := by
  cases x with
  | note t => exact TuAt.keep s q
  | num n d => obtain ⟨a, e, q⟩ := q; exact ⟨a, e, s.seqT q⟩
  | move m o => obtain ⟨a, x, y, e, q1, q2, q3⟩ := q; exact ⟨a, x, y, e, s.seqT q1, q2.keep s, q3.keep s⟩
  | head n w => exact HdAt.keep s q
  | _ => exact q
theorem OTold.keep (s : Same H H') {x : Option Tk} (q : OTold K H v x) : OTold K H' v x := by
  cases x with
  | none => exact q
  | some x => exact Told.keep s q
theorem TkAt.keep (s : Same H H') {C a : Addr} {x : Option Tk} {b e : Nat} (q : TkAt K C H a x b e) : TkAt K C H' a x b e := let ⟨dx, y, h, o⟩ := q; ⟨dx, y, s _ _ h, o.keep s⟩
end
theorem lc_map {K : PySem.W.Frag} {a : Addr} {xs : List V} {g : TG} {tt : TT} {te : TE} {vs : List Nat} {σ : L2.St} {H : Hp} {D : Addr} {Qd : Hp → Prop} (f : V → V) (hq : SqL K H a xs ∨ SqT K H a xs) (hn : H D = none) (hz : xs.length < sizeLine)
    (hs : ∀ (x : V) (H' : Hp) (acc : List V) (Nx : Hp → Prop), x ∈ xs → Same H H' → H' D = some (.lst acc) → acc.length < sizeLine → Nx (upd H' D (.lst (acc ++ [f x]))) → g x (wipe σ vs) H' fun σ2 H2 => wipe σ2 vs = wipe σ vs ∧ tt σ2 H2 fun b H3 =>
      if b = true then te σ2 H3 fun y H4 => ∃ acc, H4 D = some (.lst acc) ∧ acc.length < sizeLine ∧ Nx (upd H4 D (.lst (acc ++ [y]))) else Nx H3) (hd : Qd (upd H D (.lst (xs.map f)))) :
    ((SqL K H a xs) ∧ ∃ W : Nat → Nat → Hp → Prop, (∃ m, W 0 m (upd H D (.lst []))) ∧ ∀ i m H, W i m H →
      ((Itl K a).stop i H ∧ Qd H) ∨ ((Itl K a).go i H ∧ ∃ Nx : Hp → Prop, (∀ H', Nx H' → ∃ m', m' < m ∧ W (i + 1) m' H') ∧ ∀ x H', (Itl K a).yld i H x H' → g x (wipe σ vs) H' fun σ2 H2 => wipe σ2 vs = wipe σ vs ∧ tt σ2 H2 fun b H3 =>
        if b = true then te σ2 H3 fun y H4 => ∃ acc, H4 D = some (.lst acc) ∧ acc.length < sizeLine ∧ Nx (upd H4 D (.lst (acc ++ [y]))) else Nx H3)) ∨
    ((SqT K H a xs) ∧ ∃ W : Nat → Nat → Hp → Prop, (∃ m, W 0 m (upd H D (.lst []))) ∧ ∀ i m H, W i m H →
      ((Itt K a).stop i H ∧ Qd H) ∨ ((Itt K a).go i H ∧ ∃ Nx : Hp → Prop, (∀ H', Nx H' → ∃ m', m' < m ∧ W (i + 1) m' H') ∧ ∀ x H', (Itt K a).yld i H x H' → g x (wipe σ vs) H' fun σ2 H2 => wipe σ2 vs = wipe σ vs ∧ tt σ2 H2 fun b H3 =>
        if b = true then te σ2 H3 fun y H4 => ∃ acc, H4 D = some (.lst acc) ∧ acc.length < sizeLine ∧ Nx (upd H4 D (.lst (acc ++ [y]))) else Nx H3)) := by
  have sm : ∀ o, Same H (upd H D o) := fun o => Same.updN hn
  have stp : ∀ (i : Nat) (x : V) (H' : Hp), xs[i]? = some x → H' = upd H D (.lst ((xs.take i).map f)) → g x (wipe σ vs) H' fun σ2 H2 => wipe σ2 vs = wipe σ vs ∧ tt σ2 H2 fun b H3 =>
      if b = true then te σ2 H3 fun y H4 => ∃ acc, H4 D = some (.lst acc) ∧ acc.length < sizeLine ∧ (upd H4 D (.lst (acc ++ [y]))) = upd H D (.lst ((xs.take (i + 1)).map f)) else H3 = upd H D (.lst ((xs.take (i + 1)).map f)) := by
    intro i x H' hx e
    subst e
    refine hs x _ ((xs.take i).map f) (fun H'' => H'' = upd H D (.lst ((xs.take (i + 1)).map f))) (List.mem_of_getElem? hx) (sm _) upd_same ?_ ?_
    · rw [List.length_map, List.length_take]; omega
    · rw [upd_upd, List.take_add_one, hx]; simp
  rcases hq with hq | hq
  · refine .inl ⟨hq, lc_list (K := K) (a := a) (xs := xs) (fun i H' => H' = upd H D (.lst ((xs.take i).map f))) (by simp) (fun i H' _ e => by rw [e]; exact (sm _).seq hq) stp fun H' e => ?_⟩
    rw [List.take_length] at e; rw [e]; exact hd
  · refine .inr ⟨hq, lc_tup (K := K) (a := a) (xs := xs) (fun i H' => H' = upd H D (.lst ((xs.take i).map f))) (by simp) (fun i H' _ e => by rw [e]; exact (sm _).seqT hq) stp fun H' e => ?_⟩
    rw [List.take_length] at e; rw [e]; exact hd
theorem S_len (l : List Nat) : (S l).length = l.length := by simp [S, Str.length]
theorem S_cps (l : List Nat) : (S l).cps.toList = l := by simp [S]
theorem S_inj {a b : List Nat} : S a = S b ↔ a = b := by
  unfold S
  constructor
  · intro h
    have := congrArg (fun s : Str => s.cps.toList) h
    simpa using this
  · intro h; rw [h]
theorem uni_digit : ∀ c, c < 128 → Unicode.isDigit c = Vbdcam.digit c := by decide +kernel
theorem isdigit_S {l : List Nat} (h : ∀ c ∈ l, c < 128) : Txt.isdigit (S l) = (decide (l ≠ []) && l.all Vbdcam.digit) := by
  unfold Txt.isdigit
  rw [S_len, ← Array.all_toList, S_cps]
  congr 1
  · cases l <;> simp
  · induction l with
    | nil => rfl
    | cons c r ih =>
      rw [List.all_cons, List.all_cons, uni_digit c (h c (List.mem_cons_self ..)), ih fun x m => h x (List.mem_cons_of_mem _ m)]
theorem starts1 (l : List Nat) (k : Nat) : Txt.startswith (S l) (S [k]) = decide (l.head? = some k) := by
  unfold Txt.startswith Builtin.Str.subAt
  rw [S_len, S_len]
  cases l with
  | nil => simp
  | cons c r =>
    have : (S (c :: r)).cps.extract 0 (0 + (S [k]).length) = #[c] := by
      apply Array.ext'
      simp [S, Str.length]
    simp only [S_len, List.length_cons, List.length_nil] at this ⊢
    rw [this, Bool.eq_iff_iff]
    simp [S]
theorem ends1 (l : List Nat) (k : Nat) : Txt.endswith (S l) (S [k]) = decide (l.getLast? = some k) := by
  unfold Txt.endswith Builtin.Str.subAt
  rw [S_len, S_len]
  rcases snoc_cases l with h | ⟨r, e, h⟩
  · subst h; simp
  · subst h
    have : (S (r ++ [e])).cps.extract ((r ++ [e]).length - 1) ((r ++ [e]).length - 1 + 1) = #[e] := by
      apply Array.ext'
      simp [S]
    simp only [List.length_cons, List.length_nil]
    rw [this, Bool.eq_iff_iff]
    simp [S]
theorem rstrip_S (l : List Nat) (k : List Nat) (p : Nat → Bool) (hp : ∀ c, p c = k.toArray.contains c) : Txt.rstripChars (S l) (S k) = S (M.rstrip p l) := by
  have hpk : (S k).cps.contains = p := by funext c; rw [hp]; rfl
  unfold Txt.rstripChars Txt.stripBy
  rw [hpk]
  have key : stripped p false true (S l) = S (M.rstrip p l) := by
    unfold stripped stripLo stripHi Builtin.Str.strSub
    simp only [Bool.false_eq_true, if_false, if_true, List.drop_zero, S_len, S_cps]
    unfold S
    congr 1
    apply Array.ext'
    simp only [Array.toList_extract, List.extract_eq_drop_take, List.drop_zero, Nat.sub_zero]
    unfold M.rstrip
    have h1 := List.takeWhile_append_dropWhile (p := p) (l := l.reverse)
    have h2 : l = (l.reverse.dropWhile p).reverse ++ (l.reverse.takeWhile p).reverse := by
      rw [← List.reverse_append, h1, List.reverse_reverse]
    have h3 : l.length - (l.reverse.takeWhile p).length = (l.reverse.dropWhile p).reverse.length := by
      have := congrArg List.length h2
      rw [List.length_append, List.length_reverse, List.length_reverse] at this
      rw [List.length_reverse]; omega
    rw [h3]
    exact (congrArg (List.take _) h2).trans (List.take_left ..)
  split
  · rename_i hs
    unfold stripSame at hs
    rw [Bool.and_eq_true, beq_iff_eq, beq_iff_eq] at hs
    obtain ⟨s1, s2⟩ := hs
    rw [← key]
    unfold stripped
    rw [s2, s1]
    unfold Builtin.Str.strSub S
    congr 1
    simp [Str.length]
  · exact key
theorem find_S : ∀ c, c < 128 → Txt.find "abcdefgh" (S [c]) = pHeap [c] := by decide +kernel
theorem cut_S (l : List Nat) (lo hi : Option Int) : cutS (S l) lo hi = S ((l.drop (HT.sIx l.length 0 lo)).take (HT.sIx l.length l.length hi - HT.sIx l.length 0 lo)) := by
  unfold cutS
  rw [S_len, S_cps]
  rfl
theorem int_S {l : List Nat} (h : l.all Vbdcam.digit = true) (h1 : l ≠ []) (h2 : l.length ≤ 640) : intText? (S l) = some ((Vbdcam.number l : Nat) : Int) := by
  have := PySem.intText_digits (x := S l) (by rw [S_cps]; intro c hc; simpa [Vbdcam.digit] using List.all_eq_true.mp h c hc) (by rw [S_cps]; exact h1) (by rw [S_len]; omega)
  rw [this, S_cps]
  unfold NumText.digitsVal Vbdcam.number
  congr 3
  funext a c
  omega
theorem number_app (a : List Nat) (c : Nat) : Vbdcam.number (a ++ [c]) = 10 * Vbdcam.number a + (c - 48) := by
  unfold Vbdcam.number
  rw [List.foldl_append]; rfl
theorem number_pos {c : Nat} {r : List Nat} (h : (c :: r).all Vbdcam.digit = true) (h0 : c ≠ 48) : 10 ^ r.length ≤ Vbdcam.number (c :: r) := by
  have key : ∀ n (r : List Nat), r.length = n → (c :: r).all Vbdcam.digit = true → 10 ^ r.length ≤ Vbdcam.number (c :: r) := by
    intro n
    induction n with
    | zero =>
      intro r hr ha
      have : r = [] := List.eq_nil_of_length_eq_zero hr
      subst this
      have hc : Vbdcam.digit c = true := by simpa using ha
      simp [Vbdcam.digit] at hc
      show 1 ≤ 10 * 0 + (c - 48)
      omega
    | succ n ih =>
      intro r hr ha
      rcases snoc_cases r with e | ⟨r', e, he⟩
      · subst e; cases hr
      · subst he
        have hr' : r'.length = n := by simpa using hr
        have ha' : (c :: r').all Vbdcam.digit = true := by
          rw [List.all_eq_true] at ha ⊢
          intro x hx
          refine ha x ?_
          rcases List.mem_cons.mp hx with q | q
          · rw [q]; simp
          · simp [q]
        have i1 := ih r' hr' ha'
        rw [show c :: (r' ++ [e]) = (c :: r') ++ [e] from rfl, number_app, List.length_append]
        show 10 ^ (r'.length + 1) ≤ _
        rw [Nat.pow_succ]
        omega
  exact key _ r rfl h
theorem pNum_code {l : List Nat} {m k : Nat} (h1k : 1 ≤ k) (hm : m < 10 ^ k) :
    pNum l m = (if (!(decide (l ≠ []) && l.all Vbdcam.digit)) = true ∨ k < l.length then -1 else if l.head? = some 48 ∧ 1 < l.length then -1 else if Vbdcam.number l ≤ m then ((Vbdcam.number l : Nat) : Int) else -1) := by
  unfold pNum Vbdcam.numeral
  by_cases h0 : l = []
  · subst h0; simp
  by_cases hd : l.all Vbdcam.digit = true
  · by_cases hz : 1 < l.length ∧ l.head? = some 48
    · simp [h0, hd, hz.1, hz.2]
    · have e1 : ¬ (l = [] ∨ l.all Vbdcam.digit = false ∨ 1 < l.length ∧ l.head? = some 48) := by simp [h0, hd]; simpa using hz
      rw [if_neg e1]
      simp only [h0, hd, ne_eq, not_false_eq_true, decide_true, Bool.and_true, Bool.not_true, Bool.false_eq_true, false_or]
      have e2 : ¬ (l.head? = some 48 ∧ 1 < l.length) := fun q => hz ⟨q.2, q.1⟩
      rw [if_neg e2]
      by_cases hk : k < l.length
      · rw [if_pos hk]
        match l, h0 with
        | c :: r, _ =>
          have hr : k ≤ r.length := by simp at hk; omega
          by_cases hr0 : r = []
          · subst hr0
            simp at hr; omega
          · have hc : c ≠ 48 := fun q => hz ⟨by cases r with | nil => exact absurd rfl hr0 | cons _ _ => simp, by rw [q]; rfl⟩
            have := number_pos hd hc
            have h10 : 10 ^ k ≤ 10 ^ r.length := Nat.pow_le_pow_right (by decide) hr
            rw [if_neg (by omega)]
      · rw [if_neg hk]
  · rw [Bool.not_eq_true] at hd
    rw [if_pos (Or.inr (Or.inl hd))]
    simp [hd]
local macro_rules
  | `(tactic| tm_at "rd") => `(tactic| simp only [tSeq, tIfS, tOr, tNot, tB, tVar, tCB, tCons, tNil, tOp, tUn, tTest, tAnd, tRet, tAsg, gName, tIf, tC, tNext, tM0, tM1, L2.start, rI0, rI, rU, rIxS, rIxL, rIxT, rEq, rNe, tAndV, tOrV, tNotV, tChain, tTup, tLst, tCall, tDrop, tSl, tNoPart, tPart, rSlS, rSlL, rIn, tDGetK, tDInK, tDGet2K, tFld, sFld, sFldAug, rAdd, rSub, tAug, ipI, tBM, tBM0, tRetN, tYes, rAll, rAppend, rPop, rIndexT, rCatT, rEqD, rNeD, tVI, sXset, tFs, tRaise, gTup, gCons, gNil, gSub, rSetL, List.getElem?_cons_zero, List.getElem?_cons_succ, List.map_cons, List.map_nil, List.length_cons, List.length_nil, Nat.sub_self, Nat.reduceAdd, Nat.reduceSub, List.replicate, List.append_nil, List.cons_append, List.nil_append, Option.some.injEq, V.str.injEq, V.int.injEq, V.bl.injEq, V.ref.injEq, exists_eq_left', exists_eq_left, exists_and_left, true_and, and_true, exists_eq', exists_eq, List.cons.injEq, List.set_cons_zero, List.set_cons_succ, if_true, Bool.not_true, Bool.not_false, Bool.false_eq_true, if_false, wipe, List.getElem?_nil, decide_eq_true_eq])
section
variable {P : Program} {w : World} {K : PySem.W.Frag} {mg : Str → Option Value} {base : Heap} {A : Adr}
def spNumeral : Sp := fun vs H Q _ => ∃ (l : List Nat) (m : Nat), vs = [.str (S l), nv m] ∧ l.length ≤ 10000 ∧ (∀ c ∈ l, c < 128) ∧ (m = 255 ∨ m = 1000000000) ∧ Q (.int (pNum l m)) H
def spLetter : Sp := fun vs H Q _ => ∃ c : Nat, vs = [nv c] ∧ Q (.bl (Vbdcam.alpha c)) H
def spShown : Sp := fun vs H Q _ => ∃ c : Nat, vs = [nv c] ∧ Q (.bl (Vbdcam.shown c)) H
def spRow (K : PySem.W.Frag) (p : List Nat → Bool) : Sp := fun vs H Q _ => ∃ (a : Addr) (l : List Nat), vs = [.ref a] ∧ (SqL K H a (iv l) ∨ SqT K H a (iv l)) ∧ l.length ≤ 10000 ∧ ∀ H', Same H H' → Q (.bl (p l)) H'
def spSigns (K : PySem.W.Frag) : Sp := fun vs H Q _ => ∃ (a : Addr) (l : List Nat), vs = [.ref a] ∧ (SqL K H a (iv l) ∨ SqT K H a (iv l)) ∧ l.length ≤ 10000 ∧ ∀ H', Same H H' → Q (.str (S (sgs l))) H'
def spHeapOf : Sp := fun vs H Q _ => ∃ l : List Nat, vs = [.str (S l)] ∧ l.length ≤ 1 ∧ (∀ c ∈ l, c < 128) ∧ Q (.int (pHeap l)) H
def spMove (K : PySem.W.Frag) : Sp := fun vs H Q _ => ∃ l : List Nat, vs = [.str (S l)] ∧ l.length ≤ 10000 ∧ (∀ c ∈ l, c < 128) ∧ ∀ H' v, Same H H' → OMv K H' v (pMove l) → Q v H'
def spWord (K : PySem.W.Frag) (p : List Nat → Tk) : Sp := fun vs H Q _ => ∃ l : List Nat, vs = [.str (S l)] ∧ l.length ≤ 10000 ∧ (∀ c ∈ l, c < 128) ∧ ∀ H' v, Same H H' → WdAt K H' v (p l) → Q v H'
def spNumAt : Sp := fun vs H Q _ => ∃ ply : Nat, vs = [nv ply] ∧ ∀ H' a, Same H H' → H' a = some (.tup [nv (ply / 2 + 1), nv (if ply % 2 = 0 then 1 else 3)]) → Q (.ref a) H'
def LnAt (K : PySem.W.Frag) (H : Hp) (xs : List V) (l : List FI) : Prop := Paired (ItAt K H) xs l
def spCanMark (K : PySem.W.Frag) : Sp := fun vs H Q _ => ∃ (a : Addr) (xs : List V) (l : List FI), vs = [.ref a] ∧ H a = some (.lst xs) ∧ LnAt K H xs l ∧ Q (.bl (canMark l)) H
def spMarked (K : PySem.W.Frag) : Sp := fun vs H Q _ => ∃ (v : V) (m : Mv) (ms : List Nat) (n : Nat), vs = [v, nv n] ∧ ItAt K H v (.move m ms) ∧ ms.length ≤ 4 ∧ ∀ H' u, Same H H' → ItAt K H' u (.move m (ms ++ [n])) → Q u H'
theorem sz {n : Nat} (h : n ≤ 1000000) : n ≤ sizeLine := Nat.le_trans h (by decide)
theorem szl {n : Nat} (h : n ≤ 1000000) : n < sizeLine := Nat.lt_of_le_of_lt h (by decide)
theorem tlc_var {K : PySem.W.Frag} {i : Nat} {g : TG} {tt : TT} {te : TE} {vs : List Nat} {σ : L2.St} {H : Hp} {Q : VK} {a : Addr} {xs : List V} (f : V → V) (hv : σ[i]? = some (some (.ref a))) (hq : SqL K H a xs ∨ SqT K H a xs) (hz : xs.length ≤ 1000000)
    (hs : ∀ (D : Addr) (x : V) (H' : Hp) (acc : List V) (Nx : Hp → Prop), x ∈ xs → Same H H' → H' D = some (.lst acc) → acc.length < sizeLine → Nx (upd H' D (.lst (acc ++ [f x]))) → g x (wipe σ vs) H' fun σ2 H2 => wipe σ2 vs = wipe σ vs ∧ tt σ2 H2 fun b H3 =>
      if b = true then te σ2 H3 fun y H4 => ∃ acc, H4 D = some (.lst acc) ∧ acc.length < sizeLine ∧ Nx (upd H4 D (.lst (acc ++ [y]))) else Nx H3)
    (hd : ∀ D, H D = none → Q (.ref D) (upd H D (.lst (xs.map f)))) : tLc (iSeq K (tVar i)) g tt te vs σ H Q := by
  rcases hq with hq | hq
  · refine .inl ⟨.ref a, hv, a, rfl, ⟨xs, hq⟩, fun D hn => ?_⟩
    rcases lc_map (D := D) (Qd := fun H => Q (.ref D) H) f (.inl hq) hn (szl hz) (hs D) (hd D hn) with ⟨_, h⟩ | ⟨hq', h⟩
    · exact h
    · have sm : ∀ o, Same H (upd H D o) := fun o => Same.updN hn
      exact lc_list (K := K) (a := a) (xs := xs) (fun i H' => H' = upd H D (.lst ((xs.take i).map f))) (by simp) (fun i H' _ e => by rw [e]; exact (sm _).seq hq) (fun i x H' hx e => by
        subst e
        refine hs D x _ ((xs.take i).map f) (fun H'' => H'' = upd H D (.lst ((xs.take (i + 1)).map f))) (List.mem_of_getElem? hx) (sm _) upd_same ?_ ?_
        · rw [List.length_map, List.length_take]; exact szl (by omega)
        · rw [upd_upd, List.take_add_one, hx]; simp) fun H' e => by rw [List.take_length] at e; rw [e]; exact hd D hn
  · refine .inr ⟨.ref a, hv, a, rfl, ⟨xs, hq⟩, fun D hn => ?_⟩
    have sm : ∀ o, Same H (upd H D o) := fun o => Same.updN hn
    exact lc_tup (K := K) (a := a) (xs := xs) (fun i H' => H' = upd H D (.lst ((xs.take i).map f))) (by simp) (fun i H' _ e => by rw [e]; exact (sm _).seqT hq) (fun i x H' hx e => by
        subst e
        refine hs D x _ ((xs.take i).map f) (fun H'' => H'' = upd H D (.lst ((xs.take (i + 1)).map f))) (List.mem_of_getElem? hx) (sm _) upd_same ?_ ?_
        · rw [List.length_map, List.length_take]; exact szl (by omega)
        · rw [upd_upd, List.take_add_one, hx]; simp) fun H' e => by rw [List.take_length] at e; rw [e]; exact hd D hn
theorem iv_len (l : List Nat) : (iv l).length = l.length := by simp [iv]
theorem mem_iv {l : List Nat} {x : V} (h : x ∈ iv l) : ∃ c, x = nv c ∧ c ∈ l := by
  obtain ⟨c, hc, e⟩ := List.mem_map.mp h
  exact ⟨c, e.symm, hc⟩
theorem inV_iv (k : Nat) (l : List Nat) : inV (nv k) (iv l) = l.contains k := by
  unfold inV iv
  rw [List.any_map]
  induction l with
  | nil => rfl
  | cons c r ih =>
    rw [List.any_cons, ih, List.contains_cons]
    congr 1
    show ((c : Int) == (k : Int)) = (k == c)
    rw [Bool.eq_iff_iff, beq_iff_eq, beq_iff_eq]
    omega
theorem flat_iv (l : List Nat) : (iv l).all flatV = true := by
  rw [List.all_eq_true]
  intro x hx
  obtain ⟨c, rfl, _⟩ := mem_iv hx
  rfl
theorem valV_map {g : Nat → V} (k : Nat) : ∀ ks : List Nat, valV (ks.map fun (c : Nat) => ((Sum.inl (c : Int) : Key), g c)) (Sum.inl (k : Int)) = if ks.contains k = true then some (g k) else none
  | [] => rfl
  | c :: r => by
    have ih := valV_map (g := g) k r
    unfold valV at ih ⊢
    rw [List.map_cons, List.find?_cons]
    by_cases h : c = k
    · subst h
      simp
    · have h1 : decide ((Sum.inl (c : Int) : Key) = Sum.inl (k : Int)) = false := by
        rw [decide_eq_false]
        intro z
        have z' : (c : Int) = k := Sum.inl.inj z
        omega
      have h2 : (k == c) = false := by
        rw [beq_eq_false_iff_ne]; omega
      simp only [h1, List.contains_cons, h2, Bool.false_or]
      exact ih
theorem signs_kv (c : Nat) (kvs : List (Key × V)) (h : kvs = ([32, 33, 36, 42, 45, 46, 47, 48, 49, 50, 51, 52, 53, 54, 55, 56, 57, 63, 97, 98, 99, 100, 101, 102, 103, 104] : List Nat).map fun (c : Nat) => ((Sum.inl (c : Int) : Key), V.str (S [c]))) :
    (valV kvs (Sum.inl (c : Int))).getD (.str "#") = .str (S [sg c]) := by
  rw [h, valV_map]
  unfold sg isSg
  by_cases q : ([32, 33, 36, 42, 45, 46, 47, 48, 49, 50, 51, 52, 53, 54, 55, 56, 57, 63, 97, 98, 99, 100, 101, 102, 103, 104] : List Nat).contains c = true
  · rw [if_pos q, if_pos q]; rfl
  · rw [if_neg q, if_neg q]; rfl
theorem S_app (a b : List Nat) : S a ++ S b = S (a ++ b) := by
  show (⟨(S a).cps ++ (S b).cps⟩ : Str) = _
  unfold S
  simp
theorem join_S : ∀ l : List Nat, Txt.join "" (l.map fun c => S [c]) = S l
  | [] => rfl
  | [c] => rfl
  | c :: d :: r => by
    have ih := join_S (d :: r)
    have e : ∀ l : List Str, Txt.join "" l = Str.join "" l := fun l => PySem.StrLaws.glued_eq_join "" l
    rw [e] at ih ⊢
    show S [c] ++ Str.ofString "" ++ Str.join "" ((d :: r).map fun c => S [c]) = _
    rw [ih, show Str.ofString "" = S [] from rfl, S_app, S_app]
    rfl
theorem atI_0 {α : Type} {x : α} {l : List α} : atI (x :: l) 0 = some x := atI_nat (j := 0) rfl
theorem goodNote_code (l : List Nat) : Vbdcam.goodNote l = (if 200 < l.length then false else if l.contains 123 = true then false else if l.contains 125 = true then false else l.all Vbdcam.shown) := by
  unfold Vbdcam.goodNote
  by_cases h : 200 < l.length
  · rw [if_pos h, decide_eq_false (by omega)]; rfl
  rw [if_neg h, decide_eq_true (by omega), Bool.true_and]
  induction l with
  | nil => rfl
  | cons c r ih =>
    have hr : ¬ 200 < r.length := by simp at h; omega
    have ih := ih hr
    rw [List.all_cons, ih, List.contains_cons, List.contains_cons, List.all_cons]
    by_cases h1 : c = 123
    · subst h1; simp
    by_cases h2 : c = 125
    · subst h2; simp
    have e1 : (123 == c) = false := by rw [beq_eq_false_iff_ne]; omega
    have e2 : (125 == c) = false := by rw [beq_eq_false_iff_ne]; omega
    have e3 : (c != 123 && c != 125) = true := by simp [h1, h2]
    rw [e1, e2, e3, Bool.false_or, Bool.false_or, Bool.and_true]
    by_cases a1 : r.contains 123 = true
    · simp only [a1, if_true, Bool.and_false]
    · by_cases a2 : r.contains 125 = true
      · simp only [a1, a2, if_true, if_false, Bool.and_false, Bool.false_eq_true]
      · simp only [a1, a2, if_false, Bool.false_eq_true]
theorem goodValue_code (l : List Nat) : Vbdcam.goodValue l = (if 100 < l.length then false else if l.contains 34 = true then false else l.all Vbdcam.shown) := by
  unfold Vbdcam.goodValue
  by_cases h : 100 < l.length
  · rw [if_pos h, decide_eq_false (by omega)]; rfl
  rw [if_neg h, decide_eq_true (by omega), Bool.true_and]
  induction l with
  | nil => rfl
  | cons c r ih =>
    have hr : ¬ 100 < r.length := by simp at h; omega
    have ih := ih hr
    rw [List.all_cons, ih, List.contains_cons, List.all_cons]
    by_cases h1 : c = 34
    · subst h1; simp
    have e1 : (34 == c) = false := by rw [beq_eq_false_iff_ne]; omega
    have e3 : (c != 34) = true := by simp [h1]
    rw [e1, e3, Bool.false_or, Bool.and_true]
    by_cases a1 : r.contains 34 = true
    · simp only [a1, if_true, Bool.and_false]
    · simp only [a1, if_false, Bool.false_eq_true]
theorem all_map_id (p : Nat → Bool) (l : List Nat) : (l.map p).all id = l.all p := by
  rw [List.all_map]; rfl
def blF (p : Nat → Bool) : V → V := fun x => match x with | .int c => V.bl (p c.toNat) | _ => .non
theorem map_bl (p : Nat → Bool) (l : List Nat) : (iv l).map (blF p) = (l.map p).map V.bl := by
  simp [iv, nv, blF]
theorem sc_numeral : FnScope ["signs", "most", "number"] ["signs", "most"] (defScope (top 43)) := ⟨rfl, rfl, rfl, by decide +kernel, rfl, by decide +kernel, by decide +kernel⟩
theorem ok_numeral (t : Tx P w K mg A) : Def P w K mg base (CXN P w A.cNoRecord) 1 "numeral" ["signs", "most"] (spNumeral) := by
  refine t.s_numeral.pure sc_numeral (fun vs H Q E h => ?_) fun f cdv Ar outer s H vs Q E hr h => ?_
  · obtain ⟨l, m, rfl, _⟩ := h; rfl
  obtain ⟨l, m, rfl, hl, hc, hm, q⟩ := h
  refine ⟨_, (pss_cons (ps_if (pw_or (pt_not (pt_val (pe_m0 PySem.F.slot_str_isdigit PySem.F.type_str_isdigit mt_isdigit (pv 0)))) (pw_or1 (pt_cmpR op_gt (pe_callB call_len_str (by rfl) t.b_len PySem.boot_len (pa_cons (pv 0) pa_nil)) (pe_callB call_len_str (by rfl) t.b_len PySem.boot_len (pa_cons (pe_callTy call_str_int (by rfl) t.b_str boot_str (pa_cons (pv 1) pa_nil)) pa_nil)) (nomark _)))).pt (pss_one (ps_ret (pe_un un_neg pe_int))) pss_nil) (pss_cons (ps_if (pw_and (pt_cmpR op_eq (pe_ix ix_str (pv 0) pe_int (fun _ _ => rfl)) pe_str (nomark _)) (pw_and1 (pt_cmpR op_gt (pe_callB call_len_str (by rfl) t.b_len PySem.boot_len (pa_cons (pv 0) pa_nil)) pe_int (nomark _)))).pt (pss_one (ps_ret (pe_un un_neg pe_int))) pss_nil) (pss_cons (ps_set (i := 2) sc_numeral.nd rfl (Or.inl rfl) (pe_callTy call_int_str (by rfl) t.b_int boot_int (pa_cons (pv 0) pa_nil))) (pss_one (ps_ret (pe_ifExp (pt_cmpR op_le (pv 2) (pv 1) (nomark _)) (pv 2) (pe_un un_neg pe_int))))))), ?_⟩
  tm_at "rd"
  obtain ⟨k, k1, k2, k3, k4⟩ : ∃ k : Nat, 1 ≤ k ∧ m < 10 ^ k ∧ ((Str.ofString (toString (m : Int))).length : Nat) = k ∧ k ≤ 10 := by
    rcases hm with rfl | rfl
    · exact ⟨3, by decide, by decide, by decide +kernel, by decide⟩
    · exact ⟨10, by decide, by decide, by decide +kernel, by decide⟩
  rw [pNum_code k1 k2] at q
  rw [isdigit_S hc]
  by_cases hb : (!(decide (l ≠ []) && l.all Vbdcam.digit)) = true
  · rw [if_pos hb]
    rw [if_pos (Or.inl hb)] at q
    exact q
  rw [if_neg hb]
  have hb' : l ≠ [] ∧ l.all Vbdcam.digit = true := by simpa using hb
  refine ⟨by rw [S_len]; exact sz (by omega), by rcases hm with rfl | rfl <;> decide +kernel, by rw [k3]; exact sz (by omega), ?_⟩
  rw [k3, S_len]
  by_cases hk : k < l.length
  · rw [if_pos (by omega)]
    rw [if_pos (Or.inr hk)] at q
    exact q
  rw [if_neg (by omega)]
  rw [if_neg (fun z => z.elim hb hk)] at q
  have fin : l.head? = some 48 ∧ 1 < l.length ∨ (∃ x, intText? (S l) = some x ∧ l.length ≤ 640 ∧ if x ≤ (m : Int) then Q (V.int x) H else Q (V.int (-1)) H) := by
    by_cases hz : l.head? = some 48 ∧ 1 < l.length
    · exact .inl hz
    · refine .inr ⟨_, int_S hb'.2 hb'.1 (by omega), by omega, ?_⟩
      rw [if_neg hz] at q
      by_cases hn : Vbdcam.number l ≤ m
      · rw [if_pos (by omega)]; rw [if_pos hn] at q; exact q
      · rw [if_neg (by omega)]; rw [if_neg hn] at q; exact q
  refine ⟨sz (by omega), ?_⟩
  match l, hb'.1, fin with
  | c :: r, _, fin =>
    refine ⟨c, by rw [S_cps]; exact atI_0, rfl, ?_⟩
    have e48 : (({ cps := #[c] } : Str) = Str.ofString "0") ↔ c = 48 := by
      rw [show ({ cps := #[c] } : Str) = S [c] from rfl, show Str.ofString "0" = S [48] from rfl, S_inj]
      simp
    by_cases h48 : c = 48
    · rw [if_pos (e48.mpr h48)]
      refine ⟨sz (by omega), ?_⟩
      by_cases h1 : 1 < (c :: r).length
      · rw [if_pos (by omega)]
        rw [if_pos ⟨by rw [h48]; rfl, h1⟩] at q
        exact q
      · rw [if_neg (by omega)]
        rcases fin with f | f
        · exact absurd f.2 h1
        · simpa only [S_len] using f
    · rw [if_neg (fun z => h48 (e48.mp z))]
      rcases fin with f | f
      · exact absurd (Option.some.inj f.1) h48
      · simpa only [S_len] using f
theorem sc_is_letter : FnScope ["byte"] ["byte"] (defScope (top 44)) := ⟨rfl, rfl, rfl, by decide +kernel, rfl, by decide +kernel, by decide +kernel⟩
theorem ok_is_letter (t : Tx P w K mg A) : Def P w K mg base (CXN P w A.cNoRecord) 1 "is_letter" ["byte"] (spLetter) := by
  refine t.s_is_letter.pure sc_is_letter (fun vs H Q E h => ?_) fun f cdv Ar outer s H vs Q E hr h => ?_
  · obtain ⟨c, rfl, _⟩ := h; rfl
  obtain ⟨c, rfl, q⟩ := h
  refine ⟨_, (pss_one (ps_ret (pe_or (pe_chain op_le op_le pe_int (pv 0) pe_int) (pe_one (pe_chain op_le op_le pe_int (pv 0) pe_int))))), ?_⟩
  tm_at "rd"
  unfold Vbdcam.alpha at q
  split
  · split
    · rw [decide_eq_true (by omega)] at q; exact q
    · split
      · rw [show decide ((c : Int) ≤ 122) = decide (65 ≤ c ∧ c ≤ 90 ∨ 97 ≤ c ∧ c ≤ 122) by rw [decide_eq_decide]; omega]; exact q
      · rw [decide_eq_false (by omega)] at q; exact q
  · split
    · rw [show decide ((c : Int) ≤ 122) = decide (65 ≤ c ∧ c ≤ 90 ∨ 97 ≤ c ∧ c ≤ 122) by rw [decide_eq_decide]; omega]; exact q
    · rw [decide_eq_false (by omega)] at q; exact q
theorem sc_is_shown : FnScope ["byte"] ["byte"] (defScope (top 45)) := ⟨rfl, rfl, rfl, by decide +kernel, rfl, by decide +kernel, by decide +kernel⟩
theorem ok_is_shown (t : Tx P w K mg A) : Def P w K mg base (CXN P w A.cNoRecord) 1 "is_shown" ["byte"] (spShown) := by
  refine t.s_is_shown.pure sc_is_shown (fun vs H Q E h => ?_) fun f cdv Ar outer s H vs Q E hr h => ?_
  · obtain ⟨c, rfl, _⟩ := h; rfl
  obtain ⟨c, rfl, q⟩ := h
  refine ⟨_, (pss_one (ps_ret (pe_chain op_le op_le pe_int (pv 0) pe_int))), ?_⟩
  tm_at "rd"
  unfold Vbdcam.shown at q
  split
  · rw [show decide ((c : Int) ≤ 126) = decide (32 ≤ c ∧ c ≤ 126) by rw [decide_eq_decide]; omega]; exact q
  · rw [decide_eq_false (by omega)] at q; exact q
theorem sc_heap_of : FnScope ["letter"] ["letter"] (defScope (top 72)) := ⟨rfl, rfl, rfl, by decide +kernel, rfl, by decide +kernel, by decide +kernel⟩
theorem ok_heap_of (t : Tx P w K mg A) : Def P w K mg base (CXN P w A.cNoRecord) 1 "heap_of" ["letter"] (spHeapOf) := by
  refine t.s_heap_of.pure sc_heap_of (fun vs H Q E h => ?_) fun f cdv Ar outer s H vs Q E hr h => ?_
  · obtain ⟨l, rfl, _⟩ := h; rfl
  obtain ⟨l, rfl, hl, hc, q⟩ := h
  refine ⟨_, (pss_one (ps_ret (pe_ifExp (pt_cmpR op_ne (pv 0) pe_str (nomark _)) (pe_m1 PySem.F.slot_str_find PySem.F.type_str_find mt_find (pe_con1 t.k_HEAP_LETTERS) (pv 0)) (pe_un un_neg pe_int)))), ?_⟩
  tm_at "rd"
  refine ⟨rfl, ?_⟩
  match l, hl, hc, q with
  | [], _, _, q =>
    rw [if_neg (by rw [decide_eq_true (show S [] = Str.ofString "" from rfl)]; decide)]
    exact q
  | [c], _, hc, q =>
    rw [if_pos (by rw [decide_eq_false]; · rfl
                   · rw [show Str.ofString "" = S [] from rfl, S_inj]; simp)]
    rw [find_S c (hc c (by simp))]
    exact q
theorem sc_number_at : FnScope ["ply"] ["ply"] (defScope (top 73)) := ⟨rfl, rfl, rfl, by decide +kernel, rfl, by decide +kernel, by decide +kernel⟩
theorem ok_number_at (t : Tx P w K mg A) : Def P w K mg base (CXN P w A.cNoRecord) 1 "number_at" ["ply"] (spNumAt) := by
  refine t.s_number_at.pure sc_number_at (fun vs H Q E h => ?_) fun f cdv Ar outer s H vs Q E hr h => ?_
  · obtain ⟨l, rfl, _⟩ := h; rfl
  obtain ⟨n, rfl, q⟩ := h
  refine ⟨_, (pss_one (ps_ret (pe_tup (pa_cons (pe_op op_add (pe_op op_fdiv (pv 0) pe_int) pe_int) (pa_cons (pe_ifExp (pt_cmpR op_eq (pe_op op_mod (pv 0) pe_int) pe_int (nomark _)) pe_int pe_int) pa_nil))))), ?_⟩
  tm_at "rd"
  refine ⟨⟨by decide, by decide⟩, by decide, rfl, ?_⟩
  have e : (n : Int) / 2 + 1 = ((n / 2 + 1 : Nat) : Int) := by omega
  rw [e]
  by_cases h : n % 2 = 0
  · rw [if_pos (by omega)]
    rw [if_pos h] at q
    exact ⟨sz (by decide), fun p hp => q _ p (Same.updN hp) upd_same⟩
  · rw [if_neg (by omega)]
    rw [if_neg h] at q
    exact ⟨sz (by decide), fun p hp => q _ p (Same.updN hp) upd_same⟩
theorem sc_signs_of : FnScope ["row", "byte"] ["row"] (defScope (top 41)) := ⟨rfl, rfl, rfl, by decide +kernel, rfl, by decide +kernel, by decide +kernel⟩
theorem ok_signs_of (t : Tx P w K mg A) : Def P w K mg base (CXN P w A.cNoRecord) 1 "signs_of" ["row"] (spSigns K) := by
  refine t.s_signs_of.pure sc_signs_of (fun vs H Q E h => ?_) fun f cdv Ar outer s H vs Q E hr h => ?_
  · obtain ⟨a, l, rfl, _⟩ := h; rfl
  obtain ⟨a, l, rfl, hq, hl, q⟩ := h
  refine ⟨_, (pss_one (ps_ret (pe_join pe_str (pe_lc rfl sc_signs_of.nd (pi_seq (pv 0)) (own := [("byte", 1)]) (blkOk_by rfl) (fun _ _ _ _ _ => (pg_name (i := 1) sc_signs_of.nd rfl (Or.inl rfl))) (fun _ _ _ _ _ => pts_nil) (fun _ _ _ _ _ => (pe_dget2K t.dk_SIGNS (pv 1) (pe_con1 t.k_OTHER_SIGN) ⟨rfl, rfl, rfl, rfl⟩)))))), ?_⟩
  tm_at "rd"
  refine tlc_var (fun x => match x with | .int c => (valV (([32, 33, 36, 42, 45, 46, 47, 48, 49, 50, 51, 52, 53, 54, 55, 56, 57, 63, 97, 98, 99, 100, 101, 102, 103, 104] : List Nat).map fun (c : Nat) => ((Sum.inl (c : Int) : Key), V.str (S [c]))) (Sum.inl c)).getD (.str "#") | _ => .non) rfl hq (by rw [iv_len]; omega) (fun D x H' acc Nx hx sm hD hz hN => ?_) fun D hD => ?_
  · obtain ⟨c, rfl, _⟩ := mem_iv hx
    tm_at "rd"
    exact ⟨Sum.inl c, rfl, acc, hD, hz, hN⟩
  · refine ⟨D, rfl, (sgs l).map fun c => S [c], .inl (SqL.of (by rw [upd_same]; congr 2; simp only [iv, List.map_map, sgs]; apply List.map_congr_left; intro c _; exact signs_kv c _ rfl)), ?_, ?_⟩
    · have : ∀ l : List Nat, ((l.map fun c => S [c]).map fun x => x.length).sum = l.length := by
        intro l
        induction l with
        | nil => rfl
        | cons c r ih => rw [List.map_cons, List.map_cons, List.sum_cons, ih, S_len, List.length_cons]; simp; omega
      rw [this, sgs_len, List.length_map, sgs_len, show (Str.ofString "").length = 0 from rfl]; omega
    · rw [join_S]
      exact q _ (Same.updN hD)
theorem sc_is_note : FnScope ["row", "byte"] ["row"] (defScope (top 46)) := ⟨rfl, rfl, rfl, by decide +kernel, rfl, by decide +kernel, by decide +kernel⟩
theorem ok_is_note (t : Tx P w K mg A) : Def P w K mg base (CXN P w A.cNoRecord) 2 "is_note" ["row"] (spRow K Vbdcam.goodNote) := by
  refine t.s_is_note.pure sc_is_note (fun vs H Q E h => ?_) fun f cdv Ar outer s H vs Q E hr h => ?_
  · obtain ⟨a, l, rfl, _⟩ := h; rfl
  obtain ⟨a, l, rfl, hq, hl, q⟩ := h
  refine ⟨_, (pss_cons (ps_if (pw_or (pt_cmpR op_gt (pe_callB (call_len_seqK (K := K) rfl) (by rfl) t.b_len PySem.boot_len (pa_cons (pv 0) pa_nil)) (pe_con1 t.k_MOST_NOTE_BYTES) (nomark _)) (pw_or (pt_cmpR (op_in_seqK (K := K) rfl) (pe_con1 t.k_NOTE_BEGIN) (pv 0) (by with_unfolding_all rfl)) (pw_or1 (pt_cmpR (op_in_seqK (K := K) rfl) (pe_con1 t.k_NOTE_END) (pv 0) (by with_unfolding_all rfl))))).pt (pss_one (ps_ret pe_bl)) pss_nil) (pss_one (ps_ret (pe_callB (cr_all rfl) (by rfl) t.b_all boot_all (pa_cons (pe_lc rfl sc_is_note.nd (pi_seq (pv 0)) (own := [("byte", 1)]) (blkOk_by rfl) (fun _ _ _ _ _ => (pg_name (i := 1) sc_is_note.nd rfl (Or.inl rfl))) (fun _ _ _ _ _ => pts_nil) (fun _ _ _ _ _ => (pe_callD (ok_is_shown t) (hr.mono (by decide)) (passC cxn_ok) (pa_cons (pv 1) pa_nil)))) pa_nil))))), ?_⟩
  tm_at "rd"
  rw [goodNote_code] at q
  refine ⟨_, hq, ?_⟩
  rw [iv_len]
  by_cases h : 200 < l.length
  · rw [if_pos (by omega)]
    rw [if_pos h] at q
    exact q _ (.refl _)
  rw [if_neg (by omega)]
  rw [if_neg h] at q
  refine ⟨_, hq, rfl, flat_iv l, ?_⟩
  rw [show V.int 123 = nv 123 from rfl, inV_iv]
  by_cases h1 : l.contains 123 = true
  · rw [if_pos h1]
    rw [if_pos h1] at q
    exact q _ (.refl _)
  rw [if_neg h1]
  rw [if_neg h1] at q
  refine ⟨_, hq, rfl, flat_iv l, ?_⟩
  rw [show V.int 125 = nv 125 from rfl, inV_iv]
  by_cases h2 : l.contains 125 = true
  · rw [if_pos h2]
    rw [if_pos h2] at q
    exact q _ (.refl _)
  rw [if_neg h2]
  rw [if_neg h2] at q
  refine tlc_var (blF Vbdcam.shown) rfl hq (by rw [iv_len]; omega) (fun D x H' acc Nx hx sm hD hz hN => ?_) fun D hD => ?_
  · obtain ⟨c, rfl, _⟩ := mem_iv hx
    tm_at "rd"
    exact ⟨c, rfl, acc, hD, hz, hN⟩
  · refine ⟨D, rfl, l.map Vbdcam.shown, SqL.of (by rw [upd_same, map_bl]), ?_⟩
    rw [all_map_id]
    exact q _ (Same.updN hD)
end
section
variable {P : Program} {w : World} {K : PySem.W.Frag} {mg : Str → Option Value} {base : Heap} {A : Adr}
theorem cut_tail (l : List Nat) : cutS (S l) (some 1) none = S (l.drop 1) := by
  rw [cut_S]
  congr 1
  show (l.drop (min 1 l.length)).take (l.length - min 1 l.length) = l.drop 1
  cases l with
  | nil => rfl
  | cons c r => simp
theorem cut_take1 (l : List Nat) : cutS (S l) none (some 1) = S (l.take 1) := by
  rw [cut_S]
  congr 1
  show (l.drop 0).take (min 1 l.length - 0) = l.take 1
  cases l with
  | nil => rfl
  | cons c r => simp
theorem cut_last (l : List Nat) : cutS (S l) (some (-1)) none = S (l.drop (l.length - 1)) := by
  rw [cut_S]
  congr 1
  have e : HT.sIx l.length 0 (some (-1)) = l.length - 1 := by
    show (if (-1 : Int) < 0 then ((-1 : Int) + (l.length : Int)).toNat else min (-1 : Int).toNat l.length) = _
    rw [if_pos (by decide)]; omega
  rw [e]
  show (l.drop (l.length - 1)).take (l.length - (l.length - 1)) = l.drop (l.length - 1)
  rw [List.take_of_length_le]
  rw [List.length_drop]
  exact Nat.le_refl _
theorem cut_mid (l : List Nat) : cutS (S l) (some 1) (some (-1)) = S ((l.drop 1).dropLast) := by
  rw [cut_S]
  congr 1
  have e : HT.sIx l.length l.length (some (-1)) = l.length - 1 := by
    show (if (-1 : Int) < 0 then ((-1 : Int) + (l.length : Int)).toNat else min (-1 : Int).toNat l.length) = _
    rw [if_pos (by decide)]; omega
  rw [e]
  show (l.drop (min 1 l.length)).take (l.length - 1 - min 1 l.length) = _
  rw [List.dropLast_eq_take]
  cases l with
  | nil => rfl
  | cons c r => simp
theorem cut_from (l : List Nat) (k : Nat) (hk : k ≤ l.length) : cutS (S l) (some (k : Int)) none = S (l.drop k) := by
  rw [cut_S]
  congr 1
  have e : HT.sIx l.length 0 (some (k : Int)) = k := by
    show (if (k : Int) < 0 then ((k : Int) + (l.length : Int)).toNat else min (k : Int).toNat l.length) = _
    rw [if_neg (by omega)]
    simp; omega
  rw [e]
  show (l.drop k).take (l.length - k) = l.drop k
  rw [List.take_of_length_le]
  rw [List.length_drop]
  exact Nat.le_refl _
theorem iv_nat {z : Int} (h : 0 ≤ z) : V.int z = nv z.toNat := by
  show V.int z = V.int ((z.toNat : Nat) : Int)
  rw [Int.toNat_of_nonneg h]
theorem lt_drop {l : List Nat} (h : ∀ c ∈ l, c < 128) (k : Nat) : ∀ c ∈ l.drop k, c < 128 := fun c hc => h c (List.mem_of_mem_drop hc)
theorem lt_take {l : List Nat} (h : ∀ c ∈ l, c < 128) (k : Nat) : ∀ c ∈ l.take k, c < 128 := fun c hc => h c (List.mem_of_mem_take hc)
theorem tyT {K : PySem.W.Frag} {H : Hp} {a : Addr} (h : ∃ o, K.lookup a = some o ∧ o.cls = .type "tuple" ∧ o.dict = none) : tyV K "tuple" (.ref a) H := .inr (.inl ⟨rfl, h⟩)
def strV (R : List (List Nat)) : List V := R.map fun r => V.str (S r)
theorem eqV_S (a b : List Nat) : eqV (.str (S a)) (.str (S b)) = (a == b) := by
  show (S a == S b) = (a == b)
  rw [Bool.eq_iff_iff, beq_iff_eq, beq_iff_eq, S_inj]
theorem inV_strs (l : List Nat) (R : List (List Nat)) : inV (.str (S l)) (strV R) = R.contains l := by
  unfold inV strV
  rw [List.any_map]
  induction R with
  | nil => rfl
  | cons c r ih =>
    rw [List.any_cons, ih, List.contains_cons]
    congr 1
    show eqV (.str (S c)) (.str (S l)) = _
    rw [eqV_S, Bool.eq_iff_iff, beq_iff_eq, beq_iff_eq, eq_comm]
theorem idx_strs (l : List Nat) (R : List (List Nat)) (h : R.contains l = true) : (strV R)[R.idxOf l]? = some (.str (S l)) ∧ ∀ (m : Nat) (z' : V), m < R.idxOf l → (strV R)[m]? = some z' → eqV z' (.str (S l)) = false := by
  have hm : l ∈ R := by simpa using h
  have hlt : R.idxOf l < R.length := List.idxOf_lt_length_iff.mpr hm
  constructor
  · unfold strV
    rw [List.getElem?_map, List.getElem?_eq_getElem hlt, List.getElem_idxOf]; rfl
  · intro m z' hmj hz
    unfold strV at hz
    rw [List.getElem?_map] at hz
    have hml : m < R.length := by omega
    rw [List.getElem?_eq_getElem hml] at hz
    cases hz
    show eqV (.str (S R[m])) (.str (S l)) = false
    rw [eqV_S]
    have := List.not_of_lt_findIdx (p := (· == l)) (xs := R) (i := m) hmj
    simpa using this
theorem sc_is_head_name : FnScope ["row", "byte"] ["row"] (defScope (top 47)) := ⟨rfl, rfl, rfl, by decide +kernel, rfl, by decide +kernel, by decide +kernel⟩
theorem ok_is_head_name (t : Tx P w K mg A) : Def P w K mg base (CXN P w A.cNoRecord) 2 "is_head_name" ["row"] (spRow K Vbdcam.goodName) := by
  refine t.s_is_head_name.pure sc_is_head_name (fun vs H Q E h => ?_) fun f cdv Ar outer s H vs Q E hr h => ?_
  · obtain ⟨a, l, rfl, _⟩ := h; rfl
  obtain ⟨a, l, rfl, hq, hl, q⟩ := h
  refine ⟨_, (pss_one (ps_ret (pe_and (pe_chain op_le op_le pe_int (pe_callB (call_len_seqK (K := K) rfl) (by rfl) t.b_len PySem.boot_len (pa_cons (pv 0) pa_nil)) (pe_con1 t.k_MOST_NAME_LETTERS)) (pe_one (pe_callB (cr_all rfl) (by rfl) t.b_all boot_all (pa_cons (pe_lc rfl sc_is_head_name.nd (pi_seq (pv 0)) (own := [("byte", 1)]) (blkOk_by rfl) (fun _ _ _ _ _ => (pg_name (i := 1) sc_is_head_name.nd rfl (Or.inl rfl))) (fun _ _ _ _ _ => pts_nil) (fun _ _ _ _ _ => (pe_callD (ok_is_letter t) (hr.mono (by decide)) (passC cxn_ok) (pa_cons (pv 1) pa_nil)))) pa_nil)))))), ?_⟩
  tm_at "rd"
  unfold Vbdcam.goodName at q
  refine ⟨_, hq, ?_⟩
  rw [iv_len]
  by_cases h1 : 1 ≤ l.length
  · rw [if_pos (by omega)]
    by_cases h2 : l.length ≤ 20
    · rw [if_pos (by omega)]
      rw [decide_eq_true ⟨h1, h2⟩, Bool.true_and] at q
      refine tlc_var (blF Vbdcam.alpha) rfl hq (by rw [iv_len]; omega) (fun D x H' acc Nx hx sm hD hz hN => ?_) fun D hD => ?_
      · obtain ⟨c, rfl, _⟩ := mem_iv hx
        tm_at "rd"
        exact ⟨c, rfl, acc, hD, hz, hN⟩
      · refine ⟨D, rfl, l.map Vbdcam.alpha, SqL.of (by rw [upd_same, map_bl]), ?_⟩
        rw [all_map_id]
        exact q _ (Same.updN hD)
    · rw [if_neg (by omega)]
      rw [decide_eq_false (by omega)] at q
      exact q _ (.refl _)
  · rw [if_neg (by omega)]
    rw [decide_eq_false (by omega)] at q
    exact q _ (.refl _)
theorem sc_is_head_value : FnScope ["row", "byte"] ["row"] (defScope (top 48)) := ⟨rfl, rfl, rfl, by decide +kernel, rfl, by decide +kernel, by decide +kernel⟩
theorem ok_is_head_value (t : Tx P w K mg A) : Def P w K mg base (CXN P w A.cNoRecord) 2 "is_head_value" ["row"] (spRow K Vbdcam.goodValue) := by
  refine t.s_is_head_value.pure sc_is_head_value (fun vs H Q E h => ?_) fun f cdv Ar outer s H vs Q E hr h => ?_
  · obtain ⟨a, l, rfl, _⟩ := h; rfl
  obtain ⟨a, l, rfl, hq, hl, q⟩ := h
  refine ⟨_, (pss_cons (ps_if (pw_or (pt_cmpR op_gt (pe_callB (call_len_seqK (K := K) rfl) (by rfl) t.b_len PySem.boot_len (pa_cons (pv 0) pa_nil)) (pe_con1 t.k_MOST_VALUE_BYTES) (nomark _)) (pw_or1 (pt_cmpR (op_in_seqK (K := K) rfl) (pe_con1 t.k_QUOTE) (pv 0) (by with_unfolding_all rfl)))).pt (pss_one (ps_ret pe_bl)) pss_nil) (pss_one (ps_ret (pe_callB (cr_all rfl) (by rfl) t.b_all boot_all (pa_cons (pe_lc rfl sc_is_head_value.nd (pi_seq (pv 0)) (own := [("byte", 1)]) (blkOk_by rfl) (fun _ _ _ _ _ => (pg_name (i := 1) sc_is_head_value.nd rfl (Or.inl rfl))) (fun _ _ _ _ _ => pts_nil) (fun _ _ _ _ _ => (pe_callD (ok_is_shown t) (hr.mono (by decide)) (passC cxn_ok) (pa_cons (pv 1) pa_nil)))) pa_nil))))), ?_⟩
  tm_at "rd"
  rw [goodValue_code] at q
  refine ⟨_, hq, ?_⟩
  rw [iv_len]
  by_cases h : 100 < l.length
  · rw [if_pos (by omega)]
    rw [if_pos h] at q
    exact q _ (.refl _)
  rw [if_neg (by omega)]
  rw [if_neg h] at q
  refine ⟨_, hq, rfl, flat_iv l, ?_⟩
  rw [show V.int 34 = nv 34 from rfl, inV_iv]
  by_cases h1 : l.contains 34 = true
  · rw [if_pos h1]
    rw [if_pos h1] at q
    exact q _ (.refl _)
  rw [if_neg h1]
  rw [if_neg h1] at q
  refine tlc_var (blF Vbdcam.shown) rfl hq (by rw [iv_len]; omega) (fun D x H' acc Nx hx sm hD hz hN => ?_) fun D hD => ?_
  · obtain ⟨c, rfl, _⟩ := mem_iv hx
    tm_at "rd"
    exact ⟨c, rfl, acc, hD, hz, hN⟩
  · refine ⟨D, rfl, l.map Vbdcam.shown, SqL.of (by rw [upd_same, map_bl]), ?_⟩
    rw [all_map_id]
    exact q _ (Same.updN hD)
theorem sc_read_move : FnScope ["signs", "source", "target", "n"] ["signs"] (defScope (top 71)) := ⟨rfl, rfl, rfl, by decide +kernel, rfl, by decide +kernel, by decide +kernel⟩
theorem ok_read_move (t : Tx P w K mg A) : Def P w K mg base (CXN P w A.cNoRecord) 2 "read_move" ["signs"] (spMove K) := by
  refine t.s_read_move.pure sc_read_move (fun vs H Q E h => ?_) fun f cdv Ar outer s H vs Q E hr h => ?_
  · obtain ⟨l, rfl, _⟩ := h; rfl
  obtain ⟨l, rfl, hl, hc, q⟩ := h
  refine ⟨_, (pss_cons (ps_if (pt_cmpR op_eq (pv 0) (pe_con1 t.k_PASS_SIGNS) (nomark _)) (pss_one (ps_ret (pe_tup (pa_cons (pe_con1 t.k_PASS) pa_nil)))) pss_nil) (pss_cons (ps_set (i := 1) sc_read_move.nd rfl (Or.inl rfl) (pe_callD (ok_heap_of t) (hr.mono (by decide)) (passC cxn_ok) (pa_cons (pe_slice sl_str (pv 0) po_none (po_some pe_int)) pa_nil))) (pss_cons (ps_set (i := 2) sc_read_move.nd rfl (Or.inl rfl) (pe_callD (ok_heap_of t) (hr.mono (by decide)) (passC cxn_ok) (pa_cons (pe_slice sl_str (pv 0) (po_some (pe_un un_neg pe_int)) po_none) pa_nil))) (pss_cons (ps_set (i := 3) sc_read_move.nd rfl (Or.inl rfl) (pe_callD (ok_numeral t) (hr.mono (by decide)) (passC cxn_ok) (pa_cons (pe_ifExp (pt_cmpR op_lt (pv 2) pe_int (nomark _)) (pe_slice sl_str (pv 0) (po_some pe_int) po_none) (pe_slice sl_str (pv 0) (po_some pe_int) (po_some (pe_un un_neg pe_int)))) (pa_cons (pe_con1 t.k_MOST) pa_nil)))) (pss_cons (ps_if (pw_or (pt_cmpR op_lt (pv 1) pe_int (nomark _)) (pw_or1 (pt_cmpR op_lt (pv 3) pe_int (nomark _)))).pt (pss_one (ps_ret pe_non)) pss_nil) (pss_one (ps_ret (pe_ifExp (pt_cmpR op_lt (pv 2) pe_int (nomark _)) (pe_tup (pa_cons (pe_con1 t.k_TAKE) (pa_cons (pv 3) (pa_cons (pv 1) pa_nil)))) (pe_tup (pa_cons (pe_con1 t.k_SPLIT) (pa_cons (pv 3) (pa_cons (pv 1) (pa_cons (pv 2) pa_nil))))))))))))), ?_⟩
  tm_at "rd"
  refine ⟨rfl, ?_⟩
  have e45 : (S l = Str.ofString "--") ↔ l = [45, 45] := by
    rw [show Str.ofString "--" = S [45, 45] from rfl, S_inj]
  unfold pMove at q
  by_cases h45 : l = [45, 45]
  · rw [if_pos (e45.mpr h45)]
    rw [if_pos h45] at q
    exact ⟨sz (by decide), fun p hp => q _ _ (Same.updN hp) ⟨p, rfl, SqT.of upd_same⟩⟩
  rw [if_neg (fun z => h45 (e45.mp z)), cut_take1, cut_last, cut_tail, cut_mid]
  rw [if_neg h45] at q
  have hz : (S l).length ≤ sizeLine := by rw [S_len]; exact sz (by omega)
  refine ⟨hz, l.take 1, rfl, by rw [List.length_take]; omega, lt_take hc 1, hz, l.drop (l.length - 1), rfl, by rw [List.length_drop]; omega, lt_drop hc _, _, rfl, ?_⟩
  simp only [] at q
  generalize pHeap (l.take 1) = sH at q ⊢
  generalize pHeap (l.drop (l.length - 1)) = gH at q ⊢
  by_cases hg : gH < 0
  · rw [if_pos hg]
    rw [if_pos hg] at q
    refine ⟨hz, l.drop 1, 1000000000, rfl, by rw [List.length_drop]; omega, lt_drop hc 1, .inr rfl, _, rfl, ?_⟩
    rw [show Vbdcam.MOST = 1000000000 from rfl] at q
    generalize pNum (l.drop 1) 1000000000 = n at q ⊢
    by_cases hs : sH < 0
    · rw [if_pos hs]
      rw [if_pos (Or.inl hs)] at q
      exact q _ _ (.refl _) rfl
    rw [if_neg hs]
    refine ⟨_, rfl, ?_⟩
    by_cases hn : n < 1
    · rw [if_pos hn]
      rw [if_pos (Or.inr hn)] at q
      exact q _ _ (.refl _) rfl
    rw [if_neg hn]
    rw [if_neg (fun z => z.elim hs hn), if_pos hg] at q
    refine ⟨_, rfl, ?_⟩
    rw [if_pos hg]
    refine ⟨sz (by decide), fun p hp => q _ _ (Same.updN hp) ⟨p, rfl, SqT.of ?_⟩⟩
    rw [upd_same]
    show _ = some (HO.tup [V.str "take", nv n.toNat, nv sH.toNat])
    rw [← iv_nat (by omega), ← iv_nat (by omega)]
  · rw [if_neg hg]
    rw [if_neg hg] at q
    refine ⟨hz, (l.drop 1).dropLast, 1000000000, rfl, by rw [List.length_dropLast, List.length_drop]; omega, fun c hcc => lt_drop hc 1 c (List.dropLast_subset _ hcc), .inr rfl, _, rfl, ?_⟩
    rw [show Vbdcam.MOST = 1000000000 from rfl] at q
    generalize pNum (l.drop 1).dropLast 1000000000 = n at q ⊢
    by_cases hs : sH < 0
    · rw [if_pos hs]
      rw [if_pos (Or.inl hs)] at q
      exact q _ _ (.refl _) rfl
    rw [if_neg hs]
    refine ⟨_, rfl, ?_⟩
    by_cases hn : n < 1
    · rw [if_pos hn]
      rw [if_pos (Or.inr hn)] at q
      exact q _ _ (.refl _) rfl
    rw [if_neg hn]
    rw [if_neg (fun z => z.elim hs hn), if_neg hg] at q
    refine ⟨_, rfl, ?_⟩
    rw [if_neg hg]
    refine ⟨sz (by decide), fun p hp => q _ _ (Same.updN hp) ⟨p, rfl, SqT.of ?_⟩⟩
    rw [upd_same]
    show _ = some (HO.tup [V.str "split", nv n.toNat, nv sH.toNat, nv gH.toNat])
    rw [← iv_nat (by omega), ← iv_nat (by omega), ← iv_nat (by omega)]
theorem sc_read_mark : FnScope ["signs", "mark"] ["signs"] (defScope (top 68)) := ⟨rfl, rfl, rfl, by decide +kernel, rfl, by decide +kernel, by decide +kernel⟩
theorem ok_read_mark (t : Tx P w K mg A) : Def P w K mg base (CXN P w A.cNoRecord) 2 "read_mark" ["signs"] (spWord K pMark) := by
  refine t.s_read_mark.pure sc_read_mark (fun vs H Q E h => ?_) fun f cdv Ar outer s H vs Q E hr h => ?_
  · obtain ⟨l, rfl, _⟩ := h; rfl
  obtain ⟨l, rfl, hl, hc, q⟩ := h
  refine ⟨_, (pss_cons (ps_set (i := 1) sc_read_mark.nd rfl (Or.inl rfl) (pe_callD (ok_numeral t) (hr.mono (by decide)) (passC cxn_ok) (pa_cons (pe_slice sl_str (pv 0) (po_some pe_int) po_none) (pa_cons (pe_con1 t.k_MOST_MARK) pa_nil)))) (pss_one (ps_ret (pe_ifExp (pt_cmpR op_ge (pv 1) pe_int (nomark _)) (pe_tup (pa_cons (pe_con1 t.k_MARK) (pa_cons (pv 1) pa_nil))) (pe_tup (pa_cons (pe_con1 t.k_WRONG) (pa_cons pe_non pa_nil))))))), ?_⟩
  tm_at "rd"
  rw [cut_tail]
  unfold pMark at q
  simp only [] at q
  refine ⟨by rw [S_len]; exact sz (by omega), l.drop 1, 255, rfl, by rw [List.length_drop]; omega, lt_drop hc 1, .inl rfl, _, rfl, ?_⟩
  generalize pNum (l.drop 1) 255 = n at q ⊢
  by_cases h : 0 ≤ n
  · rw [if_pos h]
    rw [if_pos h] at q
    refine ⟨sz (by decide), fun p hp => q _ _ (Same.updN hp) ⟨p, _, rfl, SqT.of upd_same, ?_⟩⟩
    exact iv_nat h
  · rw [if_neg h]
    rw [if_neg h] at q
    exact ⟨sz (by decide), fun p hp => q _ _ (Same.updN hp) ⟨p, _, rfl, SqT.of upd_same, rfl⟩⟩
theorem sc_read_number : FnScope ["signs", "digits", "points", "number"] ["signs"] (defScope (top 69)) := ⟨rfl, rfl, rfl, by decide +kernel, rfl, by decide +kernel, by decide +kernel⟩
theorem ok_read_number (t : Tx P w K mg A) : Def P w K mg base (CXN P w A.cNoRecord) 2 "read_number" ["signs"] (spWord K pNumber) := by
  refine t.s_read_number.pure sc_read_number (fun vs H Q E h => ?_) fun f cdv Ar outer s H vs Q E hr h => ?_
  · obtain ⟨l, rfl, _⟩ := h; rfl
  obtain ⟨l, rfl, hl, hc, q⟩ := h
  refine ⟨_, (pss_cons (ps_set (i := 1) sc_read_number.nd rfl (Or.inl rfl) (pe_m1 PySem.F.slot_str_rstrip PySem.F.type_str_rstrip mt_rstripC (pv 0) pe_str)) (pss_cons (ps_set (i := 2) sc_read_number.nd rfl (Or.inl rfl) (pe_op op_sub (pe_callB call_len_str (by rfl) t.b_len PySem.boot_len (pa_cons (pv 0) pa_nil)) (pe_callB call_len_str (by rfl) t.b_len PySem.boot_len (pa_cons (pv 1) pa_nil)))) (pss_cons (ps_set (i := 3) sc_read_number.nd rfl (Or.inl rfl) (pe_callD (ok_numeral t) (hr.mono (by decide)) (passC cxn_ok) (pa_cons (pv 1) (pa_cons (pe_con1 t.k_MOST) pa_nil)))) (pss_cons (ps_if (pw_or (pt_cmpR op_lt (pv 3) pe_int (nomark _)) (pw_or1 (pt_cmpR (op_notIn_seqK (K := K) rfl) (pv 2) (pe_tup (pa_cons pe_int (pa_cons pe_int pa_nil))) (by with_unfolding_all rfl)))).pt (pss_one (ps_ret (pe_tup (pa_cons (pe_con1 t.k_WRONG) (pa_cons pe_non pa_nil))))) pss_nil) (pss_one (ps_ret (pe_tup (pa_cons (pe_con1 t.k_NUMBER) (pa_cons (pe_tup (pa_cons (pv 3) (pa_cons (pv 2) pa_nil))) pa_nil))))))))), ?_⟩
  tm_at "rd"
  have e46 : Txt.rstripChars (S l) (Str.ofString ".") = S (M.rstrip dotP l) := rstrip_S l [46] dotP (fun c => by rw [Bool.eq_iff_iff]; simp [dotP])
  obtain ⟨sx, r1, r2, r3⟩ := rstrip_parts dotP l
  have hle : (M.rstrip dotP l).length ≤ l.length := by
    have := congrArg List.length r1
    rw [List.length_append] at this; omega
  have hlt : ∀ c ∈ M.rstrip dotP l, c < 128 := fun c hcc => hc c (by rw [r1]; exact List.mem_append_left _ hcc)
  rw [e46]
  simp only [S_len]
  unfold pNumber at q
  simp only [] at q
  refine ⟨sz (by omega), sz (by omega), sz (by omega), M.rstrip dotP l, 1000000000, rfl, by omega, hlt, .inr rfl, _, rfl, ?_⟩
  rw [show Vbdcam.MOST = 1000000000 from rfl] at q
  generalize pNum (M.rstrip dotP l) 1000000000 = n at q ⊢
  have ep : (l.length : Int) - ((M.rstrip dotP l).length : Int) = ((l.length - (M.rstrip dotP l).length : Nat) : Int) := by omega
  rw [ep]
  generalize l.length - (M.rstrip dotP l).length = pts at q ⊢
  by_cases h : n < 0
  · rw [if_pos h]
    rw [if_pos (Or.inl h)] at q
    exact ⟨sz (by decide), fun p hp => q _ _ (Same.updN hp) ⟨p, _, rfl, SqT.of upd_same, rfl⟩⟩
  rw [if_neg h]
  refine ⟨sz (by decide), fun p hp => ⟨_, .inr (SqT.of upd_same), rfl, rfl, ?_⟩⟩
  have s1 := Same.updN (o := HO.tup [V.int 1, V.int 3]) hp
  have e13 : inV (nv pts) [V.int 1, V.int 3] = decide (pts = 1 ∨ pts = 3) := by
    show ([1, 3].map nv).any (fun y => eqV y (nv pts)) = _
    have := inV_iv pts [1, 3]
    unfold inV iv at this
    rw [this, Bool.eq_iff_iff]
    simp
  rw [e13]
  by_cases h3 : pts = 1 ∨ pts = 3
  · rw [if_neg (by rw [decide_eq_true h3]; decide)]
    rw [if_neg (by rintro (z | z); exact h z; exact z h3)] at q
    refine ⟨sz (by decide), fun p1 hp1 => ⟨sz (by decide), fun p2 hp2 => ?_⟩⟩
    have s2 := s1.trans (Same.updN (o := HO.tup [V.int n, V.int pts]) hp1)
    refine q _ _ (s2.trans (Same.updN hp2)) ⟨p2, _, rfl, SqT.of upd_same, p1, rfl, SqT.of ?_⟩
    rw [upd_ne (ne_of_none upd_same hp2), upd_same, iv_nat (z := n) (by omega)]
  · rw [if_pos (by rw [decide_eq_false h3]; rfl)]
    rw [if_pos (Or.inr h3)] at q
    exact ⟨sz (by decide), fun p1 hp1 => q _ _ (s1.trans (Same.updN hp1)) ⟨p1, _, rfl, SqT.of upd_same, rfl⟩⟩
theorem sc_read_marked_move : FnScope ["signs", "bare", "end", "move"] ["signs"] (defScope (top 70)) := ⟨rfl, rfl, rfl, by decide +kernel, rfl, by decide +kernel, by decide +kernel⟩
theorem ok_read_marked_move (t : Tx P w K mg A) : Def P w K mg base (CXN P w A.cNoRecord) 3 "read_marked_move" ["signs"] (spWord K pMarked) := by
  refine t.s_read_marked_move.pure sc_read_marked_move (fun vs H Q E h => ?_) fun f cdv Ar outer s H vs Q E hr h => ?_
  · obtain ⟨l, rfl, _⟩ := h; rfl
  obtain ⟨l, rfl, hl, hc, q⟩ := h
  refine ⟨_, (pss_cons (ps_set (i := 1) sc_read_marked_move.nd rfl (Or.inl rfl) (pe_m1 PySem.F.slot_str_rstrip PySem.F.type_str_rstrip mt_rstripC (pv 0) pe_str)) (pss_cons (ps_set (i := 2) sc_read_marked_move.nd rfl (Or.inl rfl) (pe_slice sl_str (pv 0) (po_some (pe_callB call_len_str (by rfl) t.b_len PySem.boot_len (pa_cons (pv 1) pa_nil))) po_none)) (pss_cons (ps_set (i := 3) sc_read_marked_move.nd rfl (Or.inl rfl) (pe_callD (ok_read_move t) (hr.mono (by decide)) (passC cxn_ok) (pa_cons (pv 1) pa_nil))) (pss_cons (ps_if (pt_cmpR op_isN (pv 3) pe_non (nomark _)) (pss_one (ps_ret (pe_tup (pa_cons (pe_con1 t.k_WRONG) (pa_cons pe_non pa_nil))))) pss_nil) (pss_cons (ps_if (pt_cmpR op_eq (pv 2) pe_str (nomark _)) (pss_one (ps_ret (pe_tup (pa_cons (pe_con1 t.k_MOVE) (pa_cons (pe_tup (pa_cons (pv 3) (pa_cons (pe_tup pa_nil) pa_nil))) pa_nil))))) pss_nil) (pss_cons (ps_if (pt_cmpR (op_in_seqK (K := K) rfl) (pv 2) (pe_con1 t.k_MOVE_ENDS) (by with_unfolding_all rfl)) (pss_one (ps_ret (pe_tup (pa_cons (pe_con1 t.k_MOVE) (pa_cons (pe_tup (pa_cons (pv 3) (pa_cons (pe_tup (pa_cons (pe_op op_add (pe_bm PySem.F.plainAttrs_tuple PySem.F.slot_tuple_index PySem.F.type_tuple_index mt_tindex (pe_con1 t.k_MOVE_ENDS) (pa_cons (pv 2) pa_nil)) pe_int) pa_nil)) pa_nil))) pa_nil))))) pss_nil) (pss_one (ps_ret (pe_tup (pa_cons (pe_con1 t.k_WRONG) (pa_cons pe_non pa_nil))))))))))), ?_⟩
  tm_at "rd"
  have e46 : Txt.rstripChars (S l) (Str.ofString "!?") = S (M.rstrip bangP l) := rstrip_S l [33, 63] bangP (fun c => by rw [Bool.eq_iff_iff]; simp [bangP])
  obtain ⟨sx, r1, r2, r3⟩ := rstrip_parts bangP l
  have hle : (M.rstrip bangP l).length ≤ l.length := by
    have := congrArg List.length r1
    rw [List.length_append] at this; omega
  have hlt : ∀ c ∈ M.rstrip bangP l, c < 128 := fun c hcc => hc c (by rw [r1]; exact List.mem_append_left _ hcc)
  rw [e46]
  simp only [S_len]
  rw [cut_from l _ hle]
  unfold pMarked at q
  simp only [] at q
  refine ⟨sz (by omega), sz (by omega), sz (by omega), M.rstrip bangP l, rfl, by omega, hlt, fun H1 v s1 hv => ?_⟩
  cases hm : pMove (M.rstrip bangP l) with
  | none =>
    rw [hm] at q hv
    have hv : v = .non := hv
    rw [if_pos hv]
    exact ⟨sz (by decide), fun p hp => q _ _ (s1.trans (Same.updN hp)) ⟨p, _, rfl, SqT.of upd_same, rfl⟩⟩
  | some m =>
    rw [hm] at q hv
    obtain ⟨a, rfl, hv⟩ := hv
    rw [if_neg (by intro z; cases z)]
    refine ⟨rfl, ?_⟩
    simp only [] at q
    generalize l.drop (M.rstrip bangP l).length = e at q ⊢
    by_cases he : e = []
    · subst he
      rw [if_pos (show S [] = Str.ofString "" from rfl)]
      rw [if_pos rfl] at q
      refine ⟨Nat.zero_le _, fun p hp => ⟨sz (by decide), fun p1 hp1 => ⟨sz (by decide), fun p2 hp2 => ?_⟩⟩⟩
      have s2 := Same.updN (o := HO.tup []) hp
      have s3 := Same.updN (o := HO.tup [V.ref a, V.ref p]) hp1
      have s4 := Same.updN (o := HO.tup [V.str "move", V.ref p1]) hp2
      refine q _ _ (((s1.trans s2).trans s3).trans s4) ⟨p2, _, rfl, SqT.of upd_same, p1, _, _, rfl, s4.seqT (SqT.of upd_same), ⟨a, rfl, ((s2.trans s3).trans s4).seqT hv⟩, p, rfl, (s3.trans s4).seqT (SqT.of upd_same)⟩
    · have hne : ¬ (S e = Str.ofString "") := by
        rw [show Str.ofString "" = S [] from rfl, S_inj]; exact he
      rw [if_neg hne]
      rw [if_neg he] at q
      refine ⟨_, .inr (t.q_MOVE_ENDS H1), rfl, rfl, ?_⟩
      rw [show ([V.str (Str.ofString "!"), V.str (Str.ofString "?"), V.str (Str.ofString "!!"), V.str (Str.ofString "??"), V.str (Str.ofString "!?"), V.str (Str.ofString "?!")] : List V) = strV Vbdcam.SUFFIXES from rfl, inV_strs]
      by_cases hs : Vbdcam.SUFFIXES.contains e = true
      · rw [if_pos hs]
        rw [if_pos hs] at q
        obtain ⟨i1, i2⟩ := idx_strs e Vbdcam.SUFFIXES hs
        refine ⟨tyT t.ty_MOVE_ENDS, _, t.q_MOVE_ENDS H1, rfl, rfl, Vbdcam.SUFFIXES.idxOf e, _, i1, by rw [eqV_S]; simp, i2, sz (by decide), fun p hp => ⟨sz (by decide), fun p1 hp1 => ⟨sz (by decide), fun p2 hp2 => ?_⟩⟩⟩
        have s2 := Same.updN (o := HO.tup [V.int (((Vbdcam.SUFFIXES.idxOf e : Nat) : Int) + 1)]) hp
        have s3 := Same.updN (o := HO.tup [V.ref a, V.ref p]) hp1
        have s4 := Same.updN (o := HO.tup [V.str "move", V.ref p1]) hp2
        refine q _ _ (((s1.trans s2).trans s3).trans s4) ⟨p2, _, rfl, SqT.of upd_same, p1, _, _, rfl, s4.seqT (SqT.of upd_same), ⟨a, rfl, ((s2.trans s3).trans s4).seqT hv⟩, p, rfl, (s3.trans s4).seqT (SqT.of upd_same)⟩
      · rw [if_neg hs]
        rw [if_neg hs] at q
        exact ⟨sz (by decide), fun p hp => q _ _ (s1.trans (Same.updN hp)) ⟨p, _, rfl, SqT.of upd_same, rfl⟩⟩
theorem sc_read_word : FnScope ["signs"] ["signs"] (defScope (top 67)) := ⟨rfl, rfl, rfl, by decide +kernel, rfl, by decide +kernel, by decide +kernel⟩
theorem ok_read_word (t : Tx P w K mg A) : Def P w K mg base (CXN P w A.cNoRecord) 4 "read_word" ["signs"] (spWord K pWord) := by
  refine t.s_read_word.pure sc_read_word (fun vs H Q E h => ?_) fun f cdv Ar outer s H vs Q E hr h => ?_
  · obtain ⟨l, rfl, _⟩ := h; rfl
  obtain ⟨l, rfl, hl, hc, q⟩ := h
  refine ⟨_, (pss_cons (ps_if (pt_cmpR (op_in_seqK (K := K) rfl) (pv 0) (pe_con1 t.k_RESULTS) (by with_unfolding_all rfl)) (pss_one (ps_ret (pe_tup (pa_cons (pe_con1 t.k_RESULT) (pa_cons (pe_bm PySem.F.plainAttrs_tuple PySem.F.slot_tuple_index PySem.F.type_tuple_index mt_tindex (pe_con1 t.k_RESULTS) (pa_cons (pv 0) pa_nil)) pa_nil))))) pss_nil) (pss_cons (ps_if (pt_val (pe_m1 PySem.F.slot_str_startswith PySem.F.type_str_startswith mt_startswith (pv 0) pe_str)) (pss_one (ps_ret (pe_callD (ok_read_mark t) (hr.mono (by decide)) (passC cxn_ok) (pa_cons (pv 0) pa_nil)))) pss_nil) (pss_cons (ps_if (pt_val (pe_m1 PySem.F.slot_str_endswith PySem.F.type_str_endswith mt_endswith (pv 0) pe_str)) (pss_one (ps_ret (pe_callD (ok_read_number t) (hr.mono (by decide)) (passC cxn_ok) (pa_cons (pv 0) pa_nil)))) pss_nil) (pss_one (ps_ret (pe_callD (ok_read_marked_move t) (hr.mono (by decide)) (passC cxn_ok) (pa_cons (pv 0) pa_nil))))))), ?_⟩
  tm_at "rd"
  unfold pWord at q
  refine ⟨_, .inr (t.q_RESULTS H), rfl, rfl, ?_⟩
  rw [show ([V.str (Str.ofString "*"), V.str (Str.ofString "1-0"), V.str (Str.ofString "0-1"), V.str (Str.ofString "1/2")] : List V) = strV Vbdcam.RESULTS from rfl, inV_strs]
  by_cases hs : Vbdcam.RESULTS.contains l = true
  · rw [if_pos hs]
    rw [if_pos hs] at q
    obtain ⟨i1, i2⟩ := idx_strs l Vbdcam.RESULTS hs
    exact ⟨tyT t.ty_RESULTS, _, t.q_RESULTS H, rfl, rfl, Vbdcam.RESULTS.idxOf l, _, i1, by rw [eqV_S]; simp, i2, sz (by decide), fun p hp => q _ _ (Same.updN hp) ⟨p, _, rfl, SqT.of upd_same, rfl⟩⟩
  rw [if_neg hs, show Str.ofString "$" = S [36] from rfl, show Str.ofString "." = S [46] from rfl, starts1, ends1]
  rw [if_neg hs] at q
  by_cases h36 : l.head? = some 36
  · rw [if_pos (decide_eq_true h36)]
    rw [if_pos h36] at q
    exact ⟨l, rfl, hl, hc, q⟩
  rw [if_neg (by rw [decide_eq_false h36]; decide)]
  rw [if_neg h36] at q
  by_cases h46 : l.getLast? = some 46
  · rw [if_pos (decide_eq_true h46)]
    rw [if_pos h46] at q
    exact ⟨l, rfl, hl, hc, q⟩
  rw [if_neg (by rw [decide_eq_false h46]; decide)]
  rw [if_neg h46] at q
  exact ⟨l, rfl, hl, hc, q⟩
end
local macro_rules
  | `(tactic| tm_at "rd") => `(tactic| simp only [tSeq, tIfS, tOr, tNot, tB, tVar, tCB, tCons, tNil, tOp, tUn, tTest, tAnd, tRet, tAsg, gName, tIf, tC, tNext, tM0, tM1, L2.start, rI0, rI, rU, rIxS, rIxL, rIxT, rEq, rNe, tAndV, tOrV, tNotV, tChain, tTup, tLst, tCall, tDrop, tSl, tNoPart, tPart, rSlS, rSlL, rIn, tDGetK, tDInK, tDGet2K, tFld, sFld, sFldAug, rAdd, rSub, tAug, ipI, tBM, tBM0, tRetN, tYes, rAll, rAppend, rPop, rIndexT, rCatT, rEqD, rNeD, tVI, sXset, tFs, tRaise, gTup, gCons, gNil, gSub, rSetL, List.getElem?_cons_zero, List.getElem?_cons_succ, List.map_cons, List.map_nil, List.length_cons, List.length_nil, Nat.sub_self, Nat.reduceAdd, Nat.reduceSub, List.replicate, List.append_nil, List.cons_append, List.nil_append, Option.some.injEq, V.str.injEq, V.int.injEq, V.bl.injEq, V.ref.injEq, exists_eq_left', exists_eq_left, exists_and_left, true_and, and_true, exists_eq', exists_eq, List.cons.injEq, List.set_cons_zero, List.set_cons_succ, if_true, Bool.not_true, Bool.not_false, Bool.false_eq_true, if_false, wipe, List.getElem?_nil, decide_eq_true_eq, and_assoc, rCatTT])
section
variable {P : Program} {w : World} {K : PySem.W.Frag} {mg : Str → Option Value} {base : Heap} {A : Adr}
theorem Paired.at {α β : Type} {F : α → β → Prop} : ∀ {xs : List α} {ys : List β} {i : Nat} {x : α}, Paired F xs ys → xs[i]? = some x → ∃ y, ys[i]? = some y ∧ F x y
  | _, _, _, _, .nil, e => by simp at e
  | _, _, 0, _, .cons r _, e => by
    have e : some _ = some _ := e
    cases e; exact ⟨_, rfl, r⟩
  | _, _, i + 1, x, .cons _ t, e => by
    obtain ⟨y, h1, h2⟩ := Paired.at (i := i) (x := x) t (by simpa using e)
    exact ⟨y, by simpa using h1, h2⟩
theorem Paired.len {α β : Type} {F : α → β → Prop} : ∀ {xs : List α} {ys : List β}, Paired F xs ys → xs.length = ys.length
  | _, _, .nil => rfl
  | _, _, .cons _ t => by rw [List.length_cons, List.length_cons, Paired.len t]
theorem Paired.map {α β : Type} {F G : α → β → Prop} : ∀ {xs : List α} {ys : List β}, Paired F xs ys → (∀ a b, F a b → G a b) → Paired G xs ys
  | _, _, .nil, _ => .nil
  | _, _, .cons r t, h => .cons (h _ _ r) (Paired.map t h)
theorem LnAt.keep {K : PySem.W.Frag} {H H' : Hp} {xs : List V} {l : List FI} (s : Same H H') (h : LnAt K H xs l) : LnAt K H' xs l := Paired.map h fun _ _ q => q.keep s
theorem take_snoc {α : Type} : ∀ {l : List α} {i : Nat} {x : α}, l[i]? = some x → l.take (i + 1) = l.take i ++ [x] := fun {l i x} h => by rw [List.take_add_one, h]; rfl
theorem sc_can_take_mark : FnScope ["line"] ["line"] (defScope (top 26)) := ⟨rfl, rfl, rfl, by decide +kernel, rfl, by decide +kernel, by decide +kernel⟩
theorem ok_can_take_mark (t : Tx P w K mg A) : Def P w K mg base (CXN P w A.cNoRecord) 1 "can_take_mark" ["line"] (spCanMark K) := by
  refine t.s_can_take_mark.pure sc_can_take_mark (fun vs H Q E h => ?_) fun f cdv Ar outer s H vs Q E hr h => ?_
  · obtain ⟨a, xs, l, rfl, _⟩ := h; rfl
  obtain ⟨a, xs, l, rfl, ha, hi, q⟩ := h
  refine ⟨_, (pss_one (ps_ret (pe_and (pe_cmpR op_gt (pe_callB (call_len_seqK (K := K) rfl) (by rfl) t.b_len PySem.boot_len (pa_cons (pv 0) pa_nil)) pe_int (nomark _)) (pe_and (pe_cmpR op_eq (pe_ix (ix_tupK (K := K) rfl) (pe_ix (ix_listK (K := K) rfl) (pv 0) (pe_un un_neg pe_int) (fun _ _ => rfl)) pe_int (fun _ _ => rfl)) (pe_con1 t.k_MOVE) (nomark _)) (pe_one (pe_cmpR op_lt (pe_callB (call_len_seqK (K := K) rfl) (by rfl) t.b_len PySem.boot_len (pa_cons (pe_ix (ix_tupK (K := K) rfl) (pe_ix (ix_listK (K := K) rfl) (pv 0) (pe_un un_neg pe_int) (fun _ _ => rfl)) pe_int (fun _ _ => rfl)) pa_nil)) (pe_con1 t.k_MOST_MARKS) (nomark _))))))), ?_⟩
  tm_at "rd"
  have hlen := Paired.len hi
  refine ⟨_, .inl (SqL.of ha), ?_⟩
  unfold canMark at q
  by_cases h0 : l = []
  · subst h0
    rw [if_neg (by rw [hlen]; simp)]
    exact q
  have hpos : 0 < l.length := List.length_pos_iff.mpr h0
  rw [if_pos (by rw [hlen]; omega)]
  have hlast : xs[xs.length - 1]? = some xs[xs.length - 1] := List.getElem?_eq_getElem (by omega)
  have hat : atI xs (-1) = some xs[xs.length - 1] := by
    unfold atI ixN
    rw [if_neg (by decide), if_pos (by omega)]
    show xs[((-1 : Int) + xs.length).toNat]? = _
    rw [show ((-1 : Int) + xs.length).toNat = xs.length - 1 by omega, hlast]
  obtain ⟨y, hy, hxy⟩ := Paired.at hi hlast
  have hgl : l.getLast? = some y := by rw [List.getLast?_eq_getElem?, ← hlen]; exact hy
  rw [hgl] at q
  refine ⟨_, SqL.of ha, _, hat, ?_⟩
  obtain ⟨b, eb, hb⟩ := hxy
  rw [eb] at hat ⊢
  refine ⟨b, rfl, ?_⟩
  cases y with
  | move m ms =>
    obtain ⟨x1, y1, h1, h2, ⟨c, rfl, h3⟩⟩ := hb
    refine ⟨_, h1, _, atI_0, rfl, ?_⟩
    rw [if_pos rfl]
    refine ⟨_, SqL.of ha, _, hat, b, rfl, _, h1, _, atI_nat (j := 2) rfl, c, rfl, _, .inr h3, ?_⟩
    rw [iv_len]
    have e : decide (((ms.length : Nat) : Int) < 4) = decide (ms.length < 4) := by rw [decide_eq_decide]; omega
    rw [e]
    exact q
  | note tt =>
    obtain ⟨y1, h1, _⟩ := hb
    refine ⟨_, h1, _, atI_0, rfl, ?_⟩
    rw [if_neg (by decide)]
    exact q
  | opn bb =>
    refine ⟨_, hb, _, atI_0, rfl, ?_⟩
    rw [if_neg (by cases bb <;> decide)]
    exact q
  | cls bb =>
    refine ⟨_, hb, _, atI_0, rfl, ?_⟩
    rw [if_neg (by cases bb <;> decide)]
    exact q
theorem sc_marked : FnScope ["move_item", "mark"] ["move_item", "mark"] (defScope (top 27)) := ⟨rfl, rfl, rfl, by decide +kernel, rfl, by decide +kernel, by decide +kernel⟩
theorem ok_marked (t : Tx P w K mg A) : Def P w K mg base (CXN P w A.cNoRecord) 1 "marked" ["move_item", "mark"] (spMarked K) := by
  refine t.s_marked.pure sc_marked (fun vs H Q E h => ?_) fun f cdv Ar outer s H vs Q E hr h => ?_
  · obtain ⟨v, m, ms, n, rfl, _⟩ := h; rfl
  obtain ⟨v, m, ms, n, rfl, ⟨a, rfl, x, y, hs, hx, y2, rfl, hy⟩, hl, q⟩ := h
  refine ⟨_, (pss_one (ps_ret (pe_tup (pa_cons (pe_con1 t.k_MOVE) (pa_cons (pe_ix (ix_tupK (K := K) rfl) (pv 0) pe_int (fun _ _ => rfl)) (pa_cons (pe_op (op_catTT (K := K) rfl) (pe_ix (ix_tupK (K := K) rfl) (pv 0) pe_int (fun _ _ => rfl)) (pe_tup (pa_cons (pv 1) pa_nil))) pa_nil)))))), ?_⟩
  tm_at "rd"
  refine ⟨_, hs, _, atI_nat (j := 1) rfl, _, hs, _, atI_nat (j := 2) rfl, sz (by decide), fun p hp => ?_⟩
  have s1 := Same.updN (o := HO.tup [nv n]) hp
  by_cases h0 : ms = []
  · subst h0
    refine .inr ⟨y2, rfl, s1.seqT hy, _, SqT.of upd_same, sz (by decide), fun p2 hp2 => ?_⟩
    have s2 := Same.updN (o := HO.tup [V.str "move", x, V.ref p]) hp2
    exact q _ _ (s1.trans s2) ⟨p2, rfl, x, _, SqT.of upd_same, hx.keep (s1.trans s2), p, rfl, s2.seqT (SqT.of upd_same)⟩
  · refine .inl ⟨y2, rfl, _, s1.seqT hy, _, SqT.of upd_same, ?_, ?_, ?_, ?_⟩
    · intro z
      exact h0 (List.map_eq_nil_iff.mp z)
    · rw [iv_len]; exact sz (by simp; omega)
    · intro z; cases z
    · intro _ p1 hp1
      have s2 := Same.updN (o := HO.tup (iv ms ++ [nv n])) hp1
      refine ⟨sz (by decide), fun p2 hp2 => ?_⟩
      have s3 := Same.updN (o := HO.tup [V.str "move", x, V.ref p1]) hp2
      refine q _ _ ((s1.trans s2).trans s3) ⟨p2, rfl, x, _, SqT.of upd_same, hx.keep ((s1.trans s2).trans s3), p1, rfl, s3.seqT ?_⟩
      have : iv (ms ++ [n]) = iv ms ++ [nv n] := by simp [iv]
      rw [this]
      exact SqT.of upd_same
end
local macro_rules
  | `(tactic| tm_at "rd") => `(tactic| simp only [tSeq, tIfS, tOr, tNot, tB, tVar, tCB, tCons, tNil, tOp, tUn, tTest, tAnd, tRet, tAsg, gName, tIf, tC, tNext, tM0, tM1, L2.start, rI0, rI, rU, rIxS, rIxL, rIxT, rEq, rNe, tAndV, tOrV, tNotV, tChain, tTup, tLst, tCall, tDrop, tSl, tNoPart, tPart, rSlS, rSlL, rIn, tDGetK, tDInK, tDGet2K, tFld, sFld, sFldAug, rAdd, rSub, tAug, ipI, tBM, tBM0, tRetN, tYes, rAll, rAppend, rPop, rIndexT, rCatT, rEqD, rNeD, tVI, sXset, tFs, tRaise, gTup, gCons, gNil, gSub, rSetL, List.getElem?_cons_zero, List.getElem?_cons_succ, List.map_cons, List.map_nil, List.length_cons, List.length_nil, Nat.sub_self, Nat.reduceAdd, Nat.reduceSub, List.replicate, List.append_nil, List.cons_append, List.nil_append, Option.some.injEq, V.str.injEq, V.int.injEq, V.bl.injEq, V.ref.injEq, exists_eq_left', exists_eq_left, exists_and_left, true_and, and_true, exists_eq', exists_eq, List.cons.injEq, List.set_cons_zero, List.set_cons_succ, if_true, Bool.not_true, Bool.not_false, Bool.false_eq_true, if_false, wipe, List.getElem?_nil, decide_eq_true_eq, and_assoc, rCatTT, tMake])
section
variable {P : Program} {w : World} {K : PySem.W.Frag} {mg : Str → Option Value} {base : Heap} {A : Adr}
structure New (P : Program) (w : World) (K : PySem.W.Frag) (mg : Str → Option Value) (base : Heap) (CX : CXT) (k : Nat) (x : Str) (C : Addr) (ps : List Str) (sp : Sp) : Prop where
  ex : ∃ f fd, Mk K C f ∧ FnOk P w K mg base CX k f fd ps sp ∧ Binds K fd ps [] ∧ mg x = some (.ref C)
theorem _root_.L2.Fun.pure {CX : CXT} {x qual : Str} {st : Stmt} {f : Addr} {fd : FuncData} {N ps : List Str} {k : Nat} {sp : Sp} (F : Fun K x qual st f fd) (S : FnScope N ps (defScope st)) (len : ∀ vs H Q E, sp vs H Q E → vs.length = ps.length)
    (hbody : ∀ (cdv : Value) (A : Around) (outer : List Env) (s : Shared) (H : Hp) (vs : List V) (Q : VK) (E : XK), Room k (A.deeper (envOfC qual (defScope st) s.heap.objs.size f cdv)) → sp vs H Q E →
      ∃ t, PSs (cxOf CX P w K mg base N qual (defScope st) f cdv A outer s H E).nox (defBody st) t ∧ t { nx := fun _ H' => Q .non H', rt := Q } (L2.start N vs) H) : FnOk P w K mg base CX (k + 1) f fd ps sp := by
  obtain ⟨oc, od, kV, doc, pm, an, cdv, ct, osl, rfl, lk, hcd⟩ := F.ex
  refine fn_of lk hcd S len fun A outer s H vs Q E hr hsp => ?_
  obtain ⟨t, h, q⟩ := hbody cdv A outer s H vs Q E hr hsp
  exact ⟨t, h.nox, q⟩
theorem pe_newC {X : Cx} {CX : CXT} {k : Nat} {x : Str} {C : Addr} {ps : List Str} {sp : Sp} {E : XK} {p pos : Pos} {e : Expr} {es : List Expr} {t : TA} (N : New X.prog X.w X.K X.mg X.base CX k x C ps sp) (hr : Room (k + 1) X.A) (hx : Passes CX X E) (ha : PA X (e :: es) t)
    (hg : Gl X x := by rfl) (hdb : (x == ("__debug__" : Str)) = false := by decide) (he : starEach (e :: es) X.env = (false, eval e X.env) :: starEach es X.env := by rfl) (hpl : (backTo pos (starEach es X.env)).any (·.1) = false := by rfl) :
    PE X (.Call (.Name x p) (e :: es) [] pos) (tMake C sp [] E t) := by
  obtain ⟨f, fd, M, F, hb, hm⟩ := N.ex
  exact pe_make M F hr hg hm hb .nil hx ha hdb he hpl
theorem same_make {H : Hp} {x dx : Addr} {o u : HO} (h1 : H x = none) (h2 : H dx = none) : Same H (upd (upd H dx u) x o) := fun b v e => by
  rw [upd_ne (ne_of_none e h1), upd_ne (ne_of_none e h2)]; exact e
def spTok (C : Addr) : Sp := fun vs H Q _ => ∃ (x dx : Addr) (k y b e : V), vs = [.ref x, k, y, b, e] ∧ H x = some (.ins C dx []) ∧ Q .non (upd H x (.ins C dx [("kind", k), ("told", y), ("begin", b), ("end", e)]))
theorem sc_Token : FnScope ["self", "kind", "told", "begin", "end"] ["self", "kind", "told", "begin", "end"] (defScope (inClass (top 79) 0)) := ⟨rfl, rfl, rfl, by decide +kernel, rfl, by decide +kernel, by decide +kernel⟩
theorem new_Token (t : Tx P w K mg A) : New P w K mg base (CXN P w A.cNoRecord) 1 "Token" A.cToken ["self", "kind", "told", "begin", "end"] (spTok A.cToken) := by
  obtain ⟨fd, F, hb⟩ := t.f_Token
  refine ⟨A.iToken, fd, t.mk_Token, F.pure sc_Token (fun vs H Q E h => ?_) (fun cdv Ar outer s H vs Q E hr h => ?_), hb, t.mg_Token⟩
  · obtain ⟨x, dx, k, y, b, e, rfl, _⟩ := h; rfl
  obtain ⟨x, dx, k, y, b, e, rfl, hx, q⟩ := h
  refine ⟨_, (pss_cons (ps_fld (pv 0) (pv 1) rfl) (pss_cons (ps_fld (pv 0) (pv 2) rfl) (pss_cons (ps_fld (pv 0) (pv 3) rfl) (pss_one (ps_fld (pv 0) (pv 4) rfl))))), ?_⟩
  tm_at "rd"
  refine ⟨_, _, _, hx, t.cl_Token, t.na_Token_kind, (by show 0 < 1000; decide), _, _, _, upd_same, t.cl_Token, t.na_Token_told, (by show 1 < 1000; decide), _, _, _, upd_same, t.cl_Token, t.na_Token_begin, (by show 2 < 1000; decide), _, _, _, upd_same, t.cl_Token, t.na_Token_end, (by show 3 < 1000; decide), ?_⟩
  rw [upd_upd, upd_upd, upd_upd]
  exact q
theorem tk_made {C x dx : Addr} {H H1 : Hp} {o : Option Tk} {y ve : V} {b e : Nat} {Q : VK} (h1 : H1 x = none) (h2 : H1 dx = none) (hd : dx ≠ x) (s : Same H H1) (ho : OTold K H1 y o) (q : ∀ H' x, Same H H' → TkAt K C H' x o b e → Q (.ref x) H') (he : ve = nv e := by rfl) {kd : Str} (hk : kd = okind o := by rfl) :
    spTok C [.ref x, .str kd, y, nv b, ve] (upd (upd H1 dx (.own x)) x (.ins C dx [])) (fun v H2 => v = .non ∧ Q (.ref x) H2) E0 := by
  subst he hk
  refine ⟨x, dx, _, _, _, _, rfl, upd_same, rfl, ?_⟩
  rw [upd_upd]
  have sm := same_make (o := .ins C dx [("kind", .str (okind o)), ("told", y), ("begin", nv b), ("end", nv e)]) (u := .own x) h1 h2
  exact q _ _ (s.trans sm) ⟨dx, y, upd_same, ho.keep sm⟩
theorem cut_sl (l : List Nat) (i j : Nat) {x y : Int} (hx : x = (i : Nat) := by rfl) (hy : y = (j : Nat) := by rfl) : cutV (iv l) (some x) (some y) = iv (sl l i j) := by
  subst hx hy
  unfold cutV sl iv
  have e : ∀ (n d : Nat) (i : Nat), HT.sIx n d (some (i : Int)) = min i n := by
    intro n d i
    simp only [HT.sIx]
    rw [if_neg (by omega)]
    omega
  rw [List.length_map, e, e, ← List.map_drop, ← List.map_take]
  congr 1
  rw [List.drop_take]
  rcases Nat.lt_or_ge i l.length with h | h
  · rw [Nat.min_eq_left (Nat.le_of_lt h)]
    rcases Nat.lt_or_ge j l.length with h' | h'
    · rw [Nat.min_eq_left (Nat.le_of_lt h')]
    · rw [Nat.min_eq_right h', List.take_of_length_le (by simp), List.take_of_length_le (by simp; omega)]
  · rw [Nat.min_eq_right h, List.drop_of_length_le (Nat.le_refl _), List.drop_of_length_le h]; simp
def dpi (l : List Nat) : List PyData := l.map fun c => .int (c : Nat)
theorem dp_iv {H : Hp} : ∀ l : List Nat, DpAll K H (iv l) (dpi l)
  | [] => .nil
  | _ :: r => .cons (.int _) (dp_iv r)
theorem eqv_iv : ∀ a b : List Nat, PyData.eqvAll (dpi a) (dpi b) = decide (a = b)
  | [], [] => by simp [dpi, PyData.eqvAll]
  | [], _ :: _ => by simp [dpi, PyData.eqvAll]
  | _ :: _, [] => by simp [dpi, PyData.eqvAll]
  | x :: a, y :: b => by
    show (PyData.eqv (.int (x : Nat)) (.int (y : Nat)) && PyData.eqvAll (dpi a) (dpi b)) = _
    rw [eqv_iv a b, Bool.eq_iff_iff]
    simp only [PyData.eqv, Bool.and_eq_true, beq_iff_eq, decide_eq_true_eq, List.cons.injEq]
    exact ⟨fun ⟨h1, h2⟩ => ⟨by omega, h2⟩, fun ⟨h1, h2⟩ => ⟨by omega, h2⟩⟩
theorem lay_iv : ∀ l : List Nat, PyData.canLayAll0 (dpi l) = true
  | [] => by simp [dpi, PyData.canLayAll0]
  | x :: a => by
    show (PyData.canLay0 (.int (x : Nat)) && PyData.canLayAll0 (dpi a)) = true
    rw [lay_iv a]; simp [PyData.canLay0]
theorem dep_iv : ∀ l : List Nat, PyData.depthAll (dpi l) = 0
  | [] => by simp [dpi, PyData.depthAll]
  | x :: a => by
    show max (PyData.depth (.int (x : Nat))) (PyData.depthAll (dpi a)) = 0
    rw [dep_iv a]; simp [PyData.depth]
theorem shp_l (l : List Nat) : SeqAt.shaped (.list (dpi l)) = true := by
  simp [SeqAt.shaped, PyData.canLay0, PyData.depth, lay_iv, dep_iv]
theorem shp_t (l : List Nat) : SeqAt.shaped (.tuple (dpi l)) = true := by
  simp [SeqAt.shaped, PyData.canLay0, PyData.depth, lay_iv, dep_iv]
theorem eqv_l (a b : List Nat) : PyData.eqv (.list (dpi a)) (.list (dpi b)) = decide (a = b) := by
  rw [← eqv_iv]; simp [PyData.eqv]
theorem eqv_t (a b : List Nat) : PyData.eqv (.tuple (dpi a)) (.tuple (dpi b)) = decide (a = b) := by
  rw [← eqv_iv]; simp [PyData.eqv]
theorem at_iv {l : List Nat} {i c : Nat} (h : l[i]? = some c) : atI (iv l) (i : Int) = some (nv c) := atI_nat (j := i) (by unfold iv; rw [List.getElem?_map, h]; rfl)
theorem nv_inj {a b : Nat} : nv a = nv b ↔ a = b := ⟨fun h => by have := V.int.inj h; omega, fun h => by rw [h]⟩
theorem inV_blank (c : Nat) : inV (nv c) [.int 32, .int 10] = Vbdcam.blank c := by
  show inV (nv c) (iv [32, 10]) = _
  rw [inV_iv]
  unfold Vbdcam.blank
  rw [Bool.eq_iff_iff]
  simp
theorem valV_brk (c : Nat) : valV [((Sum.inl 40 : Key), V.str (Str.ofString "(")), (Sum.inl 41, V.str (Str.ofString ")")), (Sum.inl 60, V.str (Str.ofString "<")), (Sum.inl 62, V.str (Str.ofString ">"))] (Sum.inl (c : Int) : Key) =
    if c = 40 then some (V.str (Str.ofString "(")) else if c = 41 then some (V.str (Str.ofString ")")) else if c = 60 then some (V.str (Str.ofString "<")) else if c = 62 then some (V.str (Str.ofString ">")) else none := by
  by_cases h1 : c = 40
  · subst h1; rfl
  by_cases h2 : c = 41
  · subst h2; rfl
  by_cases h3 : c = 60
  · subst h3; rfl
  by_cases h4 : c = 62
  · subst h4; rfl
  rw [if_neg h1, if_neg h2, if_neg h3, if_neg h4]
  unfold valV
  have e : ∀ k : Nat, c ≠ k → decide ((Sum.inl (k : Int) : Key) = (Sum.inl (c : Int) : Key)) = false := fun k hk => decide_eq_false fun z => hk (by have := Sum.inl.inj z; omega)
  have e1 := e 40 h1
  have e2 := e 41 h2
  have e3 := e 60 h3
  have e4 := e 62 h4
  simp only [List.find?_cons]
  rw [show ((40 : Nat) : Int) = 40 from rfl] at e1
  rw [show ((41 : Nat) : Int) = 41 from rfl] at e2
  rw [show ((60 : Nat) : Int) = 60 from rfl] at e3
  rw [show ((62 : Nat) : Int) = 62 from rfl] at e4
  simp only [e1, e2, e3, e4]
  rfl
theorem sgs_lt (l : List Nat) : ∀ c ∈ sgs l, c < 128 := by
  intro c hc
  obtain ⟨d, _, rfl⟩ := List.mem_map.mp (show c ∈ l.map sg from hc)
  exact sg_lt d
theorem inV_stops (c : Nat) : inV (nv c) [V.int 32, V.int 10, V.int 40, V.int 41, V.int 60, V.int 62, V.int 91, V.int 93, V.int 123, V.int 125] = !Vbdcam.inWord c := by
  show inV (nv c) (iv [32, 10, 40, 41, 60, 62, 91, 93, 123, 125]) = _
  rw [inV_iv]
  unfold Vbdcam.inWord Vbdcam.blank
  rw [Bool.eq_iff_iff]
  simp
  omega
theorem sl_le (l : List Nat) (i j : Nat) : (sl l i j).length ≤ l.length := by
  unfold sl
  rw [List.length_drop, List.length_take]
  omega
def spWrong (K : PySem.W.Frag) (C : Addr) : Sp := fun vs H Q _ => ∃ s : Nat, vs = [nv s] ∧ ∀ H' x, Same H H' → TkAt K C H' x (some .bad) s (s + 1) → Q (.ref x) H'
def spFind (K : PySem.W.Frag) : Sp := fun vs H Q _ => ∃ (a : Addr) (l : List Nat) (b s : Nat), vs = [.ref a, nv b, nv s] ∧ SqL K H a (iv l) ∧ l.length ≤ 10000 ∧ Q (nv (pFind l b s)) H
def spBlanks (K : PySem.W.Frag) : Sp := fun vs H Q _ => ∃ (a : Addr) (l : List Nat) (s : Nat), vs = [.ref a, nv s] ∧ SqL K H a (iv l) ∧ l.length ≤ 10000 ∧ ∀ H', Same H H' → Q (nv (pBlanks l s)) H'
def spTokAt (K : PySem.W.Frag) (C : Addr) (f : List Nat → Nat → Tk × Nat) : Sp := fun vs H Q _ => ∃ (a : Addr) (l : List Nat) (s : Nat), vs = [.ref a, nv s] ∧ SqL K H a (iv l) ∧ l.length ≤ 10000 ∧ s < l.length ∧
  ∀ H' x, Same H H' → TkAt K C H' x (some (f l s).1) s (f l s).2 → Q (.ref x) H'
theorem sc_wrong_at : FnScope ["spot"] ["spot"] (defScope (top 83)) := ⟨rfl, rfl, rfl, by decide +kernel, rfl, by decide +kernel, by decide +kernel⟩
theorem ok_wrong_at (t : Tx P w K mg A) : Def P w K mg base (CXN P w A.cNoRecord) 3 "wrong_at" ["spot"] (spWrong K A.cToken) := by
  refine t.s_wrong_at.pure sc_wrong_at (fun vs H Q E h => ?_) fun f cdv Ar outer s H vs Q E hr h => ?_
  · obtain ⟨s, rfl, _⟩ := h; rfl
  obtain ⟨s, rfl, q⟩ := h
  refine ⟨_, (pss_one (ps_ret (pe_newC (new_Token t) (hr.mono (by decide)) (passC cxn_ok) (pa_cons (pe_con1 t.k_WRONG) (pa_cons pe_non (pa_cons (pv 0) (pa_cons (pe_op op_add (pv 0) pe_int) pa_nil))))))), ?_⟩
  tm_at "rd"
  exact fun x dx h1 h2 hd => tk_made (o := some .bad) h1 h2 hd (.refl _) rfl q
theorem sc_find_byte : FnScope ["text", "byte", "spot"] ["text", "byte", "spot"] (defScope (top 87)) := ⟨rfl, rfl, rfl, by decide +kernel, rfl, by decide +kernel, by decide +kernel⟩
theorem ok_find_byte (t : Tx P w K mg A) : Def P w K mg base (CXN P w A.cNoRecord) 1 "find_byte" ["text", "byte", "spot"] (spFind K) := by
  refine t.s_find_byte.pure sc_find_byte (fun vs H Q E h => ?_) fun f cdv Ar outer s H vs Q E hr h => ?_
  · obtain ⟨a, l, b, s, rfl, _⟩ := h; rfl
  obtain ⟨a, l, b, s, rfl, hs, hl, q⟩ := h
  refine ⟨_, (pss_cons (ps_while PassesOwn.never (pw_and (pt_cmpR op_lt (pv 2) (pe_callB (call_len_seqK (K := K) rfl) (by rfl) t.b_len PySem.boot_len (pa_cons (pv 0) pa_nil)) (nomark _)) (pw_and1 (pt_cmpR op_ne (pe_ix (ix_listK (K := K) rfl) (pv 0) (pv 2) (fun _ _ => rfl)) (pv 1) (nomark _)))).pt (pss_one (ps_aug (i := 2) sc_find_byte.nd rfl (Or.inl rfl) pe_int ip_add))) (pss_one (ps_ret (pv 2)))), ?_⟩
  tm_at "rd"
  refine ⟨fun m σ H' => ∃ s' : Nat, H' = H ∧ σ = [some (.ref a), some (nv b), some (nv s')] ∧ pFind l b s' = pFind l b s ∧ m = l.length - s', ⟨_, s, rfl, rfl, rfl, rfl⟩, ?_⟩
  rintro m σ H' ⟨s', eH, rfl, e, rfl⟩
  subst eH
  tm_at "rd"
  refine ⟨_, .inl hs, ?_⟩
  rw [iv_len]
  by_cases h : s' < l.length
  · rw [if_pos (by omega)]
    have hg : l[s']? = some l[s'] := List.getElem?_eq_getElem h
    refine ⟨_, hs, _, at_iv hg, rfl, ?_⟩
    by_cases hb : l[s'] = b
    · rw [if_neg (by rw [hb]; simp)]
      have e1 : pFind l b s' = s' := run1_stop fun c hc => by rw [hg] at hc; cases hc; rw [hb]; simp
      rw [← e, e1] at q
      exact q
    · rw [if_pos (by rw [Bool.not_eq_true', decide_eq_false_iff_not, nv_inj]; exact hb)]
      exact ⟨_, fun _ _ z => z, l.length - (s' + 1), by omega, rfl, s' + 1, rfl, by rw [← e, find_step hg hb], rfl⟩
  · rw [if_neg (by omega)]
    have e1 : pFind l b s' = s' := run1_stop fun c hc => by rw [List.getElem?_eq_none (by omega)] at hc; cases hc
    rw [← e, e1] at q
    exact q
theorem sc_behind_blanks : FnScope ["text", "spot"] ["text", "spot"] (defScope (top 81)) := ⟨rfl, rfl, rfl, by decide +kernel, rfl, by decide +kernel, by decide +kernel⟩
theorem ok_behind_blanks (t : Tx P w K mg A) : Def P w K mg base (CXN P w A.cNoRecord) 1 "behind_blanks" ["text", "spot"] (spBlanks K) := by
  refine t.s_behind_blanks.pure sc_behind_blanks (fun vs H Q E h => ?_) fun f cdv Ar outer s H vs Q E hr h => ?_
  · obtain ⟨a, l, s, rfl, _⟩ := h; rfl
  obtain ⟨a, l, s, rfl, hs, hl, q⟩ := h
  refine ⟨_, (pss_cons (ps_while PassesOwn.never (pw_and (pt_cmpR op_lt (pv 1) (pe_callB (call_len_seqK (K := K) rfl) (by rfl) t.b_len PySem.boot_len (pa_cons (pv 0) pa_nil)) (nomark _)) (pw_and1 (pt_cmpR (op_in_seqK (K := K) rfl) (pe_ix (ix_listK (K := K) rfl) (pv 0) (pv 1) (fun _ _ => rfl)) (pe_tup (pa_cons (pe_con1 t.k_BLANK) (pa_cons (pe_con1 t.k_ROW_END) pa_nil))) (by with_unfolding_all rfl)))).pt (pss_one (ps_aug (i := 1) sc_behind_blanks.nd rfl (Or.inl rfl) pe_int ip_add))) (pss_one (ps_ret (pv 1)))), ?_⟩
  tm_at "rd"
  refine ⟨fun m σ H' => ∃ s' : Nat, Same H H' ∧ σ = [some (.ref a), some (nv s')] ∧ pBlanks l s' = pBlanks l s ∧ m = l.length - s', ⟨_, s, .refl _, rfl, rfl, rfl⟩, ?_⟩
  rintro m σ H' ⟨s', sH, rfl, e, rfl⟩
  tm_at "rd"
  refine ⟨_, .inl (sH.seq hs), ?_⟩
  rw [iv_len]
  by_cases h : s' < l.length
  · rw [if_pos (by omega)]
    have hg : l[s']? = some l[s'] := List.getElem?_eq_getElem h
    refine ⟨_, sH.seq hs, _, at_iv hg, sz (by decide), fun p hp => ⟨_, .inr (SqT.of upd_same), rfl, rfl, ?_⟩⟩
    have sm := sH.trans (Same.updN (o := HO.tup [V.int 32, V.int 10]) hp)
    rw [inV_blank]
    by_cases hb : Vbdcam.blank l[s'] = true
    · rw [if_pos hb]
      exact ⟨_, fun _ _ z => z, l.length - (s' + 1), by omega, sm, s' + 1, rfl, by rw [← e]; exact (run1_step hg hb).symm, rfl⟩
    · rw [if_neg hb]
      have e1 : pBlanks l s' = s' := run1_stop fun c hc => by rw [hg] at hc; cases hc; simpa using hb
      rw [← e, e1] at q
      exact q _ sm
  · rw [if_neg (by omega)]
    have e1 : pBlanks l s' = s' := run1_stop fun c hc => by rw [List.getElem?_eq_none (by omega)] at hc; cases hc
    rw [← e, e1] at q
    exact q _ sH
theorem sc_note_at : FnScope ["text", "spot", "end", "note"] ["text", "spot"] (defScope (top 84)) := ⟨rfl, rfl, rfl, by decide +kernel, rfl, by decide +kernel, by decide +kernel⟩
theorem ok_note_at (t : Tx P w K mg A) : Def P w K mg base (CXN P w A.cNoRecord) 4 "note_at" ["text", "spot"] (spTokAt K A.cToken pNote) := by
  refine t.s_note_at.pure sc_note_at (fun vs H Q E h => ?_) fun f cdv Ar outer s H vs Q E hr h => ?_
  · obtain ⟨a, l, s, rfl, _⟩ := h; rfl
  obtain ⟨a, l, s, rfl, hs, hl, hlt, q⟩ := h
  refine ⟨_, (pss_cons (ps_set (i := 2) sc_note_at.nd rfl (Or.inl rfl) (pe_callD (ok_find_byte t) (hr.mono (by decide)) (passC cxn_ok) (pa_cons (pv 0) (pa_cons (pe_con1 t.k_NOTE_END) (pa_cons (pv 1) pa_nil))))) (pss_cons (ps_set (i := 3) sc_note_at.nd rfl (Or.inl rfl) (pe_callTy call_tuple_of (by rfl) t.b_tuple boot_tuple (pa_cons (pe_slice sl_list (pv 0) (po_some (pe_op op_add (pv 1) pe_int)) (po_some (pv 2))) pa_nil))) (pss_cons (ps_if (pw_or (pt_cmpR op_eq (pv 2) (pe_callB (call_len_seqK (K := K) rfl) (by rfl) t.b_len PySem.boot_len (pa_cons (pv 0) pa_nil)) (nomark _)) (pw_or1 (pt_not (pt_val (pe_callD (ok_is_note t) (hr.mono (by decide)) (passC cxn_ok) (pa_cons (pv 3) pa_nil)))))).pt (pss_one (ps_ret (pe_callD (ok_wrong_at t) (hr.mono (by decide)) (passC cxn_ok) (pa_cons (pv 1) pa_nil)))) pss_nil) (pss_one (ps_ret (pe_newC (new_Token t) (hr.mono (by decide)) (passC cxn_ok) (pa_cons (pe_con1 t.k_NOTE) (pa_cons (pv 3) (pa_cons (pv 1) (pa_cons (pe_op op_add (pv 2) pe_int) pa_nil)))))))))), ?_⟩
  tm_at "rd"
  refine ⟨a, l, 125, s, rfl, hs, hl, _, rfl, _, hs, fun p hp => ?_⟩
  rw [cut_sl l (s + 1) (pFind l 125 s)]
  refine ⟨_, .inl ⟨SqL.of upd_same, fun u hu => ?_⟩⟩
  have s1 := (Same.updN (o := HO.lst (iv (sl l (s + 1) (pFind l 125 s)))) hp).trans (Same.updN (o := HO.tup (iv (sl l (s + 1) (pFind l 125 s)))) hu)
  refine ⟨_, .inl (s1.seq hs), rfl, ?_⟩
  rw [iv_len]
  unfold pNote at q
  simp only [] at q
  by_cases h1 : pFind l 125 s = l.length
  · rw [if_pos (nv_inj.mpr h1)]
    rw [if_pos (.inl h1)] at q
    exact ⟨s, rfl, fun H' x s2 tk => q H' x (s1.trans s2) tk⟩
  rw [if_neg (fun z => h1 (nv_inj.mp z))]
  refine ⟨_, _, rfl, .inr (SqT.of upd_same), Nat.le_trans (sl_le ..) hl, fun H2 s2 => ⟨_, rfl, ?_⟩⟩
  by_cases h2 : Vbdcam.goodNote (sl l (s + 1) (pFind l 125 s)) = true
  · rw [if_neg (by rw [h2]; simp)]
    rw [if_neg (fun z => z.elim h1 (fun z => by rw [h2] at z; cases z))] at q
    exact ⟨_, rfl, fun x dx n1 n2 nd => tk_made (o := some (.note _)) n1 n2 nd (s1.trans s2) ⟨u, rfl, s2.seqT (SqT.of upd_same)⟩ q⟩
  · have h2 : Vbdcam.goodNote (sl l (s + 1) (pFind l 125 s)) = false := by simpa using h2
    rw [if_pos (by rw [h2]; rfl)]
    rw [if_pos (.inr h2)] at q
    exact ⟨s, rfl, fun H' x s3 tk => q H' x ((s1.trans s2).trans s3) tk⟩
theorem sc_head_at : FnScope ["text", "spot", "name_end", "value_begin", "value_end", "name", "value"] ["text", "spot"] (defScope (top 85)) := ⟨rfl, rfl, rfl, by decide +kernel, rfl, by decide +kernel, by decide +kernel⟩
theorem ok_head_at (t : Tx P w K mg A) : Def P w K mg base (CXN P w A.cNoRecord) 4 "head_at" ["text", "spot"] (spTokAt K A.cToken pHead) := by
  refine t.s_head_at.pure sc_head_at (fun vs H Q E h => ?_) fun f cdv Ar outer s H vs Q E hr h => ?_
  · obtain ⟨a, l, s, rfl, _⟩ := h; rfl
  obtain ⟨a, l, s, rfl, hs, hl, hlt, q⟩ := h
  refine ⟨_, (pss_cons (ps_set (i := 2) sc_head_at.nd rfl (Or.inl rfl) (pe_callD (ok_find_byte t) (hr.mono (by decide)) (passC cxn_ok) (pa_cons (pv 0) (pa_cons (pe_con1 t.k_BLANK) (pa_cons (pv 1) pa_nil))))) (pss_cons (ps_set (i := 3) sc_head_at.nd rfl (Or.inl rfl) (pe_op op_add (pv 2) pe_int)) (pss_cons (ps_set (i := 4) sc_head_at.nd rfl (Or.inl rfl) (pe_callD (ok_find_byte t) (hr.mono (by decide)) (passC cxn_ok) (pa_cons (pv 0) (pa_cons (pe_con1 t.k_QUOTE) (pa_cons (pv 3) pa_nil))))) (pss_cons (ps_set (i := 5) sc_head_at.nd rfl (Or.inl rfl) (pe_callTy call_tuple_of (by rfl) t.b_tuple boot_tuple (pa_cons (pe_slice sl_list (pv 0) (po_some (pe_op op_add (pv 1) pe_int)) (po_some (pv 2))) pa_nil))) (pss_cons (ps_set (i := 6) sc_head_at.nd rfl (Or.inl rfl) (pe_callTy call_tuple_of (by rfl) t.b_tuple boot_tuple (pa_cons (pe_slice sl_list (pv 0) (po_some (pv 3)) (po_some (pv 4))) pa_nil))) (pss_cons (ps_if (pw_or (pt_cmpR (op_neD hr.units) (pe_slice sl_list (pv 0) (po_some (pv 2)) (po_some (pv 3))) (pe_lst (pa_cons (pe_con1 t.k_BLANK) (pa_cons (pe_con1 t.k_QUOTE) pa_nil))) (nomark _)) (pw_or1 (pt_cmpR (op_neD hr.units) (pe_slice sl_list (pv 0) (po_some (pv 4)) (po_some (pe_op op_add (pv 4) pe_int))) (pe_lst (pa_cons (pe_con1 t.k_QUOTE) (pa_cons (pe_con1 t.k_HEAD_END) pa_nil))) (nomark _)))).pt (pss_one (ps_ret (pe_callD (ok_wrong_at t) (hr.mono (by decide)) (passC cxn_ok) (pa_cons (pv 1) pa_nil)))) pss_nil) (pss_cons (ps_if (pw_or (pt_not (pt_val (pe_callD (ok_is_head_name t) (hr.mono (by decide)) (passC cxn_ok) (pa_cons (pv 5) pa_nil)))) (pw_or1 (pt_not (pt_val (pe_callD (ok_is_head_value t) (hr.mono (by decide)) (passC cxn_ok) (pa_cons (pv 6) pa_nil)))))).pt (pss_one (ps_ret (pe_callD (ok_wrong_at t) (hr.mono (by decide)) (passC cxn_ok) (pa_cons (pv 1) pa_nil)))) pss_nil) (pss_one (ps_ret (pe_newC (new_Token t) (hr.mono (by decide)) (passC cxn_ok) (pa_cons (pe_con1 t.k_HEAD) (pa_cons (pe_tup (pa_cons (pv 5) (pa_cons (pv 6) pa_nil))) (pa_cons (pv 1) (pa_cons (pe_op op_add (pv 4) pe_int) pa_nil)))))))))))))), ?_⟩
  tm_at "rd"
  refine ⟨a, l, 32, s, rfl, hs, hl, _, rfl, ?_⟩
  refine ⟨a, l, 34, pFind l 32 s + 2, rfl, hs, hl, _, rfl, _, hs, fun p hp => ?_⟩
  rw [cut_sl l (s + 1) (pFind l 32 s)]
  refine ⟨_, .inl ⟨SqL.of upd_same, fun u hu => ?_⟩⟩
  have s1 := (Same.updN (o := HO.lst (iv (sl l (s + 1) (pFind l 32 s)))) hp).trans (Same.updN (o := HO.tup (iv (sl l (s + 1) (pFind l 32 s)))) hu)
  have k1 : upd (upd H p (HO.lst (iv (sl l (s + 1) (pFind l 32 s))))) u (HO.tup (iv (sl l (s + 1) (pFind l 32 s)))) u = some (HO.tup (iv (sl l (s + 1) (pFind l 32 s)))) := upd_same
  generalize upd (upd H p _) u _ = H1 at s1 k1 ⊢
  refine ⟨_, rfl, _, s1.seq hs, fun p1 hp1 => ?_⟩
  rw [cut_sl l (pFind l 32 s + 2) (pFind l 34 (pFind l 32 s + 2))]
  refine ⟨_, .inl ⟨SqL.of upd_same, fun u1 hu1 => ?_⟩⟩
  have s2 := (Same.updN (o := HO.lst (iv (sl l (pFind l 32 s + 2) (pFind l 34 (pFind l 32 s + 2))))) hp1).trans (Same.updN (o := HO.tup (iv (sl l (pFind l 32 s + 2) (pFind l 34 (pFind l 32 s + 2))))) hu1)
  have k2 : upd (upd H1 p1 (HO.lst (iv (sl l (pFind l 32 s + 2) (pFind l 34 (pFind l 32 s + 2)))))) u1 (HO.tup (iv (sl l (pFind l 32 s + 2) (pFind l 34 (pFind l 32 s + 2))))) u1 = some (HO.tup (iv (sl l (pFind l 32 s + 2) (pFind l 34 (pFind l 32 s + 2))))) := upd_same
  have k1 := s2 _ _ k1
  have s2 := s1.trans s2
  generalize upd (upd H1 p1 _) u1 _ = H2 at s2 k1 k2 ⊢
  refine ⟨_, rfl, _, s2.seq hs, fun p2 hp2 => ⟨sz (by decide), fun p3 hp3 => ?_⟩⟩
  rw [cut_sl l (pFind l 32 s) (pFind l 32 s + 2)] at hp3 ⊢
  have k3 := (Same.updN (o := HO.lst [V.int 32, V.int 34]) hp3) _ _ (upd_same (o := HO.lst (iv (sl l (pFind l 32 s) (pFind l 32 s + 2)))))
  have k4 : upd (upd H2 p2 (HO.lst (iv (sl l (pFind l 32 s) (pFind l 32 s + 2))))) p3 (HO.lst [V.int 32, V.int 34]) p3 = some (HO.lst (iv [32, 34])) := upd_same
  have s3 := (Same.updN (o := HO.lst (iv (sl l (pFind l 32 s) (pFind l 32 s + 2)))) hp2).trans (Same.updN (o := HO.lst [V.int 32, V.int 34]) hp3)
  have k1 := s3 _ _ k1
  have k2 := s3 _ _ k2
  have s3 := s2.trans s3
  generalize upd (upd H2 p2 _) p3 _ = H3 at s3 k1 k2 k3 k4 ⊢
  refine ⟨_, .lst (SqL.of k3) (dp_iv _), _, .lst (SqL.of k4) (dp_iv _), shp_l _, shp_l _, ?_⟩
  rw [eqv_l]
  unfold pHead at q
  simp only [] at q
  by_cases c1 : sl l (pFind l 32 s) (pFind l 32 s + 2) = [32, 34]
  case neg =>
    rw [if_pos (by rw [decide_eq_false c1]; rfl)]
    rw [if_pos (.inl c1)] at q
    exact ⟨s, rfl, fun H' x s4 tk => q H' x (s3.trans s4) tk⟩
  rw [if_neg (by rw [decide_eq_true c1]; decide)]
  refine ⟨_, rfl, _, rfl, _, s3.seq hs, fun p4 hp4 => ⟨sz (by decide), fun p5 hp5 => ?_⟩⟩
  rw [cut_sl l (pFind l 34 (pFind l 32 s + 2)) (pFind l 34 (pFind l 32 s + 2) + 2)] at hp5 ⊢
  have k5 := (Same.updN (o := HO.lst [V.int 34, V.int 93]) hp5) _ _ (upd_same (o := HO.lst (iv (sl l (pFind l 34 (pFind l 32 s + 2)) (pFind l 34 (pFind l 32 s + 2) + 2)))))
  have k6 : upd (upd H3 p4 (HO.lst (iv (sl l (pFind l 34 (pFind l 32 s + 2)) (pFind l 34 (pFind l 32 s + 2) + 2))))) p5 (HO.lst [V.int 34, V.int 93]) p5 = some (HO.lst (iv [34, 93])) := upd_same
  have s4 := (Same.updN (o := HO.lst (iv (sl l (pFind l 34 (pFind l 32 s + 2)) (pFind l 34 (pFind l 32 s + 2) + 2)))) hp4).trans (Same.updN (o := HO.lst [V.int 34, V.int 93]) hp5)
  have k1 := s4 _ _ k1
  have k2 := s4 _ _ k2
  have s4 := s3.trans s4
  generalize upd (upd H3 p4 _) p5 _ = H4 at s4 k1 k2 k5 k6 ⊢
  refine ⟨_, .lst (SqL.of k5) (dp_iv _), _, .lst (SqL.of k6) (dp_iv _), shp_l _, shp_l _, ?_⟩
  rw [eqv_l]
  by_cases c2 : sl l (pFind l 34 (pFind l 32 s + 2)) (pFind l 34 (pFind l 32 s + 2) + 2) = [34, 93]
  case neg =>
    rw [if_pos (by rw [decide_eq_false c2]; rfl)]
    rw [if_pos (.inr c2)] at q
    exact ⟨s, rfl, fun H' x s5 tk => q H' x (s4.trans s5) tk⟩
  rw [if_neg (by rw [decide_eq_true c2]; decide)]
  rw [if_neg (fun z => z.elim (fun z => z c1) fun z => z c2)] at q
  refine ⟨u, _, rfl, .inr (SqT.of k1), Nat.le_trans (sl_le ..) hl, fun H5 s5 => ⟨_, rfl, ?_⟩⟩
  have k1 := s5 _ _ k1
  have k2 := s5 _ _ k2
  have s5 := s4.trans s5
  by_cases c3 : Vbdcam.goodName (sl l (s + 1) (pFind l 32 s)) = true
  case neg =>
    have c3 : Vbdcam.goodName (sl l (s + 1) (pFind l 32 s)) = false := by simpa using c3
    rw [if_pos (by rw [c3]; rfl)]
    rw [if_pos (.inl c3)] at q
    exact ⟨s, rfl, fun H' x s6 tk => q H' x (s5.trans s6) tk⟩
  rw [if_neg (by rw [c3]; decide)]
  refine ⟨u1, _, rfl, .inr (SqT.of k2), Nat.le_trans (sl_le ..) hl, fun H6 s6 => ⟨_, rfl, ?_⟩⟩
  have k1 := s6 _ _ k1
  have k2 := s6 _ _ k2
  have s6 := s5.trans s6
  by_cases c4 : Vbdcam.goodValue (sl l (pFind l 32 s + 2) (pFind l 34 (pFind l 32 s + 2))) = true
  case neg =>
    have c4 : Vbdcam.goodValue (sl l (pFind l 32 s + 2) (pFind l 34 (pFind l 32 s + 2))) = false := by simpa using c4
    rw [if_pos (by rw [c4]; rfl)]
    rw [if_pos (.inr c4)] at q
    exact ⟨s, rfl, fun H' x s7 tk => q H' x (s6.trans s7) tk⟩
  rw [if_neg (by rw [c4]; decide)]
  rw [if_neg (fun z => z.elim (fun z => by rw [c3] at z; cases z) fun z => by rw [c4] at z; cases z)] at q
  refine ⟨sz (by decide), fun p6 hp6 => ⟨_, rfl, fun x dx n1 n2 nd => ?_⟩⟩
  have s7 := Same.updN (o := HO.tup [V.ref u, V.ref u1]) hp6
  exact tk_made (o := some (.head _ _)) n1 n2 nd (s6.trans s7) ⟨p6, _, _, rfl, SqT.of upd_same, ⟨u, rfl, s7.seqT (SqT.of k1)⟩, u1, rfl, s7.seqT (SqT.of k2)⟩ q
theorem sc_word_at : FnScope ["text", "spot", "end", "word"] ["text", "spot"] (defScope (top 86)) := ⟨rfl, rfl, rfl, by decide +kernel, rfl, by decide +kernel, by decide +kernel⟩
theorem ok_word_at (t : Tx P w K mg A) : Def P w K mg base (CXN P w A.cNoRecord) 5 "word_at" ["text", "spot"] (spTokAt K A.cToken pWordAt) := by
  refine t.s_word_at.pure sc_word_at (fun vs H Q E h => ?_) fun f cdv Ar outer s H vs Q E hr h => ?_
  · obtain ⟨a, l, s, rfl, _⟩ := h; rfl
  obtain ⟨a, l, s, rfl, hs, hl, hlt, q⟩ := h
  refine ⟨_, (pss_cons (ps_set (i := 2) sc_word_at.nd rfl (Or.inl rfl) (pv 1)) (pss_cons (ps_while PassesOwn.never (pw_and (pt_cmpR op_lt (pv 2) (pe_callB (call_len_seqK (K := K) rfl) (by rfl) t.b_len PySem.boot_len (pa_cons (pv 0) pa_nil)) (nomark _)) (pw_and1 (pt_cmpR (op_notIn_seqK (K := K) rfl) (pe_ix (ix_listK (K := K) rfl) (pv 0) (pv 2) (fun _ _ => rfl)) (pe_con1 t.k_WORD_STOPS) (by with_unfolding_all rfl)))).pt (pss_one (ps_aug (i := 2) sc_word_at.nd rfl (Or.inl rfl) pe_int ip_add))) (pss_cons (ps_set (i := 3) sc_word_at.nd rfl (Or.inl rfl) (pe_callD (ok_read_word t) (hr.mono (by decide)) (passC cxn_ok) (pa_cons (pe_callD (ok_signs_of t) (hr.mono (by decide)) (passC cxn_ok) (pa_cons (pe_slice sl_list (pv 0) (po_some (pv 1)) (po_some (pv 2))) pa_nil)) pa_nil))) (pss_one (ps_ret (pe_newC (new_Token t) (hr.mono (by decide)) (passC cxn_ok) (pa_cons (pe_ix (ix_tupK (K := K) rfl) (pv 3) pe_int (fun _ _ => rfl)) (pa_cons (pe_ix (ix_tupK (K := K) rfl) (pv 3) pe_int (fun _ _ => rfl)) (pa_cons (pv 1) (pa_cons (pv 2) pa_nil)))))))))), ?_⟩
  tm_at "rd"
  refine ⟨fun m σ H' => ∃ s' : Nat, H' = H ∧ σ = [some (.ref a), some (nv s), some (nv s'), none] ∧ run1 Vbdcam.inWord l s' = run1 Vbdcam.inWord l s ∧ m = l.length - s', ⟨_, s, rfl, rfl, rfl, rfl⟩, ?_⟩
  rintro m σ H' ⟨s', eH, rfl, e, rfl⟩
  subst eH
  tm_at "rd"
  refine ⟨_, .inl hs, ?_⟩
  rw [iv_len]
  by_cases h : s' < l.length
  · rw [if_pos (by omega)]
    have hg : l[s']? = some l[s'] := List.getElem?_eq_getElem h
    refine ⟨_, hs, _, at_iv hg, _, .inr (t.q_WORD_STOPS _), rfl, rfl, ?_⟩
    rw [inV_stops]
    by_cases hb : Vbdcam.inWord l[s'] = true
    · rw [if_pos (by rw [hb]; rfl)]
      exact ⟨_, fun _ _ z => z, l.length - (s' + 1), by omega, rfl, s' + 1, rfl, by rw [← e]; exact (run1_step hg hb).symm, rfl⟩
    have hb : Vbdcam.inWord l[s'] = false := by simpa using hb
    rw [if_neg (by rw [hb]; decide)]
    have e1 : run1 Vbdcam.inWord l s' = s' := run1_stop fun c hc => by rw [hg] at hc; cases hc; exact hb
    obtain rfl : s' = run1 Vbdcam.inWord l s := by rw [← e, e1]
    refine ⟨_, hs, fun p hp => ?_⟩
    rw [cut_sl l s (run1 Vbdcam.inWord l s)]
    have s1 := Same.updN (o := HO.lst (iv (sl l s (run1 Vbdcam.inWord l s)))) hp
    refine ⟨p, _, rfl, .inl (SqL.of upd_same), Nat.le_trans (sl_le ..) hl, fun H2 s2 => ⟨_, rfl, by rw [sgs_len]; exact Nat.le_trans (sl_le ..) hl, sgs_lt _, fun H3 v s3 ⟨b, y, ev, hv, ht⟩ => ?_⟩⟩
    subst ev
    exact ⟨b, rfl, _, hv, _, atI_0, b, rfl, _, hv, _, atI_nat (j := 1) rfl, fun x dx n1 n2 nd => tk_made (o := some (pWordAt l s).1) (e := (pWordAt l s).2) n1 n2 nd ((s1.trans s2).trans s3) ht q⟩
  · rw [if_neg (by omega)]
    have e1 : run1 Vbdcam.inWord l s' = s' := run1_stop fun c hc => by rw [List.getElem?_eq_none (by omega)] at hc; cases hc
    obtain rfl : s' = run1 Vbdcam.inWord l s := by rw [← e, e1]
    refine ⟨_, hs, fun p hp => ?_⟩
    rw [cut_sl l s (run1 Vbdcam.inWord l s)]
    have s1 := Same.updN (o := HO.lst (iv (sl l s (run1 Vbdcam.inWord l s)))) hp
    refine ⟨p, _, rfl, .inl (SqL.of upd_same), Nat.le_trans (sl_le ..) hl, fun H2 s2 => ⟨_, rfl, by rw [sgs_len]; exact Nat.le_trans (sl_le ..) hl, sgs_lt _, fun H3 v s3 ⟨b, y, ev, hv, ht⟩ => ?_⟩⟩
    subst ev
    exact ⟨b, rfl, _, hv, _, atI_0, b, rfl, _, hv, _, atI_nat (j := 1) rfl, fun x dx n1 n2 nd => tk_made (o := some (pWordAt l s).1) (e := (pWordAt l s).2) n1 n2 nd ((s1.trans s2).trans s3) ht q⟩
theorem sc_token_at : FnScope ["text", "spot", "byte"] ["text", "spot"] (defScope (top 82)) := ⟨rfl, rfl, rfl, by decide +kernel, rfl, by decide +kernel, by decide +kernel⟩
theorem ok_token_at (t : Tx P w K mg A) : Def P w K mg base (CXN P w A.cNoRecord) 6 "token_at" ["text", "spot"] (spTokAt K A.cToken pTok) := by
  refine t.s_token_at.pure sc_token_at (fun vs H Q E h => ?_) fun f cdv Ar outer s H vs Q E hr h => ?_
  · obtain ⟨a, l, s, rfl, _⟩ := h; rfl
  obtain ⟨a, l, s, rfl, hs, hl, hlt, q⟩ := h
  refine ⟨_, (pss_cons (ps_set (i := 2) sc_token_at.nd rfl (Or.inl rfl) (pe_ix (ix_listK (K := K) rfl) (pv 0) (pv 1) (fun _ _ => rfl))) (pss_cons (ps_if (pt_cmp (pc_dinK t.dk_LINE_BRACKETS (pv 2)) (by with_unfolding_all rfl)) (pss_one (ps_ret (pe_newC (new_Token t) (hr.mono (by decide)) (passC cxn_ok) (pa_cons (pe_dgetK t.dk_LINE_BRACKETS (pv 2) (fun _ _ => rfl)) (pa_cons pe_non (pa_cons (pv 1) (pa_cons (pe_op op_add (pv 1) pe_int) pa_nil))))))) pss_nil) (pss_cons (ps_if (pt_cmpR op_eq (pv 2) (pe_con1 t.k_NOTE_BEGIN) (nomark _)) (pss_one (ps_ret (pe_callD (ok_note_at t) (hr.mono (by decide)) (passC cxn_ok) (pa_cons (pv 0) (pa_cons (pv 1) pa_nil))))) pss_nil) (pss_cons (ps_if (pt_cmpR op_eq (pv 2) (pe_con1 t.k_HEAD_BEGIN) (nomark _)) (pss_one (ps_ret (pe_callD (ok_head_at t) (hr.mono (by decide)) (passC cxn_ok) (pa_cons (pv 0) (pa_cons (pv 1) pa_nil))))) pss_nil) (pss_cons (ps_if (pt_cmpR (op_in_seqK (K := K) rfl) (pv 2) (pe_tup (pa_cons (pe_con1 t.k_NOTE_END) (pa_cons (pe_con1 t.k_HEAD_END) pa_nil))) (by with_unfolding_all rfl)) (pss_one (ps_ret (pe_callD (ok_wrong_at t) (hr.mono (by decide)) (passC cxn_ok) (pa_cons (pv 1) pa_nil)))) pss_nil) (pss_one (ps_ret (pe_callD (ok_word_at t) (hr.mono (by decide)) (passC cxn_ok) (pa_cons (pv 0) (pa_cons (pv 1) pa_nil)))))))))), ?_⟩
  tm_at "rd"
  have hg : l[s]? = some l[s] := List.getElem?_eq_getElem hlt
  generalize l[s] = c at hg
  refine ⟨_, hs, _, at_iv hg, Sum.inl (c : Int), rfl, ?_⟩
  unfold pTok at q
  rw [getD_of hg] at q
  simp only [] at q
  rw [valV_brk]
  by_cases h1 : c = 40
  · subst h1
    exact ⟨Sum.inl 40, rfl, _, rfl, fun x dx n1 n2 nd => tk_made (o := some (.open_ false)) n1 n2 nd (.refl _) rfl q⟩
  by_cases h2 : c = 41
  · subst h2
    exact ⟨Sum.inl 41, rfl, _, rfl, fun x dx n1 n2 nd => tk_made (o := some (.close false)) n1 n2 nd (.refl _) rfl q⟩
  by_cases h3 : c = 60
  · subst h3
    exact ⟨Sum.inl 60, rfl, _, rfl, fun x dx n1 n2 nd => tk_made (o := some (.open_ true)) n1 n2 nd (.refl _) rfl q⟩
  by_cases h4 : c = 62
  · subst h4
    exact ⟨Sum.inl 62, rfl, _, rfl, fun x dx n1 n2 nd => tk_made (o := some (.close true)) n1 n2 nd (.refl _) rfl q⟩
  rw [if_neg h1, if_neg h2, if_neg h3, if_neg h4] at q
  rw [if_neg h1, if_neg h2, if_neg h3, if_neg h4, if_neg (by decide)]
  refine ⟨rfl, ?_⟩
  by_cases h5 : c = 123
  · rw [if_pos (by rw [h5]; rfl)]
    rw [if_pos h5] at q
    exact ⟨a, l, s, rfl, hs, hl, hlt, q⟩
  rw [if_neg (fun z : nv c = V.int 123 => h5 (nv_inj.mp z))]
  rw [if_neg h5] at q
  refine ⟨rfl, ?_⟩
  by_cases h6 : c = 91
  · rw [if_pos (by rw [h6]; rfl)]
    rw [if_pos h6] at q
    exact ⟨a, l, s, rfl, hs, hl, hlt, q⟩
  rw [if_neg (fun z : nv c = V.int 91 => h6 (nv_inj.mp z))]
  rw [if_neg h6] at q
  refine ⟨sz (by decide), fun p hp => ⟨_, .inr (SqT.of upd_same), rfl, rfl, ?_⟩⟩
  have s1 := Same.updN (o := HO.tup [V.int 125, V.int 93]) hp
  have e : inV (nv c) [V.int 125, V.int 93] = decide (c = 125 ∨ c = 93) := by
    show inV (nv c) (iv [125, 93]) = _
    rw [inV_iv, Bool.eq_iff_iff]
    simp
  rw [e]
  by_cases h7 : c = 125 ∨ c = 93
  · rw [if_pos (decide_eq_true h7)]
    rw [if_pos h7] at q
    exact ⟨s, rfl, fun H' x s4 tk => q H' x (s1.trans s4) tk⟩
  · rw [if_neg (by rw [decide_eq_false h7]; decide)]
    rw [if_neg h7] at q
    exact ⟨a, l, s, rfl, s1.seq hs, hl, hlt, fun H' x s4 tk => q H' x (s1.trans s4) tk⟩
end
section
variable {P : Program} {w : World} {K : PySem.W.Frag} {mg : Str → Option Value} {base : Heap} {A : Adr}
def KT (C : Addr) (H H' : Hp) : Prop := ∀ b u, H b = some u → (match u with | .tup _ => True | .frz _ _ => True | .ins C' _ _ => C' = C | _ => False) → H' b = some u
theorem KT.of {C : Addr} {H H' : Hp} (s : Same H H') : KT C H H' := fun b u h _ => s b u h
theorem KT.trans {C : Addr} {H H1 H2 : Hp} (a : KT C H H1) (b : KT C H1 H2) : KT C H H2 := fun x u h q => b x u (a x u h q) q
theorem KT.lst {C : Addr} {H : Hp} {D : Addr} {xs : List V} {o : HO} (h : H D = some (.lst xs)) : KT C H (upd H D o) := fun b u hb q => by
  rw [upd_ne (fun e => by subst e; rw [h] at hb; cases hb; exact q)]; exact hb
theorem KT.ins {C C' dx : Addr} {H : Hp} {D : Addr} {fs : List (Str × V)} {o : HO} (h : H D = some (.ins C' dx fs)) (n : C' ≠ C) : KT C H (upd H D o) := fun b u hb q => by
  rw [upd_ne (fun e => by subst e; rw [h] at hb; cases hb; exact n q)]; exact hb
theorem KT.new {C : Addr} {H : Hp} {D : Addr} {o : HO} (h : H D = none) : KT C H (upd H D o) := KT.of (Same.updN h)
section
variable {C : Addr} {H H' : Hp} {v : V}
theorem KT.seqT {a : Addr} {xs : List V} (s : KT C H H') (h : SqT K H a xs) : SqT K H' a xs := by
  rcases h with (h | ⟨o, h⟩) | h
  · exact .inl (.inl (s _ _ h trivial))
  · exact .inl (.inr ⟨o, s _ _ h trivial⟩)
  · exact .inr h
theorem MvAt.kt (s : KT C H H') {m : Mv} (x : MvAt K H v m) : MvAt K H' v m := let ⟨a, e, q⟩ := x; ⟨a, e, s.seqT q⟩
theorem TuAt.kt (s : KT C H H') {l : List Nat} (x : TuAt K H v l) : TuAt K H' v l := let ⟨a, e, q⟩ := x; ⟨a, e, s.seqT q⟩
theorem ItAt.kt (s : KT C H H') {i : FI} (x : ItAt K H v i) : ItAt K H' v i := by
  obtain ⟨a, e, q⟩ := x
  refine ⟨a, e, ?_⟩
  cases i with
  | move m ms =>
    obtain ⟨x, y, q1, q2, q3⟩ := q
    exact ⟨x, y, s.seqT q1, q2.kt s, q3.kt s⟩
  | note t =>
    obtain ⟨y, q1, q2⟩ := q
    exact ⟨y, s.seqT q1, q2.kt s⟩
  | opn b => exact s.seqT q
  | cls b => exact s.seqT q
theorem HdAt.kt (s : KT C H H') {h : Tt × Tt} (x : HdAt K H v h) : HdAt K H' v h := let ⟨a, x, y, e, q1, q2, q3⟩ := x; ⟨a, x, y, e, s.seqT q1, q2.kt s, q3.kt s⟩
theorem Told.kt (s : KT C H H') {x : Tk} (q : Told K H v x) : Told K H' v x := by
  cases x with
  | note t => exact TuAt.kt s q
  | num n d => obtain ⟨a, e, q⟩ := q; exact ⟨a, e, s.seqT q⟩
  | move m o => obtain ⟨a, x, y, e, q1, q2, q3⟩ := q; exact ⟨a, x, y, e, s.seqT q1, q2.kt s, q3.kt s⟩
  | head n w => exact HdAt.kt s q
  | _ => exact q
theorem OTold.kt (s : KT C H H') {x : Option Tk} (q : OTold K H v x) : OTold K H' v x := by
  cases x with
  | none => exact q
  | some x => exact Told.kt s q
theorem TkAt.kt (s : KT C H H') {a : Addr} {x : Option Tk} {b e : Nat} (q : TkAt K C H a x b e) : TkAt K C H' a x b e := let ⟨dx, y, h, o⟩ := q; ⟨dx, y, s _ _ h rfl, o.kt s⟩
theorem LnAt.kt {xs : List V} {l : List FI} (s : KT C H H') (h : LnAt K H xs l) : LnAt K H' xs l := Paired.map h fun _ _ q => q.kt s
end
def TkP (K : PySem.W.Frag) (C : Addr) (H : Hp) (v : V) (x : Option Tk × Nat) : Prop := ∃ (a : Addr) (b e : Nat), v = .ref a ∧ TkAt K C H a x.1 b e ∧ x.2 = b + 1 ∧ b ≤ 10000
theorem TkP.kt {C : Addr} {H H' : Hp} {v : V} {x : Option Tk × Nat} (s : KT C H H') (h : TkP K C H v x) : TkP K C H' v x := let ⟨a, b, e, e1, h1, h2⟩ := h; ⟨a, b, e, e1, h1.kt s, h2⟩
def ends : Vbdcam.Toks → Nat → List (Option Tk × Nat)
  | [], n => [(none, n)]
  | (x, p) :: r, n => if isBad x = true then [(some x, p)] else (some x, p) :: ends r n
def spTokens (K : PySem.W.Frag) (C : Addr) : Sp := fun vs H Q _ => ∃ (a : Addr) (l : List Nat), vs = [.ref a] ∧ SqL K H a (iv l) ∧ l.length ≤ 10000 ∧
  ∀ H' p xs, Same H H' → H' p = some (.lst xs) → Paired (TkP K C H') xs (ends (toks 1 l) (l.length + 1)) → Q (.ref p) H'
theorem Paired.snoc {α β : Type} {F : α → β → Prop} {x : α} {y : β} (h : F x y) : ∀ {xs : List α} {ys : List β}, Paired F xs ys → Paired F (xs ++ [x]) (ys ++ [y])
  | _, _, .nil => .cons h .nil
  | _, _, .cons r t => .cons r (Paired.snoc h t)
theorem ends_at {l : List Nat} {s c n : Nat} (h : l[s]? = some c) (hb : Vbdcam.blank c = false) : ends (toks (s + 1) (l.drop s)) n = if isBad (pTok l s).1 = true then [(some (pTok l s).1, s + 1)] else (some (pTok l s).1, s + 1) :: ends (toks ((pTok l s).2 + 1) (l.drop (pTok l s).2)) n := by
  rw [(tok_at h hb).2.2]
  unfold conT
  cases hx : (pTok l s).1 <;> rfl
theorem bad_kind (x : Tk) : (kind x = "wrong") ↔ isBad x = true := by
  cases x with
  | open_ b => cases b <;> decide
  | close b => cases b <;> decide
  | bad => decide
  | note _ => exact ⟨fun h => absurd h (by show ¬ Str.ofString "note" = Str.ofString "wrong"; decide), fun h => by cases h⟩
  | mark _ => exact ⟨fun h => absurd h (by show ¬ Str.ofString "mark" = Str.ofString "wrong"; decide), fun h => by cases h⟩
  | num _ _ => exact ⟨fun h => absurd h (by show ¬ Str.ofString "number" = Str.ofString "wrong"; decide), fun h => by cases h⟩
  | result _ => exact ⟨fun h => absurd h (by show ¬ Str.ofString "result" = Str.ofString "wrong"; decide), fun h => by cases h⟩
  | move _ _ => exact ⟨fun h => absurd h (by show ¬ Str.ofString "move" = Str.ofString "wrong"; decide), fun h => by cases h⟩
  | head _ _ => exact ⟨fun h => absurd h (by show ¬ Str.ofString "head" = Str.ofString "wrong"; decide), fun h => by cases h⟩
theorem sc_tokens_of : FnScope ["text", "found", "spot", "token"] ["text"] (defScope (top 80)) := ⟨rfl, rfl, rfl, by decide +kernel, rfl, by decide +kernel, by decide +kernel⟩
theorem ok_tokens_of (t : Tx P w K mg A) : Def P w K mg base (CXN P w A.cNoRecord) 7 "tokens_of" ["text"] (spTokens K A.cToken) := by
  refine t.s_tokens_of.pure sc_tokens_of (fun vs H Q E h => ?_) fun f cdv Ar outer s H vs Q E hr h => ?_
  · obtain ⟨a, l, rfl, _⟩ := h; rfl
  obtain ⟨a, l, rfl, hs, hl, q⟩ := h
  refine ⟨_, (pss_cons (ps_set (i := 1) sc_tokens_of.nd rfl (Or.inl rfl) (pe_lst pa_nil)) (pss_cons (ps_set (i := 2) sc_tokens_of.nd rfl (Or.inl rfl) (pe_callD (ok_behind_blanks t) (hr.mono (by decide)) (passC cxn_ok) (pa_cons (pv 0) (pa_cons pe_int pa_nil)))) (pss_cons (ps_while PassesOwn.never (pt_cmpR op_lt (pv 2) (pe_callB (call_len_seqK (K := K) rfl) (by rfl) t.b_len PySem.boot_len (pa_cons (pv 0) pa_nil)) (nomark _)) (pss_cons (ps_set (i := 3) sc_tokens_of.nd rfl (Or.inl rfl) (pe_callD (ok_token_at t) (hr.mono (by decide)) (passC cxn_ok) (pa_cons (pv 0) (pa_cons (pv 2) pa_nil)))) (pss_cons (ps_expr (pe_bm PySem.F.plainAttrs_list PySem.F.slot_list_append PySem.F.type_list_append mt_append (pv 1) (pa_cons (pv 3) pa_nil))) (pss_cons (ps_if (pt_cmpR op_eq (pe_fld (pv 3) rfl) (pe_con1 t.k_WRONG) (nomark _)) (pss_one (ps_ret (pv 1))) pss_nil) (pss_one (ps_set (i := 2) sc_tokens_of.nd rfl (Or.inl rfl) (pe_callD (ok_behind_blanks t) (hr.mono (by decide)) (passC cxn_ok) (pa_cons (pv 0) (pa_cons (pe_fld (pv 3) rfl) pa_nil))))))))) (pss_cons (ps_expr (pe_bm PySem.F.plainAttrs_list PySem.F.slot_list_append PySem.F.type_list_append mt_append (pv 1) (pa_cons (pe_newC (new_Token t) (hr.mono (by decide)) (passC cxn_ok) (pa_cons (pe_con1 t.k_TEXT_END) (pa_cons pe_non (pa_cons (pe_callB (call_len_seqK (K := K) rfl) (by rfl) t.b_len PySem.boot_len (pa_cons (pv 0) pa_nil)) (pa_cons (pe_callB (call_len_seqK (K := K) rfl) (by rfl) t.b_len PySem.boot_len (pa_cons (pv 0) pa_nil)) pa_nil))))) pa_nil))) (pss_one (ps_ret (pv 1))))))), ?_⟩
  tm_at "rd"
  refine ⟨Nat.zero_le _, fun D hD => ?_⟩
  have s0 := Same.updN (o := HO.lst []) hD
  refine ⟨a, l, 0, rfl, s0.seq hs, hl, fun H1 s1 => ?_⟩
  refine ⟨fun m σ H' => ∃ (s' : Nat) (u : Option V) (xs : List V) (done : List (Option Tk × Nat)), Same H H' ∧ σ = [some (.ref a), some (.ref D), some (nv s'), u] ∧ H' D = some (.lst xs) ∧ xs.length ≤ s' ∧ Paired (TkP K A.cToken H') xs done ∧ done ++ ends (toks (s' + 1) (l.drop s')) (l.length + 1) = ends (toks 1 l) (l.length + 1) ∧ s' ≤ l.length ∧ (∀ c, l[s']? = some c → Vbdcam.blank c = false) ∧ m = l.length - s',
    ⟨_, pBlanks l 0, none, [], [], s0.trans s1, rfl, s1 _ _ upd_same, Nat.zero_le _, .nil, ?_, run1_le (Nat.zero_le _), pBlanks_stop l l.length 0 (by omega), rfl⟩, ?_⟩
  · rw [List.nil_append, ← toks_blanks l l.length 0 (by omega)]; rfl
  rintro m σ H' ⟨s', u, xs, done, sH, rfl, hx, hxl, hp, hd, hle, hbl, rfl⟩
  tm_at "rd"
  have hT := KT.of (C := A.cToken) sH
  refine ⟨_, .inl (sH.seq hs), ?_⟩
  rw [iv_len]
  by_cases h : s' < l.length
  · rw [if_pos (by omega)]
    have hg : l[s']? = some l[s'] := List.getElem?_eq_getElem h
    have hb := hbl _ hg
    obtain ⟨t1, t2, _⟩ := tok_at hg hb
    have he := ends_at (n := l.length + 1) hg hb
    refine ⟨_, fun _ _ z => z, a, l, s', rfl, sH.seq hs, hl, h, fun H2 x s2 tk => ?_⟩
    have hx2 := s2 _ _ hx
    have k2 : KT A.cToken H2 (upd H2 D (.lst (xs ++ [.ref x]))) := KT.lst hx2
    have tk2 := tk.kt k2
    have hp2 : Paired (TkP K A.cToken (upd H2 D (.lst (xs ++ [.ref x])))) (xs ++ [.ref x]) (done ++ [(some (pTok l s').1, s' + 1)]) :=
      Paired.snoc ⟨x, s', _, rfl, tk2, rfl, by omega⟩ (Paired.map hp fun _ _ z => z.kt ((KT.of s2).trans k2))
    have sD : Same H (upd H2 D (.lst (xs ++ [.ref x]))) := Same.mine (sH.trans s2) hD
    obtain ⟨dx, y, hx3, _⟩ := id tk2
    refine ⟨.inl ⟨rfl, _, SqL.of hx2⟩, xs, hx2, szl (by omega), x, rfl, _, _, _, hx3, t.cl_Token, t.na_Token_kind, _, rfl, rfl, ?_⟩
    by_cases hw : isBad (pTok l s').1 = true
    · rw [if_pos (by rw [show okind (some (pTok l s').1) = kind (pTok l s').1 from rfl, (bad_kind _).mpr hw])]
      rw [if_pos hw] at he
      refine q _ _ _ sD upd_same ?_
      rw [← hd, he]
      exact hp2
    · rw [if_neg (fun z : V.str (okind (some (pTok l s').1)) = V.str (Str.ofString "wrong") => hw ((bad_kind _).mp (V.str.inj z)))]
      rw [if_neg hw] at he
      refine ⟨x, rfl, _, _, _, hx3, t.cl_Token, t.na_Token_end, _, rfl, a, l, _, rfl, sD.seq hs, hl, fun H4 s4 => ?_⟩
      have hge : (pTok l s').2 ≤ pBlanks l (pTok l s').2 := run1_ge ..
      refine ⟨_, by omega, sD.trans s4, pBlanks l (pTok l s').2, _, rfl, _, s4 _ _ upd_same, ?_, done ++ [(some (pTok l s').1, s' + 1)], Paired.map hp2 fun _ _ z => z.kt (KT.of s4), ?_, run1_le t2, pBlanks_stop l l.length _ (by omega), rfl⟩
      · rw [List.length_append]; simp; omega
      · rw [← toks_blanks l l.length _ (by omega), ← hd, he, List.append_assoc]; rfl
  · rw [if_neg (by omega)]
    obtain rfl : s' = l.length := by omega
    refine ⟨.inl ⟨rfl, _, SqL.of hx⟩, _, .inl (sH.seq hs), _, .inl (sH.seq hs), fun x dx n1 n2 nd => ?_⟩
    rw [iv_len]
    refine tk_made (K := K) (H := H') (o := none) (b := l.length) (e := l.length) (Q := fun v H2 => ∃ x, H2 D = some (HO.lst x) ∧ x.length < sizeLine ∧ Q (V.ref D) (upd H2 D (HO.lst (x ++ [v])))) n1 n2 nd (.refl _) rfl fun H2 x s2 tk => ?_
    have hx2 := s2 _ _ hx
    have k2 : KT A.cToken H2 (upd H2 D (.lst (xs ++ [.ref x]))) := KT.lst hx2
    refine ⟨xs, hx2, szl (by omega), q _ _ _ (Same.mine (sH.trans s2) hD) upd_same ?_⟩
    rw [← hd, List.drop_length, toks_nil]
    exact Paired.snoc ⟨x, l.length, _, rfl, tk.kt k2, rfl, by omega⟩ (Paired.map hp fun _ _ z => z.kt ((KT.of s2).trans k2))
end
def rNotInD (K : PySem.W.Frag) : R2 := fun x y H Q => ∃ d es, Dp K H x d ∧ Dp K H y (.list es) ∧ SeqAt.shaped d = true ∧ d.depth ≤ 62 ∧ PyData.canLayAll0 es = true ∧ Q (.bl (!es.any fun z => PyData.eqv z d)) H
theorem op_notInD {X : Cx} (hu : X.A.units + 64 < cLine) : OpR X (compareOp .NotIn) (rNotInD X.K) := by
  intro pins s σ H x y v u Q I rx ry h
  obtain ⟨d, es, hd, he, sd, sd2, le, q⟩ := h
  obtain ⟨as, r1⟩ := Dp.reads I d x v hd rx
  obtain ⟨bs, r2⟩ := Dp.reads I (.list es) y u he ry
  have h1 := SeqAt.depth_of_shaped sd
  have h2 : min (PyData.depthAll es) d.depth ≤ d.depth := Nat.min_le_right _ _
  refine SeqAt.notIn_list_reads r2 r1 le (SeqAt.canLay_of_shaped sd) (by omega) ⟨.bl _, H, I, rfl, q⟩
end GR
namespace GR
open PySem PySem.Spec PyProof.Rows L2 M
local macro_rules
  | `(tactic| tm_at "rd") => `(tactic| simp only [tSeq, tIfS, tOr, tNot, tB, tVar, tCB, tCons, tNil, tOp, tUn, tTest, tAnd, tRet, tAsg, gName, tIf, tC, tNext, tM0, tM1, L2.start, rI0, rI, rU, rIxS, rIxL, rIxT, rEq, rNe, tAndV, tOrV, tNotV, tChain, tTup, tLst, tCall, tDrop, tSl, tNoPart, tPart, rSlS, rSlL, rIn, tDGetK, tDInK, tDGet2K, tFld, sFld, sFldAug, rAdd, rSub, tAug, ipI, tBM, tBM0, tRetN, tYes, rAll, rAppend, rPop, rIndexT, rCatT, rEqD, rNeD, tVI, sXset, tFs, tRaise, gTup, gCons, gNil, gSub, rSetL, List.getElem?_cons_zero, List.getElem?_cons_succ, List.map_cons, List.map_nil, List.length_cons, List.length_nil, Nat.sub_self, Nat.reduceAdd, Nat.reduceSub, List.replicate, List.append_nil, List.cons_append, List.nil_append, Option.some.injEq, V.str.injEq, V.int.injEq, V.bl.injEq, V.ref.injEq, exists_eq_left', exists_eq_left, exists_and_left, true_and, and_true, exists_eq', exists_eq, List.cons.injEq, List.set_cons_zero, List.set_cons_succ, if_true, Bool.not_true, Bool.not_false, Bool.false_eq_true, if_false, wipe, List.getElem?_nil, decide_eq_true_eq, and_assoc, rCatTT, tMake, rNotInD])
section
variable {P : Program} {w : World} {K : PySem.W.Frag} {mg : Str → Option Value} {base : Heap} {A : Adr}
theorem _root_.L2.Src.raises {CX : CXT} {x : Str} {st : Stmt} {N ps : List Str} {k : Nat} {sp : Sp} (F : Src K mg x st ps) (S : FnScope N ps (defScope st)) (len : ∀ vs H Q E, sp vs H Q E → vs.length = ps.length)
    (hbody : ∀ (f : Addr) (cdv : Value) (A : Around) (outer : List Env) (s : Shared) (H : Hp) (vs : List V) (Q : VK) (E : XK), Room k (A.deeper (envOfC x (defScope st) s.heap.objs.size f cdv)) → sp vs H Q E →
      ∃ t, PSs (cxOf CX P w K mg base N x (defScope st) f cdv A outer s H E) (defBody st) t ∧ t { nx := fun _ H' => Q .non H', rt := Q } (L2.start N vs) H) : Def P w K mg base CX (k + 1) x ps sp := by
  obtain ⟨f, fd, F, hm, hb⟩ := F.ex
  refine ⟨f, fd, ?_, hm, F.kp, hb⟩
  obtain ⟨oc, od, kV, doc, pm, an, cdv, ct, osl, rfl, lk, hcd⟩ := F.ex
  exact fn_of lk hcd S len fun A outer s H vs Q E hr hsp => hbody f cdv A outer s H vs Q E hr hsp
theorem sc_NoRecord : FnScope ["self", "place"] ["self", "place"] (defScope (inClass (top 89) 0)) := ⟨rfl, rfl, rfl, by decide +kernel, rfl, by decide +kernel, by decide +kernel⟩
theorem ok_NoRecord_init (t : Tx P w K mg A) : ∃ fd, FnOk P w K mg base (CXN P w A.cNoRecord) 1 A.iNoRecord fd ["self", "place"] (spXI A.cNoRecord) ∧ Binds K fd ["self", "place"] [] := by
  obtain ⟨fd, F, hb⟩ := t.f_NoRecord
  refine ⟨fd, F.pure sc_NoRecord (fun vs H Q E h => ?_) (fun cdv Ar outer s H vs Q E hr h => ?_), hb⟩
  · obtain ⟨e, n, rfl, _⟩ := h; rfl
  obtain ⟨e, n, rfl, h0, h1, he, q⟩ := h
  refine ⟨_, (pss_cons (ps_expr (pe_vinit t.xc rfl t.b_ValueError (pv 0) (pe_fs (pv 1) (by decide)))) (pss_one (ps_xset t.xc (pv 0) (pv 1) rfl))), ?_⟩
  tm_at "rd"
  refine ⟨h0, h1, fun z => ⟨he, he, fun dx hdx hne => ?_⟩⟩
  refine q _ dx upd_same (by rw [upd_ne hne, upd_same]) hne fun b u hb hbe => ?_
  rw [upd_ne hbe, upd_ne (ne_of_none hb hdx)]
  exact hb
def EW (C : Addr) (E : XK) (H0 : Hp) (n : Nat) : Prop := ∀ (H' : Hp) (dx : Addr), Same H0 H' → H' dx = some (.xd [("place", nv n)]) → E (.ref C) (some dx) H'
theorem EW.to {C : Addr} {E : XK} {n : Nat} {H0 H : Hp} (h : EW C E H0 n) (s : Same H0 H) {m : Int} (e : m = (n : Nat)) : XW C E m H := fun H' dx s' h2 => by subst e; exact h H' dx (s.trans s') h2
def clV : Option Bool → V
  | none => .non
  | some b => .str (clS b)
def OlAt (A : Adr) (H : Hp) (v : V) (o : OL) : Prop := ∃ a dx, v = .ref a ∧ H a = some (.ins A.cOpenLine dx [("ply", nv o.ply), ("moves", nv o.moves), ("closing", clV o.closing)])
def spOl (C : Addr) : Sp := fun vs H Q _ => ∃ (x dx : Addr) (k y : V), vs = [.ref x, k, y] ∧ H x = some (.ins C dx []) ∧ Q .non (upd H x (.ins C dx [("ply", k), ("moves", nv 0), ("closing", y)]))
theorem sc_OpenLine : FnScope ["self", "ply", "closing"] ["self", "ply", "closing"] (defScope (inClass (top 90) 0)) := ⟨rfl, rfl, rfl, by decide +kernel, rfl, by decide +kernel, by decide +kernel⟩
theorem new_OpenLine (t : Tx P w K mg A) : New P w K mg base (CXN P w A.cNoRecord) 1 "OpenLine" A.cOpenLine ["self", "ply", "closing"] (spOl A.cOpenLine) := by
  obtain ⟨fd, F, hb⟩ := t.f_OpenLine
  refine ⟨A.iOpenLine, fd, t.mk_OpenLine, F.pure sc_OpenLine (fun vs H Q E h => ?_) (fun cdv Ar outer s H vs Q E hr h => ?_), hb, t.mg_OpenLine⟩
  · obtain ⟨x, dx, k, y, rfl, _⟩ := h; rfl
  obtain ⟨x, dx, k, y, rfl, hx, q⟩ := h
  refine ⟨_, (pss_cons (ps_fld (pv 0) (pv 1) rfl) (pss_cons (ps_fld (pv 0) pe_int rfl) (pss_one (ps_fld (pv 0) (pv 2) rfl)))), ?_⟩
  tm_at "rd"
  refine ⟨_, _, _, hx, t.cl_OpenLine, t.na_OpenLine_ply, (by show 0 < 1000; decide), _, _, _, upd_same, t.cl_OpenLine, t.na_OpenLine_moves, (by show 1 < 1000; decide), _, _, _, upd_same, t.cl_OpenLine, t.na_OpenLine_closing, (by show 2 < 1000; decide), ?_⟩
  rw [upd_upd, upd_upd]
  exact q
def spRecNew (C : Addr) : Sp := fun vs H Q _ => ∃ (x dx : Addr) (k y z : V), vs = [.ref x, k, y, z] ∧ H x = some (.ins C dx []) ∧ Q .non (upd H x (.ins C dx [("heads", k), ("line", y), ("result", z)]))
theorem sc_Record : FnScope ["self", "heads", "line", "result"] ["self", "heads", "line", "result"] (defScope (inClass (top 25) 0)) := ⟨rfl, rfl, rfl, by decide +kernel, rfl, by decide +kernel, by decide +kernel⟩
theorem new_Record (t : Tx P w K mg A) : New P w K mg base (CXN P w A.cNoRecord) 1 "Record" A.cRecord ["self", "heads", "line", "result"] (spRecNew A.cRecord) := by
  obtain ⟨fd, F, hb⟩ := t.f_Record
  refine ⟨A.iRecord, fd, t.mk_Record, F.pure sc_Record (fun vs H Q E h => ?_) (fun cdv Ar outer s H vs Q E hr h => ?_), hb, t.mg_Record⟩
  · obtain ⟨x, dx, k, y, z, rfl, _⟩ := h; rfl
  obtain ⟨x, dx, k, y, z, rfl, hx, q⟩ := h
  refine ⟨_, (pss_cons (ps_fld (pv 0) (pv 1) rfl) (pss_cons (ps_fld (pv 0) (pv 2) rfl) (pss_one (ps_fld (pv 0) (pv 3) rfl)))), ?_⟩
  tm_at "rd"
  refine ⟨_, _, _, hx, t.cl_Record, t.na_Record_heads, (by show 0 < 1000; decide), _, _, _, upd_same, t.cl_Record, t.na_Record_line, (by show 1 < 1000; decide), _, _, _, upd_same, t.cl_Record, t.na_Record_result, (by show 2 < 1000; decide), ?_⟩
  rw [upd_upd, upd_upd]
  exact q
def spNeed (K : PySem.W.Frag) (C Ct : Addr) : Sp := fun vs H Q E => ∃ (b : Bool) (x : Addr) (o : Option Tk) (m e : Nat), vs = [.bl b, .ref x] ∧ TkAt K Ct H x o m e ∧ m ≤ 10000 ∧ (b = true → Q .non H) ∧ (b = false → ∃ H0, Same H0 H ∧ EW C E H0 (m + 1))
theorem sc_need : FnScope ["holds", "token"] ["holds", "token"] (defScope (top 95)) := ⟨rfl, rfl, rfl, by decide +kernel, rfl, by decide +kernel, by decide +kernel⟩
theorem ok_need (t : Tx P w K mg A) : Def P w K mg base (CXN P w A.cNoRecord) 3 "need" ["holds", "token"] (spNeed K A.cNoRecord A.cToken) := by
  obtain ⟨fdN, GN, bN⟩ := ok_NoRecord_init (base := base) t
  refine t.s_need.raises sc_need (fun vs H Q E h => ?_) fun f cdv Ar outer s H vs Q E hr h => ?_
  · obtain ⟨b, x, o, m, e, rfl, _⟩ := h; rfl
  obtain ⟨b, x, o, m, e, rfl, hx, hm, q1, q2⟩ := h
  refine ⟨_, (pss_one (ps_if (pt_not (pt_val (pv 0))) (pss_one (ps_raise rfl cxn_ok t.xc rfl t.mg_NoRecord GN bN (hr.mono (by decide)) reach_body (pe_op op_add (pe_fld (pv 1) rfl) pe_int))) pss_nil)), ?_⟩
  tm_at "rd"
  obtain ⟨dx, y, hx, _⟩ := hx
  cases b with
  | true => exact q1 rfl
  | false =>
    obtain ⟨H0, s0, q0⟩ := q2 rfl
    exact ⟨_, _, _, hx, t.cl_Token, t.na_Token_begin, _, rfl, _, rfl, by omega, by omega, q0.to s0 (by omega)⟩
theorem Paired.mapm {α β : Type} {F G : α → β → Prop} : ∀ {xs : List α} {ys : List β}, Paired F xs ys → (∀ a b, a ∈ xs → F a b → G a b) → Paired G xs ys
  | _, _, .nil, _ => .nil
  | _, _, .cons r t, h => .cons (h _ _ (by simp) r) (Paired.mapm t fun a b m => h a b (List.mem_cons_of_mem _ m))
theorem Paired.unsnoc {α β : Type} {F : α → β → Prop} : ∀ {ys : List β} {y : β} {xs : List α}, Paired F xs (ys ++ [y]) → ∃ xs' x, xs = xs' ++ [x] ∧ Paired F xs' ys ∧ F x y
  | [], _, _, .cons r .nil => ⟨[], _, rfl, .nil, r⟩
  | _ :: ys, _, _, .cons r t => by
    obtain ⟨xs', x, rfl, h1, h2⟩ := Paired.unsnoc (ys := ys) t
    exact ⟨_ :: xs', x, rfl, .cons r h1, h2⟩
structure Sta (K : PySem.W.Frag) (A : Adr) (H0 H : Hp) (r dx L hl ln ol ta : Addr) (xs hv lv ov : List V) (spot : Nat) (hs : List (Tt × Tt)) (rs : RS) : Prop where
  same : Same H0 H
  rd : H r = some (.ins A.cReader dx [("tokens", .ref L), ("spot", nv spot), ("heads", .ref hl), ("line", .ref ln), ("open_lines", .ref ol)])
  tk : H L = some (.lst xs)
  hd : H hl = some (.lst hv)
  li : H ln = some (.lst lv)
  op : H ol = some (.lst (ov ++ [.ref ta]))
  n1 : hl ≠ L
  n2 : ln ≠ L
  n3 : ol ≠ L
  n4 : ln ≠ hl
  n5 : ol ≠ hl
  n6 : ol ≠ ln
  f1 : H0 r = none
  f2 : H0 hl = none
  f3 : H0 ln = none
  f4 : H0 ol = none
  f5 : ∀ a, V.ref a ∈ ov ++ [V.ref ta] → H0 a = none
  hh : Paired (HdAt K H) hv hs
  ll : LnAt K H lv rs.line
  oo : Paired (OlAt A H) ov rs.rest.reverse
  ot : OlAt A H (.ref ta) rs.top
  nd : (ov ++ [V.ref ta]).Nodup
theorem OlAt.keep {H H' : Hp} {v : V} {o : OL} (s : Same H H') (h : OlAt A H v o) : OlAt A H' v o := let ⟨a, dx, e, q⟩ := h; ⟨a, dx, e, s _ _ q⟩
theorem OlAt.upd {H : Hp} {v : V} {o : OL} {D : Addr} {u : HO} (n : v ≠ .ref D) (h : OlAt A H v o) : OlAt A (L2.upd H D u) v o := let ⟨a, dx, e, q⟩ := h; ⟨a, dx, e, by rw [upd_ne (fun z => n (by rw [e, z]))]; exact q⟩
theorem OlAt.lst {H : Hp} {v : V} {o : OL} {D : Addr} {u : HO} {ys : List V} (n : H D = some (.lst ys)) (h : OlAt A H v o) : OlAt A (L2.upd H D u) v o := OlAt.upd (fun z => by
  obtain ⟨a, dx, e, q⟩ := h
  rw [e] at z; cases z; rw [n] at q; cases q) h
theorem OlAt.rdr {H : Hp} {v : V} {o : OL} {D dx : Addr} {u : HO} {fs : List (Str × V)} (nc : A.cOpenLine ≠ A.cReader) (n : H D = some (.ins A.cReader dx fs)) (h : OlAt A H v o) : OlAt A (L2.upd H D u) v o := OlAt.upd (fun z => by
  obtain ⟨a, dx, e, q⟩ := h
  rw [e] at z; cases z; rw [n] at q
  have := Option.some.inj q
  injection this with h1
  exact nc h1.symm) h
section
variable {H0 H H' : Hp} {r dx L hl ln ol ta : Addr} {xs hv lv ov : List V} {spot : Nat} {hs : List (Tt × Tt)} {rs : RS}
theorem Sta.keep (s : Same H H') (S : Sta K A H0 H r dx L hl ln ol ta xs hv lv ov spot hs rs) : Sta K A H0 H' r dx L hl ln ol ta xs hv lv ov spot hs rs :=
  { S with same := S.same.trans s, rd := s _ _ S.rd, tk := s _ _ S.tk, hd := s _ _ S.hd, li := s _ _ S.li, op := s _ _ S.op, hh := Paired.map S.hh fun _ _ z => z.keep s, ll := S.ll.keep s, oo := Paired.map S.oo fun _ _ z => z.keep s, ot := S.ot.keep s }
theorem Sta.rl {D : Addr} {ys : List V} {u : HO} (h : H D = some (.lst ys)) (S : Sta K A H0 H r dx L hl ln ol ta xs hv lv ov spot hs rs) : upd H D u r = H r := upd_ne fun z => by rw [← z, S.rd] at h; cases h
theorem Sta.line {v : V} {i : FI} (S : Sta K A H0 H r dx L hl ln ol ta xs hv lv ov spot hs rs) (hi : ItAt K H v i) :
    Sta K A H0 (upd H ln (.lst (lv ++ [v]))) r dx L hl ln ol ta xs hv (lv ++ [v]) ov spot hs { rs with line := rs.line ++ [i] } ∧ KT A.cToken H (upd H ln (.lst (lv ++ [v]))) := by
  have k : KT A.cToken H (upd H ln (.lst (lv ++ [v]))) := KT.lst S.li
  exact ⟨{ S with same := Same.mine S.same S.f3, rd := by rw [S.rl S.li]; exact S.rd, tk := by rw [upd_ne (Ne.symm S.n2)]; exact S.tk, hd := by rw [upd_ne (Ne.symm S.n4)]; exact S.hd, li := upd_same, op := by rw [upd_ne S.n6]; exact S.op, hh := Paired.map S.hh fun _ _ z => z.kt k, ll := Paired.snoc (hi.kt k) (S.ll.kt k), oo := Paired.map S.oo fun _ _ z => z.lst S.li, ot := S.ot.lst S.li }, k⟩
theorem Sta.reline {ws : List V} {is : List FI} (S : Sta K A H0 H r dx L hl ln ol ta xs hv lv ov spot hs rs) (hi : LnAt K H ws is) :
    Sta K A H0 (upd H ln (.lst ws)) r dx L hl ln ol ta xs hv ws ov spot hs { rs with line := is } ∧ KT A.cToken H (upd H ln (.lst ws)) := by
  have k : KT A.cToken H (upd H ln (.lst ws)) := KT.lst S.li
  exact ⟨{ S with same := Same.mine S.same S.f3, rd := by rw [S.rl S.li]; exact S.rd, tk := by rw [upd_ne (Ne.symm S.n2)]; exact S.tk, hd := by rw [upd_ne (Ne.symm S.n4)]; exact S.hd, li := upd_same, op := by rw [upd_ne S.n6]; exact S.op, hh := Paired.map S.hh fun _ _ z => z.kt k, ll := hi.kt k, oo := Paired.map S.oo fun _ _ z => z.lst S.li, ot := S.ot.lst S.li }, k⟩
theorem Sta.heads {v : V} {i : Tt × Tt} (S : Sta K A H0 H r dx L hl ln ol ta xs hv lv ov spot hs rs) (hi : HdAt K H v i) :
    Sta K A H0 (upd H hl (.lst (hv ++ [v]))) r dx L hl ln ol ta xs (hv ++ [v]) lv ov spot (hs ++ [i]) rs ∧ KT A.cToken H (upd H hl (.lst (hv ++ [v]))) := by
  have k : KT A.cToken H (upd H hl (.lst (hv ++ [v]))) := KT.lst S.hd
  exact ⟨{ S with same := Same.mine S.same S.f2, rd := by rw [S.rl S.hd]; exact S.rd, tk := by rw [upd_ne (Ne.symm S.n1)]; exact S.tk, hd := upd_same, li := by rw [upd_ne S.n4]; exact S.li, op := by rw [upd_ne S.n5]; exact S.op, hh := Paired.snoc (hi.kt k) (Paired.map S.hh fun _ _ z => z.kt k), ll := S.ll.kt k, oo := Paired.map S.oo fun _ _ z => z.lst S.hd, ot := S.ot.lst S.hd }, k⟩
theorem Sta.nr {D : Addr} {ys : List V} (S : Sta K A H0 H r dx L hl ln ol ta xs hv lv ov spot hs rs) (h : H D = some (.lst ys)) : D ≠ r := fun z => by rw [z, S.rd] at h; cases h
theorem Sta.spot' {n : Nat} {z : V} (t : Tx P w K mg A) (S : Sta K A H0 H r dx L hl ln ol ta xs hv lv ov spot hs rs) (hz : z = nv n) :
    Sta K A H0 (upd H r (.ins A.cReader dx (putF "spot" z [("tokens", .ref L), ("spot", nv spot), ("heads", .ref hl), ("line", .ref ln), ("open_lines", .ref ol)]))) r dx L hl ln ol ta xs hv lv ov n hs rs ∧
    KT A.cToken H (upd H r (.ins A.cReader dx (putF "spot" z [("tokens", .ref L), ("spot", nv spot), ("heads", .ref hl), ("line", .ref ln), ("open_lines", .ref ol)]))) := by
  subst hz
  have k : KT A.cToken H (upd H r (.ins A.cReader dx (putF "spot" (nv n) [("tokens", .ref L), ("spot", nv spot), ("heads", .ref hl), ("line", .ref ln), ("open_lines", .ref ol)]))) := KT.ins S.rd t.ne_Reader_Token
  exact ⟨{ S with same := Same.mine S.same S.f1, rd := upd_same, tk := by rw [upd_ne (S.nr S.tk)]; exact S.tk, hd := by rw [upd_ne (S.nr S.hd)]; exact S.hd, li := by rw [upd_ne (S.nr S.li)]; exact S.li, op := by rw [upd_ne (S.nr S.op)]; exact S.op, hh := Paired.map S.hh fun _ _ z => z.kt k, ll := S.ll.kt k, oo := Paired.map S.oo fun _ _ z => z.rdr t.ne_OpenLine_Reader S.rd, ot := S.ot.rdr t.ne_OpenLine_Reader S.rd }, k⟩
theorem Sta.top {o : OL} {dt : Addr} (t : Tx P w K mg A) (S : Sta K A H0 H r dx L hl ln ol ta xs hv lv ov spot hs rs) :
    Sta K A H0 (upd H ta (.ins A.cOpenLine dt [("ply", nv o.ply), ("moves", nv o.moves), ("closing", clV o.closing)])) r dx L hl ln ol ta xs hv lv ov spot hs { rs with top := o } ∧
    KT A.cToken H (upd H ta (.ins A.cOpenLine dt [("ply", nv o.ply), ("moves", nv o.moves), ("closing", clV o.closing)])) := by
  obtain ⟨a, da, ea, qa⟩ := S.ot
  cases ea
  have k : KT A.cToken H (upd H ta (.ins A.cOpenLine dt [("ply", nv o.ply), ("moves", nv o.moves), ("closing", clV o.closing)])) := KT.ins qa t.ne_OpenLine_Token
  have nl : ∀ {D : Addr} {ys : List V}, H D = some (.lst ys) → D ≠ ta := fun h z => by rw [z, qa] at h; cases h
  have nr : r ≠ ta := fun z => by
    have := S.rd
    rw [z, qa] at this
    have := Option.some.inj this
    injection this with h1
    exact t.ne_OpenLine_Reader h1
  have no : ∀ v ∈ ov, v ≠ .ref ta := fun v hv z => by
    have := List.nodup_append.mp S.nd
    exact this.2.2 v hv (.ref ta) (by simp) z
  refine ⟨{ S with same := Same.mine S.same (S.f5 ta (by simp)), rd := by rw [upd_ne nr]; exact S.rd, tk := by rw [upd_ne (nl S.tk)]; exact S.tk, hd := by rw [upd_ne (nl S.hd)]; exact S.hd, li := by rw [upd_ne (nl S.li)]; exact S.li, op := by rw [upd_ne (nl S.op)]; exact S.op, hh := Paired.map S.hh fun _ _ z => z.kt k, ll := S.ll.kt k, oo := Paired.mapm S.oo fun v _ hv z => z.upd (no v hv), ot := ⟨ta, dt, rfl, upd_same⟩ }, k⟩
theorem Sta.push {o : OL} {x d0 : Addr} (t : Tx P w K mg A) (S : Sta K A H0 H r dx L hl ln ol ta xs hv lv ov spot hs rs) (hx : H x = some (.ins A.cOpenLine d0 [("ply", nv o.ply), ("moves", nv o.moves), ("closing", clV o.closing)])) (h0 : H0 x = none) (hn : V.ref x ∉ ov ++ [V.ref ta]) :
    Sta K A H0 (upd H ol (.lst ((ov ++ [.ref ta]) ++ [.ref x]))) r dx L hl ln ol x xs hv lv (ov ++ [.ref ta]) spot hs { rs with top := o, rest := rs.top :: rs.rest } ∧ KT A.cToken H (upd H ol (.lst ((ov ++ [.ref ta]) ++ [.ref x]))) := by
  have k : KT A.cToken H (upd H ol (.lst ((ov ++ [.ref ta]) ++ [.ref x]))) := KT.lst S.op
  refine ⟨{ S with same := Same.mine S.same S.f4, rd := by rw [S.rl S.op]; exact S.rd, tk := by rw [upd_ne (Ne.symm S.n3)]; exact S.tk, hd := by rw [upd_ne (Ne.symm S.n5)]; exact S.hd, li := by rw [upd_ne (Ne.symm S.n6)]; exact S.li, op := upd_same, f5 := fun a ha => ?_, hh := Paired.map S.hh fun _ _ z => z.kt k, ll := S.ll.kt k, oo := ?_, ot := OlAt.lst S.op ⟨x, d0, rfl, hx⟩, nd := ?_ }, k⟩
  · rcases List.mem_append.mp ha with h | h
    · exact S.f5 a h
    · simp at h; rw [h]; exact h0
  · show Paired _ _ (rs.top :: rs.rest).reverse
    rw [List.reverse_cons]
    exact Paired.snoc (S.ot.lst S.op) (Paired.map S.oo fun _ _ z => z.lst S.op)
  · rw [List.nodup_append]
    refine ⟨S.nd, by simp, fun a ha b hb e => ?_⟩
    simp at hb
    subst hb e
    exact hn ha
theorem Sta.pop {o : OL} {rr : List OL} (t : Tx P w K mg A) (S : Sta K A H0 H r dx L hl ln ol ta xs hv lv ov spot hs rs) (hr : rs.rest = o :: rr) :
    ∃ ov' tb, ov = ov' ++ [.ref tb] ∧ Sta K A H0 (upd H ol (.lst ov)) r dx L hl ln ol tb xs hv lv ov' spot hs { rs with top := o, rest := rr } ∧ KT A.cToken H (upd H ol (.lst ov)) := by
  have k : KT A.cToken H (upd H ol (.lst ov)) := KT.lst S.op
  have oo := S.oo
  rw [hr, List.reverse_cons] at oo
  obtain ⟨ov', y, rfl, h1, h2⟩ := Paired.unsnoc oo
  obtain ⟨tb, db, rfl, hb⟩ := h2
  refine ⟨ov', tb, rfl, { S with same := Same.mine S.same S.f4, rd := by rw [S.rl S.op]; exact S.rd, tk := by rw [upd_ne (Ne.symm S.n3)]; exact S.tk, hd := by rw [upd_ne (Ne.symm S.n5)]; exact S.hd, li := by rw [upd_ne (Ne.symm S.n6)]; exact S.li, op := upd_same, f5 := fun a ha => S.f5 a (List.mem_append_left _ ha), hh := Paired.map S.hh fun _ _ z => z.kt k, ll := S.ll.kt k, oo := Paired.map h1 fun _ _ z => z.lst S.op, ot := OlAt.lst S.op ⟨tb, db, rfl, hb⟩, nd := (List.nodup_append.mp S.nd).1 }, k⟩
theorem atI_last {α : Type} {l : List α} {x : α} : atI (l ++ [x]) (-1) = some x := by
  unfold atI ixN
  rw [if_neg (by decide), if_pos (by simp; omega)]
  show (l ++ [x])[((-1 : Int) + (l ++ [x]).length).toNat]? = _
  rw [show ((-1 : Int) + (l ++ [x]).length).toNat = l.length by simp; omega]
  simp
end
end
section
variable {P : Program} {w : World} {K : PySem.W.Frag} {mg : Str → Option Value} {base : Heap} {A : Adr}
def RdS (K : PySem.W.Frag) (A : Adr) (H0 H : Hp) (r : Addr) (xs : List V) (spot : Nat) (hs : List (Tt × Tt)) (rs : RS) : Prop := ∃ dx L hl ln ol ta hv lv ov, Sta K A H0 H r dx L hl ln ol ta xs hv lv ov spot hs rs
structure Good (rs : RS) : Prop where
  pl : ∀ o ∈ rs.top :: rs.rest, o.moves ≤ o.ply
  cl : ((rs.top :: rs.rest).getLast?).map OL.closing = some none
  sz : rs.line.length ≤ 10000
  dp : rs.rest.length ≤ 100
def Stp (K : PySem.W.Frag) (A : Adr) (H0 H : Hp) (r : Addr) (xs : List V) (spot : Nat) (hs : List (Tt × Tt)) (res : Except Nat RS) (Q : VK) (E : XK) : Prop := match res with
  | .error q => EW A.cNoRecord E H0 q
  | .ok rs' => ∀ H', KT A.cToken H H' → RdS K A H0 H' r xs spot hs rs' → Q .non H'
def ostep (o : Option Tk) (p : Nat) (nm : Bool) (rs : RS) : Except Nat RS := match o with
  | none => .error p
  | some t => mstep t p nm rs
def spItm (K : PySem.W.Frag) (A : Adr) (ok : Option Tk → Prop) : Sp := fun vs H Q E => ∃ (r x : Addr) (H0 : Hp) (xs : List V) (spot : Nat) (hs : List (Tt × Tt)) (rs : RS) (o : Option Tk) (b e : Nat) (nm : Bool), vs = [.ref r, .ref x] ∧ RdS K A H0 H r xs spot hs rs ∧ TkAt K A.cToken H x o b e ∧ b ≤ 10000 ∧ ok o ∧ Good rs ∧
  (∀ n d, o = some (.num n d) → ∃ v y, xs[spot + 1]? = some v ∧ TkP K A.cToken H v y ∧ nm = decide (okind y.1 = "move")) ∧ Stp K A H0 H r xs spot hs (ostep o (b + 1) nm rs) Q E
theorem canMark_split {l : List FI} (h : canMark l = true) : ∃ l0 m ms, l = l0 ++ [.move m ms] ∧ ms.length < 4 := by
  unfold canMark at h
  cases hl : l.getLast? with
  | none => rw [hl] at h; cases h
  | some y =>
    rw [hl] at h
    obtain ⟨l0, rfl⟩ := List.getLast?_eq_some_iff.mp hl
    cases y with
    | move m ms => exact ⟨l0, m, ms, rfl, by simpa using h⟩
    | note _ => cases h
    | opn _ => cases h
    | cls _ => cases h
theorem Paired.mem {α β : Type} {F : α → β → Prop} : ∀ {xs : List α} {ys : List β} {x : α}, Paired F xs ys → x ∈ xs → ∃ y, F x y
  | _, _, _, .nil, h => by cases h
  | _, _, x, .cons r t, h => by
    rcases List.mem_cons.mp h with h | h
    · subst h; exact ⟨_, r⟩
    · exact Paired.mem t h
theorem Sta.fresh {H0 H : Hp} {r dx L hl ln ol ta y : Addr} {xs hv lv ov : List V} {spot : Nat} {hs : List (Tt × Tt)} {rs : RS} (S : Sta K A H0 H r dx L hl ln ol ta xs hv lv ov spot hs rs) (hy : H y = none) : V.ref y ∉ ov ++ [V.ref ta] := fun h => by
  have : ∃ o, OlAt A H (.ref y) o := by
    rcases List.mem_append.mp h with h | h
    · exact Paired.mem S.oo h
    · rw [List.mem_singleton.mp h]; exact ⟨_, S.ot⟩
  obtain ⟨o, a, dx, e, q⟩ := this
  cases e
  rw [hy] at q; cases q
def spReader (A : Adr) : Sp := fun vs H Q _ => ∃ (x dx L : Addr), vs = [.ref x, .ref L] ∧ H x = some (.ins A.cReader dx []) ∧ H dx = some (.own x) ∧ dx ≠ x ∧
  ∀ H' hl ln ol ta dt, H x = H x → (∀ b u, H b = some u → b ≠ x → H' b = some u) → H' x = some (.ins A.cReader dx [("tokens", .ref L), ("spot", nv 0), ("heads", .ref hl), ("line", .ref ln), ("open_lines", .ref ol)]) → H' hl = some (.lst []) → H' ln = some (.lst []) → H' ol = some (.lst [.ref ta]) →
    H' ta = some (.ins A.cOpenLine dt [("ply", nv 0), ("moves", nv 0), ("closing", .non)]) → H hl = none → H ln = none → H ol = none → H ta = none → ln ≠ hl → ol ≠ hl → ol ≠ ln → Q .non H'
theorem sc_Reader : FnScope ["self", "tokens"] ["self", "tokens"] (defScope (inClass (top 91) 0)) := ⟨rfl, rfl, rfl, by decide +kernel, rfl, by decide +kernel, by decide +kernel⟩
theorem new_Reader (t : Tx P w K mg A) : New P w K mg base (CXN P w A.cNoRecord) 3 "Reader" A.cReader ["self", "tokens"] (spReader A) := by
  obtain ⟨fd, F, hb⟩ := t.f_Reader
  refine ⟨A.iReader, fd, t.mk_Reader, F.pure sc_Reader (fun vs H Q E h => ?_) (fun cdv Ar outer s H vs Q E hr h => ?_), hb, t.mg_Reader⟩
  · obtain ⟨x, dx, L, rfl, _⟩ := h; rfl
  obtain ⟨x, dx, L, rfl, hx, hdx, hne, q⟩ := h
  refine ⟨_, (pss_cons (ps_fld (pv 0) (pv 1) rfl) (pss_cons (ps_fld (pv 0) pe_int rfl) (pss_cons (ps_fld (pv 0) (pe_lst pa_nil) rfl) (pss_cons (ps_fld (pv 0) (pe_lst pa_nil) rfl) (pss_one (ps_fld (pv 0) (pe_lst (pa_cons (pe_newC (new_OpenLine t) (hr.mono (by decide)) (passC cxn_ok) (pa_cons pe_int (pa_cons pe_non pa_nil))) pa_nil)) rfl)))))), ?_⟩
  tm_at "rd"
  refine ⟨_, _, _, hx, t.cl_Reader, t.na_Reader_tokens, (by show 0 < 1000; decide), _, _, _, upd_same, t.cl_Reader, t.na_Reader_spot, (by show 1 < 1000; decide), Nat.zero_le _, fun p hp => ?_⟩
  rw [upd_upd] at hp ⊢
  have px : x ≠ p := fun z => by rw [z, upd_same] at hp; cases hp
  have hp' : H p = none := by rw [upd_ne (Ne.symm px)] at hp; exact hp
  refine ⟨_, _, _, (by rw [upd_ne px]; exact upd_same), t.cl_Reader, t.na_Reader_heads, (by show 2 < 1000; decide), Nat.zero_le _, fun p1 hp1 => ?_⟩
  have px1 : x ≠ p1 := fun z => by rw [z, upd_same] at hp1; cases hp1
  rw [upd_ne (Ne.symm px1)] at hp1
  have pp1 : p ≠ p1 := fun z => by rw [z, upd_same] at hp1; cases hp1
  rw [upd_ne (Ne.symm pp1), upd_ne (Ne.symm px1)] at hp1
  refine ⟨_, _, _, (by rw [upd_ne px1]; exact upd_same), t.cl_Reader, t.na_Reader_line, (by show 3 < 1000; decide), fun y dy hy hdy nyd => ?_⟩
  generalize hH1 : upd (upd (upd (upd (upd H x _) p (HO.lst [])) x _) p1 (HO.lst [])) x _ = H1 at hy hdy ⊢
  have k1 : ∀ b u, H b = some u → b ≠ x → H1 b = some u := fun b u hb hbx => by
    rw [← hH1, upd_ne hbx, upd_ne (ne_of_none hb hp1), upd_ne hbx, upd_ne (ne_of_none hb hp'), upd_ne hbx]
    exact hb
  have kx : H1 x = some (.ins A.cReader dx [("tokens", .ref L), ("spot", nv 0), ("heads", .ref p), ("line", .ref p1)]) := by
    rw [← hH1]; exact upd_same
  have kp : H1 p = some (.lst []) := by
    rw [← hH1, upd_ne (Ne.symm px), upd_ne pp1, upd_ne (Ne.symm px), upd_same]
  have kp1 : H1 p1 = some (.lst []) := by
    rw [← hH1, upd_ne (Ne.symm px1), upd_same]
  clear hH1
  have f : ∀ c, H1 c = none → H c = none := fun c hc => by
    cases h : H c with
    | none => rfl
    | some u =>
      by_cases hcx : c = x
      · rw [hcx, kx] at hc; cases hc
      · rw [k1 c u h hcx] at hc; cases hc
  refine ⟨y, dy, _, _, rfl, upd_same, rfl, sz (by decide), ?_⟩
  rw [upd_upd]
  intro p2 hp2
  have s2 := same_make (o := .ins A.cOpenLine dy [("ply", nv 0), ("moves", nv 0), ("closing", .non)]) (u := .own y) hy hdy
  have ky : upd (upd H1 dy (.own y)) y (.ins A.cOpenLine dy [("ply", nv 0), ("moves", nv 0), ("closing", .non)]) y = some (.ins A.cOpenLine dy [("ply", nv 0), ("moves", nv 0), ("closing", .non)]) := upd_same
  have hp2 : upd (upd H1 dy (.own y)) y (.ins A.cOpenLine dy [("ply", nv 0), ("moves", nv 0), ("closing", .non)]) p2 = none := hp2
  show ∃ x_1 x_2 x_3, upd (upd (upd H1 dy (.own y)) y (.ins A.cOpenLine dy [("ply", nv 0), ("moves", nv 0), ("closing", .non)])) p2 (HO.lst [V.ref y]) x = some (HO.ins x_1 x_2 x_3) ∧ _ ∧ _ ∧ _ ∧ Q V.non (upd (upd (upd (upd H1 dy (.own y)) y (.ins A.cOpenLine dy [("ply", nv 0), ("moves", nv 0), ("closing", .non)])) p2 (HO.lst [V.ref y])) x _)
  generalize upd (upd H1 dy (.own y)) y (.ins A.cOpenLine dy [("ply", nv 0), ("moves", nv 0), ("closing", .non)]) = H2 at s2 ky hp2 ⊢
  have kx2 := s2 _ _ kx
  have x2 : x ≠ p2 := ne_of_none kx2 hp2
  refine ⟨_, _, _, (by rw [upd_ne x2]; exact kx2), t.cl_Reader, t.na_Reader_open_lines, (by show 4 < 1000; decide), ?_⟩
  have fx : ∀ c u, H2 c = some u → c ≠ x → ∀ o, upd (upd H2 p2 (HO.lst [V.ref y])) x o c = some u := fun c u hc hcx o => by
    rw [upd_ne hcx, upd_ne (ne_of_none hc hp2)]; exact hc
  have yx : y ≠ x := fun z => by rw [z, kx] at hy; cases hy
  refine q _ p p1 p2 y dy rfl (fun b u hb hbx => fx b u (s2 _ _ (k1 b u hb hbx)) hbx _) upd_same (fx p _ (s2 _ _ kp) (Ne.symm px) _) (fx p1 _ (s2 _ _ kp1) (Ne.symm px1) _) (by rw [upd_ne (Ne.symm x2), upd_same]) (fx y _ ky yx _) hp' hp1 (f _ (s2.free hp2)) (f _ hy) (Ne.symm pp1) (fun z => by rw [z, s2 _ _ kp] at hp2; cases hp2) (fun z => by rw [z, s2 _ _ kp1] at hp2; cases hp2)
def spNowR (A : Adr) : Sp := fun vs H Q _ => ∃ (r dx L : Addr) (spot : Nat) (fs : List (Str × V)) (xs : List V) (v : V), vs = [.ref r] ∧ H r = some (.ins A.cReader dx (("tokens", .ref L) :: ("spot", nv spot) :: fs)) ∧ H L = some (.lst xs) ∧ xs[spot]? = some v ∧ Q v H
theorem sc_token_now : FnScope ["reader"] ["reader"] (defScope (top 94)) := ⟨rfl, rfl, rfl, by decide +kernel, rfl, by decide +kernel, by decide +kernel⟩
theorem ok_token_now (t : Tx P w K mg A) : Def P w K mg base (CXN P w A.cNoRecord) 1 "token_now" ["reader"] (spNowR A) := by
  refine t.s_token_now.pure sc_token_now (fun vs H Q E h => ?_) fun f cdv Ar outer s H vs Q E hr h => ?_
  · obtain ⟨r, dx, L, spot, fs, xs, v, rfl, _⟩ := h; rfl
  obtain ⟨r, dx, L, spot, fs, xs, v, rfl, hr0, hL, hv, q⟩ := h
  refine ⟨_, (pss_one (ps_ret (pe_ix (ix_listK (K := K) rfl) (pe_fld (pv 0) rfl) (pe_fld (pv 0) rfl) (fun _ _ => rfl)))), ?_⟩
  tm_at "rd"
  exact ⟨_, _, _, hr0, t.cl_Reader, t.na_Reader_tokens, _, rfl, _, _, _, hr0, t.cl_Reader, t.na_Reader_spot, _, rfl, L, rfl, _, _, rfl, SqL.of hL, _, atI_nat (j := spot) hv, q⟩
theorem sc_take_move : FnScope ["reader", "token", "line"] ["reader", "token"] (defScope (top 98)) := ⟨rfl, rfl, rfl, by decide +kernel, rfl, by decide +kernel, by decide +kernel⟩
theorem ok_take_move (t : Tx P w K mg A) : Def P w K mg base (CXN P w A.cNoRecord) 1 "take_move" ["reader", "token"] (spItm K A fun o => ∃ m a, o = some (.move m a)) := by
  refine t.s_take_move.pure sc_take_move (fun vs H Q E h => ?_) fun f cdv Ar outer s H vs Q E hr h => ?_
  · obtain ⟨r, x, H0, xs, spot, hs, rs, o, b, e, nm, rfl, _⟩ := h; rfl
  obtain ⟨r, x, H0, xs, spot, hs, rs, o, b, e, nm, rfl, ⟨dx, L, hl, ln, ol, ta, hv, lv, ov, S⟩, hx, hb, hok, G, hnx, q⟩ := h
  refine ⟨_, (pss_cons (ps_set (i := 2) sc_take_move.nd rfl (Or.inl rfl) (pe_ix (ix_listK (K := K) rfl) (pe_fld (pv 0) rfl) (pe_un un_neg pe_int) (fun _ _ => rfl))) (pss_cons (ps_fldaug (pv 2) pe_int in_add) (pss_cons (ps_fldaug (pv 2) pe_int in_add) (pss_one (ps_expr (pe_bm PySem.F.plainAttrs_list PySem.F.slot_list_append PySem.F.type_list_append mt_append (pe_fld (pv 0) rfl) (pa_cons (pe_tup (pa_cons (pe_con1 t.k_MOVE) (pa_cons (pe_ix (ix_tupK (K := K) rfl) (pe_fld (pv 1) rfl) pe_int (fun _ _ => rfl)) (pa_cons (pe_ix (ix_tupK (K := K) rfl) (pe_fld (pv 1) rfl) pe_int (fun _ _ => rfl)) pa_nil)))) pa_nil))))))), ?_⟩
  tm_at "rd"
  obtain ⟨m, ao, rfl⟩ := hok
  obtain ⟨a, da, ea, qa⟩ := id S.ot
  cases ea
  obtain ⟨dk, y, hx, hto⟩ := hx
  obtain ⟨ay, y1, y2, rfl, hy, hm, hu⟩ := hto
  refine ⟨_, _, _, S.rd, t.cl_Reader, t.na_Reader_open_lines, _, rfl, ol, rfl, _, SqL.of S.op, _, atI_last, ta, rfl, _, _, _, qa, t.cl_OpenLine, t.na_OpenLine_ply, _, rfl, _, rfl, _, _, qa, (by show 3 < 1000; decide), ?_⟩
  refine ⟨ta, rfl, _, _, _, upd_same, t.cl_OpenLine, t.na_OpenLine_moves, _, rfl, _, rfl, _, _, upd_same, (by show 3 < 1000; decide), ?_⟩
  rw [upd_upd]
  generalize hH2 : upd H ta _ = H2
  have S2 : Sta K A H0 H2 r dx L hl ln ol ta xs hv lv ov spot hs { rs with top := ⟨rs.top.ply + 1, rs.top.moves + 1, rs.top.closing⟩ } ∧ KT A.cToken H H2 := by
    rw [← hH2]; exact S.top t (o := ⟨rs.top.ply + 1, rs.top.moves + 1, rs.top.closing⟩) (dt := da)
  obtain ⟨S2, k2⟩ := S2
  have hx2 := k2 _ _ hx rfl
  have hy2 := k2.seqT hy
  refine ⟨_, _, _, S2.rd, t.cl_Reader, t.na_Reader_line, _, rfl, .inl ⟨rfl, _, SqL.of S2.li⟩, _, _, _, hx2, t.cl_Token, t.na_Token_told, _, rfl, ay, rfl, _, hy2, _, atI_0, _, _, _, hx2, t.cl_Token, t.na_Token_told, _, rfl, ay, rfl, _, hy2, _, atI_nat (j := 1) rfl, sz (by decide), fun p hp => ?_⟩
  have S3 := S2.keep (Same.updN (o := HO.tup [V.str (Str.ofString "move"), y1, y2]) hp)
  have k3 : KT A.cToken H2 (upd H2 p (HO.tup [V.str (Str.ofString "move"), y1, y2])) := KT.new hp
  have hi : ItAt K (upd H2 p (HO.tup [V.str (Str.ofString "move"), y1, y2])) (.ref p) (.move m ao.toList) := ⟨p, rfl, y1, y2, SqT.of upd_same, hm.kt (k2.trans k3), hu.kt (k2.trans k3)⟩
  obtain ⟨S4, k4⟩ := S3.line hi
  have hlen := Paired.len S.ll
  have := G.sz
  exact ⟨ln, rfl, lv, S3.li, szl (by omega), q _ ((k2.trans k3).trans k4) ⟨_, _, _, _, _, _, _, _, _, S4⟩⟩
theorem sc_take_mark : FnScope ["reader", "token"] ["reader", "token"] (defScope (top 99)) := ⟨rfl, rfl, rfl, by decide +kernel, rfl, by decide +kernel, by decide +kernel⟩
theorem ok_take_mark (t : Tx P w K mg A) : Def P w K mg base (CXN P w A.cNoRecord) 4 "take_mark" ["reader", "token"] (spItm K A fun o => ∃ n, o = some (.mark n)) := by
  obtain ⟨fdN, GN, bN⟩ := ok_NoRecord_init (base := base) t
  refine t.s_take_mark.raises sc_take_mark (fun vs H Q E h => ?_) fun f cdv Ar outer s H vs Q E hr h => ?_
  · obtain ⟨r, x, H0, xs, spot, hs, rs, o, b, e, nm, rfl, _⟩ := h; rfl
  obtain ⟨r, x, H0, xs, spot, hs, rs, o, b, e, nm, rfl, ⟨dx, L, hl, ln, ol, ta, hv, lv, ov, S⟩, hx, hb, hok, G, hnx, q⟩ := h
  refine ⟨_, (pss_cons (ps_expr (pe_callD (ok_need t) (hr.mono (by decide)) pass_body (pa_cons (pe_callD (ok_can_take_mark t) (hr.mono (by decide)) (passC cxn_ok) (pa_cons (pe_fld (pv 0) rfl) pa_nil)) (pa_cons (pv 1) pa_nil)))) (pss_one (ps_asg (pe_callD (ok_marked t) (hr.mono (by decide)) (passC cxn_ok) (pa_cons (pe_ix (ix_listK (K := K) rfl) (pe_fld (pv 0) rfl) (pe_un un_neg pe_int) (fun _ _ => rfl)) (pa_cons (pe_fld (pv 1) rfl) pa_nil))) (pg_sub (pe_fld (pv 0) rfl) (pe_un un_neg pe_int) set_list)))), ?_⟩
  tm_at "rd"
  obtain ⟨n, rfl⟩ := hok
  obtain ⟨dk, y, hx0, hto⟩ := id hx
  obtain rfl : y = nv n := hto
  refine ⟨_, _, _, S.rd, t.cl_Reader, t.na_Reader_line, _, rfl, ln, lv, rs.line, rfl, S.li, S.ll, _, x, _, b, e, rfl, hx, hb, fun hc => ?_, fun hc => ?_⟩
  · refine ⟨_, _, _, S.rd, t.cl_Reader, t.na_Reader_line, _, rfl, ln, rfl, _, SqL.of S.li, ?_⟩
    obtain ⟨l0, m, ms, e1, e2⟩ := canMark_split hc
    have ll := S.ll
    rw [e1] at ll
    obtain ⟨lv0, v, rfl, h1, h2⟩ := Paired.unsnoc ll
    refine ⟨_, atI_last, _, _, _, hx0, t.cl_Token, t.na_Token_told, _, rfl, v, m, ms, n, rfl, h2, by omega, fun H1 u s1 hu => ?_⟩
    have S1 := S.keep s1
    have hLn : LnAt K H1 (lv0 ++ [u]) (l0 ++ [FI.move m (ms ++ [n])]) := Paired.snoc (F := ItAt K H1) hu (Paired.map h1 fun _ _ z => z.keep s1)
    obtain ⟨S2, k2⟩ := S1.reline hLn
    refine ⟨_, _, _, S1.rd, t.cl_Reader, t.na_Reader_line, _, rfl, ln, rfl, _, S1.li, lv0.length, ?_, ?_⟩
    · unfold ixN
      rw [if_neg (by decide), if_pos (by simp; omega)]
      congr 1
      simp; omega
    · have q : Stp K A H0 H r xs spot hs (if canMark rs.line = true then .ok { rs with line := addMark rs.line n } else .error (b + 1)) Q E := q
      rw [if_pos hc, e1, addMark_snoc] at q
      have e3 : (lv0 ++ [v]).set lv0.length u = lv0 ++ [u] := by simp
      rw [e3]
      exact q _ ((KT.of s1).trans k2) ⟨_, _, _, _, _, _, _, _, _, S2⟩
  · have q : Stp K A H0 H r xs spot hs (if canMark rs.line = true then .ok { rs with line := addMark rs.line n } else .error (b + 1)) Q E := q
    rw [if_neg (by rw [hc]; decide)] at q
    exact ⟨H0, S.same, q⟩
theorem sc_check_number : FnScope ["reader", "token", "behind"] ["reader", "token"] (defScope (top 100)) := ⟨rfl, rfl, rfl, by decide +kernel, rfl, by decide +kernel, by decide +kernel⟩
theorem ok_check_number (t : Tx P w K mg A) : Def P w K mg base (CXN P w A.cNoRecord) 4 "check_number" ["reader", "token"] (spItm K A fun o => ∃ n d, o = some (.num n d)) := by
  obtain ⟨fdN, GN, bN⟩ := ok_NoRecord_init (base := base) t
  refine t.s_check_number.raises sc_check_number (fun vs H Q E h => ?_) fun f cdv Ar outer s H vs Q E hr h => ?_
  · obtain ⟨r, x, H0, xs, spot, hs, rs, o, b, e, nm, rfl, _⟩ := h; rfl
  obtain ⟨r, x, H0, xs, spot, hs, rs, o, b, e, nm, rfl, ⟨dx, L, hl, ln, ol, ta, hv, lv, ov, S⟩, hx, hb, hok, G, hnx, q⟩ := h
  refine ⟨_, (pss_cons (ps_set (i := 2) sc_check_number.nd rfl (Or.inl rfl) (pe_ix (ix_listK (K := K) rfl) (pe_fld (pv 0) rfl) (pe_op op_add (pe_fld (pv 0) rfl) pe_int) (fun _ _ => rfl))) (pss_one (ps_expr (pe_callD (ok_need t) (hr.mono (by decide)) pass_body (pa_cons (pe_and (pe_cmpR (op_eqD hr.units) (pe_fld (pv 1) rfl) (pe_callD (ok_number_at t) (hr.mono (by decide)) (passC cxn_ok) (pa_cons (pe_fld (pe_ix (ix_listK (K := K) rfl) (pe_fld (pv 0) rfl) (pe_un un_neg pe_int) (fun _ _ => rfl)) rfl) pa_nil)) (nomark _)) (pe_one (pe_cmpR op_eq (pe_fld (pv 2) rfl) (pe_con1 t.k_MOVE) (nomark _)))) (pa_cons (pv 1) pa_nil)))))), ?_⟩
  tm_at "rd"
  obtain ⟨n, d, rfl⟩ := hok
  obtain ⟨dk, y, hx0, hto⟩ := id hx
  obtain ⟨ay, rfl, hy⟩ := hto
  obtain ⟨a, da, ea, qa⟩ := id S.ot
  cases ea
  obtain ⟨v, z, hv1, hv2, rfl⟩ := hnx n d rfl
  refine ⟨_, _, _, S.rd, t.cl_Reader, t.na_Reader_tokens, _, rfl, _, _, _, S.rd, t.cl_Reader, t.na_Reader_spot, _, rfl, _, rfl, L, rfl, _, SqL.of S.tk, _, atI_nat (j := spot + 1) hv1, _, _, _, hx0, t.cl_Token, t.na_Token_told, _, rfl, _, _, _, S.rd, t.cl_Reader, t.na_Reader_open_lines, _, rfl, ?_⟩
  obtain ⟨ba, bb, be, rfl, ⟨bd, by0, hb0, _⟩, _, _⟩ := hv2
  refine ⟨ol, rfl, _, SqL.of S.op, _, atI_last, ta, rfl, _, _, _, qa, t.cl_OpenLine, t.na_OpenLine_ply, _, rfl, _, rfl, fun H1 pa s1 hpa => ?_⟩
  have S1 := S.keep s1
  have hx1 := s1 _ _ hx0
  have hb1 := s1 _ _ hb0
  have q : Stp K A H0 H r xs spot hs (if numOk n d rs.top.ply = true ∧ decide (okind z.fst = Str.ofString "move") = true then .ok rs else .error (b + 1)) Q E := q
  refine ⟨.tuple (dpi [n, d]), .tup (s1.seqT hy) (dp_iv [n, d]), .tuple (dpi [rs.top.ply / 2 + 1, if rs.top.ply % 2 = 0 then 1 else 3]), .tup (SqT.of hpa) (dp_iv [rs.top.ply / 2 + 1, if rs.top.ply % 2 = 0 then 1 else 3]), shp_t _, shp_t _, ?_⟩
  rw [eqv_t]
  have en : decide ([n, d] = [rs.top.ply / 2 + 1, if rs.top.ply % 2 = 0 then 1 else 3]) = numOk n d rs.top.ply := by
    unfold numOk
    rw [decide_eq_decide]
    simp
  rw [en]
  by_cases h1 : numOk n d rs.top.ply = true
  · rw [if_pos h1]
    refine ⟨ba, rfl, _, _, _, hb1, t.cl_Token, t.na_Token_kind, _, rfl, rfl, _, x, _, b, e, rfl, hx.keep s1, hb, fun hc => ?_, fun hc => ?_⟩
    · rw [if_pos ⟨h1, by rw [decide_eq_true_eq] at hc ⊢; exact V.str.inj hc⟩] at q
      exact q _ (KT.of s1) ⟨_, _, _, _, _, _, _, _, _, S1⟩
    · rw [if_neg (fun w => by rw [decide_eq_false_iff_not] at hc; exact hc (by rw [of_decide_eq_true w.2]))] at q
      exact ⟨H0, S1.same, q⟩
  · rw [if_neg h1]
    refine ⟨_, x, _, b, e, rfl, hx.keep s1, hb, (fun hc => by cases hc), fun _ => ?_⟩
    rw [if_neg (fun w => h1 w.1)] at q
    exact ⟨H0, S1.same, q⟩
theorem sc_begin_line : FnScope ["reader", "token", "line", "ply"] ["reader", "token"] (defScope (top 101)) := ⟨rfl, rfl, rfl, by decide +kernel, rfl, by decide +kernel, by decide +kernel⟩
theorem ok_begin_line (t : Tx P w K mg A) : Def P w K mg base (CXN P w A.cNoRecord) 4 "begin_line" ["reader", "token"] (spItm K A fun o => ∃ c, o = some (.open_ c)) := by
  obtain ⟨fdN, GN, bN⟩ := ok_NoRecord_init (base := base) t
  refine t.s_begin_line.raises sc_begin_line (fun vs H Q E h => ?_) fun f cdv Ar outer s H vs Q E hr h => ?_
  · obtain ⟨r, x, H0, xs, spot, hs, rs, o, b, e, nm, rfl, _⟩ := h; rfl
  obtain ⟨r, x, H0, xs, spot, hs, rs, o, b, e, nm, rfl, ⟨dx, L, hl, ln, ol, ta, hv, lv, ov, S⟩, hx, hb, hok, G, hnx, q⟩ := h
  refine ⟨_, (pss_cons (ps_set (i := 2) sc_begin_line.nd rfl (Or.inl rfl) (pe_ix (ix_listK (K := K) rfl) (pe_fld (pv 0) rfl) (pe_un un_neg pe_int) (fun _ _ => rfl))) (pss_cons (ps_expr (pe_callD (ok_need t) (hr.mono (by decide)) pass_body (pa_cons (pe_cmpR op_le (pe_callB (call_len_seqK (K := K) rfl) (by rfl) t.b_len PySem.boot_len (pa_cons (pe_fld (pv 0) rfl) pa_nil)) (pe_con1 t.k_MOST_DEPTH) (nomark _)) (pa_cons (pv 1) pa_nil)))) (pss_cons (ps_expr (pe_callD (ok_need t) (hr.mono (by decide)) pass_body (pa_cons (pe_or (pe_cmpR op_ne (pe_fld (pv 1) rfl) (pe_con1 t.k_OPEN_OTHER) (nomark _)) (pe_one (pe_cmpR op_gt (pe_fld (pv 2) rfl) pe_int (nomark _)))) (pa_cons (pv 1) pa_nil)))) (pss_cons (ps_set (i := 3) sc_begin_line.nd rfl (Or.inl rfl) (pe_ifExp (pt_cmpR op_eq (pe_fld (pv 1) rfl) (pe_con1 t.k_OPEN_OTHER) (nomark _)) (pe_op op_sub (pe_fld (pv 2) rfl) pe_int) (pe_fld (pv 2) rfl))) (pss_cons (ps_expr (pe_bm PySem.F.plainAttrs_list PySem.F.slot_list_append PySem.F.type_list_append mt_append (pe_fld (pv 0) rfl) (pa_cons (pe_newC (new_OpenLine t) (hr.mono (by decide)) (passC cxn_ok) (pa_cons (pv 3) (pa_cons (pe_dgetK t.dk_CLOSED_BY (pe_fld (pv 1) rfl) (fun _ _ => rfl)) pa_nil))) pa_nil))) (pss_one (ps_expr (pe_bm PySem.F.plainAttrs_list PySem.F.slot_list_append PySem.F.type_list_append mt_append (pe_fld (pv 0) rfl) (pa_cons (pe_tup (pa_cons (pe_fld (pv 1) rfl) pa_nil)) pa_nil))))))))), ?_⟩
  tm_at "rd"
  obtain ⟨c, rfl⟩ := hok
  obtain ⟨dk, y, hx0, hto⟩ := id hx
  obtain rfl : y = .non := hto
  have q : Stp K A H0 H r xs spot hs (if 40 < rs.rest.length + 1 ∨ (c = false ∧ rs.top.moves = 0) then .error (b + 1) else .ok { line := rs.line ++ [.opn c], top := ⟨if c = true then rs.top.ply else rs.top.ply - 1, 0, some c⟩, rest := rs.top :: rs.rest }) Q E := q
  have hol : ov.length = rs.rest.length := by rw [Paired.len S.oo, List.length_reverse]
  obtain ⟨a, da, ea, qa⟩ := id S.ot
  cases ea
  refine ⟨_, _, _, S.rd, t.cl_Reader, t.na_Reader_open_lines, _, rfl, ol, rfl, _, SqL.of S.op, _, atI_last, _, _, _, S.rd, t.cl_Reader, t.na_Reader_open_lines, _, rfl, ol, rfl, _, .inl (SqL.of S.op), _, x, _, b, e, rfl, hx, hb, fun hc => ?_, fun hc => ?_⟩
  case refine_2 =>
    rw [if_pos (.inl (by rw [decide_eq_false_iff_not, List.length_append] at hc; simp at hc; omega))] at q
    exact ⟨H0, S.same, q⟩
  have hc : rs.rest.length + 1 ≤ 40 := by
    rw [decide_eq_true_eq, List.length_append] at hc
    simp at hc; omega
  refine ⟨_, _, _, hx0, t.cl_Token, t.na_Token_kind, _, rfl, rfl, ?_⟩
  cases c with
  | true =>
    rw [if_pos (by decide)]
    refine ⟨_, x, _, b, e, rfl, hx, hb, fun _ => ?_, fun z => by cases z⟩
    rw [if_neg (fun w => w.elim (by omega) fun w => by cases w.1)] at q
    have hcases := And.intro trivial trivial
    obtain ⟨k1, k2⟩ := hcases
    refine ⟨_, _, _, hx0, t.cl_Token, t.na_Token_kind, _, rfl, rfl, ?_⟩
    rw [if_neg (by decide)]
    refine ⟨ta, rfl, _, _, _, qa, t.cl_OpenLine, t.na_OpenLine_ply, _, rfl, _, _, _, S.rd, t.cl_Reader, t.na_Reader_open_lines, _, rfl, .inl ⟨rfl, _, SqL.of S.op⟩, _, _, _, hx0, t.cl_Token, t.na_Token_kind, _, rfl, Sum.inr (opS true), rfl, _, rfl, fun y dy hy hdy nyd => ?_⟩
    refine ⟨y, dy, _, _, rfl, upd_same, rfl, ol, rfl, ?_⟩
    rw [upd_upd]
    generalize hH1 : upd (upd H dy (.own y)) y _ = H1
    have sm : Same H H1 := by rw [← hH1]; exact same_make hy hdy
    have ky : H1 y = some (.ins A.cOpenLine dy [("ply", nv (if true = true then rs.top.ply else rs.top.ply - 1)), ("moves", nv 0), ("closing", clV (some true))]) := by
      rw [← hH1, upd_same]
      rfl
    obtain ⟨S2, k2⟩ := (S.keep sm).push t (o := ⟨if true = true then rs.top.ply else rs.top.ply - 1, 0, some true⟩) ky (S.same.free hy) (S.fresh hy)
    have hx2 := k2 _ _ (sm _ _ hx0) rfl
    have hlen := Paired.len S.ll
    have := G.sz
    refine ⟨_, (S.keep sm).op, szl (by rw [List.length_append]; simp; omega), _, _, _, S2.rd, t.cl_Reader, t.na_Reader_line, _, rfl, .inl ⟨rfl, _, SqL.of S2.li⟩, _, _, _, hx2, t.cl_Token, t.na_Token_kind, _, rfl, sz (by decide), fun p hp => ?_⟩
    have S3 := S2.keep (Same.updN (o := HO.tup [V.str (opS true)]) hp)
    have k3 : KT A.cToken _ _ := KT.new (o := HO.tup [V.str (opS true)]) hp
    obtain ⟨S4, k4⟩ := S3.line (v := .ref p) (i := .opn true) ⟨p, rfl, SqT.of upd_same⟩
    exact ⟨ln, rfl, lv, S3.li, szl (by omega), q _ (((KT.of sm).trans k2).trans (k3.trans k4)) ⟨_, _, _, _, _, _, _, _, _, S4⟩⟩
  | false =>
    rw [if_neg (by decide)]
    refine ⟨ta, rfl, _, _, _, qa, t.cl_OpenLine, t.na_OpenLine_moves, _, rfl, _, rfl, _, x, _, b, e, rfl, hx, hb, fun hz => ?_, fun hz => ?_⟩
    · have hz : 0 < rs.top.moves := by rw [decide_eq_true_eq] at hz; omega
      rw [if_neg (fun w => w.elim (by omega) fun w => by omega)] at q
      have hcases := And.intro trivial trivial
      obtain ⟨k1, k2⟩ := hcases
      refine ⟨_, _, _, hx0, t.cl_Token, t.na_Token_kind, _, rfl, rfl, ?_⟩
      rw [if_pos (by decide)]
      refine ⟨ta, rfl, _, _, _, qa, t.cl_OpenLine, t.na_OpenLine_ply, _, rfl, _, rfl, _, _, _, S.rd, t.cl_Reader, t.na_Reader_open_lines, _, rfl, .inl ⟨rfl, _, SqL.of S.op⟩, _, _, _, hx0, t.cl_Token, t.na_Token_kind, _, rfl, Sum.inr (opS false), rfl, _, rfl, fun y dy hy hdy nyd => ?_⟩
      refine ⟨y, dy, _, _, rfl, upd_same, rfl, ol, rfl, ?_⟩
      rw [upd_upd]
      generalize hH1 : upd (upd H dy (.own y)) y _ = H1
      have sm : Same H H1 := by rw [← hH1]; exact same_make hy hdy
      have ky : H1 y = some (.ins A.cOpenLine dy [("ply", nv (if false = true then rs.top.ply else rs.top.ply - 1)), ("moves", nv 0), ("closing", clV (some false))]) := by
        rw [← hH1, upd_same]
        have ep : ((rs.top.ply : Nat) : Int) - 1 = ((rs.top.ply - 1 : Nat) : Int) := by have := G.pl rs.top (by simp); omega
        rw [ep]; rfl
      obtain ⟨S2, k2⟩ := (S.keep sm).push t (o := ⟨if false = true then rs.top.ply else rs.top.ply - 1, 0, some false⟩) ky (S.same.free hy) (S.fresh hy)
      have hx2 := k2 _ _ (sm _ _ hx0) rfl
      have hlen := Paired.len S.ll
      have := G.sz
      refine ⟨_, (S.keep sm).op, szl (by rw [List.length_append]; simp; omega), _, _, _, S2.rd, t.cl_Reader, t.na_Reader_line, _, rfl, .inl ⟨rfl, _, SqL.of S2.li⟩, _, _, _, hx2, t.cl_Token, t.na_Token_kind, _, rfl, sz (by decide), fun p hp => ?_⟩
      have S3 := S2.keep (Same.updN (o := HO.tup [V.str (opS false)]) hp)
      have k3 : KT A.cToken _ _ := KT.new (o := HO.tup [V.str (opS false)]) hp
      obtain ⟨S4, k4⟩ := S3.line (v := .ref p) (i := .opn false) ⟨p, rfl, SqT.of upd_same⟩
      exact ⟨ln, rfl, lv, S3.li, szl (by omega), q _ (((KT.of sm).trans k2).trans (k3.trans k4)) ⟨_, _, _, _, _, _, _, _, _, S4⟩⟩
    · have hz : rs.top.moves = 0 := by rw [decide_eq_false_iff_not] at hz; omega
      rw [if_pos (.inr ⟨rfl, hz⟩)] at q
      exact ⟨H0, S.same, q⟩
theorem sc_end_line : FnScope ["reader", "token", "line"] ["reader", "token"] (defScope (top 102)) := ⟨rfl, rfl, rfl, by decide +kernel, rfl, by decide +kernel, by decide +kernel⟩
theorem ok_end_line (t : Tx P w K mg A) : Def P w K mg base (CXN P w A.cNoRecord) 4 "end_line" ["reader", "token"] (spItm K A fun o => ∀ x, o = some x → match x with | .close _ => True | .result _ => True | .head _ _ => True | .bad => True | _ => False) := by
  obtain ⟨fdN, GN, bN⟩ := ok_NoRecord_init (base := base) t
  refine t.s_end_line.raises sc_end_line (fun vs H Q E h => ?_) fun f cdv Ar outer s H vs Q E hr h => ?_
  · obtain ⟨r, x, H0, xs, spot, hs, rs, o, b, e, nm, rfl, _⟩ := h; rfl
  obtain ⟨r, x, H0, xs, spot, hs, rs, o, b, e, nm, rfl, ⟨dx, L, hl, ln, ol, ta, hv, lv, ov, S⟩, hx, hb, hok, G, hnx, q⟩ := h
  refine ⟨_, (pss_cons (ps_set (i := 2) sc_end_line.nd rfl (Or.inl rfl) (pe_ix (ix_listK (K := K) rfl) (pe_fld (pv 0) rfl) (pe_un un_neg pe_int) (fun _ _ => rfl))) (pss_cons (ps_expr (pe_callD (ok_need t) (hr.mono (by decide)) pass_body (pa_cons (pe_and (pe_cmpR op_eq (pe_fld (pv 1) rfl) (pe_fld (pv 2) rfl) (nomark _)) (pe_one (pe_cmpR op_gt (pe_fld (pv 2) rfl) pe_int (nomark _)))) (pa_cons (pv 1) pa_nil)))) (pss_cons (ps_expr (pe_bm0 PySem.F.plainAttrs_list PySem.F.slot_list_pop PySem.F.type_list_pop mt_pop (pe_fld (pv 0) rfl))) (pss_one (ps_expr (pe_bm PySem.F.plainAttrs_list PySem.F.slot_list_append PySem.F.type_list_append mt_append (pe_fld (pv 0) rfl) (pa_cons (pe_tup (pa_cons (pe_fld (pv 1) rfl) pa_nil)) pa_nil))))))), ?_⟩
  tm_at "rd"
  obtain ⟨dk, y, hx0, hto⟩ := id hx
  obtain ⟨a, da, ea, qa⟩ := id S.ot
  cases ea
  refine ⟨_, _, _, S.rd, t.cl_Reader, t.na_Reader_open_lines, _, rfl, ol, rfl, _, SqL.of S.op, _, atI_last, _, _, _, hx0, t.cl_Token, t.na_Token_kind, _, rfl, ta, rfl, _, _, _, qa, t.cl_OpenLine, t.na_OpenLine_closing, _, rfl, ?_, ?_⟩
  · cases rs.top.closing <;> rfl
  have no : ∀ kd : Str, kd ≠ Str.ofString ")" → kd ≠ Str.ofString ">" → ¬ V.str kd = clV rs.top.closing := fun kd h1 h2 z => by
    cases hcl : rs.top.closing with
    | none => rw [hcl] at z; cases z
    | some c =>
      rw [hcl] at z
      cases c with
      | true => exact h2 (V.str.inj z)
      | false => exact h1 (V.str.inj z)
  match o, hok, hx, hx0, q with
  | none, _, hx, hx0, q =>
    rw [if_neg (no _ (by decide) (by decide))]
    exact ⟨_, x, _, b, e, rfl, hx, hb, (fun z => by cases z), fun _ => ⟨H0, S.same, q⟩⟩
  | some (.result k), _, hx, hx0, q =>
    rw [if_neg (no (okind (some (.result k))) (by show Str.ofString "result" ≠ _; decide) (by show Str.ofString "result" ≠ _; decide))]
    exact ⟨_, x, _, b, e, rfl, hx, hb, (fun z => by cases z), fun _ => ⟨H0, S.same, q⟩⟩
  | some (.head k1 k2), _, hx, hx0, q =>
    rw [if_neg (no (okind (some (.head k1 k2))) (by show Str.ofString "head" ≠ _; decide) (by show Str.ofString "head" ≠ _; decide))]
    exact ⟨_, x, _, b, e, rfl, hx, hb, (fun z => by cases z), fun _ => ⟨H0, S.same, q⟩⟩
  | some .bad, _, hx, hx0, q =>
    rw [if_neg (no (okind (some .bad)) (by show Str.ofString "wrong" ≠ _; decide) (by show Str.ofString "wrong" ≠ _; decide))]
    exact ⟨_, x, _, b, e, rfl, hx, hb, (fun z => by cases z), fun _ => ⟨H0, S.same, q⟩⟩
  | some (.note _), hok, _, _, _ => exact (hok _ rfl).elim
  | some (.mark _), hok, _, _, _ => exact (hok _ rfl).elim
  | some (.num _ _), hok, _, _, _ => exact (hok _ rfl).elim
  | some (.move _ _), hok, _, _, _ => exact (hok _ rfl).elim
  | some (.open_ _), hok, _, _, _ => exact (hok _ rfl).elim
  | some (.close c), _, hx, hx0, q =>
    by_cases hcl : rs.top.closing = some c
    · rw [if_pos (by rw [hcl]; rfl)]
      match hrs : rs.rest with
      | [] =>
        have := G.cl
        rw [hrs] at this
        simp [hcl] at this
      | o1 :: rr =>
      have q : Stp K A H0 H r xs spot hs (match rs.rest with | [] => .error (b + 1) | o :: r => if rs.top.closing = some c ∧ 0 < rs.top.moves then .ok { line := rs.line ++ [.cls c], top := o, rest := r } else .error (b + 1)) Q E := q
      rw [hrs] at q
      simp only [] at q
      refine ⟨ta, rfl, _, _, _, qa, t.cl_OpenLine, t.na_OpenLine_moves, _, rfl, _, rfl, _, x, _, b, e, rfl, hx, hb, fun hz => ?_, fun hz => ?_⟩
      · have hz : 0 < rs.top.moves := by rw [decide_eq_true_eq] at hz; omega
        rw [if_pos ⟨hcl, hz⟩] at q
        refine ⟨_, _, _, S.rd, t.cl_Reader, t.na_Reader_open_lines, _, rfl, .inl ⟨rfl, _, SqL.of S.op⟩, ol, rfl, _, S.op, .ref ta, by simp, ?_⟩
        rw [List.dropLast_concat]
        obtain ⟨ov', tb, rfl, S2, k2⟩ := S.pop t hrs
        have hx2 := k2 _ _ hx0 rfl
        have hlen := Paired.len S.ll
        have := G.sz
        refine ⟨_, _, _, S2.rd, t.cl_Reader, t.na_Reader_line, _, rfl, .inl ⟨rfl, _, SqL.of S2.li⟩, _, _, _, hx2, t.cl_Token, t.na_Token_kind, _, rfl, sz (by decide), fun p hp => ?_⟩
        have S3 := S2.keep (Same.updN (o := HO.tup [V.str (clS c)]) hp)
        have k3 : KT A.cToken _ _ := KT.new (o := HO.tup [V.str (clS c)]) hp
        obtain ⟨S4, k4⟩ := S3.line (v := .ref p) (i := .cls c) ⟨p, rfl, SqT.of upd_same⟩
        exact ⟨ln, rfl, lv, S3.li, szl (by omega), q _ (k2.trans (k3.trans k4)) ⟨_, _, _, _, _, _, _, _, _, S4⟩⟩
      · have hz : rs.top.moves = 0 := by rw [decide_eq_false_iff_not] at hz; omega
        rw [if_neg (fun w => by omega)] at q
        exact ⟨H0, S.same, q⟩
    · rw [if_neg (fun z : V.str (okind (some (.close c))) = clV rs.top.closing => hcl (by
        cases hk : rs.top.closing with
        | none => rw [hk] at z; cases z
        | some c' =>
          rw [hk] at z
          cases c <;> cases c' <;> first | rfl | exact absurd (V.str.inj z) (by decide)))]
      refine ⟨_, x, _, b, e, rfl, hx, hb, (fun z => by cases z), fun _ => ?_⟩
      have q : Stp K A H0 H r xs spot hs (match rs.rest with | [] => .error (b + 1) | o :: r => if rs.top.closing = some c ∧ 0 < rs.top.moves then .ok { line := rs.line ++ [.cls c], top := o, rest := r } else .error (b + 1)) Q E := q
      cases hrs : rs.rest with
      | nil => rw [hrs] at q; exact ⟨H0, S.same, q⟩
      | cons o1 rr =>
        rw [hrs] at q
        simp only [] at q
        rw [if_neg (fun w => hcl w.1)] at q
        exact ⟨H0, S.same, q⟩
end
section
variable {P : Program} {w : World} {K : PySem.W.Frag} {mg : Str → Option Value} {base : Heap} {A : Adr}
theorem open_kv (b : Bool) : (valV [((Sum.inr (Str.ofString "(") : Key), V.str (Str.ofString ")")), (Sum.inr (Str.ofString "<"), V.str (Str.ofString ">"))] (Sum.inr (opS b))).isSome = true := by cases b <;> decide
theorem no_kv (s : Str) (h1 : s ≠ Str.ofString "(") (h2 : s ≠ Str.ofString "<") : (valV [((Sum.inr (Str.ofString "(") : Key), V.str (Str.ofString ")")), (Sum.inr (Str.ofString "<"), V.str (Str.ofString ">"))] (Sum.inr s : Key)).isSome = false := by
  unfold valV
  rw [List.find?_cons, decide_eq_false (fun z => h1 (Sum.inr.inj z).symm), List.find?_cons, decide_eq_false (fun z => h2 (Sum.inr.inj z).symm)]
  rfl
theorem tu_dp {H : Hp} {v : V} {l : List Nat} (h : TuAt K H v l) : Dp K H v (.tuple (dpi l)) := by
  obtain ⟨a, rfl, q⟩ := h
  exact .tup q (dp_iv l)
theorem names_dp {H : Hp} : ∀ {ys : List V} {hs : List (Tt × Tt)}, Paired (fun v (h : Tt × Tt) => TuAt K H v h.1) ys hs → DpAll K H ys (hs.map fun h => .tuple (dpi h.1))
  | _, _, .nil => .nil
  | _, _, .cons r t => .cons (tu_dp r) (names_dp t)
theorem names_any (n : Tt) (hs : List (Tt × Tt)) : ((hs.map fun h => PyData.tuple (dpi h.1)).any fun z => z.eqv (.tuple (dpi n))) = hs.any fun h => h.1 == n := by
  rw [List.any_map]
  congr 1
  funext h
  show PyData.eqv (.tuple (dpi h.1)) (.tuple (dpi n)) = _
  rw [eqv_t, Bool.eq_iff_iff, decide_eq_true_eq, beq_iff_eq]
theorem names_lay : ∀ hs : List (Tt × Tt), PyData.canLayAll0 (hs.map fun h => PyData.tuple (dpi h.1)) = true
  | [] => by simp [PyData.canLayAll0]
  | h :: r => by
    show (PyData.canLay0 (.tuple (dpi h.1)) && PyData.canLayAll0 (r.map fun h => PyData.tuple (dpi h.1))) = true
    rw [names_lay r]
    simp [PyData.canLay0, lay_iv]
def spHd (K : PySem.W.Frag) (A : Adr) : Sp := fun vs H Q E => ∃ (r x : Addr) (H0 : Hp) (xs : List V) (spot : Nat) (hs : List (Tt × Tt)) (rs : RS) (n v : Tt) (b e : Nat), vs = [.ref r, .ref x] ∧ RdS K A H0 H r xs spot hs rs ∧ TkAt K A.cToken H x (some (.head n v)) b e ∧ b ≤ 10000 ∧ hs.length ≤ 100 ∧
  (((hs.any fun h => h.1 == n) = true ∨ 20 ≤ hs.length) → EW A.cNoRecord E H0 (b + 1)) ∧ (¬ ((hs.any fun h => h.1 == n) = true ∨ 20 ≤ hs.length) → ∀ H', KT A.cToken H H' → RdS K A H0 H' r xs spot (hs ++ [(n, v)]) rs → Q .non H')
theorem sc_read_head : FnScope ["reader", "token", "names", "head"] ["reader", "token"] (defScope (top 96)) := ⟨rfl, rfl, rfl, by decide +kernel, rfl, by decide +kernel, by decide +kernel⟩
theorem ok_read_head (t : Tx P w K mg A) : Def P w K mg base (CXN P w A.cNoRecord) 4 "read_head" ["reader", "token"] (spHd K A) := by
  obtain ⟨fdN, GN, bN⟩ := ok_NoRecord_init (base := base) t
  refine t.s_read_head.raises sc_read_head (fun vs H Q E h => ?_) fun f cdv Ar outer s H vs Q E hr h => ?_
  · obtain ⟨r, x, H0, xs, spot, hs, rs, n, v, b, e, rfl, _⟩ := h; rfl
  obtain ⟨r, x, H0, xs, spot, hs, rs, n, v, b, e, rfl, ⟨dx, L, hl, ln, ol, ta, hv, lv, ov, S⟩, hx, hb, hsz, q1, q2⟩ := h
  refine ⟨_, (pss_cons (ps_setLc (i := 2) rfl sc_read_head.nd rfl rfl (sw_true rfl rfl rfl rfl) (pi_list (pe_fld (pv 0) rfl)) (own := [("head", 3)]) (blkOk_by rfl) (fun _ _ _ _ _ => (pg_name (i := 3) sc_read_head.nd rfl (Or.inl rfl))) (fun _ _ _ _ _ => pts_nil) (fun _ _ _ _ _ => (pe_ix (ix_tupK (K := K) rfl) (pv 3) pe_int (fun _ _ => rfl)))) (pss_cons (ps_expr (pe_callD (ok_need t) (hr.mono (by decide)) pass_body (pa_cons (pe_and (pe_cmpR (op_notInD hr.units) (pe_ix (ix_tupK (K := K) rfl) (pe_fld (pv 1) rfl) pe_int (fun _ _ => rfl)) (pv 2) (by with_unfolding_all rfl)) (pe_one (pe_cmpR op_lt (pe_callB (call_len_seqK (K := K) rfl) (by rfl) t.b_len PySem.boot_len (pa_cons (pv 2) pa_nil)) (pe_con1 t.k_MOST_HEADS) (nomark _)))) (pa_cons (pv 1) pa_nil)))) (pss_one (ps_expr (pe_bm PySem.F.plainAttrs_list PySem.F.slot_list_append PySem.F.type_list_append mt_append (pe_fld (pv 0) rfl) (pa_cons (pe_fld (pv 1) rfl) pa_nil)))))), ?_⟩
  tm_at "rd"
  obtain ⟨dk, y, hx0, hto⟩ := id hx
  obtain ⟨ha, x1, y1, rfl, hsq, hn1, hv1⟩ := id hto
  have hhl := Paired.len S.hh
  refine ⟨_, rfl, r, A.cReader, dx, _, _, rfl, S.rd, t.cl_Reader, t.na_Reader_heads, rfl, hl, rfl, ⟨_, SqL.of S.hd⟩, fun D hD => lc_list (K := K) (a := hl) (xs := hv) (fun i H' => Same H H' ∧ ∃ ys, H' D = some (.lst ys) ∧ Paired (fun v (h : Tt × Tt) => TuAt K H v h.1) ys (hs.take i) ∧ ys.length ≤ i)
    ⟨Same.updN hD, [], upd_same, .nil, Nat.le_refl _⟩ (fun i H' _ ⟨s1, _⟩ => SqL.of (s1 _ _ S.hd)) ?_ ?_⟩
  · rintro i x' H' hx' ⟨s1, ys, hy1, hy2, hy3⟩
    obtain ⟨h, hh, hxh⟩ := Paired.at S.hh hx'
    obtain ⟨b', z1, w1, rfl, zq, zn, zv⟩ := hxh
    have hi' : i < hv.length := (List.getElem?_eq_some_iff.mp hx').1
    tm_at "rd"
    refine ⟨_, s1.seqT zq, _, atI_0, _, hy1, szl (by omega), Same.mine s1 hD, _, upd_same, ?_, by rw [List.length_append]; simp; omega⟩
    rw [take_snoc hh]
    exact Paired.snoc (F := fun v (h : Tt × Tt) => TuAt K H v h.1) zn hy2
  · rintro H1 ⟨s1, ys, hy1, hy2, _⟩
    rw [hhl, List.take_length] at hy2
    have hx1 := s1 _ _ hx0
    have S1 := S.keep s1
    refine ⟨_, _, _, hx1, t.cl_Token, t.na_Token_told, _, rfl, ha, rfl, _, s1.seqT hsq, _, atI_0, .tuple (dpi n), tu_dp (hn1.keep s1), hs.map (fun (h : Tt × Tt) => PyData.tuple (dpi h.1)), .lst (SqL.of hy1) (names_dp (Paired.map hy2 fun _ _ z => z.keep s1)), shp_t _, (by simp [PyData.depth, dep_iv]), names_lay hs, ?_⟩
    rw [names_any]
    by_cases h1 : (hs.any fun h => h.1 == n) = true
    · rw [if_neg (by rw [h1]; decide)]
      exact ⟨_, x, _, b, e, rfl, hx.keep s1, hb, (fun z => by cases z), fun _ => ⟨H0, S1.same, q1 (.inl h1)⟩⟩
    · have h1' : (hs.any fun h => h.1 == n) = false := Bool.eq_false_iff.mpr h1
      rw [if_pos (by rw [h1']; rfl)]
      have hyl := Paired.len hy2
      refine ⟨D, rfl, _, .inl (SqL.of hy1), _, x, _, b, e, rfl, hx.keep s1, hb, fun hz => ?_, fun hz => ⟨H0, S1.same, q1 (.inr (by rw [decide_eq_false_iff_not] at hz; omega))⟩⟩
      have hz : hs.length < 20 := by rw [decide_eq_true_eq] at hz; omega
      obtain ⟨S2, k2⟩ := S1.heads (HdAt.keep s1 hto)
      exact ⟨_, _, _, S1.rd, t.cl_Reader, t.na_Reader_heads, _, rfl, .inl ⟨rfl, _, SqL.of S1.hd⟩, _, _, _, hx1, t.cl_Token, t.na_Token_told, _, rfl, hl, rfl, hv, S1.hd, szl (by omega), q2 (fun w => w.elim h1 fun w => by omega) _ ((KT.of s1).trans k2) ⟨_, _, _, _, _, _, _, _, _, S2⟩⟩
theorem sc_read_item_token : FnScope ["reader", "token"] ["reader", "token"] (defScope (top 97)) := ⟨rfl, rfl, rfl, by decide +kernel, rfl, by decide +kernel, by decide +kernel⟩
theorem ok_read_item_token (t : Tx P w K mg A) : Def P w K mg base (CXN P w A.cNoRecord) 5 "read_item_token" ["reader", "token"] (spItm K A fun _ => True) := by
  obtain ⟨fdN, GN, bN⟩ := ok_NoRecord_init (base := base) t
  refine t.s_read_item_token.raises sc_read_item_token (fun vs H Q E h => ?_) fun f cdv Ar outer s H vs Q E hr h => ?_
  · obtain ⟨r, x, H0, xs, spot, hs, rs, o, b, e, nm, rfl, _⟩ := h; rfl
  obtain ⟨r, x, H0, xs, spot, hs, rs, o, b, e, nm, rfl, ⟨dx, L, hl, ln, ol, ta, hv, lv, ov, S⟩, hx, hb, hok, G, hnx, q⟩ := h
  refine ⟨_, (pss_one (ps_if (pt_cmpR op_eq (pe_fld (pv 1) rfl) (pe_con1 t.k_MOVE) (nomark _)) (pss_one (ps_expr (pe_callD (ok_take_move t) (hr.mono (by decide)) (passC cxn_ok) (pa_cons (pv 0) (pa_cons (pv 1) pa_nil))))) (pss_one (ps_if (pt_cmpR op_eq (pe_fld (pv 1) rfl) (pe_con1 t.k_MARK) (nomark _)) (pss_one (ps_expr (pe_callD (ok_take_mark t) (hr.mono (by decide)) pass_body (pa_cons (pv 0) (pa_cons (pv 1) pa_nil))))) (pss_one (ps_if (pt_cmpR op_eq (pe_fld (pv 1) rfl) (pe_con1 t.k_NUMBER) (nomark _)) (pss_one (ps_expr (pe_callD (ok_check_number t) (hr.mono (by decide)) pass_body (pa_cons (pv 0) (pa_cons (pv 1) pa_nil))))) (pss_one (ps_if (pt_cmpR op_eq (pe_fld (pv 1) rfl) (pe_con1 t.k_NOTE) (nomark _)) (pss_one (ps_expr (pe_bm PySem.F.plainAttrs_list PySem.F.slot_list_append PySem.F.type_list_append mt_append (pe_fld (pv 0) rfl) (pa_cons (pe_tup (pa_cons (pe_con1 t.k_NOTE) (pa_cons (pe_fld (pv 1) rfl) pa_nil))) pa_nil)))) (pss_one (ps_if (pt_cmp (pc_dinK t.dk_CLOSED_BY (pe_fld (pv 1) rfl)) (by with_unfolding_all rfl)) (pss_one (ps_expr (pe_callD (ok_begin_line t) (hr.mono (by decide)) pass_body (pa_cons (pv 0) (pa_cons (pv 1) pa_nil))))) (pss_one (ps_expr (pe_callD (ok_end_line t) (hr.mono (by decide)) pass_body (pa_cons (pv 0) (pa_cons (pv 1) pa_nil))))))))))))))), ?_⟩
  tm_at "rd"
  obtain ⟨dk, y, hx0, hto⟩ := id hx
  match o, hx, hx0, hto, hnx, q with
  | some (.move m a), hx, hx0, hto, hnx, q =>
    refine ⟨_, _, _, hx0, t.cl_Token, t.na_Token_kind, _, rfl, rfl, ?_⟩
    rw [if_pos (by rfl)]
    exact ⟨r, x, H0, xs, spot, hs, rs, _, b, e, nm, rfl, ⟨_, _, _, _, _, _, _, _, _, S⟩, hx, hb, ⟨m, a, rfl⟩, G, hnx, q⟩
  | some (.mark n), hx, hx0, hto, hnx, q =>
    refine ⟨_, _, _, hx0, t.cl_Token, t.na_Token_kind, _, rfl, rfl, ?_⟩
    rw [if_neg (by show ¬ V.str (Str.ofString "mark") = V.str (Str.ofString "move"); decide)]
    refine ⟨_, _, _, hx0, t.cl_Token, t.na_Token_kind, _, rfl, rfl, ?_⟩
    rw [if_pos (by rfl)]
    exact ⟨r, x, H0, xs, spot, hs, rs, _, b, e, nm, rfl, ⟨_, _, _, _, _, _, _, _, _, S⟩, hx, hb, ⟨n, rfl⟩, G, hnx, q⟩
  | some (.num n d), hx, hx0, hto, hnx, q =>
    refine ⟨_, _, _, hx0, t.cl_Token, t.na_Token_kind, _, rfl, rfl, ?_⟩
    rw [if_neg (by show ¬ V.str (Str.ofString "number") = V.str (Str.ofString "move"); decide)]
    refine ⟨_, _, _, hx0, t.cl_Token, t.na_Token_kind, _, rfl, rfl, ?_⟩
    rw [if_neg (by show ¬ V.str (Str.ofString "number") = V.str (Str.ofString "mark"); decide)]
    refine ⟨_, _, _, hx0, t.cl_Token, t.na_Token_kind, _, rfl, rfl, ?_⟩
    rw [if_pos (by rfl)]
    exact ⟨r, x, H0, xs, spot, hs, rs, _, b, e, nm, rfl, ⟨_, _, _, _, _, _, _, _, _, S⟩, hx, hb, ⟨n, d, rfl⟩, G, hnx, q⟩
  | some (.note c), hx, hx0, hto, hnx, q =>
    refine ⟨_, _, _, hx0, t.cl_Token, t.na_Token_kind, _, rfl, rfl, ?_⟩
    rw [if_neg (by show ¬ V.str (Str.ofString "note") = V.str (Str.ofString "move"); decide)]
    refine ⟨_, _, _, hx0, t.cl_Token, t.na_Token_kind, _, rfl, rfl, ?_⟩
    rw [if_neg (by show ¬ V.str (Str.ofString "note") = V.str (Str.ofString "mark"); decide)]
    refine ⟨_, _, _, hx0, t.cl_Token, t.na_Token_kind, _, rfl, rfl, ?_⟩
    rw [if_neg (by show ¬ V.str (Str.ofString "note") = V.str (Str.ofString "number"); decide)]
    refine ⟨_, _, _, hx0, t.cl_Token, t.na_Token_kind, _, rfl, rfl, ?_⟩
    rw [if_pos (by rfl)]
    refine ⟨_, _, _, S.rd, t.cl_Reader, t.na_Reader_line, _, rfl, .inl ⟨rfl, _, SqL.of S.li⟩, _, _, _, hx0, t.cl_Token, t.na_Token_told, _, rfl, sz (by decide), fun p hp => ?_⟩
    have S3 := S.keep (Same.updN (o := HO.tup [V.str (Str.ofString "note"), y]) hp)
    have k3 : KT A.cToken H _ := KT.new (o := HO.tup [V.str (Str.ofString "note"), y]) hp
    obtain ⟨S4, k4⟩ := S3.line (v := .ref p) (i := .note c) ⟨p, rfl, y, SqT.of upd_same, TuAt.kt k3 hto⟩
    have hlen := Paired.len S.ll
    have := G.sz
    exact ⟨ln, rfl, lv, S3.li, szl (by omega), q _ (k3.trans k4) ⟨_, _, _, _, _, _, _, _, _, S4⟩⟩
  | some (.open_ b0), hx, hx0, hto, hnx, q =>
    refine ⟨_, _, _, hx0, t.cl_Token, t.na_Token_kind, _, rfl, rfl, ?_⟩
    rw [if_neg (by show ¬ V.str (opS b0) = V.str (Str.ofString "move"); cases b0 <;> decide)]
    refine ⟨_, _, _, hx0, t.cl_Token, t.na_Token_kind, _, rfl, rfl, ?_⟩
    rw [if_neg (by show ¬ V.str (opS b0) = V.str (Str.ofString "mark"); cases b0 <;> decide)]
    refine ⟨_, _, _, hx0, t.cl_Token, t.na_Token_kind, _, rfl, rfl, ?_⟩
    rw [if_neg (by show ¬ V.str (opS b0) = V.str (Str.ofString "number"); cases b0 <;> decide)]
    refine ⟨_, _, _, hx0, t.cl_Token, t.na_Token_kind, _, rfl, rfl, ?_⟩
    rw [if_neg (by show ¬ V.str (opS b0) = V.str (Str.ofString "note"); cases b0 <;> decide)]
    refine ⟨_, _, _, hx0, t.cl_Token, t.na_Token_kind, _, rfl, Sum.inr (opS b0), rfl, ?_⟩
    rw [if_pos (open_kv b0)]
    exact ⟨r, x, H0, xs, spot, hs, rs, _, b, e, nm, rfl, ⟨_, _, _, _, _, _, _, _, _, S⟩, hx, hb, ⟨b0, rfl⟩, G, hnx, q⟩
  | some (.close b0), hx, hx0, hto, hnx, q =>
    refine ⟨_, _, _, hx0, t.cl_Token, t.na_Token_kind, _, rfl, rfl, ?_⟩
    rw [if_neg (by show ¬ V.str (clS b0) = V.str (Str.ofString "move"); cases b0 <;> decide)]
    refine ⟨_, _, _, hx0, t.cl_Token, t.na_Token_kind, _, rfl, rfl, ?_⟩
    rw [if_neg (by show ¬ V.str (clS b0) = V.str (Str.ofString "mark"); cases b0 <;> decide)]
    refine ⟨_, _, _, hx0, t.cl_Token, t.na_Token_kind, _, rfl, rfl, ?_⟩
    rw [if_neg (by show ¬ V.str (clS b0) = V.str (Str.ofString "number"); cases b0 <;> decide)]
    refine ⟨_, _, _, hx0, t.cl_Token, t.na_Token_kind, _, rfl, rfl, ?_⟩
    rw [if_neg (by show ¬ V.str (clS b0) = V.str (Str.ofString "note"); cases b0 <;> decide)]
    refine ⟨_, _, _, hx0, t.cl_Token, t.na_Token_kind, _, rfl, Sum.inr (clS b0), rfl, ?_⟩
    rw [if_neg (by rw [no_kv (clS b0) (by cases b0 <;> decide) (by cases b0 <;> decide)]; decide)]
    exact ⟨r, x, H0, xs, spot, hs, rs, _, b, e, nm, rfl, ⟨_, _, _, _, _, _, _, _, _, S⟩, hx, hb, (fun _ h => by cases h; trivial), G, hnx, q⟩
  | some (.result k), hx, hx0, hto, hnx, q =>
    refine ⟨_, _, _, hx0, t.cl_Token, t.na_Token_kind, _, rfl, rfl, ?_⟩
    rw [if_neg (by show ¬ V.str (Str.ofString "result") = V.str (Str.ofString "move"); decide)]
    refine ⟨_, _, _, hx0, t.cl_Token, t.na_Token_kind, _, rfl, rfl, ?_⟩
    rw [if_neg (by show ¬ V.str (Str.ofString "result") = V.str (Str.ofString "mark"); decide)]
    refine ⟨_, _, _, hx0, t.cl_Token, t.na_Token_kind, _, rfl, rfl, ?_⟩
    rw [if_neg (by show ¬ V.str (Str.ofString "result") = V.str (Str.ofString "number"); decide)]
    refine ⟨_, _, _, hx0, t.cl_Token, t.na_Token_kind, _, rfl, rfl, ?_⟩
    rw [if_neg (by show ¬ V.str (Str.ofString "result") = V.str (Str.ofString "note"); decide)]
    refine ⟨_, _, _, hx0, t.cl_Token, t.na_Token_kind, _, rfl, Sum.inr (Str.ofString "result"), rfl, ?_⟩
    rw [if_neg (by rw [no_kv (Str.ofString "result") (by decide) (by decide)]; decide)]
    exact ⟨r, x, H0, xs, spot, hs, rs, _, b, e, nm, rfl, ⟨_, _, _, _, _, _, _, _, _, S⟩, hx, hb, (fun _ h => by cases h; trivial), G, hnx, q⟩
  | some (.head k1 k2), hx, hx0, hto, hnx, q =>
    refine ⟨_, _, _, hx0, t.cl_Token, t.na_Token_kind, _, rfl, rfl, ?_⟩
    rw [if_neg (by show ¬ V.str (Str.ofString "head") = V.str (Str.ofString "move"); decide)]
    refine ⟨_, _, _, hx0, t.cl_Token, t.na_Token_kind, _, rfl, rfl, ?_⟩
    rw [if_neg (by show ¬ V.str (Str.ofString "head") = V.str (Str.ofString "mark"); decide)]
    refine ⟨_, _, _, hx0, t.cl_Token, t.na_Token_kind, _, rfl, rfl, ?_⟩
    rw [if_neg (by show ¬ V.str (Str.ofString "head") = V.str (Str.ofString "number"); decide)]
    refine ⟨_, _, _, hx0, t.cl_Token, t.na_Token_kind, _, rfl, rfl, ?_⟩
    rw [if_neg (by show ¬ V.str (Str.ofString "head") = V.str (Str.ofString "note"); decide)]
    refine ⟨_, _, _, hx0, t.cl_Token, t.na_Token_kind, _, rfl, Sum.inr (Str.ofString "head"), rfl, ?_⟩
    rw [if_neg (by rw [no_kv (Str.ofString "head") (by decide) (by decide)]; decide)]
    exact ⟨r, x, H0, xs, spot, hs, rs, _, b, e, nm, rfl, ⟨_, _, _, _, _, _, _, _, _, S⟩, hx, hb, (fun _ h => by cases h; trivial), G, hnx, q⟩
  | some .bad, hx, hx0, hto, hnx, q =>
    refine ⟨_, _, _, hx0, t.cl_Token, t.na_Token_kind, _, rfl, rfl, ?_⟩
    rw [if_neg (by show ¬ V.str (Str.ofString "wrong") = V.str (Str.ofString "move"); decide)]
    refine ⟨_, _, _, hx0, t.cl_Token, t.na_Token_kind, _, rfl, rfl, ?_⟩
    rw [if_neg (by show ¬ V.str (Str.ofString "wrong") = V.str (Str.ofString "mark"); decide)]
    refine ⟨_, _, _, hx0, t.cl_Token, t.na_Token_kind, _, rfl, rfl, ?_⟩
    rw [if_neg (by show ¬ V.str (Str.ofString "wrong") = V.str (Str.ofString "number"); decide)]
    refine ⟨_, _, _, hx0, t.cl_Token, t.na_Token_kind, _, rfl, rfl, ?_⟩
    rw [if_neg (by show ¬ V.str (Str.ofString "wrong") = V.str (Str.ofString "note"); decide)]
    refine ⟨_, _, _, hx0, t.cl_Token, t.na_Token_kind, _, rfl, Sum.inr (Str.ofString "wrong"), rfl, ?_⟩
    rw [if_neg (by rw [no_kv (Str.ofString "wrong") (by decide) (by decide)]; decide)]
    exact ⟨r, x, H0, xs, spot, hs, rs, _, b, e, nm, rfl, ⟨_, _, _, _, _, _, _, _, _, S⟩, hx, hb, (fun _ h => by cases h; trivial), G, hnx, q⟩
  | none, hx, hx0, hto, hnx, q =>
    refine ⟨_, _, _, hx0, t.cl_Token, t.na_Token_kind, _, rfl, rfl, ?_⟩
    rw [if_neg (by show ¬ V.str (Str.ofString "end") = V.str (Str.ofString "move"); decide)]
    refine ⟨_, _, _, hx0, t.cl_Token, t.na_Token_kind, _, rfl, rfl, ?_⟩
    rw [if_neg (by show ¬ V.str (Str.ofString "end") = V.str (Str.ofString "mark"); decide)]
    refine ⟨_, _, _, hx0, t.cl_Token, t.na_Token_kind, _, rfl, rfl, ?_⟩
    rw [if_neg (by show ¬ V.str (Str.ofString "end") = V.str (Str.ofString "number"); decide)]
    refine ⟨_, _, _, hx0, t.cl_Token, t.na_Token_kind, _, rfl, rfl, ?_⟩
    rw [if_neg (by show ¬ V.str (Str.ofString "end") = V.str (Str.ofString "note"); decide)]
    refine ⟨_, _, _, hx0, t.cl_Token, t.na_Token_kind, _, rfl, Sum.inr (Str.ofString "end"), rfl, ?_⟩
    rw [if_neg (by rw [no_kv (Str.ofString "end") (by decide) (by decide)]; decide)]
    exact ⟨r, x, H0, xs, spot, hs, rs, _, b, e, nm, rfl, ⟨_, _, _, _, _, _, _, _, _, S⟩, hx, hb, (fun _ h => by cases h), G, hnx, q⟩
end
section
variable {P : Program} {w : World} {K : PySem.W.Frag} {mg : Str → Option Value} {base : Heap} {A : Adr}
theorem Paired.at' {α β : Type} {F : α → β → Prop} : ∀ {xs : List α} {ys : List β} {i : Nat} {y : β}, Paired F xs ys → ys[i]? = some y → ∃ x, xs[i]? = some x ∧ F x y
  | _, _, _, _, .nil, e => by simp at e
  | _, _, 0, _, .cons r _, e => by
    have e : some _ = some _ := e
    cases e; exact ⟨_, rfl, r⟩
  | _, _, i + 1, y, .cons _ t, e => by
    obtain ⟨x, h1, h2⟩ := Paired.at' (i := i) (y := y) t (by simpa using e)
    exact ⟨x, by simpa using h1, h2⟩
def hdo : Vbdcam.Toks → Nat → Option Tk × Nat
  | [], n => (none, n)
  | (x, p) :: _, _ => (some x, p)
theorem hdo_at {T : List (Option Tk × Nat)} {spot n : Nat} {u : Vbdcam.Toks} (h : T.drop spot = ends u n) : T[spot]? = some (hdo u n) := by
  have e : (T.drop spot)[0]? = T[spot]? := by rw [List.getElem?_drop]; rfl
  rw [← e, h]
  match u with
  | [] => rfl
  | (x, p) :: r =>
    show (if isBad x = true then [(some x, p)] else (some x, p) :: ends r n)[0]? = _
    split <;> rfl
theorem drop_next {T : List (Option Tk × Nat)} {spot n p : Nat} {x : Tk} {r : Vbdcam.Toks} (h : T.drop spot = ends ((x, p) :: r) n) (hx : isBad x = false) : T.drop (spot + 1) = ends r n := by
  have h : T.drop spot = (if isBad x = true then [(some x, p)] else (some x, p) :: ends r n) := h
  rw [if_neg (by rw [hx]; decide)] at h
  have e : T.drop (spot + 1) = (T.drop spot).drop 1 := by rw [List.drop_drop]
  rw [e, h]; rfl
theorem ends_len : ∀ (u : Vbdcam.Toks) (n : Nat), (ends u n).length ≤ u.length + 1
  | [], n => by simp [ends]
  | (x, p) :: r, n => by
    have := ends_len r n
    show (if isBad x = true then [(some x, p)] else (some x, p) :: ends r n).length ≤ _
    split
    · simp
    · simp only [List.length_cons]; omega
theorem kd_head (o : Option Tk) : (okind o = Str.ofString "head") ↔ ∃ n v, o = some (.head n v) := by
  constructor
  · intro h
    match o, h with
    | some (.head n v), _ => exact ⟨n, v, rfl⟩
    | none, h => exact absurd h (by show ¬ Str.ofString "end" = _; decide)
    | some (.open_ b), h => cases b <;> exact absurd h (by decide)
    | some (.close b), h => cases b <;> exact absurd h (by decide)
    | some (.note _), h => exact absurd h (by show ¬ Str.ofString "note" = _; decide)
    | some (.mark _), h => exact absurd h (by show ¬ Str.ofString "mark" = _; decide)
    | some (.num _ _), h => exact absurd h (by show ¬ Str.ofString "number" = _; decide)
    | some (.result _), h => exact absurd h (by show ¬ Str.ofString "result" = _; decide)
    | some (.move _ _), h => exact absurd h (by show ¬ Str.ofString "move" = _; decide)
    | some .bad, h => exact absurd h (by show ¬ Str.ofString "wrong" = _; decide)
  · rintro ⟨n, v, rfl⟩; rfl
theorem kd_result (o : Option Tk) : (okind o = Str.ofString "result") ↔ ∃ k, o = some (.result k) := by
  constructor
  · intro h
    match o, h with
    | some (.result k), _ => exact ⟨k, rfl⟩
    | none, h => exact absurd h (by show ¬ Str.ofString "end" = _; decide)
    | some (.open_ b), h => cases b <;> exact absurd h (by decide)
    | some (.close b), h => cases b <;> exact absurd h (by decide)
    | some (.note _), h => exact absurd h (by show ¬ Str.ofString "note" = _; decide)
    | some (.mark _), h => exact absurd h (by show ¬ Str.ofString "mark" = _; decide)
    | some (.num _ _), h => exact absurd h (by show ¬ Str.ofString "number" = _; decide)
    | some (.head _ _), h => exact absurd h (by show ¬ Str.ofString "head" = _; decide)
    | some (.move _ _), h => exact absurd h (by show ¬ Str.ofString "move" = _; decide)
    | some .bad, h => exact absurd h (by show ¬ Str.ofString "wrong" = _; decide)
  · rintro ⟨k, rfl⟩; rfl
theorem kd_move (o : Option Tk) : (okind o = Str.ofString "move") ↔ ∃ m a, o = some (.move m a) := by
  constructor
  · intro h
    match o, h with
    | some (.move m a), _ => exact ⟨m, a, rfl⟩
    | none, h => exact absurd h (by show ¬ Str.ofString "end" = _; decide)
    | some (.open_ b), h => cases b <;> exact absurd h (by decide)
    | some (.close b), h => cases b <;> exact absurd h (by decide)
    | some (.note _), h => exact absurd h (by show ¬ Str.ofString "note" = _; decide)
    | some (.mark _), h => exact absurd h (by show ¬ Str.ofString "mark" = _; decide)
    | some (.num _ _), h => exact absurd h (by show ¬ Str.ofString "number" = _; decide)
    | some (.head _ _), h => exact absurd h (by show ¬ Str.ofString "head" = _; decide)
    | some (.result _), h => exact absurd h (by show ¬ Str.ofString "result" = _; decide)
    | some .bad, h => exact absurd h (by show ¬ Str.ofString "wrong" = _; decide)
  · rintro ⟨m, a, rfl⟩; rfl
theorem kd_end (o : Option Tk) : (okind o = Str.ofString "end") ↔ o = none := by
  constructor
  · intro h
    match o, h with
    | none, _ => rfl
    | some (.move m a), h => exact absurd h (by show ¬ Str.ofString "move" = _; decide)
    | some (.open_ b), h => cases b <;> exact absurd h (by decide)
    | some (.close b), h => cases b <;> exact absurd h (by decide)
    | some (.note _), h => exact absurd h (by show ¬ Str.ofString "note" = _; decide)
    | some (.mark _), h => exact absurd h (by show ¬ Str.ofString "mark" = _; decide)
    | some (.num _ _), h => exact absurd h (by show ¬ Str.ofString "number" = _; decide)
    | some (.head _ _), h => exact absurd h (by show ¬ Str.ofString "head" = _; decide)
    | some (.result _), h => exact absurd h (by show ¬ Str.ofString "result" = _; decide)
    | some .bad, h => exact absurd h (by show ¬ Str.ofString "wrong" = _; decide)
  · rintro rfl; rfl
theorem isMove_hdo (r : Vbdcam.Toks) (n : Nat) : Vbdcam.isMove r = decide (okind (hdo r n).1 = Str.ofString "move") := by
  rw [Bool.eq_iff_iff, decide_eq_true_eq, kd_move]
  match r with
  | [] => exact ⟨(fun h => by cases h), (fun ⟨_, _, h⟩ => by cases h)⟩
  | (x, p) :: r =>
    cases x with
    | move m a => exact ⟨fun _ => ⟨m, a, rfl⟩, fun _ => rfl⟩
    | _ => exact ⟨(fun h => by cases h), (fun ⟨_, _, h⟩ => by cases h)⟩
theorem heads_stop (hs : List (Tt × Tt)) (u : Vbdcam.Toks) (n : Nat) (h : ¬ ∃ a b, (hdo u n).1 = some (.head a b)) : Vbdcam.heads hs u = .ok (hs, u) := by
  match u with
  | [] => rfl
  | (x, p) :: r =>
    cases x with
    | head a b => exact absurd ⟨a, b, rfl⟩ h
    | _ => rfl
structure Good0 (rs : RS) : Prop where
  pl : ∀ o ∈ rs.top :: rs.rest, o.moves ≤ o.ply
  cl : ((rs.top :: rs.rest).getLast?).map OL.closing = some none
  dp : rs.rest.length ≤ 100
theorem mstep_good {x : Tk} {p : Nat} {nm : Bool} {rs s' : RS} (G : Good0 rs) (h : mstep x p nm rs = .ok s') : Good0 s' ∧ s'.line.length ≤ rs.line.length + 1 ∧ isBad x = false := by
  cases x with
  | move m a =>
    cases h
    refine ⟨⟨fun o ho => ?_, ?_, G.dp⟩, by simp, rfl⟩
    · rcases List.mem_cons.mp ho with rfl | ho
      · have := G.pl rs.top (by simp); show _ + 1 ≤ _ + 1; omega
      · exact G.pl o (List.mem_cons_of_mem _ ho)
    · have := G.cl
      cases hr : rs.rest with
      | nil => rw [hr] at this; simpa [hr] using this
      | cons o r => rw [hr] at this; simpa [hr] using this
  | mark n =>
    have h : (if canMark rs.line = true then Except.ok { rs with line := addMark rs.line n } else .error p) = .ok s' := h
    split at h
    · cases h
      refine ⟨⟨G.pl, G.cl, G.dp⟩, ?_, rfl⟩
      rename_i hc
      obtain ⟨l0, m, ms, e, _⟩ := canMark_split hc
      show (addMark rs.line n).length ≤ _
      rw [e, addMark_snoc]; simp
    · cases h
  | num n d =>
    have h : (if numOk n d rs.top.ply = true ∧ nm = true then Except.ok rs else .error p) = .ok s' := h
    split at h
    · cases h; exact ⟨G, by omega, rfl⟩
    · cases h
  | note c => cases h; exact ⟨⟨G.pl, G.cl, G.dp⟩, by simp, rfl⟩
  | open_ b =>
    have h : (if 40 < rs.rest.length + 1 ∨ (b = false ∧ rs.top.moves = 0) then Except.error p else .ok { line := rs.line ++ [.opn b], top := ⟨if b = true then rs.top.ply else rs.top.ply - 1, 0, some b⟩, rest := rs.top :: rs.rest }) = .ok s' := h
    split at h
    · cases h
    · rename_i hn
      cases h
      refine ⟨⟨fun o ho => ?_, ?_, ?_⟩, by simp, rfl⟩
      · rcases List.mem_cons.mp ho with rfl | ho
        · exact Nat.zero_le _
        · exact G.pl o ho
      · have := G.cl
        simpa using this
      · show (rs.top :: rs.rest).length ≤ 100
        have : rs.rest.length + 1 ≤ 40 := by omega
        simp; omega
  | close b =>
    have h : (match rs.rest with | [] => Except.error p | o :: r => if rs.top.closing = some b ∧ 0 < rs.top.moves then Except.ok (RS.mk (rs.line ++ [FI.cls b]) o r) else .error p) = .ok s' := h
    cases hr : rs.rest with
    | nil => rw [hr] at h; cases h
    | cons o r =>
      rw [hr] at h
      simp only [] at h
      split at h
      · cases h
        refine ⟨⟨fun o' ho => G.pl o' (by rw [hr]; exact List.mem_cons_of_mem _ ho), ?_, ?_⟩, by simp, rfl⟩
        · have := G.cl
          rw [hr, List.getLast?_cons_cons] at this
          exact this
        · have := G.dp
          rw [hr] at this
          simp at this; show r.length ≤ 100; omega
      · cases h
  | result _ => cases h
  | head _ _ => cases h
  | bad => cases h
def nmOf : Vbdcam.Toks → Bool
  | [] => false
  | _ :: r => Vbdcam.isMove r
theorem run_step {n p : Nat} {x : Tk} {rr : Vbdcam.Toks} {rs : RS} (h : ¬ ∃ k, x = .result k) : M.run n ((x, p) :: rr) rs = match mstep x p (Vbdcam.isMove rr) rs with | .error q => .error q | .ok s' => M.run n rr s' := by
  cases x with
  | result k => exact absurd ⟨k, rfl⟩ h
  | _ => rfl
theorem go_cases {u : Vbdcam.Toks} {n : Nat} {rs : RS} (G : Good0 rs) (h : ¬ ((∃ k, (hdo u n).1 = some (.result k)) ∧ rs.rest = [])) :
    (∃ p, M.run n u rs = .error p ∧ ostep (hdo u n).1 (hdo u n).2 (nmOf u) rs = .error p) ∨
    (∃ x p rr s', u = (x, p) :: rr ∧ ostep (hdo u n).1 (hdo u n).2 (nmOf u) rs = .ok s' ∧ M.run n u rs = M.run n rr s' ∧ isBad x = false ∧ Good0 s' ∧ s'.line.length ≤ rs.line.length + 1) := by
  match u with
  | [] => exact .inl ⟨n, rfl, rfl⟩
  | (x, p) :: rr =>
    by_cases hx : ∃ k, x = .result k
    · obtain ⟨k, rfl⟩ := hx
      refine .inl ⟨p, ?_, rfl⟩
      show (if rs.rest = [] then _ else _) = _
      rw [if_neg (fun z => h ⟨⟨k, rfl⟩, z⟩)]
    · rw [run_step hx]
      show (∃ q, _ ∧ mstep x p (Vbdcam.isMove rr) rs = .error q) ∨ _
      cases hm : mstep x p (Vbdcam.isMove rr) rs with
      | error q => exact .inl ⟨q, rfl, rfl⟩
      | ok s' =>
        obtain ⟨g1, g2, g3⟩ := mstep_good G hm
        exact .inr ⟨x, p, rr, s', rfl, hm, rfl, g3, g1, g2⟩
def mfin (hds : List (Tt × Tt)) (x : Except Nat (List FI × Nat × Vbdcam.Toks)) : Except Nat (List (Tt × Tt) × List FI × Nat) := match x with
  | .error p => .error p
  | .ok (l, k, rest) => match rest with
    | [] => .ok (hds, l, k)
    | (_, p) :: _ => .error p
theorem mread_run {l : List Nat} {hds : List (Tt × Tt)} {u : Vbdcam.Toks} (h0 : ¬ 8192 < l.length) (he : Vbdcam.heads [] (toks 1 l) = .ok (hds, u)) : mread l = mfin hds (M.run (l.length + 1) u M.init) := by
  unfold mread mfin
  rw [if_neg (show ¬ Vbdcam.LONGEST < l.length from h0), show Vbdcam.tokens (l.length + 1) 1 l = toks 1 l from rfl, he]
  all_goals
    simp only []
    cases M.run (l.length + 1) u M.init with
    | error p => rfl
    | ok x => obtain ⟨l, k, rest⟩ := x; cases rest <;> rfl
theorem upd_none {H : Hp} {d r b : Addr} {o u : HO} (h : upd (upd H d u) r o b = none) : H b = none := by
  by_cases h1 : b = r
  · subst h1; rw [upd_same] at h; cases h
  rw [upd_ne h1] at h
  by_cases h2 : b = d
  · subst h2; rw [upd_same] at h; cases h
  rw [upd_ne h2] at h
  exact h
def RecAt (K : PySem.W.Frag) (A : Adr) (H : Hp) (x : Addr) (hs : List (Tt × Tt)) (l : List FI) (k : Nat) : Prop := ∃ dx hl ln hv lv, H x = some (.ins A.cRecord dx [("heads", .ref hl), ("line", .ref ln), ("result", nv k)]) ∧ H hl = some (.lst hv) ∧ H ln = some (.lst lv) ∧ Paired (HdAt K H) hv hs ∧ LnAt K H lv l
def spRead (K : PySem.W.Frag) (A : Adr) : Sp := fun vs H Q E => ∃ (a : Addr) (l : List Nat), vs = [.ref a] ∧ SqL K H a (iv l) ∧ match mread l with
  | .error p => EW A.cNoRecord E H p
  | .ok (hs, fl, k) => fl.length ≤ 10000 → hs.length ≤ 10000 → ∀ H' x, Same H H' → RecAt K A H' x hs fl k → Q (.ref x) H'
theorem sc_read_record : FnScope ["text", "reader", "result"] ["text"] (defScope (top 92)) := ⟨rfl, rfl, rfl, by decide +kernel, rfl, by decide +kernel, by decide +kernel⟩
theorem ok_read_record (t : Tx P w K mg A) : Def P w K mg base (CXN P w A.cNoRecord) 8 "read_record" ["text"] (spRead K A) := by
  obtain ⟨fdN, GN, bN⟩ := ok_NoRecord_init (base := base) t
  refine t.s_read_record.raises sc_read_record (fun vs H Q E h => ?_) fun f cdv Ar outer s H vs Q E hr h => ?_
  · obtain ⟨a, l, rfl, _⟩ := h; rfl
  obtain ⟨a, l, rfl, hs, q⟩ := h
  refine ⟨_, (pss_cons (ps_if (pt_cmpR op_gt (pe_callB (call_len_seqK (K := K) rfl) (by rfl) t.b_len PySem.boot_len (pa_cons (pv 0) pa_nil)) (pe_con1 t.k_MOST_BYTES) (nomark _)) (pss_one (ps_raise rfl cxn_ok t.xc rfl t.mg_NoRecord GN bN (hr.mono (by decide)) reach_body (pe_op op_add (pe_con1 t.k_MOST_BYTES) pe_int))) pss_nil) (pss_cons (ps_set (i := 1) sc_read_record.nd rfl (Or.inl rfl) (pe_newC (new_Reader t) (hr.mono (by decide)) (passC cxn_ok) (pa_cons (pe_callD (ok_tokens_of t) (hr.mono (by decide)) (passC cxn_ok) (pa_cons (pv 0) pa_nil)) pa_nil))) (pss_cons (ps_while PassesOwn.leaving (pt_cmpR op_eq (pe_fld (pe_callD (ok_token_now t) (hr.mono (by decide)) (passC cxn_ok) (pa_cons (pv 1) pa_nil)) rfl) (pe_con1 t.k_HEAD) (nomark _)) (pss_cons (ps_expr (pe_callD (ok_read_head t) (hr.mono (by decide)) pass_body (pa_cons (pv 1) (pa_cons (pe_callD (ok_token_now t) (hr.mono (by decide)) (passC cxn_ok) (pa_cons (pv 1) pa_nil)) pa_nil)))) (pss_one (ps_fldaug (pv 1) pe_int in_add)))) (pss_cons (ps_while PassesOwn.leaving (pw_or (pt_cmpR op_ne (pe_fld (pe_callD (ok_token_now t) (hr.mono (by decide)) (passC cxn_ok) (pa_cons (pv 1) pa_nil)) rfl) (pe_con1 t.k_RESULT) (nomark _)) (pw_or1 (pt_cmpR op_gt (pe_callB (call_len_seqK (K := K) rfl) (by rfl) t.b_len PySem.boot_len (pa_cons (pe_fld (pv 1) rfl) pa_nil)) pe_int (nomark _)))).pt (pss_cons (ps_expr (pe_callD (ok_read_item_token t) (hr.mono (by decide)) pass_body (pa_cons (pv 1) (pa_cons (pe_callD (ok_token_now t) (hr.mono (by decide)) (passC cxn_ok) (pa_cons (pv 1) pa_nil)) pa_nil)))) (pss_one (ps_fldaug (pv 1) pe_int in_add)))) (pss_cons (ps_set (i := 2) sc_read_record.nd rfl (Or.inl rfl) (pe_fld (pe_callD (ok_token_now t) (hr.mono (by decide)) (passC cxn_ok) (pa_cons (pv 1) pa_nil)) rfl)) (pss_cons (ps_fldaug (pv 1) pe_int in_add) (pss_cons (ps_expr (pe_callD (ok_need t) (hr.mono (by decide)) pass_body (pa_cons (pe_cmpR op_eq (pe_fld (pe_callD (ok_token_now t) (hr.mono (by decide)) (passC cxn_ok) (pa_cons (pv 1) pa_nil)) rfl) (pe_con1 t.k_TEXT_END) (nomark _)) (pa_cons (pe_callD (ok_token_now t) (hr.mono (by decide)) (passC cxn_ok) (pa_cons (pv 1) pa_nil)) pa_nil)))) (pss_one (ps_ret (pe_newC (new_Record t) (hr.mono (by decide)) (passC cxn_ok) (pa_cons (pe_fld (pv 1) rfl) (pa_cons (pe_fld (pv 1) rfl) (pa_cons (pv 2) pa_nil))))))))))))), ?_⟩
  tm_at "rd"
  refine ⟨_, .inl hs, ?_⟩
  rw [iv_len]
  by_cases h0 : 8192 < l.length
  · rw [if_pos (by omega)]
    have e : mread l = .error 8193 := by unfold mread; rw [if_pos (show Vbdcam.LONGEST < l.length from h0)]; rfl
    rw [e] at q
    exact ⟨by decide, by decide, EW.to (n := 8193) q (.refl _) rfl⟩
  rw [if_neg (by omega)]
  refine ⟨a, l, rfl, hs, by omega, fun H1 L xs s1 hL hT => ?_⟩
  intro r dr hr0 hdr0 hne
  refine ⟨r, dr, L, rfl, upd_same, by rw [upd_ne hne, upd_same], hne, fun H2 hl ln ol ta dt _ k2 hr2 hhl hln hol hta f1 f2 f3 f4 n1 n2 n3 => ⟨rfl, ?_⟩⟩
  have s2 : Same H1 H2 := fun b u hb => k2 b u (by rw [upd_ne (ne_of_none hb hr0), upd_ne (ne_of_none hb hdr0)]; exact hb) (ne_of_none hb hr0)
  have nL : ∀ b, H1 b = none → b ≠ L := fun b hb z => by rw [z, hL] at hb; cases hb
  have S0 : Sta K A H H2 r dr L hl ln ol ta xs [] [] [] 0 [] M.init := { same := s1.trans s2, rd := hr2, tk := s2 _ _ hL, hd := hhl, li := hln, op := hol, n1 := nL _ (upd_none f1), n2 := nL _ (upd_none f2), n3 := nL _ (upd_none f3), n4 := n1, n5 := n2, n6 := n3, f1 := s1.free hr0, f2 := s1.free (upd_none f1), f3 := s1.free (upd_none f2), f4 := s1.free (upd_none f3), f5 := fun a ha => (by simp at ha; rw [ha]; exact s1.free (upd_none f4)), hh := .nil, ll := .nil, oo := .nil, ot := ⟨ta, dt, rfl, hta⟩, nd := by simp }
  have hT2 := Paired.map hT fun _ _ z => z.kt (KT.of (C := A.cToken) s2)
  have hTl : (ends (toks 1 l) (l.length + 1)).length ≤ l.length + 2 := by
    have h1 := ends_len (toks 1 l) (l.length + 1)
    have h2 := tokens_len (l.length + 1) 1 l
    have h3 : (toks 1 l).length ≤ l.length + 1 := h2
    omega
  generalize hTT : ends (toks 1 l) (l.length + 1) = T at hT2 hTl
  have D0 : T.drop 0 = ends (toks 1 l) (l.length + 1) := by rw [hTT]; rfl
  clear hT f1 f2 f3 f4 n1 n2 n3 hhl hln hol hta hr2 k2 hL s2 nL
  refine ⟨fun m σ H' => ∃ (u : Vbdcam.Toks) (spot : Nat) (hds : List (Tt × Tt)), σ = [some (.ref a), some (.ref r), none] ∧ RdS K A H H' r xs spot hds M.init ∧ Paired (TkP K A.cToken H') xs T ∧ T.drop spot = ends u (l.length + 1) ∧ Vbdcam.heads [] (toks 1 l) = Vbdcam.heads hds u ∧ hds.length ≤ 20 ∧ m = u.length,
    ⟨_, toks 1 l, 0, [], rfl, ⟨_, _, _, _, _, _, _, _, _, S0⟩, hT2, D0, rfl, Nat.zero_le _, rfl⟩, ?_⟩
  clear hT2 D0 S0
  rintro m σ H' ⟨u, spot, hds, rfl, ⟨dx, L, hl, ln, ol, ta, hv, lv, ov, S⟩, hT, hd, he, hh, rfl⟩
  obtain ⟨v, hv1, xa, b, ee, rfl, tk, hp, hb⟩ := Paired.at' hT (hdo_at hd)
  obtain ⟨dk, y, hx0, hto⟩ := id tk
  tm_at "rd"
  refine ⟨r, dx, L, spot, _, xs, _, rfl, S.rd, S.tk, hv1, xa, rfl, _, _, _, hx0, t.cl_Token, t.na_Token_kind, _, rfl, rfl, ?_⟩
  by_cases hk : ∃ n v, (hdo u (l.length + 1)).1 = some (.head n v)
  · rw [if_pos (by rw [(kd_head _).mpr hk])]
    obtain ⟨nm, vl, hk⟩ := hk
    refine ⟨_, fun _ _ z => z, r, dx, L, spot, _, xs, _, rfl, S.rd, S.tk, hv1, ?_⟩
    obtain ⟨p, rr, rfl⟩ : ∃ p rr, u = (.head nm vl, p) :: rr := by
      match u, hk with
      | (x, p) :: rr, hk => exact ⟨p, rr, by rw [show x = _ from Option.some.inj hk]⟩
    have hp : p = b + 1 := hp
    have hhe : Vbdcam.heads hds ((.head nm vl, p) :: rr) = if (hds.any fun h => h.1 == nm) = true ∨ 20 ≤ hds.length then .error p else Vbdcam.heads (hds ++ [(nm, vl)]) rr := rfl
    refine ⟨r, xa, H, xs, spot, hds, M.init, nm, vl, b, ee, rfl, ⟨_, _, _, _, _, _, _, _, _, S⟩, tk, hb, by omega, fun hc => ?_, fun hc H3 k3 ⟨dx', L', hl', ln', ol', ta', hv', lv', ov', S3⟩ => ?_⟩
    · rw [hhe, if_pos hc] at he
      have hm : mread l = .error p := by
        unfold mread
        rw [if_neg (show ¬ Vbdcam.LONGEST < l.length from h0), show Vbdcam.tokens (l.length + 1) 1 l = toks 1 l from rfl, he]
      rw [hm, hp] at q
      exact q
    · rw [hhe, if_neg hc] at he
      obtain ⟨S4, k4⟩ := S3.spot' t (n := spot + 1) (z := .int ((spot : Nat) + 1)) rfl
      exact ⟨_, _, _, S3.rd, t.cl_Reader, t.na_Reader_spot, _, rfl, _, rfl, _, _, S3.rd, (by show 5 < 1000; decide), rr.length, by simp, rfl, rr, spot + 1, hds ++ [(nm, vl)], ⟨_, _, _, _, _, _, _, _, _, S4⟩, Paired.map hT fun _ _ z => z.kt (k3.trans k4), drop_next hd rfl, he, by rw [List.length_append]; simp; omega, rfl⟩
  · rw [if_neg (fun z => hk ((kd_head _).mp (V.str.inj z)))]
    have he := he.trans (heads_stop hds u (l.length + 1) hk)
    have hmr : mread l = mfin hds (M.run (l.length + 1) u M.init) := mread_run h0 he
    refine ⟨fun m σ H'' => ∃ (u2 : Vbdcam.Toks) (spot2 : Nat) (rs : RS), σ = [some (.ref a), some (.ref r), none] ∧ RdS K A H H'' r xs spot2 hds rs ∧ Paired (TkP K A.cToken H'') xs T ∧ T.drop spot2 = ends u2 (l.length + 1) ∧ M.run (l.length + 1) u M.init = M.run (l.length + 1) u2 rs ∧ Good0 rs ∧ rs.line.length ≤ spot2 ∧ m = u2.length,
      ⟨_, u, spot, M.init, rfl, ⟨_, _, _, _, _, _, _, _, _, S⟩, hT, hd, rfl, ⟨(fun o ho => by simp [M.init] at ho; subst ho; exact Nat.le_refl _), rfl, Nat.zero_le _⟩, Nat.zero_le _, rfl⟩, ?_⟩
    clear hd hT S hv1 tk hp hb hx0 hto hk hv lv ov dx L hl ln ol ta
    rintro m σ H3 ⟨u2, spot2, rs, rfl, ⟨dx, L, hl, ln, ol, ta, hv, lv, ov, S⟩, hT, hd, hrun, G, hln, rfl⟩
    obtain ⟨v, hv1, xa, b, ee, rfl, tk, hp, hb⟩ := Paired.at' hT (hdo_at hd)
    obtain ⟨dk, y, hx0, hto⟩ := id tk
    have hspot : spot2 < T.length := (List.getElem?_eq_some_iff.mp (hdo_at hd)).1
    have hnx : ∀ n' d', (hdo u2 (l.length + 1)).1 = some (.num n' d') → ∃ v y, xs[spot2 + 1]? = some v ∧ TkP K A.cToken H3 v y ∧ nmOf u2 = decide (okind y.1 = Str.ofString "move") := by
      intro n' d' hn
      match u2, hd, hn with
      | (x, p) :: rr, hd, hn =>
        obtain rfl : x = .num n' d' := Option.some.inj hn
        have hd2 := drop_next hd rfl
        obtain ⟨v2, h1, h2⟩ := Paired.at' hT (hdo_at hd2)
        exact ⟨v2, _, h1, h2, isMove_hdo rr _⟩
    have hol : ov.length = rs.rest.length := by rw [Paired.len S.oo, List.length_reverse]
    tm_at "rd"
    refine ⟨r, dx, L, spot2, _, xs, _, rfl, S.rd, S.tk, hv1, xa, rfl, _, _, _, hx0, t.cl_Token, t.na_Token_kind, _, rfl, rfl, ?_⟩
    by_cases c1 : ∃ k, (hdo u2 (l.length + 1)).1 = some (.result k)
    · rw [if_neg (by rw [(kd_result _).mpr c1]; simp)]
      refine ⟨_, _, _, S.rd, t.cl_Reader, t.na_Reader_open_lines, _, rfl, ol, rfl, _, .inl (SqL.of S.op), ?_⟩
      by_cases c2 : rs.rest = []
      · rw [if_neg (by rw [List.length_append, hol, c2]; simp)]
        obtain ⟨k, c1⟩ := c1
        obtain ⟨p, rr, rfl⟩ : ∃ p rr, u2 = (.result k, p) :: rr := by
          match u2, c1 with
          | (x, p) :: rr, c1 => exact ⟨p, rr, by rw [show x = _ from Option.some.inj c1]⟩
        obtain rfl : y = nv k := hto
        have hrun2 : M.run (l.length + 1) ((.result k, p) :: rr) rs = .ok (rs.line, k, rr) := by
          show (if rs.rest = [] then _ else _) = _
          rw [if_pos c2]
        rw [hmr, hrun, hrun2] at q
        have hd2 := drop_next hd rfl
        obtain ⟨S5, k5⟩ := S.spot' t (n := spot2 + 1) (z := .int ((spot2 : Nat) + 1)) rfl
        obtain ⟨v2, hv2, xb, b2, e2, rfl, tk2, hp2, hb2⟩ := Paired.at' hT (hdo_at hd2)
        have tk3 := tk2.kt k5
        obtain ⟨dk2, y2, hx2, _⟩ := id tk3
        refine ⟨r, dx, L, spot2, _, xs, _, rfl, S.rd, S.tk, hv1, xa, rfl, _, _, _, hx0, t.cl_Token, t.na_Token_told, _, rfl, _, _, _, S.rd, t.cl_Reader, t.na_Reader_spot, _, rfl, _, rfl, _, _, S.rd, (by show 5 < 1000; decide), r, dx, L, spot2 + 1, _, xs, _, rfl, S5.rd, S5.tk, hv2, xb, rfl, _, _, _, hx2, t.cl_Token, t.na_Token_kind, _, rfl, rfl, r, dx, L, spot2 + 1, _, xs, _, rfl, S5.rd, S5.tk, hv2, _, xb, _, b2, e2, rfl, tk3, hb2, fun hc => ?_, fun hc => ?_⟩
        · have hc : (hdo rr (l.length + 1)).1 = none := (kd_end _).mp (V.str.inj (of_decide_eq_true hc))
          obtain rfl : rr = [] := by
            match rr, hc with
            | [], _ => rfl
          refine ⟨_, _, _, S5.rd, t.cl_Reader, t.na_Reader_heads, _, rfl, _, _, _, S5.rd, t.cl_Reader, t.na_Reader_line, _, rfl, fun x4 d4 h4 hd4 ne4 => ?_⟩
          refine ⟨x4, d4, _, _, _, rfl, upd_same, rfl, ?_⟩
          rw [upd_upd]
          have S6 := S5.keep (same_make (o := .ins A.cRecord d4 [("heads", .ref hl), ("line", .ref ln), ("result", nv k)]) (u := .own x4) h4 hd4)
          exact q (by omega) (by omega) _ x4 S6.same ⟨d4, hl, ln, hv, lv, upd_same, S6.hd, S6.li, S6.hh, S6.ll⟩
        · have hc : ¬ (hdo rr (l.length + 1)).1 = none := fun z => (of_decide_eq_false hc) (by rw [(kd_end _).mpr z])
          match rr, hc, hp2, q with
          | (z, p2) :: _, _, hp2, q =>
            have hp2 : p2 = b2 + 1 := hp2
            rw [← hp2]
            exact ⟨H, S5.same, q⟩
      · rw [if_pos (by rw [List.length_append, hol]; have := List.length_pos_iff.mpr c2; simp; omega)]
        refine ⟨_, fun _ _ z => z, r, dx, L, spot2, _, xs, _, rfl, S.rd, S.tk, hv1, r, xa, H, xs, spot2, hds, rs, _, b, ee, nmOf u2, rfl, ⟨_, _, _, _, _, _, _, _, _, S⟩, tk, hb, trivial, ⟨G.pl, G.cl, by omega, G.dp⟩, hnx, ?_⟩
        rw [← hp]
        rcases go_cases (u := u2) (n := l.length + 1) G (fun z => c2 z.2) with ⟨p, e1, e2⟩ | ⟨x, p, rr, s', rfl, e2, e1, hbad, G', hl'⟩
        · rw [e2]
          rw [e1] at hrun
          rw [hmr, hrun] at q
          exact q
        · rw [e2]
          rintro H4 k4 ⟨dx', L', hl', ln', ol', ta', hv', lv', ov', S4⟩
          obtain ⟨S5, k5⟩ := S4.spot' t (n := spot2 + 1) (z := .int ((spot2 : Nat) + 1)) rfl
          exact ⟨_, _, _, S4.rd, t.cl_Reader, t.na_Reader_spot, _, rfl, _, rfl, _, _, S4.rd, (by show 5 < 1000; decide), rr.length, by simp, rfl, rr, spot2 + 1, s', ⟨_, _, _, _, _, _, _, _, _, S5⟩, Paired.map hT fun _ _ z => z.kt (k4.trans k5), drop_next hd hbad, by rw [hrun, e1], G', by omega, rfl⟩
    · rw [if_pos (by rw [Bool.not_eq_true', decide_eq_false_iff_not]; exact fun z => c1 ((kd_result _).mp (V.str.inj z)))]
      refine ⟨_, fun _ _ z => z, r, dx, L, spot2, _, xs, _, rfl, S.rd, S.tk, hv1, r, xa, H, xs, spot2, hds, rs, _, b, ee, nmOf u2, rfl, ⟨_, _, _, _, _, _, _, _, _, S⟩, tk, hb, trivial, ⟨G.pl, G.cl, by omega, G.dp⟩, hnx, ?_⟩
      rw [← hp]
      rcases go_cases (u := u2) (n := l.length + 1) G (fun z => c1 z.1) with ⟨p, e1, e2⟩ | ⟨x, p, rr, s', rfl, e2, e1, hbad, G', hl'⟩
      · rw [e2]
        rw [e1] at hrun
        rw [hmr, hrun] at q
        exact q
      · rw [e2]
        rintro H4 k4 ⟨dx', L', hl', ln', ol', ta', hv', lv', ov', S4⟩
        obtain ⟨S5, k5⟩ := S4.spot' t (n := spot2 + 1) (z := .int ((spot2 : Nat) + 1)) rfl
        exact ⟨_, _, _, S4.rd, t.cl_Reader, t.na_Reader_spot, _, rfl, _, rfl, _, _, S4.rd, (by show 5 < 1000; decide), rr.length, by simp, rfl, rr, spot2 + 1, s', ⟨_, _, _, _, _, _, _, _, _, S5⟩, Paired.map hT fun _ _ z => z.kt (k4.trans k5), drop_next hd hbad, by rw [hrun, e1], G', by omega, rfl⟩
end
theorem _root_.L2.FnOk.calm {P : Program} {w : World} {K : PySem.W.Frag} {mg : Str → Option Value} {base : Heap} {CX : CXT} {k : Nat} {f : Addr} {fd : FuncData} {ps : List Str} {sp : Sp} (ok : CXok CX) (F : FnOk P w K mg base CX k f fd ps sp) (h : ∀ vs H Q E, sp vs H Q E → sp vs H Q E0) : FnOk P w K mg base CX0 k f fd ps sp :=
  ⟨F.len, fun A outer s H args us vs Q E hr he hb hv hs => codeAny_mono (F.run A outer s H args us vs Q E0 hr he hb hv (h _ _ _ _ hs)) fun r s' q => by
    cases r with
    | ok x => cases x <;> exact q
    | error e => exact (ok _ _ _ _ _ q).elim⟩
theorem vals_sz {xs : List V} {its : Array Value} (h : Vals xs its.toList) (hz : xs.length ≤ 1000) : its.size ≤ sizeLine := by
  have h1 : xs.length = its.toList.length := Paired.len h
  have h2 : its.toList.length = its.size := Array.length_toList
  exact sz (by omega)
inductive DEs (w : World) : List (Key × V) → List DictEntry → Prop
  | nil : DEs w [] []
  | int (k : Int) (s : Str) (t1 t2 : PySem.Tok) {kvs : List (Key × V)} {es : List DictEntry} : DEs w kvs es → DEs w ((Sum.inl k, .str s) :: kvs) (⟨keyH w (Sum.inl k), .int k t1, .str s t2⟩ :: es)
  | str (x s : Str) (t1 t2 : PySem.Tok) {kvs : List (Key × V)} {es : List DictEntry} : DEs w kvs es → DEs w ((Sum.inr x, .str s) :: kvs) (⟨PyData.keyHash w.params x, .str x t1, .str s t2⟩ :: es)
theorem DEs.to {P : Program} {w : World} : ∀ {kvs : List (Key × V)} {es : List DictEntry}, DEs w kvs es → ∃ vs, (∀ e ∈ es, ∃ k, (mixKind P w).is k e.key = true ∧ e.hash = (mixKind P w).hash k) ∧ Pairs (mixKind P w) es vs ∧ KV kvs vs ∧ vs.map (·.1) = kvs.map (·.1)
  | _, _, .nil => ⟨[], (fun _ h => by cases h), .nil, .nil, rfl⟩
  | _, _, .int k s t1 t2 r => by
    obtain ⟨vs, h1, h2, h3, h4⟩ := DEs.to r
    refine ⟨(Sum.inl k, .str s t2) :: vs, fun e he => ?_, .cons (mixKind_int P w k t1) rfl h2, .cons ⟨rfl, t2, rfl⟩ h3, by rw [List.map_cons, List.map_cons, h4]⟩
    rcases List.mem_cons.mp he with rfl | he
    · exact ⟨Sum.inl k, mixKind_int P w k t1, rfl⟩
    · exact h1 e he
  | _, _, .str x s t1 t2 r => by
    obtain ⟨vs, h1, h2, h3, h4⟩ := DEs.to r
    refine ⟨(Sum.inr x, .str s t2) :: vs, fun e he => ?_, .cons (mixKind_str P w x t1) rfl h2, .cons ⟨rfl, t2, rfl⟩ h3, by rw [List.map_cons, List.map_cons, h4]⟩
    rcases List.mem_cons.mp he with rfl | he
    · exact ⟨Sum.inr x, mixKind_str P w x t1, rfl⟩
    · exact h1 e he
theorem dic_mk {P : Program} {w : World} {K : PySem.W.Frag} {h : Heap} {mg : Str → Option Value} {x : Str} {a : Addr} {n : Nat} {kvs : List (Key × V)} {es : Array DictEntry} (X : K.In h) (G : h.Ns mainGlobals mg) (d1 : PySem.W.nsIn K mainGlobals x = some (some (.ref a))) (d2 : K.lookup a = some ⟨.type "dict", none, .dict es n, #[]⟩)
    (d5 : (a == sysModules) = false) (dE : DEs w kvs es.toList) (nd : (kvs.map (·.1)).Nodup) : DicM P w K mg x kvs := by
  obtain ⟨vs, h1, h2, h3, h4⟩ := dE.to (P := P)
  exact ⟨a, _, es, n, vs, PySem.W.mg_of X G d1, d2, ⟨rfl, rfl, rfl⟩, rfl, d5, fun e he => h1 e (by simpa using he), h2, by rw [h4]; exact nd, h3⟩
theorem nsok_mk {K : PySem.W.Frag} {N : Addr} {cN : Value} {dN : Option Addr} {esN : Array DictEntry} {nN : Nat} {slN : Array (Option Value)} (l : K.lookup N = some ⟨cN, dN, .dict esN nN, slN⟩) (o : (esN.toList.all fun e => match e.key with | .str _ _ => true | _ => false) = true) : PySem.W.nsOkIn K N = true := by
  unfold PySem.W.nsOkIn
  rw [l]
  show (esN.all fun e => match e.key with | .str _ _ => true | _ => false) = true
  rw [← Array.all_toList]
  exact o
@[elab_as_elim] theorem ln1 {P : List Value → Prop} : ∀ us : List Value, us.length = 1 → (∀ a, P [a]) → P us
  | [_], _, k => k _
@[elab_as_elim] theorem ln2 {P : List Value → Prop} : ∀ us : List Value, us.length = 2 → (∀ a b, P [a, b]) → P us
  | [_, _], _, k => k _ _
@[elab_as_elim] theorem ln3 {P : List Value → Prop} : ∀ us : List Value, us.length = 3 → (∀ a b c, P [a, b, c]) → P us
  | [_, _, _], _, k => k _ _ _
@[elab_as_elim] theorem ln4 {P : List Value → Prop} : ∀ us : List Value, us.length = 4 → (∀ a b c d, P [a, b, c, d]) → P us
  | [_, _, _, _], _, k => k _ _ _ _
@[elab_as_elim] theorem ln5 {P : List Value → Prop} : ∀ us : List Value, us.length = 5 → (∀ a b c d e, P [a, b, c, d, e]) → P us
  | [_, _, _, _, _], _, k => k _ _ _ _ _
@[elab_as_elim] theorem ln6 {P : List Value → Prop} : ∀ us : List Value, us.length = 6 → (∀ a b c d e f, P [a, b, c, d, e, f]) → P us
  | [_, _, _, _, _, _], _, k => k _ _ _ _ _ _
open PySem.W (nsIn codeIn keepIn fnOf mg_of mg_none_of findIn isFn plainGet hasDictIn plainOver makesIn) in
theorem tx_mk {P : Program} {w : World} {K : PySem.W.Frag} {h : Heap} {mg : Str → Option Value} (X : K.In h) (G : h.Ns mainGlobals mg)
 {q0 : Tok}
 {q1 : Tok}
 {q2 : Tok}
 {q3 : Tok}
 {q4 : Tok}
 {q5 : Tok}
 {q6 : Tok}
 {q7 : Tok}
 {q8 : Tok}
 {q9 : Addr} {qa : Array DictEntry} {qb : Nat}
 {qc : Tok}
 {qd : Tok}
 {qe : Tok}
 {qf : Tok}
 {qg : Tok}
 {qh : Tok}
 {qi : Tok}
 {qj : Tok}
 {qk : Tok}
 {ql : Tok}
 {qm : Tok}
 {qn : Tok}
 {qo : Tok}
 {qp : Tok}
 {qq : Addr} {qr : Array DictEntry} {qs : Nat}
 {qt : Tok}
 {qu : Tok}
 {qv : Tok}
 {qw : Tok}
 {qx : Tok}
 {qy : Tok}
 {qz : Tok}
 {q10 : Tok}
 {q11 : Addr} {q12 : Array Value} {q13 : Nat} {q14 : Array (Option Value)}
 {q15 : Addr} {q16 : Array Value} {q17 : Nat} {q18 : Array (Option Value)}
 {q19 : Tok}
 {q1a : Tok}
 {q1b : Addr} {q1c : Array DictEntry} {q1d : Nat}
 {q1e : Addr} {q1f : Array Value} {q1g : Nat} {q1h : Array (Option Value)}
 {q1i : Tok}
 {q1j : Tok}
 {q1k : Tok}
 {q1l : Tok}
 {q1m : Tok}
 {q1n q1o : Addr}
 {q1p q1q q1r q1s q1t q1u : Value} {q1v q1w : Option Addr} {q1x : Array (Option Value)}
 {q1y q1z : Addr}
 {q20 q21 q22 q23 q24 q25 : Value} {q26 q27 : Option Addr} {q28 : Array (Option Value)}
 {q29 q2a : Addr}
 {q2b q2c q2d q2e q2f q2g : Value} {q2h q2i : Option Addr} {q2j : Array (Option Value)}
 {q2k q2l : Addr}
 {q2m q2n q2o q2p q2q q2r : Value} {q2s q2t : Option Addr} {q2u : Array (Option Value)}
 {q2v q2w : Addr}
 {q2x : Addr} {q2y q2z : Str} {q30 : List Value} {q31 : List Str} {q32 : List Value} {q33 : Bool} {q34 : Option Bool} {q35 : Option Addr} {q36 q37 q38 q39 q3a : Option Value} {q3b : Value} {q3c : Option Addr} {q3d : Array DictEntry} {q3e : Nat} {q3f : Array (Option Value)}
 {q3g q3h q3i q3j q3k q3l : Value} {q3m q3n : Option Addr} {q3o : Array (Option Value)}
 {q3p q3q : Addr}
 {q3r q3s q3t q3u q3v q3w : Value} {q3x q3y : Option Addr} {q3z : Array (Option Value)}
 {q40 q41 : Addr}
 {q42 q43 q44 q45 q46 q47 : Value} {q48 q49 : Option Addr} {q4a : Array (Option Value)}
 {q4b : Addr}
 {q4c q4d q4e q4f q4g q4h : Value} {q4i q4j : Option Addr} {q4k : Array (Option Value)}
 {q4l : Addr}
 {q4m q4n q4o q4p q4q q4r : Value} {q4s q4t : Option Addr} {q4u : Array (Option Value)}
 {q4v : Addr}
 {q4w q4x q4y q4z q50 q51 : Value} {q52 q53 : Option Addr} {q54 : Array (Option Value)}
 {q55 : Addr}
 {q56 q57 q58 q59 q5a q5b : Value} {q5c q5d : Option Addr} {q5e : Array (Option Value)}
 {q5f : Addr}
 {q5g q5h q5i q5j q5k q5l : Value} {q5m q5n : Option Addr} {q5o : Array (Option Value)}
 {q5p : Addr}
 {q5q q5r q5s q5t q5u q5v : Value} {q5w q5x : Option Addr} {q5y : Array (Option Value)}
 {q5z : Addr}
 {q60 q61 q62 q63 q64 q65 : Value} {q66 q67 : Option Addr} {q68 : Array (Option Value)}
 {q69 : Addr}
 {q6a q6b q6c q6d q6e q6f : Value} {q6g q6h : Option Addr} {q6i : Array (Option Value)}
 {q6j : Addr}
 {q6k q6l q6m q6n q6o q6p : Value} {q6q q6r : Option Addr} {q6s : Array (Option Value)}
 {q6t : Addr}
 {q6u q6v q6w q6x q6y q6z : Value} {q70 q71 : Option Addr} {q72 : Array (Option Value)}
 {q73 : Addr}
 {q74 q75 q76 q77 q78 q79 : Value} {q7a q7b : Option Addr} {q7c : Array (Option Value)}
 {q7d : Addr}
 {q7e q7f q7g q7h q7i q7j : Value} {q7k q7l : Option Addr} {q7m : Array (Option Value)}
 {q7n : Addr}
 {q7o q7p q7q q7r q7s q7t : Value} {q7u q7v : Option Addr} {q7w : Array (Option Value)}
 {q7x : Addr}
 {q7y q7z q80 q81 q82 q83 : Value} {q84 q85 : Option Addr} {q86 : Array (Option Value)}
 {q87 : Addr}
 {q88 q89 q8a q8b q8c q8d : Value} {q8e q8f : Option Addr} {q8g : Array (Option Value)}
 {q8h : Addr}
 {q8i q8j q8k q8l q8m q8n : Value} {q8o q8p : Option Addr} {q8q : Array (Option Value)}
 {q8r : Addr}
 {q8s q8t q8u q8v q8w q8x : Value} {q8y q8z : Option Addr} {q90 : Array (Option Value)}
 {q91 : Addr}
 {q92 q93 q94 q95 q96 q97 : Value} {q98 q99 : Option Addr} {q9a : Array (Option Value)}
 {q9b : Addr}
 {q9c q9d q9e q9f q9g q9h : Value} {q9i q9j : Option Addr} {q9k : Array (Option Value)}
 {q9l : Addr}
 {q9m q9n q9o q9p q9q q9r : Value} {q9s q9t : Option Addr} {q9u : Array (Option Value)}
 {q9v : Addr}
 {q9w q9x q9y q9z qa0 qa1 : Value} {qa2 qa3 : Option Addr} {qa4 : Array (Option Value)}
 {qa5 : Addr}
 {qa6 qa7 qa8 qa9 qaa qab : Value} {qac qad : Option Addr} {qae : Array (Option Value)}
 {qaf : Addr}
 {qag qah qai qaj qak qal : Value} {qam qan : Option Addr} {qao : Array (Option Value)}
 {qap : Addr}
 {qaq qar qas qat qau qav : Value} {qaw qax : Option Addr} {qay : Array (Option Value)}
 {qaz : Addr}
 {qb0 qb1 qb2 qb3 qb4 qb5 : Value} {qb6 qb7 : Option Addr} {qb8 : Array (Option Value)}
 {qb9 : Addr}
 {qba qbb qbc qbd qbe qbf : Value} {qbg qbh : Option Addr} {qbi : Array (Option Value)}
 {qbj : Addr}
 {qbk qbl qbm qbn qbo qbp : Value} {qbq qbr : Option Addr} {qbs : Array (Option Value)}
 {qbt : Addr}
 {qbu qbv qbw qbx qby qbz : Value} {qc0 qc1 : Option Addr} {qc2 : Array (Option Value)}
 {qc3 : Addr}
 {qc4 qc5 qc6 qc7 qc8 qc9 : Value} {qca qcb : Option Addr} {qcc : Array (Option Value)}
 {qcd : Addr}
 {qce qcf qcg qch qci qcj : Value} {qck qcl : Option Addr} {qcm : Array (Option Value)}
 {qcn : Addr}
 {qco qcp qcq qcr qcs qct : Value} {qcu qcv : Option Addr} {qcw : Array (Option Value)}
 {qcx : Addr}
 {qcy qcz qd0 qd1 qd2 qd3 : Value} {qd4 qd5 : Option Addr} {qd6 : Array (Option Value)}
 {qd7 : Addr}
 {qd8 qd9 qda qdb qdc qdd : Value} {qde qdf : Option Addr} {qdg : Array (Option Value)}
 {qdh : Addr}
 {qdi qdj qdk qdl qdm qdn : Value} {qdo qdp : Option Addr} {qdq : Array (Option Value)}
 {qdr : Addr}
 {qds qdt qdu qdv qdw qdx : Value} {qdy qdz : Option Addr} {qe0 : Array (Option Value)}
 {qe1 : Addr}
 {qe2 qe3 qe4 qe5 qe6 qe7 : Value} {qe8 qe9 : Option Addr} {qea : Array (Option Value)}
 {qeb : Addr}
 {qec qed qee qef qeg qeh : Value} {qei qej : Option Addr} {qek : Array (Option Value)}
 {qel : Addr}
 {qem qen qeo qep qeq qer : Value} {qes qet : Option Addr} {qeu : Array (Option Value)}
 {qev : Addr}
 {qew qex qey qez qf0 qf1 : Value} {qf2 qf3 : Option Addr} {qf4 : Array (Option Value)}
 {qf5 : Addr}
 {qf6 qf7 qf8 qf9 qfa qfb : Value} {qfc qfd : Option Addr} {qfe : Array (Option Value)}
 {qff : Addr}
 {qfg qfh qfi qfj qfk qfl : Value} {qfm qfn : Option Addr} {qfo : Array (Option Value)}
 {qfp : Addr}
 {qfq qfr qfs qft qfu qfv : Value} {qfw qfx : Option Addr} {qfy : Array (Option Value)}
 {qfz : Addr}
 {qg0 qg1 qg2 qg3 qg4 qg5 : Value} {qg6 qg7 : Option Addr} {qg8 : Array (Option Value)}
 {qg9 : Addr}
 {qga qgb qgc qgd qge qgf : Value} {qgg qgh : Option Addr} {qgi : Array (Option Value)}
 {qgj : Addr}
 {qgk qgl qgm qgn qgo qgp : Value} {qgq qgr : Option Addr} {qgs : Array (Option Value)}
 {qgt : Addr}
 {qgu qgv qgw qgx qgy qgz : Value} {qh0 qh1 : Option Addr} {qh2 : Array (Option Value)}
 {qh3 : Addr}
 {qh4 qh5 qh6 qh7 qh8 qh9 : Value} {qha qhb : Option Addr} {qhc : Array (Option Value)}
 {qhd : Addr}
 {qhe qhf qhg qhh qhi qhj : Value} {qhk qhl : Option Addr} {qhm : Array (Option Value)}
 {qhn : Addr}
 {qho qhp qhq qhr qhs qht : Value} {qhu qhv : Option Addr} {qhw : Array (Option Value)}
 {qhx : Addr}
 {qhy qhz qi0 qi1 qi2 qi3 : Value} {qi4 qi5 : Option Addr} {qi6 : Array (Option Value)}
 {qi7 : Addr}
 {qi8 qi9 qia qib qic qid : Value} {qie qif : Option Addr} {qig : Array (Option Value)}
 (qih : nsIn K mainGlobals "MOST" = some (some (.int 1000000000 q0)))
 (qii : nsIn K mainGlobals "MOST_HEAPS" = some (some (.int 8 q1)))
 (qij : nsIn K mainGlobals "HEAP_LETTERS" = some (some (.str "abcdefgh" q2)))
 (qik : nsIn K mainGlobals "TAKE" = some (some (.str "take" q3)))
 (qil : nsIn K mainGlobals "SPLIT" = some (some (.str "split" q4)))
 (qim : nsIn K mainGlobals "PASS" = some (some (.str "pass" q5)))
 (qin : nsIn K mainGlobals "MOVE" = some (some (.str "move" q6)))
 (qio : nsIn K mainGlobals "NOTE" = some (some (.str "note" q7)))
 (qip : nsIn K mainGlobals "OPEN_OTHER" = some (some (.str "(" q8)))
 (qiq : nsIn K mainGlobals "CLOSED_BY" = some (some (.ref q9)))
 (qir : K.lookup q9 = some ⟨.type "dict", none, .dict qa qb, #[]⟩)
 (qis : (q9 == sysModules) = false)
 (qit : GR.DEs w [(Sum.inr ("(" : Str), .str ")"), (Sum.inr ("<" : Str), .str ">")] qa.toList)
 (qiu : nsIn K mainGlobals "MOST_HEADS" = some (some (.int 20 qc)))
 (qiv : nsIn K mainGlobals "MOST_MARKS" = some (some (.int 4 qd)))
 (qiw : nsIn K mainGlobals "MOST_DEPTH" = some (some (.int 40 qe)))
 (qix : nsIn K mainGlobals "MOST_BYTES" = some (some (.int 8192 qf)))
 (qiy : nsIn K mainGlobals "MOST_NOTE_BYTES" = some (some (.int 200 qg)))
 (qiz : nsIn K mainGlobals "MOST_NAME_LETTERS" = some (some (.int 20 qh)))
 (qj0 : nsIn K mainGlobals "MOST_VALUE_BYTES" = some (some (.int 100 qi)))
 (qj1 : nsIn K mainGlobals "BLANK" = some (some (.int 32 qj)))
 (qj2 : nsIn K mainGlobals "ROW_END" = some (some (.int 10 qk)))
 (qj3 : nsIn K mainGlobals "QUOTE" = some (some (.int 34 ql)))
 (qj4 : nsIn K mainGlobals "HEAD_BEGIN" = some (some (.int 91 qm)))
 (qj5 : nsIn K mainGlobals "HEAD_END" = some (some (.int 93 qn)))
 (qj6 : nsIn K mainGlobals "NOTE_BEGIN" = some (some (.int 123 qo)))
 (qj7 : nsIn K mainGlobals "NOTE_END" = some (some (.int 125 qp)))
 (qj8 : nsIn K mainGlobals "SIGNS" = some (some (.ref qq)))
 (qj9 : K.lookup qq = some ⟨.type "dict", none, .dict qr qs, #[]⟩)
 (qja : (qq == sysModules) = false)
 (qjb : GR.DEs w [(Sum.inl 32, .str " "), (Sum.inl 33, .str "!"), (Sum.inl 36, .str "$"), (Sum.inl 42, .str "*"), (Sum.inl 45, .str "-"), (Sum.inl 46, .str "."), (Sum.inl 47, .str "/"), (Sum.inl 48, .str "0"), (Sum.inl 49, .str "1"), (Sum.inl 50, .str "2"), (Sum.inl 51, .str "3"), (Sum.inl 52, .str "4"), (Sum.inl 53, .str "5"), (Sum.inl 54, .str "6"), (Sum.inl 55, .str "7"), (Sum.inl 56, .str "8"), (Sum.inl 57, .str "9"), (Sum.inl 63, .str "?"), (Sum.inl 97, .str "a"), (Sum.inl 98, .str "b"), (Sum.inl 99, .str "c"), (Sum.inl 100, .str "d"), (Sum.inl 101, .str "e"), (Sum.inl 102, .str "f"), (Sum.inl 103, .str "g"), (Sum.inl 104, .str "h")] qr.toList)
 (qjc : nsIn K mainGlobals "OTHER_SIGN" = some (some (.str "#" qt)))
 (qjd : nsIn K mainGlobals "HEAPS_NAME" = some (some (.str "Heaps" qu)))
 (qje : nsIn K mainGlobals "RESULT" = some (some (.str "result" qv)))
 (qjf : nsIn K mainGlobals "MARK" = some (some (.str "mark" qw)))
 (qjg : nsIn K mainGlobals "NUMBER" = some (some (.str "number" qx)))
 (qjh : nsIn K mainGlobals "WRONG" = some (some (.str "wrong" qy)))
 (qji : nsIn K mainGlobals "MOST_MARK" = some (some (.int 255 qz)))
 (qjj : nsIn K mainGlobals "PASS_SIGNS" = some (some (.str "--" q10)))
 (qjk : nsIn K mainGlobals "RESULTS" = some (some (.ref q11)))
 (qjl : K.lookup q11 = some ⟨.type "tuple", none, .seq q12 q13, q14⟩)
 (qjm : Vals [.str "*", .str "1-0", .str "0-1", .str "1/2"] q12.toList)
 (qjn : nsIn K mainGlobals "MOVE_ENDS" = some (some (.ref q15)))
 (qjo : K.lookup q15 = some ⟨.type "tuple", none, .seq q16 q17, q18⟩)
 (qjp : Vals [.str "!", .str "?", .str "!!", .str "??", .str "!?", .str "?!"] q16.toList)
 (qjq : nsIn K mainGlobals "HEAD" = some (some (.str "head" q19)))
 (qjr : nsIn K mainGlobals "TEXT_END" = some (some (.str "end" q1a)))
 (qjs : nsIn K mainGlobals "LINE_BRACKETS" = some (some (.ref q1b)))
 (qjt : K.lookup q1b = some ⟨.type "dict", none, .dict q1c q1d, #[]⟩)
 (qju : (q1b == sysModules) = false)
 (qjv : GR.DEs w [(Sum.inl 40, .str "("), (Sum.inl 41, .str ")"), (Sum.inl 60, .str "<"), (Sum.inl 62, .str ">")] q1c.toList)
 (qjw : nsIn K mainGlobals "WORD_STOPS" = some (some (.ref q1e)))
 (qjx : K.lookup q1e = some ⟨.type "tuple", none, .seq q1f q1g, q1h⟩)
 (qjy : Vals [.int 32, .int 10, .int 40, .int 41, .int 60, .int 62, .int 91, .int 93, .int 123, .int 125] q1f.toList)
 (qjz : nsIn K mainGlobals "DONE" = some (some (.int 0 q1i)))
 (qk0 : nsIn K mainGlobals "WRONG_FORM" = some (some (.int (-1) q1j)))
 (qk1 : nsIn K mainGlobals "NO_TEXT" = some (some (.int (-2) q1k)))
 (qk2 : nsIn K mainGlobals "NOT_NOW" = some (some (.int (-3) q1l)))
 (qk3 : nsIn K mainGlobals "AGAINST_RULES" = some (some (.int (-6) q1m)))
 (qk4 : nsIn K mainGlobals "len" = some none)
 (qk5 : nsIn K mainGlobals "max" = some none)
 (qk6 : nsIn K mainGlobals "min" = some none)
 (qk7 : nsIn K mainGlobals "all" = some none)
 (qk8 : nsIn K mainGlobals "ord" = some none)
 (qk9 : nsIn K mainGlobals "list" = some none)
 (qka : nsIn K mainGlobals "tuple" = some none)
 (qkb : nsIn K mainGlobals "str" = some none)
 (qkc : nsIn K mainGlobals "int" = some none)
 (qkd : nsIn K mainGlobals "Position" = some (some (.ref q1n)))
 (qke : findIn K (.ref q1n) "__init__" = some (some (.ref q1o)))
 (qkf : isFn K (.ref q1o) = true)
 (qkg : plainGet K q1n Str.empty = true)
 (qkh : hasDictIn K q1n = true)
 (qki : plainOver K q1n = true)
 (qkj : findIn K (.ref q1n) "__setattr__" = some (some (.builtin "object.__setattr__")))
 (qkk : makesIn K q1n = true)
 (qkl : keepIn K (.ref q1n) = true)
 (qkm : findIn K (.ref q1n) "heaps" = some none)
 (qkn : findIn K (.ref q1n) "passed" = some none)
 (qko : findIn K (.ref q1n) "ply" = some none)
 (qkp : K.lookup q1o = some ⟨q1p, q1v, .func (fnOf "__init__" "Position.__init__" (defArgs (inClass (top 7) 0)) (defBody (inClass (top 7) 0)) (defScope (inClass (top 7) 0)) .none q1q q1r q1s q1w q1t q1u), q1x⟩)
 (qkq : codeIn K q1t "Position.__init__" = true)
 (qkr : keepIn K (.ref q1o) = true)
 (qks : nsIn K mainGlobals "Record" = some (some (.ref q1y)))
 (qkt : findIn K (.ref q1y) "__init__" = some (some (.ref q1z)))
 (qku : isFn K (.ref q1z) = true)
 (qkv : plainGet K q1y Str.empty = true)
 (qkw : hasDictIn K q1y = true)
 (qkx : plainOver K q1y = true)
 (qky : findIn K (.ref q1y) "__setattr__" = some (some (.builtin "object.__setattr__")))
 (qkz : makesIn K q1y = true)
 (ql0 : keepIn K (.ref q1y) = true)
 (ql1 : findIn K (.ref q1y) "heads" = some none)
 (ql2 : findIn K (.ref q1y) "line" = some none)
 (ql3 : findIn K (.ref q1y) "result" = some none)
 (ql4 : K.lookup q1z = some ⟨q20, q26, .func (fnOf "__init__" "Record.__init__" (defArgs (inClass (top 25) 0)) (defBody (inClass (top 25) 0)) (defScope (inClass (top 25) 0)) .none q21 q22 q23 q27 q24 q25), q28⟩)
 (ql5 : codeIn K q24 "Record.__init__" = true)
 (ql6 : keepIn K (.ref q1z) = true)
 (ql7 : nsIn K mainGlobals "Trail" = some (some (.ref q29)))
 (ql8 : findIn K (.ref q29) "__init__" = some (some (.ref q2a)))
 (ql9 : isFn K (.ref q2a) = true)
 (qla : plainGet K q29 Str.empty = true)
 (qlb : hasDictIn K q29 = true)
 (qlc : plainOver K q29 = true)
 (qld : findIn K (.ref q29) "__setattr__" = some (some (.builtin "object.__setattr__")))
 (qle : makesIn K q29 = true)
 (qlf : keepIn K (.ref q29) = true)
 (qlg : findIn K (.ref q29) "positions" = some none)
 (qlh : findIn K (.ref q29) "end" = some none)
 (qli : K.lookup q2a = some ⟨q2b, q2h, .func (fnOf "__init__" "Trail.__init__" (defArgs (inClass (top 54) 0)) (defBody (inClass (top 54) 0)) (defScope (inClass (top 54) 0)) .none q2c q2d q2e q2i q2f q2g), q2j⟩)
 (qlj : codeIn K q2f "Trail.__init__" = true)
 (qlk : keepIn K (.ref q2a) = true)
 (qll : nsIn K mainGlobals "Token" = some (some (.ref q2k)))
 (qlm : findIn K (.ref q2k) "__init__" = some (some (.ref q2l)))
 (qln : isFn K (.ref q2l) = true)
 (qlo : plainGet K q2k Str.empty = true)
 (qlp : hasDictIn K q2k = true)
 (qlq : plainOver K q2k = true)
 (qlr : findIn K (.ref q2k) "__setattr__" = some (some (.builtin "object.__setattr__")))
 (qls : makesIn K q2k = true)
 (qlt : keepIn K (.ref q2k) = true)
 (qlu : findIn K (.ref q2k) "kind" = some none)
 (qlv : findIn K (.ref q2k) "told" = some none)
 (qlw : findIn K (.ref q2k) "begin" = some none)
 (qlx : findIn K (.ref q2k) "end" = some none)
 (qly : K.lookup q2l = some ⟨q2m, q2s, .func (fnOf "__init__" "Token.__init__" (defArgs (inClass (top 79) 0)) (defBody (inClass (top 79) 0)) (defScope (inClass (top 79) 0)) .none q2n q2o q2p q2t q2q q2r), q2u⟩)
 (qlz : codeIn K q2q "Token.__init__" = true)
 (qm0 : keepIn K (.ref q2l) = true)
 (qm1 : nsIn K mainGlobals "NoRecord" = some (some (.ref q2v)))
 (qm2 : K.lookup q2v = some (excClassObj q2y q2z q2v q2x q30 VEm true q31 q32 q33 q34 q35 q36 q37 q38 q39 q3a "ValueError.__new__"))
 (qm3 : K.lookup q2x = some ⟨q3b, q3c, .dict q3d q3e, q3f⟩)
 (qm4 : (q3d.toList.all fun e => match e.key with | .str _ _ => true | _ => false) = true)
 (qm5 : nsIn K q2x "__init__" = some (some (.ref q2w)))
 (qm6 : nsIn K q2x "__getattribute__" = some none)
 (qm7 : nsIn K q2x "__getattr__" = some none)
 (qm8 : nsIn K q2x "__setattr__" = some none)
 (qm9 : nsIn K q2x "place" = some none)
 (qma : keepIn K (.ref q2v) = true)
 (qmb : isFn K (.ref q2w) = true)
 (qmc : nsIn K mainGlobals "ValueError" = some none)
 (qmd : K.lookup q2w = some ⟨q3g, q3m, .func (fnOf "__init__" "NoRecord.__init__" (defArgs (inClass (top 89) 0)) (defBody (inClass (top 89) 0)) (defScope (inClass (top 89) 0)) .none q3h q3i q3j q3n q3k q3l), q3o⟩)
 (qme : codeIn K q3k "NoRecord.__init__" = true)
 (qmf : keepIn K (.ref q2w) = true)
 (qmg : nsIn K mainGlobals "OpenLine" = some (some (.ref q3p)))
 (qmh : findIn K (.ref q3p) "__init__" = some (some (.ref q3q)))
 (qmi : isFn K (.ref q3q) = true)
 (qmj : plainGet K q3p Str.empty = true)
 (qmk : hasDictIn K q3p = true)
 (qml : plainOver K q3p = true)
 (qmm : findIn K (.ref q3p) "__setattr__" = some (some (.builtin "object.__setattr__")))
 (qmn : makesIn K q3p = true)
 (qmo : keepIn K (.ref q3p) = true)
 (qmp : findIn K (.ref q3p) "ply" = some none)
 (qmq : findIn K (.ref q3p) "moves" = some none)
 (qmr : findIn K (.ref q3p) "closing" = some none)
 (qms : K.lookup q3q = some ⟨q3r, q3x, .func (fnOf "__init__" "OpenLine.__init__" (defArgs (inClass (top 90) 0)) (defBody (inClass (top 90) 0)) (defScope (inClass (top 90) 0)) .none q3s q3t q3u q3y q3v q3w), q3z⟩)
 (qmt : codeIn K q3v "OpenLine.__init__" = true)
 (qmu : keepIn K (.ref q3q) = true)
 (qmv : nsIn K mainGlobals "Reader" = some (some (.ref q40)))
 (qmw : findIn K (.ref q40) "__init__" = some (some (.ref q41)))
 (qmx : isFn K (.ref q41) = true)
 (qmy : plainGet K q40 Str.empty = true)
 (qmz : hasDictIn K q40 = true)
 (qn0 : plainOver K q40 = true)
 (qn1 : findIn K (.ref q40) "__setattr__" = some (some (.builtin "object.__setattr__")))
 (qn2 : makesIn K q40 = true)
 (qn3 : keepIn K (.ref q40) = true)
 (qn4 : findIn K (.ref q40) "tokens" = some none)
 (qn5 : findIn K (.ref q40) "spot" = some none)
 (qn6 : findIn K (.ref q40) "heads" = some none)
 (qn7 : findIn K (.ref q40) "line" = some none)
 (qn8 : findIn K (.ref q40) "open_lines" = some none)
 (qn9 : K.lookup q41 = some ⟨q42, q48, .func (fnOf "__init__" "Reader.__init__" (defArgs (inClass (top 91) 0)) (defBody (inClass (top 91) 0)) (defScope (inClass (top 91) 0)) .none q43 q44 q45 q49 q46 q47), q4a⟩)
 (qna : codeIn K q46 "Reader.__init__" = true)
 (qnb : keepIn K (.ref q41) = true)
 (qnc : q40 ≠ q2k)
 (qnd : q3p ≠ q2k)
 (qne : q3p ≠ q40)
 (qnf : q1y ≠ q2k)
 (qng : q1y ≠ q3p)
 (qnh : q1y ≠ q40)
 (qni : nsIn K mainGlobals "first_position" = some (some (.ref q4b)))
 (qnj : K.lookup q4b = some ⟨q4c, q4i, .func (fnOf "first_position" "first_position" (defArgs (top 8)) (defBody (top 8)) (defScope (top 8)) .none q4d q4e q4f q4j q4g q4h), q4k⟩)
 (qnk : codeIn K q4g "first_position" = true)
 (qnl : keepIn K (.ref q4b) = true)
 (qnm : nsIn K mainGlobals "is_over" = some (some (.ref q4l)))
 (qnn : K.lookup q4l = some ⟨q4m, q4s, .func (fnOf "is_over" "is_over" (defArgs (top 9)) (defBody (top 9)) (defScope (top 9)) .none q4n q4o q4p q4t q4q q4r), q4u⟩)
 (qno : codeIn K q4q "is_over" = true)
 (qnp : keepIn K (.ref q4l) = true)
 (qnq : nsIn K mainGlobals "side_to_move" = some (some (.ref q4v)))
 (qnr : K.lookup q4v = some ⟨q4w, q52, .func (fnOf "side_to_move" "side_to_move" (defArgs (top 10)) (defBody (top 10)) (defScope (top 10)) .none q4x q4y q4z q53 q50 q51), q54⟩)
 (qns : codeIn K q50 "side_to_move" = true)
 (qnt : keepIn K (.ref q4v) = true)
 (qnu : nsIn K mainGlobals "is_allowed" = some (some (.ref q55)))
 (qnv : K.lookup q55 = some ⟨q56, q5c, .func (fnOf "is_allowed" "is_allowed" (defArgs (top 11)) (defBody (top 11)) (defScope (top 11)) .none q57 q58 q59 q5d q5a q5b), q5e⟩)
 (qnw : codeIn K q5a "is_allowed" = true)
 (qnx : keepIn K (.ref q55) = true)
 (qny : nsIn K mainGlobals "can_take" = some (some (.ref q5f)))
 (qnz : K.lookup q5f = some ⟨q5g, q5m, .func (fnOf "can_take" "can_take" (defArgs (top 12)) (defBody (top 12)) (defScope (top 12)) .none q5h q5i q5j q5n q5k q5l), q5o⟩)
 (qo0 : codeIn K q5k "can_take" = true)
 (qo1 : keepIn K (.ref q5f) = true)
 (qo2 : nsIn K mainGlobals "can_split" = some (some (.ref q5p)))
 (qo3 : K.lookup q5p = some ⟨q5q, q5w, .func (fnOf "can_split" "can_split" (defArgs (top 13)) (defBody (top 13)) (defScope (top 13)) .none q5r q5s q5t q5x q5u q5v), q5y⟩)
 (qo4 : codeIn K q5u "can_split" = true)
 (qo5 : keepIn K (.ref q5p) = true)
 (qo6 : nsIn K mainGlobals "position_after" = some (some (.ref q5z)))
 (qo7 : K.lookup q5z = some ⟨q60, q66, .func (fnOf "position_after" "position_after" (defArgs (top 14)) (defBody (top 14)) (defScope (top 14)) .none q61 q62 q63 q67 q64 q65), q68⟩)
 (qo8 : codeIn K q64 "position_after" = true)
 (qo9 : keepIn K (.ref q5z) = true)
 (qoa : nsIn K mainGlobals "game_row" = some (some (.ref q69)))
 (qob : K.lookup q69 = some ⟨q6a, q6g, .func (fnOf "game_row" "game_row" (defArgs (top 15)) (defBody (top 15)) (defScope (top 15)) .none q6b q6c q6d q6h q6e q6f), q6i⟩)
 (qoc : codeIn K q6e "game_row" = true)
 (qod : keepIn K (.ref q69) = true)
 (qoe : nsIn K mainGlobals "can_take_mark" = some (some (.ref q6j)))
 (qof : K.lookup q6j = some ⟨q6k, q6q, .func (fnOf "can_take_mark" "can_take_mark" (defArgs (top 26)) (defBody (top 26)) (defScope (top 26)) .none q6l q6m q6n q6r q6o q6p), q6s⟩)
 (qog : codeIn K q6o "can_take_mark" = true)
 (qoh : keepIn K (.ref q6j) = true)
 (qoi : nsIn K mainGlobals "marked" = some (some (.ref q6t)))
 (qoj : K.lookup q6t = some ⟨q6u, q70, .func (fnOf "marked" "marked" (defArgs (top 27)) (defBody (top 27)) (defScope (top 27)) .none q6v q6w q6x q71 q6y q6z), q72⟩)
 (qok : codeIn K q6y "marked" = true)
 (qol : keepIn K (.ref q6t) = true)
 (qom : nsIn K mainGlobals "signs_of" = some (some (.ref q73)))
 (qon : K.lookup q73 = some ⟨q74, q7a, .func (fnOf "signs_of" "signs_of" (defArgs (top 41)) (defBody (top 41)) (defScope (top 41)) .none q75 q76 q77 q7b q78 q79), q7c⟩)
 (qoo : codeIn K q78 "signs_of" = true)
 (qop : keepIn K (.ref q73) = true)
 (qoq : nsIn K mainGlobals "bytes_of" = some (some (.ref q7d)))
 (qor : K.lookup q7d = some ⟨q7e, q7k, .func (fnOf "bytes_of" "bytes_of" (defArgs (top 42)) (defBody (top 42)) (defScope (top 42)) .none q7f q7g q7h q7l q7i q7j), q7m⟩)
 (qos : codeIn K q7i "bytes_of" = true)
 (qot : keepIn K (.ref q7d) = true)
 (qou : nsIn K mainGlobals "numeral" = some (some (.ref q7n)))
 (qov : K.lookup q7n = some ⟨q7o, q7u, .func (fnOf "numeral" "numeral" (defArgs (top 43)) (defBody (top 43)) (defScope (top 43)) .none q7p q7q q7r q7v q7s q7t), q7w⟩)
 (qow : codeIn K q7s "numeral" = true)
 (qox : keepIn K (.ref q7n) = true)
 (qoy : nsIn K mainGlobals "is_letter" = some (some (.ref q7x)))
 (qoz : K.lookup q7x = some ⟨q7y, q84, .func (fnOf "is_letter" "is_letter" (defArgs (top 44)) (defBody (top 44)) (defScope (top 44)) .none q7z q80 q81 q85 q82 q83), q86⟩)
 (qp0 : codeIn K q82 "is_letter" = true)
 (qp1 : keepIn K (.ref q7x) = true)
 (qp2 : nsIn K mainGlobals "is_shown" = some (some (.ref q87)))
 (qp3 : K.lookup q87 = some ⟨q88, q8e, .func (fnOf "is_shown" "is_shown" (defArgs (top 45)) (defBody (top 45)) (defScope (top 45)) .none q89 q8a q8b q8f q8c q8d), q8g⟩)
 (qp4 : codeIn K q8c "is_shown" = true)
 (qp5 : keepIn K (.ref q87) = true)
 (qp6 : nsIn K mainGlobals "is_note" = some (some (.ref q8h)))
 (qp7 : K.lookup q8h = some ⟨q8i, q8o, .func (fnOf "is_note" "is_note" (defArgs (top 46)) (defBody (top 46)) (defScope (top 46)) .none q8j q8k q8l q8p q8m q8n), q8q⟩)
 (qp8 : codeIn K q8m "is_note" = true)
 (qp9 : keepIn K (.ref q8h) = true)
 (qpa : nsIn K mainGlobals "is_head_name" = some (some (.ref q8r)))
 (qpb : K.lookup q8r = some ⟨q8s, q8y, .func (fnOf "is_head_name" "is_head_name" (defArgs (top 47)) (defBody (top 47)) (defScope (top 47)) .none q8t q8u q8v q8z q8w q8x), q90⟩)
 (qpc : codeIn K q8w "is_head_name" = true)
 (qpd : keepIn K (.ref q8r) = true)
 (qpe : nsIn K mainGlobals "is_head_value" = some (some (.ref q91)))
 (qpf : K.lookup q91 = some ⟨q92, q98, .func (fnOf "is_head_value" "is_head_value" (defArgs (top 48)) (defBody (top 48)) (defScope (top 48)) .none q93 q94 q95 q99 q96 q97), q9a⟩)
 (qpg : codeIn K q96 "is_head_value" = true)
 (qph : keepIn K (.ref q91) = true)
 (qpi : nsIn K mainGlobals "is_heaps_name" = some (some (.ref q9b)))
 (qpj : K.lookup q9b = some ⟨q9c, q9i, .func (fnOf "is_heaps_name" "is_heaps_name" (defArgs (top 51)) (defBody (top 51)) (defScope (top 51)) .none q9d q9e q9f q9j q9g q9h), q9k⟩)
 (qpk : codeIn K q9g "is_heaps_name" = true)
 (qpl : keepIn K (.ref q9b) = true)
 (qpm : nsIn K mainGlobals "heaps_of" = some (some (.ref q9l)))
 (qpn : K.lookup q9l = some ⟨q9m, q9s, .func (fnOf "heaps_of" "heaps_of" (defArgs (top 52)) (defBody (top 52)) (defScope (top 52)) .none q9n q9o q9p q9t q9q q9r), q9u⟩)
 (qpo : codeIn K q9q "heaps_of" = true)
 (qpp : keepIn K (.ref q9l) = true)
 (qpq : nsIn K mainGlobals "read_heaps" = some (some (.ref q9v)))
 (qpr : K.lookup q9v = some ⟨q9w, qa2, .func (fnOf "read_heaps" "read_heaps" (defArgs (top 53)) (defBody (top 53)) (defScope (top 53)) .none q9x q9y q9z qa3 qa0 qa1), qa4⟩)
 (qps : codeIn K qa0 "read_heaps" = true)
 (qpt : keepIn K (.ref q9v) = true)
 (qpu : nsIn K mainGlobals "follow" = some (some (.ref qa5)))
 (qpv : K.lookup qa5 = some ⟨qa6, qac, .func (fnOf "follow" "follow" (defArgs (top 55)) (defBody (top 55)) (defScope (top 55)) .none qa7 qa8 qa9 qad qaa qab), qae⟩)
 (qpw : codeIn K qaa "follow" = true)
 (qpx : keepIn K (.ref qa5) = true)
 (qpy : nsIn K mainGlobals "trail_of" = some (some (.ref qaf)))
 (qpz : K.lookup qaf = some ⟨qag, qam, .func (fnOf "trail_of" "trail_of" (defArgs (top 56)) (defBody (top 56)) (defScope (top 56)) .none qah qai qaj qan qak qal), qao⟩)
 (qq0 : codeIn K qak "trail_of" = true)
 (qq1 : keepIn K (.ref qaf) = true)
 (qq2 : nsIn K mainGlobals "positions_of" = some (some (.ref qap)))
 (qq3 : K.lookup qap = some ⟨qaq, qaw, .func (fnOf "positions_of" "positions_of" (defArgs (top 57)) (defBody (top 57)) (defScope (top 57)) .none qar qas qat qax qau qav), qay⟩)
 (qq4 : codeIn K qau "positions_of" = true)
 (qq5 : keepIn K (.ref qap) = true)
 (qq6 : nsIn K mainGlobals "read_word" = some (some (.ref qaz)))
 (qq7 : K.lookup qaz = some ⟨qb0, qb6, .func (fnOf "read_word" "read_word" (defArgs (top 67)) (defBody (top 67)) (defScope (top 67)) .none qb1 qb2 qb3 qb7 qb4 qb5), qb8⟩)
 (qq8 : codeIn K qb4 "read_word" = true)
 (qq9 : keepIn K (.ref qaz) = true)
 (qqa : nsIn K mainGlobals "read_mark" = some (some (.ref qb9)))
 (qqb : K.lookup qb9 = some ⟨qba, qbg, .func (fnOf "read_mark" "read_mark" (defArgs (top 68)) (defBody (top 68)) (defScope (top 68)) .none qbb qbc qbd qbh qbe qbf), qbi⟩)
 (qqc : codeIn K qbe "read_mark" = true)
 (qqd : keepIn K (.ref qb9) = true)
 (qqe : nsIn K mainGlobals "read_number" = some (some (.ref qbj)))
 (qqf : K.lookup qbj = some ⟨qbk, qbq, .func (fnOf "read_number" "read_number" (defArgs (top 69)) (defBody (top 69)) (defScope (top 69)) .none qbl qbm qbn qbr qbo qbp), qbs⟩)
 (qqg : codeIn K qbo "read_number" = true)
 (qqh : keepIn K (.ref qbj) = true)
 (qqi : nsIn K mainGlobals "read_marked_move" = some (some (.ref qbt)))
 (qqj : K.lookup qbt = some ⟨qbu, qc0, .func (fnOf "read_marked_move" "read_marked_move" (defArgs (top 70)) (defBody (top 70)) (defScope (top 70)) .none qbv qbw qbx qc1 qby qbz), qc2⟩)
 (qqk : codeIn K qby "read_marked_move" = true)
 (qql : keepIn K (.ref qbt) = true)
 (qqm : nsIn K mainGlobals "read_move" = some (some (.ref qc3)))
 (qqn : K.lookup qc3 = some ⟨qc4, qca, .func (fnOf "read_move" "read_move" (defArgs (top 71)) (defBody (top 71)) (defScope (top 71)) .none qc5 qc6 qc7 qcb qc8 qc9), qcc⟩)
 (qqo : codeIn K qc8 "read_move" = true)
 (qqp : keepIn K (.ref qc3) = true)
 (qqq : nsIn K mainGlobals "heap_of" = some (some (.ref qcd)))
 (qqr : K.lookup qcd = some ⟨qce, qck, .func (fnOf "heap_of" "heap_of" (defArgs (top 72)) (defBody (top 72)) (defScope (top 72)) .none qcf qcg qch qcl qci qcj), qcm⟩)
 (qqs : codeIn K qci "heap_of" = true)
 (qqt : keepIn K (.ref qcd) = true)
 (qqu : nsIn K mainGlobals "number_at" = some (some (.ref qcn)))
 (qqv : K.lookup qcn = some ⟨qco, qcu, .func (fnOf "number_at" "number_at" (defArgs (top 73)) (defBody (top 73)) (defScope (top 73)) .none qcp qcq qcr qcv qcs qct), qcw⟩)
 (qqw : codeIn K qcs "number_at" = true)
 (qqx : keepIn K (.ref qcn) = true)
 (qqy : nsIn K mainGlobals "tokens_of" = some (some (.ref qcx)))
 (qqz : K.lookup qcx = some ⟨qcy, qd4, .func (fnOf "tokens_of" "tokens_of" (defArgs (top 80)) (defBody (top 80)) (defScope (top 80)) .none qcz qd0 qd1 qd5 qd2 qd3), qd6⟩)
 (qr0 : codeIn K qd2 "tokens_of" = true)
 (qr1 : keepIn K (.ref qcx) = true)
 (qr2 : nsIn K mainGlobals "behind_blanks" = some (some (.ref qd7)))
 (qr3 : K.lookup qd7 = some ⟨qd8, qde, .func (fnOf "behind_blanks" "behind_blanks" (defArgs (top 81)) (defBody (top 81)) (defScope (top 81)) .none qd9 qda qdb qdf qdc qdd), qdg⟩)
 (qr4 : codeIn K qdc "behind_blanks" = true)
 (qr5 : keepIn K (.ref qd7) = true)
 (qr6 : nsIn K mainGlobals "token_at" = some (some (.ref qdh)))
 (qr7 : K.lookup qdh = some ⟨qdi, qdo, .func (fnOf "token_at" "token_at" (defArgs (top 82)) (defBody (top 82)) (defScope (top 82)) .none qdj qdk qdl qdp qdm qdn), qdq⟩)
 (qr8 : codeIn K qdm "token_at" = true)
 (qr9 : keepIn K (.ref qdh) = true)
 (qra : nsIn K mainGlobals "wrong_at" = some (some (.ref qdr)))
 (qrb : K.lookup qdr = some ⟨qds, qdy, .func (fnOf "wrong_at" "wrong_at" (defArgs (top 83)) (defBody (top 83)) (defScope (top 83)) .none qdt qdu qdv qdz qdw qdx), qe0⟩)
 (qrc : codeIn K qdw "wrong_at" = true)
 (qrd : keepIn K (.ref qdr) = true)
 (qre : nsIn K mainGlobals "note_at" = some (some (.ref qe1)))
 (qrf : K.lookup qe1 = some ⟨qe2, qe8, .func (fnOf "note_at" "note_at" (defArgs (top 84)) (defBody (top 84)) (defScope (top 84)) .none qe3 qe4 qe5 qe9 qe6 qe7), qea⟩)
 (qrg : codeIn K qe6 "note_at" = true)
 (qrh : keepIn K (.ref qe1) = true)
 (qri : nsIn K mainGlobals "head_at" = some (some (.ref qeb)))
 (qrj : K.lookup qeb = some ⟨qec, qei, .func (fnOf "head_at" "head_at" (defArgs (top 85)) (defBody (top 85)) (defScope (top 85)) .none qed qee qef qej qeg qeh), qek⟩)
 (qrk : codeIn K qeg "head_at" = true)
 (qrl : keepIn K (.ref qeb) = true)
 (qrm : nsIn K mainGlobals "word_at" = some (some (.ref qel)))
 (qrn : K.lookup qel = some ⟨qem, qes, .func (fnOf "word_at" "word_at" (defArgs (top 86)) (defBody (top 86)) (defScope (top 86)) .none qen qeo qep qet qeq qer), qeu⟩)
 (qro : codeIn K qeq "word_at" = true)
 (qrp : keepIn K (.ref qel) = true)
 (qrq : nsIn K mainGlobals "find_byte" = some (some (.ref qev)))
 (qrr : K.lookup qev = some ⟨qew, qf2, .func (fnOf "find_byte" "find_byte" (defArgs (top 87)) (defBody (top 87)) (defScope (top 87)) .none qex qey qez qf3 qf0 qf1), qf4⟩)
 (qrs : codeIn K qf0 "find_byte" = true)
 (qrt : keepIn K (.ref qev) = true)
 (qru : nsIn K mainGlobals "read_record" = some (some (.ref qf5)))
 (qrv : K.lookup qf5 = some ⟨qf6, qfc, .func (fnOf "read_record" "read_record" (defArgs (top 92)) (defBody (top 92)) (defScope (top 92)) .none qf7 qf8 qf9 qfd qfa qfb), qfe⟩)
 (qrw : codeIn K qfa "read_record" = true)
 (qrx : keepIn K (.ref qf5) = true)
 (qry : nsIn K mainGlobals "read_if_record" = some (some (.ref qff)))
 (qrz : K.lookup qff = some ⟨qfg, qfm, .func (fnOf "read_if_record" "read_if_record" (defArgs (top 93)) (defBody (top 93)) (defScope (top 93)) .none qfh qfi qfj qfn qfk qfl), qfo⟩)
 (qs0 : codeIn K qfk "read_if_record" = true)
 (qs1 : keepIn K (.ref qff) = true)
 (qs2 : nsIn K mainGlobals "token_now" = some (some (.ref qfp)))
 (qs3 : K.lookup qfp = some ⟨qfq, qfw, .func (fnOf "token_now" "token_now" (defArgs (top 94)) (defBody (top 94)) (defScope (top 94)) .none qfr qfs qft qfx qfu qfv), qfy⟩)
 (qs4 : codeIn K qfu "token_now" = true)
 (qs5 : keepIn K (.ref qfp) = true)
 (qs6 : nsIn K mainGlobals "need" = some (some (.ref qfz)))
 (qs7 : K.lookup qfz = some ⟨qg0, qg6, .func (fnOf "need" "need" (defArgs (top 95)) (defBody (top 95)) (defScope (top 95)) .none qg1 qg2 qg3 qg7 qg4 qg5), qg8⟩)
 (qs8 : codeIn K qg4 "need" = true)
 (qs9 : keepIn K (.ref qfz) = true)
 (qsa : nsIn K mainGlobals "read_head" = some (some (.ref qg9)))
 (qsb : K.lookup qg9 = some ⟨qga, qgg, .func (fnOf "read_head" "read_head" (defArgs (top 96)) (defBody (top 96)) (defScope (top 96)) .none qgb qgc qgd qgh qge qgf), qgi⟩)
 (qsc : codeIn K qge "read_head" = true)
 (qsd : keepIn K (.ref qg9) = true)
 (qse : nsIn K mainGlobals "read_item_token" = some (some (.ref qgj)))
 (qsf : K.lookup qgj = some ⟨qgk, qgq, .func (fnOf "read_item_token" "read_item_token" (defArgs (top 97)) (defBody (top 97)) (defScope (top 97)) .none qgl qgm qgn qgr qgo qgp), qgs⟩)
 (qsg : codeIn K qgo "read_item_token" = true)
 (qsh : keepIn K (.ref qgj) = true)
 (qsi : nsIn K mainGlobals "take_move" = some (some (.ref qgt)))
 (qsj : K.lookup qgt = some ⟨qgu, qh0, .func (fnOf "take_move" "take_move" (defArgs (top 98)) (defBody (top 98)) (defScope (top 98)) .none qgv qgw qgx qh1 qgy qgz), qh2⟩)
 (qsk : codeIn K qgy "take_move" = true)
 (qsl : keepIn K (.ref qgt) = true)
 (qsm : nsIn K mainGlobals "take_mark" = some (some (.ref qh3)))
 (qsn : K.lookup qh3 = some ⟨qh4, qha, .func (fnOf "take_mark" "take_mark" (defArgs (top 99)) (defBody (top 99)) (defScope (top 99)) .none qh5 qh6 qh7 qhb qh8 qh9), qhc⟩)
 (qso : codeIn K qh8 "take_mark" = true)
 (qsp : keepIn K (.ref qh3) = true)
 (qsq : nsIn K mainGlobals "check_number" = some (some (.ref qhd)))
 (qsr : K.lookup qhd = some ⟨qhe, qhk, .func (fnOf "check_number" "check_number" (defArgs (top 100)) (defBody (top 100)) (defScope (top 100)) .none qhf qhg qhh qhl qhi qhj), qhm⟩)
 (qss : codeIn K qhi "check_number" = true)
 (qst : keepIn K (.ref qhd) = true)
 (qsu : nsIn K mainGlobals "begin_line" = some (some (.ref qhn)))
 (qsv : K.lookup qhn = some ⟨qho, qhu, .func (fnOf "begin_line" "begin_line" (defArgs (top 101)) (defBody (top 101)) (defScope (top 101)) .none qhp qhq qhr qhv qhs qht), qhw⟩)
 (qsw : codeIn K qhs "begin_line" = true)
 (qsx : keepIn K (.ref qhn) = true)
 (qsy : nsIn K mainGlobals "end_line" = some (some (.ref qhx)))
 (qsz : K.lookup qhx = some ⟨qhy, qi4, .func (fnOf "end_line" "end_line" (defArgs (top 102)) (defBody (top 102)) (defScope (top 102)) .none qhz qi0 qi1 qi5 qi2 qi3), qi6⟩)
 (qt0 : codeIn K qi2 "end_line" = true)
 (qt1 : keepIn K (.ref qhx) = true)
 (qt2 : nsIn K mainGlobals "walk" = some (some (.ref qi7)))
 (qt3 : K.lookup qi7 = some ⟨qi8, qie, .func (fnOf "walk" "walk" (defArgs (top 109)) (defBody (top 109)) (defScope (top 109)) .none qi9 qia qib qif qic qid), qig⟩)
 (qt4 : codeIn K qic "walk" = true)
 (qt5 : keepIn K (.ref qi7) = true) : Tx P w K mg ⟨q11, q15, q1e, q1n, q1o, q1y, q1z, q29, q2a, q2k, q2l, q2v, q2w, q3p, q3q, q40, q41⟩ := {
 k_MOST := ⟨_, mg_of X G qih, ⟨_, rfl⟩⟩
 k_MOST_HEAPS := ⟨_, mg_of X G qii, ⟨_, rfl⟩⟩
 k_HEAP_LETTERS := ⟨_, mg_of X G qij, ⟨_, rfl⟩⟩
 k_TAKE := ⟨_, mg_of X G qik, ⟨_, rfl⟩⟩
 k_SPLIT := ⟨_, mg_of X G qil, ⟨_, rfl⟩⟩
 k_PASS := ⟨_, mg_of X G qim, ⟨_, rfl⟩⟩
 k_MOVE := ⟨_, mg_of X G qin, ⟨_, rfl⟩⟩
 k_NOTE := ⟨_, mg_of X G qio, ⟨_, rfl⟩⟩
 k_OPEN_OTHER := ⟨_, mg_of X G qip, ⟨_, rfl⟩⟩
 dk_CLOSED_BY := dic_mk X G qiq qir qis qit (by decide)
 k_MOST_HEADS := ⟨_, mg_of X G qiu, ⟨_, rfl⟩⟩
 k_MOST_MARKS := ⟨_, mg_of X G qiv, ⟨_, rfl⟩⟩
 k_MOST_DEPTH := ⟨_, mg_of X G qiw, ⟨_, rfl⟩⟩
 k_MOST_BYTES := ⟨_, mg_of X G qix, ⟨_, rfl⟩⟩
 k_MOST_NOTE_BYTES := ⟨_, mg_of X G qiy, ⟨_, rfl⟩⟩
 k_MOST_NAME_LETTERS := ⟨_, mg_of X G qiz, ⟨_, rfl⟩⟩
 k_MOST_VALUE_BYTES := ⟨_, mg_of X G qj0, ⟨_, rfl⟩⟩
 k_BLANK := ⟨_, mg_of X G qj1, ⟨_, rfl⟩⟩
 k_ROW_END := ⟨_, mg_of X G qj2, ⟨_, rfl⟩⟩
 k_QUOTE := ⟨_, mg_of X G qj3, ⟨_, rfl⟩⟩
 k_HEAD_BEGIN := ⟨_, mg_of X G qj4, ⟨_, rfl⟩⟩
 k_HEAD_END := ⟨_, mg_of X G qj5, ⟨_, rfl⟩⟩
 k_NOTE_BEGIN := ⟨_, mg_of X G qj6, ⟨_, rfl⟩⟩
 k_NOTE_END := ⟨_, mg_of X G qj7, ⟨_, rfl⟩⟩
 dk_SIGNS := dic_mk X G qj8 qj9 qja qjb (by decide)
 k_OTHER_SIGN := ⟨_, mg_of X G qjc, ⟨_, rfl⟩⟩
 k_HEAPS_NAME := ⟨_, mg_of X G qjd, ⟨_, rfl⟩⟩
 k_RESULT := ⟨_, mg_of X G qje, ⟨_, rfl⟩⟩
 k_MARK := ⟨_, mg_of X G qjf, ⟨_, rfl⟩⟩
 k_NUMBER := ⟨_, mg_of X G qjg, ⟨_, rfl⟩⟩
 k_WRONG := ⟨_, mg_of X G qjh, ⟨_, rfl⟩⟩
 k_MOST_MARK := ⟨_, mg_of X G qji, ⟨_, rfl⟩⟩
 k_PASS_SIGNS := ⟨_, mg_of X G qjj, ⟨_, rfl⟩⟩
 k_RESULTS := ⟨_, mg_of X G qjk, rfl⟩
 q_RESULTS := fun _ => .inr ⟨_, _, _, qjl, rfl, rfl, vals_sz qjm (by decide), qjm⟩
 ty_RESULTS := ⟨_, qjl, rfl, rfl⟩
 k_MOVE_ENDS := ⟨_, mg_of X G qjn, rfl⟩
 q_MOVE_ENDS := fun _ => .inr ⟨_, _, _, qjo, rfl, rfl, vals_sz qjp (by decide), qjp⟩
 ty_MOVE_ENDS := ⟨_, qjo, rfl, rfl⟩
 k_HEAD := ⟨_, mg_of X G qjq, ⟨_, rfl⟩⟩
 k_TEXT_END := ⟨_, mg_of X G qjr, ⟨_, rfl⟩⟩
 dk_LINE_BRACKETS := dic_mk X G qjs qjt qju qjv (by decide)
 k_WORD_STOPS := ⟨_, mg_of X G qjw, rfl⟩
 q_WORD_STOPS := fun _ => .inr ⟨_, _, _, qjx, rfl, rfl, vals_sz qjy (by decide), qjy⟩
 ty_WORD_STOPS := ⟨_, qjx, rfl, rfl⟩
 k_DONE := ⟨_, mg_of X G qjz, ⟨_, rfl⟩⟩
 k_WRONG_FORM := ⟨_, mg_of X G qk0, ⟨_, rfl⟩⟩
 k_NO_TEXT := ⟨_, mg_of X G qk1, ⟨_, rfl⟩⟩
 k_NOT_NOW := ⟨_, mg_of X G qk2, ⟨_, rfl⟩⟩
 k_AGAINST_RULES := ⟨_, mg_of X G qk3, ⟨_, rfl⟩⟩
 b_len := mg_none_of X G qk4
 b_max := mg_none_of X G qk5
 b_min := mg_none_of X G qk6
 b_all := mg_none_of X G qk7
 b_ord := mg_none_of X G qk8
 b_list := mg_none_of X G qk9
 b_tuple := mg_none_of X G qka
 b_str := mg_none_of X G qkb
 b_int := mg_none_of X G qkc
 mg_Position := mg_of X G qkd
 cl_Position := ⟨qkg, qkh, qki, qkj⟩
 mk_Position := ⟨qkk, qke, qkf, qkl⟩
 na_Position_heaps := qkm
 na_Position_passed := qkn
 na_Position_ply := qko
 f_Position := ⟨_, (fun_mk (st := (inClass (top 7) 0)) qkp qkq qkr), ((fun_mk (st := (inClass (top 7) 0)) qkp qkq qkr).binds (ps := ["self", "heaps", "passed", "ply"]) fun _ _ _ _ _ _ us hl => ln4 us hl fun _ _ _ _ => rfl)⟩
 mg_Record := mg_of X G qks
 cl_Record := ⟨qkv, qkw, qkx, qky⟩
 mk_Record := ⟨qkz, qkt, qku, ql0⟩
 na_Record_heads := ql1
 na_Record_line := ql2
 na_Record_result := ql3
 f_Record := ⟨_, (fun_mk (st := (inClass (top 25) 0)) ql4 ql5 ql6), ((fun_mk (st := (inClass (top 25) 0)) ql4 ql5 ql6).binds (ps := ["self", "heads", "line", "result"]) fun _ _ _ _ _ _ us hl => ln4 us hl fun _ _ _ _ => rfl)⟩
 mg_Trail := mg_of X G ql7
 cl_Trail := ⟨qla, qlb, qlc, qld⟩
 mk_Trail := ⟨qle, ql8, ql9, qlf⟩
 na_Trail_positions := qlg
 na_Trail_end := qlh
 f_Trail := ⟨_, (fun_mk (st := (inClass (top 54) 0)) qli qlj qlk), ((fun_mk (st := (inClass (top 54) 0)) qli qlj qlk).binds (ps := ["self", "first"]) fun _ _ _ _ _ _ us hl => ln2 us hl fun _ _ => rfl)⟩
 mg_Token := mg_of X G qll
 cl_Token := ⟨qlo, qlp, qlq, qlr⟩
 mk_Token := ⟨qls, qlm, qln, qlt⟩
 na_Token_kind := qlu
 na_Token_told := qlv
 na_Token_begin := qlw
 na_Token_end := qlx
 f_Token := ⟨_, (fun_mk (st := (inClass (top 79) 0)) qly qlz qm0), ((fun_mk (st := (inClass (top 79) 0)) qly qlz qm0).binds (ps := ["self", "kind", "told", "begin", "end"]) fun _ _ _ _ _ _ us hl => ln5 us hl fun _ _ _ _ _ => rfl)⟩
 mg_NoRecord := mg_of X G qm1
 b_ValueError := mg_none_of X G qmc
 xc := ⟨⟨_, _, _, _, _, _, _, _, _, _, _, _, _, _, qm2, nsok_mk qm3 qm4, qm5, qm6, qm7, qm8, qm9⟩, qma, qmb⟩
 f_NoRecord := ⟨_, (fun_mk (st := (inClass (top 89) 0)) qmd qme qmf), ((fun_mk (st := (inClass (top 89) 0)) qmd qme qmf).binds (ps := ["self", "place"]) fun _ _ _ _ _ _ us hl => ln2 us hl fun _ _ => rfl)⟩
 mg_OpenLine := mg_of X G qmg
 cl_OpenLine := ⟨qmj, qmk, qml, qmm⟩
 mk_OpenLine := ⟨qmn, qmh, qmi, qmo⟩
 na_OpenLine_ply := qmp
 na_OpenLine_moves := qmq
 na_OpenLine_closing := qmr
 f_OpenLine := ⟨_, (fun_mk (st := (inClass (top 90) 0)) qms qmt qmu), ((fun_mk (st := (inClass (top 90) 0)) qms qmt qmu).binds (ps := ["self", "ply", "closing"]) fun _ _ _ _ _ _ us hl => ln3 us hl fun _ _ _ => rfl)⟩
 mg_Reader := mg_of X G qmv
 cl_Reader := ⟨qmy, qmz, qn0, qn1⟩
 mk_Reader := ⟨qn2, qmw, qmx, qn3⟩
 na_Reader_tokens := qn4
 na_Reader_spot := qn5
 na_Reader_heads := qn6
 na_Reader_line := qn7
 na_Reader_open_lines := qn8
 f_Reader := ⟨_, (fun_mk (st := (inClass (top 91) 0)) qn9 qna qnb), ((fun_mk (st := (inClass (top 91) 0)) qn9 qna qnb).binds (ps := ["self", "tokens"]) fun _ _ _ _ _ _ us hl => ln2 us hl fun _ _ => rfl)⟩
 ne_Reader_Token := qnc
 ne_OpenLine_Token := qnd
 ne_OpenLine_Reader := qne
 ne_Record_Token := qnf
 ne_Record_OpenLine := qng
 ne_Record_Reader := qnh
 s_first_position := ⟨_, _, (fun_mk (st := (top 8)) qnj qnk qnl), mg_of X G qni, ((fun_mk (st := (top 8)) qnj qnk qnl).binds (ps := ["heaps"]) fun _ _ _ _ _ _ us hl => ln1 us hl fun _ => rfl)⟩
 s_is_over := ⟨_, _, (fun_mk (st := (top 9)) qnn qno qnp), mg_of X G qnm, ((fun_mk (st := (top 9)) qnn qno qnp).binds (ps := ["position"]) fun _ _ _ _ _ _ us hl => ln1 us hl fun _ => rfl)⟩
 s_side_to_move := ⟨_, _, (fun_mk (st := (top 10)) qnr qns qnt), mg_of X G qnq, ((fun_mk (st := (top 10)) qnr qns qnt).binds (ps := ["position"]) fun _ _ _ _ _ _ us hl => ln1 us hl fun _ => rfl)⟩
 s_is_allowed := ⟨_, _, (fun_mk (st := (top 11)) qnv qnw qnx), mg_of X G qnu, ((fun_mk (st := (top 11)) qnv qnw qnx).binds (ps := ["position", "move"]) fun _ _ _ _ _ _ us hl => ln2 us hl fun _ _ => rfl)⟩
 s_can_take := ⟨_, _, (fun_mk (st := (top 12)) qnz qo0 qo1), mg_of X G qny, ((fun_mk (st := (top 12)) qnz qo0 qo1).binds (ps := ["heaps", "n", "source"]) fun _ _ _ _ _ _ us hl => ln3 us hl fun _ _ _ => rfl)⟩
 s_can_split := ⟨_, _, (fun_mk (st := (top 13)) qo3 qo4 qo5), mg_of X G qo2, ((fun_mk (st := (top 13)) qo3 qo4 qo5).binds (ps := ["heaps", "n", "source", "target"]) fun _ _ _ _ _ _ us hl => ln4 us hl fun _ _ _ _ => rfl)⟩
 s_position_after := ⟨_, _, (fun_mk (st := (top 14)) qo7 qo8 qo9), mg_of X G qo6, ((fun_mk (st := (top 14)) qo7 qo8 qo9).binds (ps := ["position", "move"]) fun _ _ _ _ _ _ us hl => ln2 us hl fun _ _ => rfl)⟩
 s_game_row := ⟨_, _, (fun_mk (st := (top 15)) qob qoc qod), mg_of X G qoa, ((fun_mk (st := (top 15)) qob qoc qod).binds (ps := ["position"]) fun _ _ _ _ _ _ us hl => ln1 us hl fun _ => rfl)⟩
 s_can_take_mark := ⟨_, _, (fun_mk (st := (top 26)) qof qog qoh), mg_of X G qoe, ((fun_mk (st := (top 26)) qof qog qoh).binds (ps := ["line"]) fun _ _ _ _ _ _ us hl => ln1 us hl fun _ => rfl)⟩
 s_marked := ⟨_, _, (fun_mk (st := (top 27)) qoj qok qol), mg_of X G qoi, ((fun_mk (st := (top 27)) qoj qok qol).binds (ps := ["move_item", "mark"]) fun _ _ _ _ _ _ us hl => ln2 us hl fun _ _ => rfl)⟩
 s_signs_of := ⟨_, _, (fun_mk (st := (top 41)) qon qoo qop), mg_of X G qom, ((fun_mk (st := (top 41)) qon qoo qop).binds (ps := ["row"]) fun _ _ _ _ _ _ us hl => ln1 us hl fun _ => rfl)⟩
 s_bytes_of := ⟨_, _, (fun_mk (st := (top 42)) qor qos qot), mg_of X G qoq, ((fun_mk (st := (top 42)) qor qos qot).binds (ps := ["signs"]) fun _ _ _ _ _ _ us hl => ln1 us hl fun _ => rfl)⟩
 s_numeral := ⟨_, _, (fun_mk (st := (top 43)) qov qow qox), mg_of X G qou, ((fun_mk (st := (top 43)) qov qow qox).binds (ps := ["signs", "most"]) fun _ _ _ _ _ _ us hl => ln2 us hl fun _ _ => rfl)⟩
 s_is_letter := ⟨_, _, (fun_mk (st := (top 44)) qoz qp0 qp1), mg_of X G qoy, ((fun_mk (st := (top 44)) qoz qp0 qp1).binds (ps := ["byte"]) fun _ _ _ _ _ _ us hl => ln1 us hl fun _ => rfl)⟩
 s_is_shown := ⟨_, _, (fun_mk (st := (top 45)) qp3 qp4 qp5), mg_of X G qp2, ((fun_mk (st := (top 45)) qp3 qp4 qp5).binds (ps := ["byte"]) fun _ _ _ _ _ _ us hl => ln1 us hl fun _ => rfl)⟩
 s_is_note := ⟨_, _, (fun_mk (st := (top 46)) qp7 qp8 qp9), mg_of X G qp6, ((fun_mk (st := (top 46)) qp7 qp8 qp9).binds (ps := ["row"]) fun _ _ _ _ _ _ us hl => ln1 us hl fun _ => rfl)⟩
 s_is_head_name := ⟨_, _, (fun_mk (st := (top 47)) qpb qpc qpd), mg_of X G qpa, ((fun_mk (st := (top 47)) qpb qpc qpd).binds (ps := ["row"]) fun _ _ _ _ _ _ us hl => ln1 us hl fun _ => rfl)⟩
 s_is_head_value := ⟨_, _, (fun_mk (st := (top 48)) qpf qpg qph), mg_of X G qpe, ((fun_mk (st := (top 48)) qpf qpg qph).binds (ps := ["row"]) fun _ _ _ _ _ _ us hl => ln1 us hl fun _ => rfl)⟩
 s_is_heaps_name := ⟨_, _, (fun_mk (st := (top 51)) qpj qpk qpl), mg_of X G qpi, ((fun_mk (st := (top 51)) qpj qpk qpl).binds (ps := ["name"]) fun _ _ _ _ _ _ us hl => ln1 us hl fun _ => rfl)⟩
 s_heaps_of := ⟨_, _, (fun_mk (st := (top 52)) qpn qpo qpp), mg_of X G qpm, ((fun_mk (st := (top 52)) qpn qpo qpp).binds (ps := ["record"]) fun _ _ _ _ _ _ us hl => ln1 us hl fun _ => rfl)⟩
 s_read_heaps := ⟨_, _, (fun_mk (st := (top 53)) qpr qps qpt), mg_of X G qpq, ((fun_mk (st := (top 53)) qpr qps qpt).binds (ps := ["value"]) fun _ _ _ _ _ _ us hl => ln1 us hl fun _ => rfl)⟩
 s_follow := ⟨_, _, (fun_mk (st := (top 55)) qpv qpw qpx), mg_of X G qpu, ((fun_mk (st := (top 55)) qpv qpw qpx).binds (ps := ["heaps", "line"]) fun _ _ _ _ _ _ us hl => ln2 us hl fun _ _ => rfl)⟩
 s_trail_of := ⟨_, _, (fun_mk (st := (top 56)) qpz qq0 qq1), mg_of X G qpy, ((fun_mk (st := (top 56)) qpz qq0 qq1).binds (ps := ["record"]) fun _ _ _ _ _ _ us hl => ln1 us hl fun _ => rfl)⟩
 s_positions_of := ⟨_, _, (fun_mk (st := (top 57)) qq3 qq4 qq5), mg_of X G qq2, ((fun_mk (st := (top 57)) qq3 qq4 qq5).binds (ps := ["record"]) fun _ _ _ _ _ _ us hl => ln1 us hl fun _ => rfl)⟩
 s_read_word := ⟨_, _, (fun_mk (st := (top 67)) qq7 qq8 qq9), mg_of X G qq6, ((fun_mk (st := (top 67)) qq7 qq8 qq9).binds (ps := ["signs"]) fun _ _ _ _ _ _ us hl => ln1 us hl fun _ => rfl)⟩
 s_read_mark := ⟨_, _, (fun_mk (st := (top 68)) qqb qqc qqd), mg_of X G qqa, ((fun_mk (st := (top 68)) qqb qqc qqd).binds (ps := ["signs"]) fun _ _ _ _ _ _ us hl => ln1 us hl fun _ => rfl)⟩
 s_read_number := ⟨_, _, (fun_mk (st := (top 69)) qqf qqg qqh), mg_of X G qqe, ((fun_mk (st := (top 69)) qqf qqg qqh).binds (ps := ["signs"]) fun _ _ _ _ _ _ us hl => ln1 us hl fun _ => rfl)⟩
 s_read_marked_move := ⟨_, _, (fun_mk (st := (top 70)) qqj qqk qql), mg_of X G qqi, ((fun_mk (st := (top 70)) qqj qqk qql).binds (ps := ["signs"]) fun _ _ _ _ _ _ us hl => ln1 us hl fun _ => rfl)⟩
 s_read_move := ⟨_, _, (fun_mk (st := (top 71)) qqn qqo qqp), mg_of X G qqm, ((fun_mk (st := (top 71)) qqn qqo qqp).binds (ps := ["signs"]) fun _ _ _ _ _ _ us hl => ln1 us hl fun _ => rfl)⟩
 s_heap_of := ⟨_, _, (fun_mk (st := (top 72)) qqr qqs qqt), mg_of X G qqq, ((fun_mk (st := (top 72)) qqr qqs qqt).binds (ps := ["letter"]) fun _ _ _ _ _ _ us hl => ln1 us hl fun _ => rfl)⟩
 s_number_at := ⟨_, _, (fun_mk (st := (top 73)) qqv qqw qqx), mg_of X G qqu, ((fun_mk (st := (top 73)) qqv qqw qqx).binds (ps := ["ply"]) fun _ _ _ _ _ _ us hl => ln1 us hl fun _ => rfl)⟩
 s_tokens_of := ⟨_, _, (fun_mk (st := (top 80)) qqz qr0 qr1), mg_of X G qqy, ((fun_mk (st := (top 80)) qqz qr0 qr1).binds (ps := ["text"]) fun _ _ _ _ _ _ us hl => ln1 us hl fun _ => rfl)⟩
 s_behind_blanks := ⟨_, _, (fun_mk (st := (top 81)) qr3 qr4 qr5), mg_of X G qr2, ((fun_mk (st := (top 81)) qr3 qr4 qr5).binds (ps := ["text", "spot"]) fun _ _ _ _ _ _ us hl => ln2 us hl fun _ _ => rfl)⟩
 s_token_at := ⟨_, _, (fun_mk (st := (top 82)) qr7 qr8 qr9), mg_of X G qr6, ((fun_mk (st := (top 82)) qr7 qr8 qr9).binds (ps := ["text", "spot"]) fun _ _ _ _ _ _ us hl => ln2 us hl fun _ _ => rfl)⟩
 s_wrong_at := ⟨_, _, (fun_mk (st := (top 83)) qrb qrc qrd), mg_of X G qra, ((fun_mk (st := (top 83)) qrb qrc qrd).binds (ps := ["spot"]) fun _ _ _ _ _ _ us hl => ln1 us hl fun _ => rfl)⟩
 s_note_at := ⟨_, _, (fun_mk (st := (top 84)) qrf qrg qrh), mg_of X G qre, ((fun_mk (st := (top 84)) qrf qrg qrh).binds (ps := ["text", "spot"]) fun _ _ _ _ _ _ us hl => ln2 us hl fun _ _ => rfl)⟩
 s_head_at := ⟨_, _, (fun_mk (st := (top 85)) qrj qrk qrl), mg_of X G qri, ((fun_mk (st := (top 85)) qrj qrk qrl).binds (ps := ["text", "spot"]) fun _ _ _ _ _ _ us hl => ln2 us hl fun _ _ => rfl)⟩
 s_word_at := ⟨_, _, (fun_mk (st := (top 86)) qrn qro qrp), mg_of X G qrm, ((fun_mk (st := (top 86)) qrn qro qrp).binds (ps := ["text", "spot"]) fun _ _ _ _ _ _ us hl => ln2 us hl fun _ _ => rfl)⟩
 s_find_byte := ⟨_, _, (fun_mk (st := (top 87)) qrr qrs qrt), mg_of X G qrq, ((fun_mk (st := (top 87)) qrr qrs qrt).binds (ps := ["text", "byte", "spot"]) fun _ _ _ _ _ _ us hl => ln3 us hl fun _ _ _ => rfl)⟩
 s_read_record := ⟨_, _, (fun_mk (st := (top 92)) qrv qrw qrx), mg_of X G qru, ((fun_mk (st := (top 92)) qrv qrw qrx).binds (ps := ["text"]) fun _ _ _ _ _ _ us hl => ln1 us hl fun _ => rfl)⟩
 s_read_if_record := ⟨_, _, (fun_mk (st := (top 93)) qrz qs0 qs1), mg_of X G qry, ((fun_mk (st := (top 93)) qrz qs0 qs1).binds (ps := ["text"]) fun _ _ _ _ _ _ us hl => ln1 us hl fun _ => rfl)⟩
 s_token_now := ⟨_, _, (fun_mk (st := (top 94)) qs3 qs4 qs5), mg_of X G qs2, ((fun_mk (st := (top 94)) qs3 qs4 qs5).binds (ps := ["reader"]) fun _ _ _ _ _ _ us hl => ln1 us hl fun _ => rfl)⟩
 s_need := ⟨_, _, (fun_mk (st := (top 95)) qs7 qs8 qs9), mg_of X G qs6, ((fun_mk (st := (top 95)) qs7 qs8 qs9).binds (ps := ["holds", "token"]) fun _ _ _ _ _ _ us hl => ln2 us hl fun _ _ => rfl)⟩
 s_read_head := ⟨_, _, (fun_mk (st := (top 96)) qsb qsc qsd), mg_of X G qsa, ((fun_mk (st := (top 96)) qsb qsc qsd).binds (ps := ["reader", "token"]) fun _ _ _ _ _ _ us hl => ln2 us hl fun _ _ => rfl)⟩
 s_read_item_token := ⟨_, _, (fun_mk (st := (top 97)) qsf qsg qsh), mg_of X G qse, ((fun_mk (st := (top 97)) qsf qsg qsh).binds (ps := ["reader", "token"]) fun _ _ _ _ _ _ us hl => ln2 us hl fun _ _ => rfl)⟩
 s_take_move := ⟨_, _, (fun_mk (st := (top 98)) qsj qsk qsl), mg_of X G qsi, ((fun_mk (st := (top 98)) qsj qsk qsl).binds (ps := ["reader", "token"]) fun _ _ _ _ _ _ us hl => ln2 us hl fun _ _ => rfl)⟩
 s_take_mark := ⟨_, _, (fun_mk (st := (top 99)) qsn qso qsp), mg_of X G qsm, ((fun_mk (st := (top 99)) qsn qso qsp).binds (ps := ["reader", "token"]) fun _ _ _ _ _ _ us hl => ln2 us hl fun _ _ => rfl)⟩
 s_check_number := ⟨_, _, (fun_mk (st := (top 100)) qsr qss qst), mg_of X G qsq, ((fun_mk (st := (top 100)) qsr qss qst).binds (ps := ["reader", "token"]) fun _ _ _ _ _ _ us hl => ln2 us hl fun _ _ => rfl)⟩
 s_begin_line := ⟨_, _, (fun_mk (st := (top 101)) qsv qsw qsx), mg_of X G qsu, ((fun_mk (st := (top 101)) qsv qsw qsx).binds (ps := ["reader", "token"]) fun _ _ _ _ _ _ us hl => ln2 us hl fun _ _ => rfl)⟩
 s_end_line := ⟨_, _, (fun_mk (st := (top 102)) qsz qt0 qt1), mg_of X G qsy, ((fun_mk (st := (top 102)) qsz qt0 qt1).binds (ps := ["reader", "token"]) fun _ _ _ _ _ _ us hl => ln2 us hl fun _ _ => rfl)⟩
 s_walk := ⟨_, _, (fun_mk (st := (top 109)) qt3 qt4 qt5), mg_of X G qt2, ((fun_mk (st := (top 109)) qt3 qt4 qt5).binds (ps := ["k", "text"]) fun _ _ _ _ _ _ us hl => ln2 us hl fun _ _ => rfl)⟩ }
theorem iv_toNat : ∀ {ns : List Int}, (∀ x ∈ ns, 0 ≤ x) → iv (ns.map Int.toNat) = ns.map V.int
  | [], _ => rfl
  | x :: r, h => by
    show nv x.toNat :: iv (r.map Int.toNat) = V.int x :: r.map V.int
    rw [iv_toNat fun y hy => h y (List.mem_cons_of_mem _ hy)]
    congr 1
    show V.int (x.toNat : Int) = V.int x
    rw [Int.toNat_of_nonneg (h x (by simp))]
local macro_rules
  | `(tactic| tm_at "rd") => `(tactic| simp only [tSeq, tIfS, tOr, tNot, tB, tVar, tCB, tCons, tNil, tOp, tUn, tTest, tAnd, tRet, tAsg, gName, tIf, tC, tNext, tM0, tM1, L2.start, rI0, rI, rU, rIxS, rIxL, rIxT, rEq, rNe, tAndV, tOrV, tNotV, tChain, tTup, tLst, tCall, tDrop, tSl, tNoPart, tPart, rSlS, rSlL, rIn, tDGetK, tDInK, tDGet2K, tFld, sFld, sFldAug, rAdd, rSub, tAug, ipI, tBM, tBM0, tRetN, tYes, rAll, rAppend, rPop, rIndexT, rCatT, rEqD, rNeD, tVI, sXset, tFs, tRaise, gTup, gCons, gNil, gSub, rSetL, List.getElem?_cons_zero, List.getElem?_cons_succ, List.map_cons, List.map_nil, List.length_cons, List.length_nil, Nat.sub_self, Nat.reduceAdd, Nat.reduceSub, List.replicate, List.append_nil, List.cons_append, List.nil_append, Option.some.injEq, V.str.injEq, V.int.injEq, V.bl.injEq, V.ref.injEq, exists_eq_left', exists_eq_left, exists_and_left, true_and, and_true, exists_eq', exists_eq, List.cons.injEq, List.set_cons_zero, List.set_cons_succ, if_true, Bool.not_true, Bool.not_false, Bool.false_eq_true, if_false, wipe, List.getElem?_nil, decide_eq_true_eq, and_assoc, rCatTT, tMake, rNotInD, tTry1, tTry0, tXfld, rCat, rExtend])
section
variable {P : Program} {w : World} {K : PySem.W.Frag} {mg : Str → Option Value} {base : Heap} {A : Adr}
def Frsh (H : Hp) (Q : VK) (t : List Nat) : Prop := ∀ (H' : Hp) (p : Addr), Same H H' → H p = none → H' p = some (.lst (iv t)) → Q (.ref p) H'
theorem iv_app (a b : List Nat) : iv (a ++ b) = iv a ++ iv b := by simp [iv]
theorem szl2 {n : Nat} (h : n ≤ 16000000) : n < sizeLine := Nat.lt_of_le_of_lt h (by decide)
def spBytes : Sp := fun vs H Q _ => ∃ l : List Nat, vs = [.str (S l)] ∧ l.length ≤ 10000 ∧ Frsh H Q l
open Classical in
def spIf (K : PySem.W.Frag) (A : Adr) : Sp := fun vs H Q _ => ∃ (a : Addr) (l : List Nat), vs = [.ref a] ∧ SqL K H a (iv l) ∧ match mread l with
  | .error _ => ∀ H', Same H H' → Q .non H'
  | .ok (hs, fl, k) => FrOk hs fl k → ∀ H' x, Same H H' → RecAt K A H' x hs fl k → Q (.ref x) H'
theorem sc_bytes_of : FnScope ["signs", "sign"] ["signs"] (defScope (top 42)) := ⟨rfl, rfl, rfl, by decide +kernel, rfl, by decide +kernel, by decide +kernel⟩
theorem ok_bytes_of (t : Tx P w K mg A) : Def P w K mg base (CXN P w A.cNoRecord) 1 "bytes_of" ["signs"] (spBytes) := by
  refine t.s_bytes_of.pure sc_bytes_of (fun vs H Q E h => ?_) fun f cdv Ar outer s H vs Q E hr h => ?_
  · obtain ⟨l, rfl, _⟩ := h; rfl
  obtain ⟨l, rfl, hl, q⟩ := h
  refine ⟨_, (pss_one (ps_ret (pe_lc rfl sc_bytes_of.nd (pi_str (pv 0)) (own := [("sign", 1)]) (blkOk_by rfl) (fun _ _ _ _ _ => (pg_name (i := 1) sc_bytes_of.nd rfl (Or.inl rfl))) (fun _ _ _ _ _ => pts_nil) (fun _ _ _ _ _ => (pe_callB call_ord (by rfl) t.b_ord boot_ord (pa_cons (pv 1) pa_nil)))))), ?_⟩
  tm_at "rd"
  refine ⟨_, rfl, S l, rfl, fun D hD => lc_str (x := S l) (fun i H' => Same H H' ∧ H' D = some (.lst (iv (l.take i)))) ⟨Same.updN hD, upd_same⟩ ?_ ?_⟩
  · rintro i c H' hc ⟨s1, hy⟩
    rw [S_cps] at hc
    have hi : i < l.length := (List.getElem?_eq_some_iff.mp hc).1
    tm_at "rd"
    refine ⟨rfl, _, hy, ?_, Same.mine s1 hD, ?_⟩
    · rw [iv_len, List.length_take]; exact szl (by omega)
    · rw [take_snoc hc, iv_app]; exact upd_same
  · rintro H' ⟨s1, hy⟩
    have e : (S l).cps.size = l.length := S_len l
    rw [e, List.take_length] at hy
    exact q _ _ s1 hD hy
end
section
variable {P : Program} {w : World} {K : PySem.W.Frag} {mg : Str → Option Value} {base : Heap} {A : Adr}
theorem drop_ofF {l : List FI} {s : Nat} {c : FI} (h : l[s]? = some c) : l.drop s = c :: l.drop (s + 1) := by
  obtain ⟨hl, he⟩ := List.getElem?_eq_some_iff.mp h
  rw [List.drop_eq_getElem_cons hl, he]
theorem sc_read_if_record : FnScope ["text"] ["text"] (defScope (top 93)) := ⟨rfl, rfl, rfl, by decide +kernel, rfl, by decide +kernel, by decide +kernel⟩
theorem ok_read_if_record (t : Tx P w K mg A) : Def P w K mg base (CXN P w A.cNoRecord) 9 "read_if_record" ["text"] (spIf K A) := by
  refine t.s_read_if_record.pure sc_read_if_record (fun vs H Q E h => ?_) fun f cdv Ar outer s H vs Q E hr h => ?_
  · obtain ⟨a, l, rfl, _⟩ := h; rfl
  obtain ⟨a, l, rfl, hs, q⟩ := h
  refine ⟨_, (pss_one (ps_try0 rfl rfl t.xc rfl t.mg_NoRecord (fun _ _ _ px => (pss_one (ps_ret (pe_callD (ok_read_record t) (hr.mono (by decide)) px (pa_cons (pv 0) pa_nil))))) (fun _ => (pss_one (ps_ret pe_non))))), ?_⟩
  tm_at "rd"
  refine ⟨a, l, rfl, hs, ?_⟩
  cases hm : mread l with
  | error p =>
    rw [hm] at q
    exact fun H' dx s1 _ σ' => q H' s1
  | ok x =>
    obtain ⟨hds, fl, k⟩ := x
    rw [hm] at q
    exact fun h1 h2 H' x s1 hrec => q (fr_ok hm h1 h2).1 H' x s1 hrec
end
def rGetL (K : PySem.W.Frag) : V → V → Hp → VK → Prop := fun o i H Q => ∃ p xs, ∃ j : Nat, ∃ v, o = .ref p ∧ i = .int j ∧ SqL K H p xs ∧ xs[j]? = some v ∧ Q v H
theorem get_listK {X : Cx} {K : PySem.W.Frag} (h : X.K = K) : PGet X (rGetL K) := by
  subst h
  intro pins s σ H o i ov iv Q I ro ri h
  obtain ⟨p, xs, j, z, rfl, rfl, hq, h2, q⟩ := h
  cases ro
  obtain ⟨t, rfl⟩ := ri
  obtain ⟨its, r, pl, hz⟩ := I.list hq
  obtain ⟨w, ew, rw'⟩ := r.get h2
  have hl := r.length
  have hn := line63
  have hj : j < xs.length := (List.getElem?_eq_some_iff.mp h2).1
  exact wpAny_getItem_list pl.isList (Int.natCast_nonneg j) (by omega) (by rw [Int.toNat_natCast]; simpa using ew) ⟨z, H, I, rw', q⟩
local macro_rules
  | `(tactic| tm_at "rd") => `(tactic| simp only [tSeq, tIfS, tOr, tNot, tB, tVar, tCB, tCons, tNil, tOp, tUn, tTest, tAnd, tRet, tAsg, gName, tIf, tC, tNext, tM0, tM1, L2.start, rI0, rI, rU, rIxS, rIxL, rIxT, rEq, rNe, tAndV, tOrV, tNotV, tChain, tTup, tLst, tCall, tDrop, tSl, tNoPart, tPart, rSlS, rSlL, rIn, tDGetK, tDInK, tDGet2K, tFld, sFld, sFldAug, rAdd, rSub, tAug, ipI, tBM, tBM0, tRetN, tYes, rAll, rAppend, rPop, rIndexT, rCatT, rEqD, rNeD, tVI, sXset, tFs, tRaise, gTup, gCons, gNil, gSub, rSetL, List.getElem?_cons_zero, List.getElem?_cons_succ, List.map_cons, List.map_nil, List.length_cons, List.length_nil, Nat.sub_self, Nat.reduceAdd, Nat.reduceSub, List.replicate, List.append_nil, List.cons_append, List.nil_append, Option.some.injEq, V.str.injEq, V.int.injEq, V.bl.injEq, V.ref.injEq, exists_eq_left', exists_eq_left, exists_and_left, true_and, and_true, exists_eq', exists_eq, List.cons.injEq, List.set_cons_zero, List.set_cons_succ, if_true, Bool.not_true, Bool.not_false, Bool.false_eq_true, if_false, wipe, List.getElem?_nil, decide_eq_true_eq, and_assoc, rCatTT, tMake, rNotInD, tTry1, tTry0, tXfld, rCat, rExtend, rMax, rMin, tAugS, rGetL])
section
variable {P : Program} {w : World} {K : PySem.W.Frag} {mg : Str → Option Value} {base : Heap} {A : Adr}
def bvl (l : List Bool) : List V := l.map fun b => V.int (if b = true then 1 else 0)
def PosAt (A : Adr) (H : Hp) (v : V) (g : Vbdcam.Game) : Prop := ∃ x dx hl pl, v = .ref x ∧ H x = some (.ins A.cPosition dx [("heaps", .ref hl), ("passed", .ref pl), ("ply", nv g.ply)]) ∧ H hl = some (.lst (iv g.heaps)) ∧ H pl = some (.lst (bvl g.passed))
def PosN (A : Adr) (H H' : Hp) (v : V) (g : Vbdcam.Game) : Prop := ∃ x dx hl pl, v = .ref x ∧ H x = none ∧ H hl = none ∧ H pl = none ∧ H' x = some (.ins A.cPosition dx [("heaps", .ref hl), ("passed", .ref pl), ("ply", nv g.ply)]) ∧ H' hl = some (.lst (iv g.heaps)) ∧ H' pl = some (.lst (bvl g.passed))
theorem PosN.at {H H' : Hp} {v : V} {g : Vbdcam.Game} (h : PosN A H H' v g) : PosAt A H' v g := let ⟨x, dx, hl, pl, e, _, _, _, h1, h2, h3⟩ := h; ⟨x, dx, hl, pl, e, h1, h2, h3⟩
theorem PosAt.keep {H H' : Hp} {v : V} {g : Vbdcam.Game} (s : Same H H') (h : PosAt A H v g) : PosAt A H' v g := let ⟨x, dx, hl, pl, e, h1, h2, h3⟩ := h; ⟨x, dx, hl, pl, e, s _ _ h1, s _ _ h2, s _ _ h3⟩
def spNewP (C : Addr) : Sp := fun vs H Q _ => ∃ (x dx : Addr) (k y z : V), vs = [.ref x, k, y, z] ∧ H x = some (.ins C dx []) ∧ Q .non (upd H x (.ins C dx [("heaps", k), ("passed", y), ("ply", z)]))
theorem sc_Position : FnScope ["self", "heaps", "passed", "ply"] ["self", "heaps", "passed", "ply"] (defScope (inClass (top 7) 0)) := ⟨rfl, rfl, rfl, by decide +kernel, rfl, by decide +kernel, by decide +kernel⟩
theorem new_Position (t : Tx P w K mg A) : New P w K mg base (CXN P w A.cNoRecord) 1 "Position" A.cPosition ["self", "heaps", "passed", "ply"] (spNewP A.cPosition) := by
  obtain ⟨fd, F, hb⟩ := t.f_Position
  refine ⟨A.iPosition, fd, t.mk_Position, F.pure sc_Position (fun vs H Q E h => ?_) (fun cdv Ar outer s H vs Q E hr h => ?_), hb, t.mg_Position⟩
  · obtain ⟨x, dx, k, y, z, rfl, _⟩ := h; rfl
  obtain ⟨x, dx, k, y, z, rfl, hx, q⟩ := h
  refine ⟨_, (pss_cons (ps_fld (pv 0) (pv 1) rfl) (pss_cons (ps_fld (pv 0) (pv 2) rfl) (pss_one (ps_fld (pv 0) (pv 3) rfl)))), ?_⟩
  tm_at "rd"
  refine ⟨_, _, _, hx, t.cl_Position, t.na_Position_heaps, (by show 0 < 1000; decide), _, _, _, upd_same, t.cl_Position, t.na_Position_passed, (by show 1 < 1000; decide), _, _, _, upd_same, t.cl_Position, t.na_Position_ply, (by show 2 < 1000; decide), ?_⟩
  rw [upd_upd, upd_upd]
  exact q
def spFirst (A : Adr) : Sp := fun vs H Q _ => ∃ (a : Addr) (hs : List Nat), vs = [.ref a] ∧ H a = some (.lst (iv hs)) ∧ ∀ H' v, Same H H' → PosN A H H' v { heaps := hs } → Q v H'
def spPos (A : Adr) (f : Vbdcam.Game → V) : Sp := fun vs H Q _ => ∃ (v : V) (g : Vbdcam.Game), vs = [v] ∧ PosAt A H v g ∧ GmOk g ∧ Q (f g) H
def spTake : Sp := fun vs H Q _ => ∃ (a : Addr) (hs : List Nat) (n h : Nat), vs = [.ref a, nv n, nv h] ∧ H a = some (.lst (iv hs)) ∧ Q (.bl (decide (h < hs.length ∧ 1 ≤ n ∧ n ≤ hs.getD h 0))) H
def spSplit : Sp := fun vs H Q _ => ∃ (a : Addr) (hs : List Nat) (n h e : Nat), vs = [.ref a, nv n, nv h, nv e] ∧ H a = some (.lst (iv hs)) ∧ Q (.bl (decide (h < hs.length ∧ e < hs.length ∧ 1 ≤ n ∧ n < hs.getD h 0 ∧ hs.getD e 0 = 0))) H
def spAllowed (K : PySem.W.Frag) (A : Adr) : Sp := fun vs H Q _ => ∃ (v y : V) (g : Vbdcam.Game) (m : Mv), vs = [v, y] ∧ PosAt A H v g ∧ GmOk g ∧ MvAt K H y m ∧ Q (.bl (Vbdcam.play g m).isSome) H
def spAfter (K : PySem.W.Frag) (A : Adr) : Sp := fun vs H Q _ => ∃ (v y : V) (g g' : Vbdcam.Game) (m : Mv), vs = [v, y] ∧ PosAt A H v g ∧ GmOk g ∧ MvAt K H y m ∧ Vbdcam.play g m = some g' ∧ ∀ H' u, Same H H' → PosN A H H' u g' → Q u H'
def spGRow (A : Adr) : Sp := fun vs H Q _ => ∃ (v : V) (g : Vbdcam.Game), vs = [v] ∧ PosAt A H v g ∧ GmOk g ∧ Frsh H Q (Vbdcam.gameRow g)
theorem over_max {l : List Nat} {m : Int} (h1 : m ∈ l.map fun (n : Nat) => (n : Int)) (h2 : ∀ y ∈ l.map (fun (n : Nat) => (n : Int)), y ≤ m) : decide (m = 0) = l.all fun n => n == 0 := by
  obtain ⟨k, hk, rfl⟩ := List.mem_map.mp h1
  by_cases h : k = 0
  · subst h
    rw [show decide (((0 : Nat) : Int) = 0) = true from rfl]
    symm
    rw [List.all_eq_true]
    intro n hn
    have : (n : Int) ≤ 0 := h2 n (List.mem_map.mpr ⟨n, hn, rfl⟩)
    have : n = 0 := by omega
    simp [this]
  · rw [decide_eq_false (by omega)]
    symm
    rw [List.all_eq_false]
    exact ⟨k, hk, by simpa using h⟩
theorem iv_get {l : List Nat} {i : Nat} (h : i < l.length) : (iv l)[i]? = some (nv (l.getD i 0)) := by
  unfold iv
  rw [List.getElem?_map, List.getElem?_eq_getElem h, List.getD_eq_getElem?_getD, List.getElem?_eq_getElem h]
  rfl
theorem bvl_get {l : List Bool} {i : Nat} (h : i < l.length) : (bvl l)[i]? = some (V.int (if l.getD i true = true then 1 else 0)) := by
  unfold bvl
  rw [List.getElem?_map, List.getElem?_eq_getElem h, List.getD_eq_getElem?_getD, List.getElem?_eq_getElem h]
  rfl
theorem side_lt {g : Vbdcam.Game} (o : GmOk g) : Vbdcam.side g < g.passed.length := by rw [o.ps]; exact Nat.mod_lt _ (by decide)
theorem ixN_nat {n j : Nat} (h : j < n) : ixN n (j : Int) = some j := by
  unfold ixN
  rw [if_pos (by omega), if_pos (by omega), Int.toNat_natCast]
theorem iv_mod {l : List Nat} {h n : Nat} (hh : h < l.length) (hn : n ≤ l.getD h 0) : (iv l).set h (V.int (((l.getD h 0 : Nat) : Int) - (n : Int))) = iv (l.modify h fun k => k - n) := by
  apply List.ext_getElem?
  intro i
  unfold iv
  rw [List.getElem?_set, List.getElem?_map, List.getElem?_map, List.getElem?_modify, List.length_map]
  by_cases e : h = i
  · subst e
    rw [if_pos rfl, if_pos hh]
    rw [List.getD_eq_getElem?_getD, List.getElem?_eq_getElem hh] at hn ⊢
    simp at hn ⊢
    omega
  · rw [if_neg e]
    simp [e]
theorem iv_put {l : List Nat} {h n : Nat} (hh : h < l.length) : (iv l).set h (nv n) = iv (l.modify h fun _ => n) := by
  apply List.ext_getElem?
  intro i
  unfold iv
  rw [List.getElem?_set, List.getElem?_map, List.getElem?_map, List.getElem?_modify, List.length_map]
  by_cases e : h = i
  · subst e
    rw [if_pos rfl, if_pos hh, List.getElem?_eq_getElem hh]
    simp
  · rw [if_neg e]
    simp [e]
theorem bvl_set (l : List Bool) (i : Nat) : (bvl l).set i (V.int 1) = bvl (l.set i true) := by
  unfold bvl
  rw [List.map_set]
  rfl
theorem sc_first_position : FnScope ["heaps"] ["heaps"] (defScope (top 8)) := ⟨rfl, rfl, rfl, by decide +kernel, rfl, by decide +kernel, by decide +kernel⟩
theorem ok_first_position (t : Tx P w K mg A) : Def P w K mg base (CXN P w A.cNoRecord) 3 "first_position" ["heaps"] (spFirst A) := by
  refine t.s_first_position.pure sc_first_position (fun vs H Q E h => ?_) fun f cdv Ar outer s H vs Q E hr h => ?_
  · obtain ⟨a, hs, rfl, _⟩ := h; rfl
  obtain ⟨a, hs, rfl, ha, q⟩ := h
  refine ⟨_, (pss_one (ps_ret (pe_newC (new_Position t) (hr.mono (by decide)) (passC cxn_ok) (pa_cons (pe_callTy call_list_of (by rfl) t.b_list boot_list (pa_cons (pv 0) pa_nil)) (pa_cons (pe_lst (pa_cons pe_int (pa_cons pe_int pa_nil))) (pa_cons pe_int pa_nil)))))), ?_⟩
  tm_at "rd"
  refine ⟨_, .inl (SqL.of ha), fun l hl => ⟨sz (by decide), fun p hp x dx hx hdx hne => ?_⟩⟩
  refine ⟨x, dx, _, _, _, rfl, upd_same, rfl, ?_⟩
  have s1 : Same H (upd H l (.lst (iv hs))) := Same.updN hl
  have s2 : Same (upd H l (.lst (iv hs))) (upd (upd H l (.lst (iv hs))) p (.lst [.int 0, .int 0])) := Same.updN hp
  have s3 := Same.mine (o := .ins A.cPosition dx [("heaps", .ref l), ("passed", .ref p), ("ply", .int 0)]) (Same.mine (o := .ins A.cPosition dx []) (Same.updN (o := .own x) hdx) hx) hx
  exact q _ _ ((s1.trans s2).trans s3) ⟨x, dx, l, p, rfl, (s1.trans s2).free hx, hl, s1.free hp, upd_same, s3 _ _ (s2 _ _ upd_same), s3 _ _ upd_same⟩
theorem sc_is_over : FnScope ["position"] ["position"] (defScope (top 9)) := ⟨rfl, rfl, rfl, by decide +kernel, rfl, by decide +kernel, by decide +kernel⟩
theorem ok_is_over (t : Tx P w K mg A) : Def P w K mg base (CXN P w A.cNoRecord) 1 "is_over" ["position"] (spPos A fun g => .bl (Vbdcam.over g)) := by
  refine t.s_is_over.pure sc_is_over (fun vs H Q E h => ?_) fun f cdv Ar outer s H vs Q E hr h => ?_
  · obtain ⟨v, g, rfl, _⟩ := h; rfl
  obtain ⟨v, g, rfl, hv, ho, q⟩ := h
  refine ⟨_, (pss_one (ps_ret (pe_cmpR op_eq (pe_callB (cr_max rfl) (by rfl) t.b_max boot_max (pa_cons (pe_fld (pv 0) rfl) pa_nil)) pe_int (nomark _)))), ?_⟩
  tm_at "rd"
  obtain ⟨x, dx, hl, pl, rfl, h1, h2, h3⟩ := hv
  refine ⟨x, rfl, _, _, _, h1, t.cl_Position, t.na_Position_heaps, _, rfl, hl, rfl, g.heaps.map fun (n : Nat) => (n : Int), ?_, ?_, fun m h4 h5 => ⟨rfl, ?_⟩⟩
  · rw [List.map_map]; exact SqL.of h2
  · rw [List.length_map]; exact List.length_pos_iff.mpr ho.hp
  · rw [over_max h4 h5]; exact q
theorem sc_side_to_move : FnScope ["position"] ["position"] (defScope (top 10)) := ⟨rfl, rfl, rfl, by decide +kernel, rfl, by decide +kernel, by decide +kernel⟩
theorem ok_side_to_move (t : Tx P w K mg A) : Def P w K mg base (CXN P w A.cNoRecord) 1 "side_to_move" ["position"] (spPos A fun g => nv (Vbdcam.side g)) := by
  refine t.s_side_to_move.pure sc_side_to_move (fun vs H Q E h => ?_) fun f cdv Ar outer s H vs Q E hr h => ?_
  · obtain ⟨v, g, rfl, _⟩ := h; rfl
  obtain ⟨v, g, rfl, hv, ho, q⟩ := h
  refine ⟨_, (pss_one (ps_ret (pe_op op_mod (pe_fld (pv 0) rfl) pe_int))), ?_⟩
  tm_at "rd"
  obtain ⟨x, dx, hl, pl, rfl, h1, h2, h3⟩ := hv
  exact ⟨x, rfl, _, _, _, h1, t.cl_Position, t.na_Position_ply, _, rfl, _, rfl, by decide, q⟩
theorem sc_can_take : FnScope ["heaps", "n", "source"] ["heaps", "n", "source"] (defScope (top 12)) := ⟨rfl, rfl, rfl, by decide +kernel, rfl, by decide +kernel, by decide +kernel⟩
theorem ok_can_take (t : Tx P w K mg A) : Def P w K mg base (CXN P w A.cNoRecord) 1 "can_take" ["heaps", "n", "source"] (spTake) := by
  refine t.s_can_take.pure sc_can_take (fun vs H Q E h => ?_) fun f cdv Ar outer s H vs Q E hr h => ?_
  · obtain ⟨a, hs, n, hh, rfl, _⟩ := h; rfl
  obtain ⟨a, hs, n, hh, rfl, ha, q⟩ := h
  refine ⟨_, (pss_one (ps_ret (pe_and (pe_cmpR op_lt (pv 2) (pe_callB (call_len_seqK (K := K) rfl) (by rfl) t.b_len PySem.boot_len (pa_cons (pv 0) pa_nil)) (nomark _)) (pe_one (pe_chain op_le op_le pe_int (pv 1) (pe_ix (ix_listK (K := K) rfl) (pv 0) (pv 2) (fun _ _ => rfl))))))), ?_⟩
  tm_at "rd"
  refine ⟨_, .inl (SqL.of ha), ?_⟩
  rw [iv_len]
  have no : ¬ (hh < hs.length ∧ 1 ≤ n ∧ n ≤ hs.getD hh 0) → Q (.bl false) H := fun hn => by rw [decide_eq_false hn] at q; exact q
  by_cases h1 : hh < hs.length
  · rw [if_pos (by omega)]
    by_cases h2 : 1 ≤ n
    · rw [if_pos (by omega)]
      refine ⟨_, SqL.of ha, _, atI_nat (iv_get h1), _, rfl, ?_⟩
      rw [show (decide ((n : Int) ≤ ((hs.getD hh 0 : Nat) : Int))) = decide (hh < hs.length ∧ 1 ≤ n ∧ n ≤ hs.getD hh 0) from decide_eq_decide.mpr ⟨fun z => ⟨h1, h2, by omega⟩, fun z => by omega⟩]
      exact q
    · rw [if_neg (by omega)]; exact no fun z => h2 z.2.1
  · rw [if_neg (by omega)]; exact no fun z => h1 z.1
theorem sc_can_split : FnScope ["heaps", "n", "source", "target"] ["heaps", "n", "source", "target"] (defScope (top 13)) := ⟨rfl, rfl, rfl, by decide +kernel, rfl, by decide +kernel, by decide +kernel⟩
theorem ok_can_split (t : Tx P w K mg A) : Def P w K mg base (CXN P w A.cNoRecord) 1 "can_split" ["heaps", "n", "source", "target"] (spSplit) := by
  refine t.s_can_split.pure sc_can_split (fun vs H Q E h => ?_) fun f cdv Ar outer s H vs Q E hr h => ?_
  · obtain ⟨a, hs, n, hh, e, rfl, _⟩ := h; rfl
  obtain ⟨a, hs, n, hh, e, rfl, ha, q⟩ := h
  refine ⟨_, (pss_cons (ps_if (pw_or (pt_cmpR op_ge (pv 2) (pe_callB (call_len_seqK (K := K) rfl) (by rfl) t.b_len PySem.boot_len (pa_cons (pv 0) pa_nil)) (nomark _)) (pw_or1 (pt_cmpR op_ge (pv 3) (pe_callB (call_len_seqK (K := K) rfl) (by rfl) t.b_len PySem.boot_len (pa_cons (pv 0) pa_nil)) (nomark _)))).pt (pss_one (ps_ret pe_bl)) pss_nil) (pss_one (ps_ret (pe_and (pe_chain op_le op_lt pe_int (pv 1) (pe_ix (ix_listK (K := K) rfl) (pv 0) (pv 2) (fun _ _ => rfl))) (pe_one (pe_cmpR op_eq (pe_ix (ix_listK (K := K) rfl) (pv 0) (pv 3) (fun _ _ => rfl)) pe_int (nomark _))))))), ?_⟩
  tm_at "rd"
  refine ⟨_, .inl (SqL.of ha), ?_⟩
  rw [iv_len]
  have no : ¬ (hh < hs.length ∧ e < hs.length ∧ 1 ≤ n ∧ n < hs.getD hh 0 ∧ hs.getD e 0 = 0) → Q (.bl false) H := fun hn => by rw [decide_eq_false hn] at q; exact q
  by_cases h1 : hh < hs.length
  · rw [if_neg (by omega)]
    refine ⟨_, .inl (SqL.of ha), ?_⟩
    rw [iv_len]
    by_cases h2 : e < hs.length
    · rw [if_neg (by omega)]
      by_cases h3 : 1 ≤ n
      · rw [if_pos (by omega)]
        refine ⟨_, SqL.of ha, _, atI_nat (iv_get h1), _, rfl, ?_⟩
        by_cases h4 : n < hs.getD hh 0
        · rw [if_pos (by omega)]
          refine ⟨_, SqL.of ha, _, atI_nat (iv_get h2), rfl, ?_⟩
          rw [show (decide (nv (hs.getD e 0) = V.int 0)) = decide (hh < hs.length ∧ e < hs.length ∧ 1 ≤ n ∧ n < hs.getD hh 0 ∧ hs.getD e 0 = 0) from decide_eq_decide.mpr ⟨fun z => ⟨h1, h2, h3, h4, by have := V.int.inj z; omega⟩, fun z => by rw [z.2.2.2.2]; rfl⟩]
          exact q
        · rw [if_neg (by omega)]; exact no fun z => h4 z.2.2.2.1
      · rw [if_neg (by omega)]; exact no fun z => h3 z.2.2.1
    · rw [if_pos (by omega)]; exact no fun z => h2 z.2.1
  · rw [if_pos (by omega)]; exact no fun z => h1 z.1
theorem sc_is_allowed : FnScope ["position", "move"] ["position", "move"] (defScope (top 11)) := ⟨rfl, rfl, rfl, by decide +kernel, rfl, by decide +kernel, by decide +kernel⟩
theorem ok_is_allowed (t : Tx P w K mg A) : Def P w K mg base (CXN P w A.cNoRecord) 2 "is_allowed" ["position", "move"] (spAllowed K A) := by
  refine t.s_is_allowed.pure sc_is_allowed (fun vs H Q E h => ?_) fun f cdv Ar outer s H vs Q E hr h => ?_
  · obtain ⟨v, y, g, m, rfl, _⟩ := h; rfl
  obtain ⟨v, y, g, m, rfl, hv, ho, hm, q⟩ := h
  refine ⟨_, (pss_cons (ps_if (pt_val (pe_callD (ok_is_over t) (hr.mono (by decide)) (passC cxn_ok) (pa_cons (pv 0) pa_nil))) (pss_one (ps_ret pe_bl)) pss_nil) (pss_cons (ps_if (pt_cmpR op_eq (pe_ix (ix_tupK (K := K) rfl) (pv 1) pe_int (fun _ _ => rfl)) (pe_con1 t.k_PASS) (nomark _)) (pss_one (ps_ret (pe_cmpR op_eq (pe_ix (ix_listK (K := K) rfl) (pe_fld (pv 0) rfl) (pe_callD (ok_side_to_move t) (hr.mono (by decide)) (passC cxn_ok) (pa_cons (pv 0) pa_nil)) (fun _ _ => rfl)) pe_int (nomark _)))) pss_nil) (pss_cons (ps_if (pt_cmpR op_eq (pe_ix (ix_tupK (K := K) rfl) (pv 1) pe_int (fun _ _ => rfl)) (pe_con1 t.k_TAKE) (nomark _)) (pss_one (ps_ret (pe_callD (ok_can_take t) (hr.mono (by decide)) (passC cxn_ok) (pa_cons (pe_fld (pv 0) rfl) (pa_cons (pe_ix (ix_tupK (K := K) rfl) (pv 1) pe_int (fun _ _ => rfl)) (pa_cons (pe_ix (ix_tupK (K := K) rfl) (pv 1) pe_int (fun _ _ => rfl)) pa_nil)))))) pss_nil) (pss_one (ps_ret (pe_callD (ok_can_split t) (hr.mono (by decide)) (passC cxn_ok) (pa_cons (pe_fld (pv 0) rfl) (pa_cons (pe_ix (ix_tupK (K := K) rfl) (pv 1) pe_int (fun _ _ => rfl)) (pa_cons (pe_ix (ix_tupK (K := K) rfl) (pv 1) pe_int (fun _ _ => rfl)) (pa_cons (pe_ix (ix_tupK (K := K) rfl) (pv 1) pe_int (fun _ _ => rfl)) pa_nil)))))))))), ?_⟩
  tm_at "rd"
  refine ⟨v, g, rfl, hv, ho, _, rfl, ?_⟩
  by_cases hov : Vbdcam.over g = true
  · rw [if_pos hov]
    have e : Vbdcam.play g m = none := by unfold Vbdcam.play; rw [if_pos hov]
    rw [e] at q
    exact q
  rw [if_neg hov]
  have hv0 := hv
  obtain ⟨x, dx, hl, pl, rfl, h1, h2, h3⟩ := hv
  obtain ⟨b, rfl, hb⟩ := hm
  have n1 : ¬ (Str.ofString "take" = Str.ofString "pass") := by decide
  have n2 : ¬ (Str.ofString "split" = Str.ofString "pass") := by decide
  have n3 : ¬ (Str.ofString "split" = Str.ofString "take") := by decide
  cases m with
  | pass =>
    refine ⟨b, rfl, _, hb, _, atI_0, rfl, ?_⟩
    rw [if_pos rfl]
    refine ⟨x, rfl, _, _, _, h1, t.cl_Position, t.na_Position_passed, _, rfl, .ref x, g, rfl, hv0, ho, pl, rfl, _, _, rfl, SqL.of h3, _, atI_nat (bvl_get (side_lt ho)), rfl, ?_⟩
    have e : (Vbdcam.play g .pass).isSome = decide ((V.int (if g.passed.getD (Vbdcam.side g) true = true then 1 else 0)) = V.int 0) := by
      unfold Vbdcam.play
      rw [if_neg hov]
      simp only []
      by_cases hg : g.passed.getD (Vbdcam.side g) true = true
      · rw [if_pos hg, if_pos hg]; rfl
      · rw [if_neg hg, if_neg hg]; rfl
    rw [← e]
    exact q
  | take hh n =>
    refine ⟨b, rfl, _, hb, _, atI_0, rfl, ?_⟩
    rw [if_neg (fun z => n1 (V.str.inj z))]
    refine ⟨b, rfl, _, hb, _, atI_0, rfl, ?_⟩
    rw [if_pos rfl]
    refine ⟨x, rfl, _, _, _, h1, t.cl_Position, t.na_Position_heaps, _, rfl, b, rfl, _, hb, _, atI_nat (j := 1) rfl, b, rfl, _, hb, _, atI_nat (j := 2) rfl, hl, g.heaps, n, hh, rfl, h2, ?_⟩
    have e : (Vbdcam.play g (.take hh n)).isSome = decide (hh < g.heaps.length ∧ 1 ≤ n ∧ n ≤ g.heaps.getD hh 0) := by
      unfold Vbdcam.play
      rw [if_neg hov]
      simp only []
      show (if hh < g.heaps.length ∧ 1 ≤ n ∧ n ≤ g.heaps.getD hh 0 then some _ else none).isSome = _
      by_cases hg : hh < g.heaps.length ∧ 1 ≤ n ∧ n ≤ g.heaps.getD hh 0
      · rw [if_pos hg, decide_eq_true hg]; rfl
      · rw [if_neg hg, decide_eq_false hg]; rfl
    rw [← e]
    exact q
  | split hh n z =>
    refine ⟨b, rfl, _, hb, _, atI_0, rfl, ?_⟩
    rw [if_neg (fun z => n2 (V.str.inj z))]
    refine ⟨b, rfl, _, hb, _, atI_0, rfl, ?_⟩
    rw [if_neg (fun z => n3 (V.str.inj z))]
    refine ⟨x, rfl, _, _, _, h1, t.cl_Position, t.na_Position_heaps, _, rfl, b, rfl, _, hb, _, atI_nat (j := 1) rfl, b, rfl, _, hb, _, atI_nat (j := 2) rfl, b, rfl, _, hb, _, atI_nat (j := 3) rfl, hl, g.heaps, n, hh, z, rfl, h2, ?_⟩
    have e : (Vbdcam.play g (.split hh n z)).isSome = decide (hh < g.heaps.length ∧ z < g.heaps.length ∧ 1 ≤ n ∧ n < g.heaps.getD hh 0 ∧ g.heaps.getD z 0 = 0) := by
      unfold Vbdcam.play
      rw [if_neg hov]
      simp only []
      show (if hh < g.heaps.length ∧ z < g.heaps.length ∧ 1 ≤ n ∧ n < g.heaps.getD hh 0 ∧ g.heaps.getD z 0 = 0 then some _ else none).isSome = _
      by_cases hg : hh < g.heaps.length ∧ z < g.heaps.length ∧ 1 ≤ n ∧ n < g.heaps.getD hh 0 ∧ g.heaps.getD z 0 = 0
      · rw [if_pos hg, decide_eq_true hg]; rfl
      · rw [if_neg hg, decide_eq_false hg]; rfl
    rw [← e]
    exact q
theorem sc_position_after : FnScope ["position", "move", "heaps", "passed"] ["position", "move"] (defScope (top 14)) := ⟨rfl, rfl, rfl, by decide +kernel, rfl, by decide +kernel, by decide +kernel⟩
theorem ok_position_after (t : Tx P w K mg A) : Def P w K mg base (CXN P w A.cNoRecord) 3 "position_after" ["position", "move"] (spAfter K A) := by
  refine t.s_position_after.pure sc_position_after (fun vs H Q E h => ?_) fun f cdv Ar outer s H vs Q E hr h => ?_
  · obtain ⟨v, y, g, g', m, rfl, _⟩ := h; rfl
  obtain ⟨v, y, g, g', m, rfl, hv, ho, hm, hp, q⟩ := h
  refine ⟨_, (pss_cons (ps_set (i := 2) sc_position_after.nd rfl (Or.inl rfl) (pe_callTy call_list_of (by rfl) t.b_list boot_list (pa_cons (pe_fld (pv 0) rfl) pa_nil))) (pss_cons (ps_set (i := 3) sc_position_after.nd rfl (Or.inl rfl) (pe_callTy call_list_of (by rfl) t.b_list boot_list (pa_cons (pe_fld (pv 0) rfl) pa_nil))) (pss_cons (ps_if (pt_cmpR op_eq (pe_ix (ix_tupK (K := K) rfl) (pv 1) pe_int (fun _ _ => rfl)) (pe_con1 t.k_PASS) (nomark _)) (pss_one (ps_asg pe_int (pg_sub (pv 3) (pe_callD (ok_side_to_move t) (hr.mono (by decide)) (passC cxn_ok) (pa_cons (pv 0) pa_nil)) set_list))) (pss_one (ps_augS (pv 2) (pe_ix (ix_tupK (K := K) rfl) (pv 1) pe_int (fun _ _ => rfl)) (get_listK (K := K) rfl) (pe_ix (ix_tupK (K := K) rfl) (pv 1) pe_int (fun _ _ => rfl)) ip_sub set_list))) (pss_cons (ps_if (pt_cmpR op_eq (pe_ix (ix_tupK (K := K) rfl) (pv 1) pe_int (fun _ _ => rfl)) (pe_con1 t.k_SPLIT) (nomark _)) (pss_one (ps_asg (pe_ix (ix_tupK (K := K) rfl) (pv 1) pe_int (fun _ _ => rfl)) (pg_sub (pv 2) (pe_ix (ix_tupK (K := K) rfl) (pv 1) pe_int (fun _ _ => rfl)) set_list))) pss_nil) (pss_one (ps_ret (pe_newC (new_Position t) (hr.mono (by decide)) (passC cxn_ok) (pa_cons (pv 2) (pa_cons (pv 3) (pa_cons (pe_op op_add (pe_fld (pv 0) rfl) pe_int) pa_nil)))))))))), ?_⟩
  tm_at "rd"
  have hv0 := hv
  obtain ⟨x, dx, hl, pl, rfl, h1, h2, h3⟩ := hv
  obtain ⟨b, rfl, hb⟩ := hm
  refine ⟨x, rfl, _, _, _, h1, t.cl_Position, t.na_Position_heaps, _, rfl, hl, rfl, _, .inl (SqL.of h2), fun l l0 => ?_⟩
  have s1 : Same H (upd H l (.lst (iv g.heaps))) := Same.updN l0
  refine ⟨x, rfl, _, _, _, s1 _ _ h1, t.cl_Position, t.na_Position_passed, _, rfl, pl, rfl, _, .inl (SqL.of (s1 _ _ h3)), fun p p0 => ?_⟩
  have s2 := s1.trans (Same.updN (o := .lst (bvl g.passed)) p0)
  have lp : l ≠ p := fun z => by rw [z, upd_same] at p0; cases p0
  generalize hG : upd (upd H l (.lst (iv g.heaps))) p (.lst (bvl g.passed)) = G at s2
  have hGl : G l = some (.lst (iv g.heaps)) := by rw [← hG, upd_ne lp, upd_same]
  have hGp : G p = some (.lst (bvl g.passed)) := by rw [← hG, upd_same]
  clear hG
  have fin : ∀ F : Hp, Same H F → F l = some (.lst (iv g'.heaps)) → F p = some (.lst (bvl g'.passed)) → g'.ply = g.ply + 1 → ∀ (y dy : Addr), F y = none → F dy = none → dy ≠ y → spNewP A.cPosition [V.ref y, V.ref l, V.ref p, V.int ((g.ply : Int) + 1)] (upd (upd F dy (.own y)) y (.ins A.cPosition dy [])) (fun v H2 => v = V.non ∧ Q (V.ref y) H2) E0 := fun F sF hFl hFp hply y dy hy hdy hne => by
    have s3 := Same.mine (o := .ins A.cPosition dy [("heaps", .ref l), ("passed", .ref p), ("ply", nv g'.ply)]) (Same.mine (o := .ins A.cPosition dy []) (Same.updN (o := .own y) hdy) hy) hy
    rw [hply] at s3
    refine ⟨y, dy, _, _, _, rfl, upd_same, rfl, q _ _ (sF.trans s3) ⟨y, dy, l, p, rfl, sF.free hy, l0, s1.free p0, ?_, s3 _ _ hFl, s3 _ _ hFp⟩⟩
    rw [upd_same, hply]
    rfl
  have n1 : ¬ (Str.ofString "take" = Str.ofString "pass") := by decide
  have n2 : ¬ (Str.ofString "split" = Str.ofString "pass") := by decide
  have n3 : ¬ (Str.ofString "take" = Str.ofString "split") := by decide
  have n4 : ¬ (Str.ofString "pass" = Str.ofString "split") := by decide
  have hov : ¬ Vbdcam.over g = true := fun z => by unfold Vbdcam.play at hp; rw [if_pos z] at hp; cases hp
  have hx2 := s2 _ _ h1
  have hb2 := s2.seqT hb
  have l1 : H p = none := s1.free p0
  cases m with
  | pass =>
    have hg : ¬ g.passed.getD (Vbdcam.side g) true = true := fun z => by
      unfold Vbdcam.play at hp; rw [if_neg hov] at hp; simp only [] at hp; rw [if_pos z] at hp; cases hp
    have e : g' = { g with passed := g.passed.set (Vbdcam.side g) true, ply := g.ply + 1 } := by
      unfold Vbdcam.play at hp; rw [if_neg hov] at hp; simp only [] at hp; rw [if_neg hg] at hp; exact (Option.some.inj hp).symm
    have bl : Vbdcam.side g < (bvl g.passed).length := by unfold bvl; rw [List.length_map]; exact side_lt ho
    have sF : Same H (upd G p (.lst ((bvl g.passed).set (Vbdcam.side g) (V.int 1)))) := Same.mine s2 l1
    refine ⟨b, rfl, _, hb2, _, atI_0, rfl, ?_⟩
    rw [if_pos rfl]
    refine ⟨.ref x, g, rfl, hv0.keep s2, ho, _, _, rfl, hGp, _, ixN_nat bl, b, rfl, _, sF.seqT hb, _, atI_0, rfl, ?_⟩
    rw [if_neg (fun z => n4 (V.str.inj z))]
    refine ⟨x, rfl, _, _, _, sF _ _ h1, t.cl_Position, t.na_Position_ply, _, rfl, _, rfl, fin _ sF ?_ ?_ (by rw [e])⟩
    · rw [upd_ne lp, hGl, e]
    · rw [upd_same, bvl_set, e]
  | take hh n =>
    have hg : hh < g.heaps.length ∧ 1 ≤ n ∧ n ≤ Vbdcam.heap g hh := by
      by_cases hg : hh < g.heaps.length ∧ 1 ≤ n ∧ n ≤ Vbdcam.heap g hh
      · exact hg
      · unfold Vbdcam.play at hp; rw [if_neg hov] at hp; simp only [] at hp; rw [if_neg hg] at hp; cases hp
    have e : g' = { g with heaps := g.heaps.modify hh (fun k => k - n), ply := g.ply + 1 } := by
      unfold Vbdcam.play at hp; rw [if_neg hov] at hp; simp only [] at hp; rw [if_pos hg] at hp; exact (Option.some.inj hp).symm
    have bl : hh < (iv g.heaps).length := by rw [iv_len]; exact hg.1
    have sF : Same H (upd G l (.lst ((iv g.heaps).set hh (V.int (((g.heaps.getD hh 0 : Nat) : Int) - (n : Int)))))) := Same.mine s2 l0
    refine ⟨b, rfl, _, hb2, _, atI_0, rfl, ?_⟩
    rw [if_neg (fun z => n1 (V.str.inj z))]
    refine ⟨b, rfl, _, hb2, _, atI_nat (j := 2) rfl, _, hh, rfl, SqL.of hGl, _, iv_get hg.1, b, rfl, _, hb2, _, atI_nat (j := 1) rfl, _, rfl, _, rfl, _, _, rfl, hGl, _, ixN_nat bl, b, rfl, _, sF.seqT hb, _, atI_0, rfl, ?_⟩
    rw [if_neg (fun z => n3 (V.str.inj z))]
    refine ⟨x, rfl, _, _, _, sF _ _ h1, t.cl_Position, t.na_Position_ply, _, rfl, _, rfl, fin _ sF ?_ ?_ (by rw [e])⟩
    · rw [upd_same, iv_mod hg.1 hg.2.2, e]
    · rw [upd_ne (Ne.symm lp), hGp, e]
  | split hh n z =>
    have hg : hh < g.heaps.length ∧ z < g.heaps.length ∧ 1 ≤ n ∧ n < Vbdcam.heap g hh ∧ Vbdcam.heap g z = 0 := by
      by_cases hg : hh < g.heaps.length ∧ z < g.heaps.length ∧ 1 ≤ n ∧ n < Vbdcam.heap g hh ∧ Vbdcam.heap g z = 0
      · exact hg
      · unfold Vbdcam.play at hp; rw [if_neg hov] at hp; simp only [] at hp; rw [if_neg hg] at hp; cases hp
    have e : g' = { g with heaps := (g.heaps.modify hh (fun k => k - n)).modify z (fun _ => n), ply := g.ply + 1 } := by
      unfold Vbdcam.play at hp; rw [if_neg hov] at hp; simp only [] at hp; rw [if_pos hg] at hp; exact (Option.some.inj hp).symm
    have bl : hh < (iv g.heaps).length := by rw [iv_len]; exact hg.1
    have zl : z < (g.heaps.modify hh fun k => k - n).length := by rw [List.length_modify]; exact hg.2.1
    have sF : Same H (upd G l (.lst ((iv g.heaps).set hh (V.int (((g.heaps.getD hh 0 : Nat) : Int) - (n : Int)))))) := Same.mine s2 l0
    have sF2 := Same.mine (o := .lst (((iv g.heaps).set hh (V.int (((g.heaps.getD hh 0 : Nat) : Int) - (n : Int)))).set z (nv n))) sF l0
    refine ⟨b, rfl, _, hb2, _, atI_0, rfl, ?_⟩
    rw [if_neg (fun z => n2 (V.str.inj z))]
    refine ⟨b, rfl, _, hb2, _, atI_nat (j := 2) rfl, _, hh, rfl, SqL.of hGl, _, iv_get hg.1, b, rfl, _, hb2, _, atI_nat (j := 1) rfl, _, rfl, _, rfl, _, _, rfl, hGl, _, ixN_nat bl, b, rfl, _, sF.seqT hb, _, atI_0, rfl, ?_⟩
    rw [if_pos rfl]
    refine ⟨b, rfl, _, sF.seqT hb, _, atI_nat (j := 1) rfl, b, rfl, _, sF.seqT hb, _, atI_nat (j := 3) rfl, _, _, rfl, upd_same, _, ixN_nat (by rw [List.length_set, iv_len]; exact hg.2.1), ?_⟩
    refine ⟨x, rfl, _, _, _, sF2 _ _ h1, t.cl_Position, t.na_Position_ply, _, rfl, _, rfl, fin _ sF2 ?_ ?_ (by rw [e])⟩
    · rw [upd_same, iv_mod hg.1 (Nat.le_of_lt hg.2.2.2.1), iv_put zl, e]
    · rw [upd_ne (Ne.symm lp), upd_ne (Ne.symm lp), hGp, e]
theorem sc_game_row : FnScope ["position"] ["position"] (defScope (top 15)) := ⟨rfl, rfl, rfl, by decide +kernel, rfl, by decide +kernel, by decide +kernel⟩
theorem ok_game_row (t : Tx P w K mg A) : Def P w K mg base (CXN P w A.cNoRecord) 2 "game_row" ["position"] (spGRow A) := by
  refine t.s_game_row.pure sc_game_row (fun vs H Q E h => ?_) fun f cdv Ar outer s H vs Q E hr h => ?_
  · obtain ⟨v, g, rfl, _⟩ := h; rfl
  obtain ⟨v, g, rfl, hv, ho, q⟩ := h
  refine ⟨_, (pss_one (ps_ret (pe_op op_cat (pe_op op_cat (pe_lst (pa_cons (pe_fld (pv 0) rfl) (pa_cons (pe_callD (ok_side_to_move t) (hr.mono (by decide)) (passC cxn_ok) (pa_cons (pv 0) pa_nil)) pa_nil))) (pe_fld (pv 0) rfl)) (pe_fld (pv 0) rfl)))), ?_⟩
  tm_at "rd"
  obtain ⟨x, dx, hl, pl, rfl, h1, h2, h3⟩ := id hv
  have hb : (bvl g.passed).length = 2 := by unfold bvl; rw [List.length_map]; exact ho.ps
  have h8 := ho.n8
  refine ⟨x, rfl, _, _, _, h1, t.cl_Position, t.na_Position_ply, _, rfl, .ref x, g, rfl, hv, ho, sz (by decide), fun p hp => ?_⟩
  have s1 : Same H (upd H p (.lst [nv g.ply, nv (Vbdcam.side g)])) := Same.updN hp
  refine ⟨x, rfl, _, _, _, s1 _ _ h1, t.cl_Position, t.na_Position_passed, _, rfl, pl, rfl, _, upd_same, _, s1 _ _ h3, sz (by rw [hb]; simp), fun p1 hp1 => ?_⟩
  have s2 := s1.trans (Same.updN (o := .lst ([nv g.ply, nv (Vbdcam.side g)] ++ bvl g.passed)) hp1)
  refine ⟨x, rfl, _, _, _, s2 _ _ h1, t.cl_Position, t.na_Position_heaps, _, rfl, hl, rfl, _, upd_same, _, s2 _ _ h2, sz (by rw [iv_len, List.length_append, hb]; simp; omega), fun p2 hp2 => q _ _ (s2.trans (Same.updN hp2)) (s2.free hp2) ?_⟩
  rw [upd_same]
  unfold Vbdcam.gameRow
  rw [iv_app]
  obtain ⟨a, b, e⟩ : ∃ a b, g.passed = [a, b] := by
    match g.passed, ho.ps with
    | [a, b], _ => exact ⟨a, b, rfl⟩
  rw [e]
  cases a <;> cases b <;> rfl
end
section
variable {P : Program} {w : World} {K : PySem.W.Frag} {mg : Str → Option Value} {base : Heap} {A : Adr}
def spHName (K : PySem.W.Frag) : Sp := fun vs H Q _ => ∃ (v : V) (n : Tt), vs = [v] ∧ TuAt K H v n ∧ ∀ H', Same H H' → Q (.bl (n == Vbdcam.HEAPS)) H'
def HRes (H : Hp) (Q : VK) : Option (List Nat) → Prop
  | none => ∀ H', Same H H' → Q .non H'
  | some hs => ∀ H' a, Same H H' → H' a = some (.lst (iv hs)) → Q (.ref a) H'
def spRHeaps (K : PySem.W.Frag) : Sp := fun vs H Q _ => ∃ (v : V) (n : Tt), vs = [v] ∧ TuAt K H v n ∧ n.length ≤ 100 ∧ HRes H Q (Vbdcam.heapsOf n)
def headsHeaps (hs : List (Tt × Tt)) : Option (List Nat) := ((hs.find? fun h => h.1 == Vbdcam.HEAPS).map fun h => h.2).bind Vbdcam.heapsOf
def spHeapsOf (K : PySem.W.Frag) (A : Adr) : Sp := fun vs H Q _ => ∃ (x : Addr) (hs : List (Tt × Tt)) (l : List FI) (k : Nat), vs = [.ref x] ∧ RecAt K A H x hs l k ∧ (∀ h ∈ hs, HdOk h) ∧ HRes H Q (headsHeaps hs)
theorem HRes.mono {H H' : Hp} {Q : VK} (s : Same H H') : ∀ {o : Option (List Nat)}, HRes H Q o → HRes H' Q o
  | none, h => fun H2 s2 => h H2 (s.trans s2)
  | some _, h => fun H2 a s2 ha => h H2 a (s.trans s2) ha
theorem spl_split : ∀ (t acc : List Nat), TL.spl [32] 0 acc t = Vbdcam.splitAt_ acc t
  | [], acc => TL.spl_nil _ _ _
  | c :: r, acc => by
    show (if TL.pre [32] (c :: r) = true then acc :: TL.spl [32] 0 [] r else TL.spl [32] 0 (acc ++ [c]) r) = if c = 32 then acc :: Vbdcam.splitAt_ [] r else Vbdcam.splitAt_ (acc ++ [c]) r
    have e : TL.pre [32] (c :: r) = true ↔ c = 32 := by
      simp [TL.pre]
    by_cases h : c = 32
    · rw [if_pos (e.mpr h), if_pos h, spl_split r []]
    · rw [if_neg (fun z => h (e.mp z)), if_neg h, spl_split r]
theorem split_S (l : List Nat) : Txt.split (S l) (Str.ofString " ") = (Vbdcam.splitAt_ [] l).map S := by
  have e := TL.split_spl (S l) (Str.ofString " ") (by decide) (TL.kind_ok (by decide +kernel))
  have e1 : TL.tl (Str.ofString " ") = [32] := by decide
  have e2 : TL.tl (S l) = l := rfl
  rw [e1, e2, spl_split] at e
  rw [← e, List.map_map]
  have e3 : S ∘ TL.tl = id := by funext x; rfl
  rw [e3, List.map_id]
theorem split_mem : ∀ (t acc p : List Nat), p ∈ Vbdcam.splitAt_ acc t → (∀ c ∈ p, c ∈ acc ∨ c ∈ t) ∧ p.length ≤ acc.length + t.length
  | [], acc, p, h => by
    have h : p = acc := by simpa [Vbdcam.splitAt_] using h
    subst h
    exact ⟨fun c hc => .inl hc, by simp⟩
  | x :: r, acc, p, h => by
    unfold Vbdcam.splitAt_ at h
    split at h
    · rcases List.mem_cons.mp h with rfl | h
      · exact ⟨fun c hc => .inl hc, by simp⟩
      · obtain ⟨h1, h2⟩ := split_mem r [] p h
        refine ⟨fun c hc => .inr ?_, by simp at h2 ⊢; omega⟩
        rcases h1 c hc with h3 | h3
        · cases h3
        · exact List.mem_cons_of_mem _ h3
    · obtain ⟨h1, h2⟩ := split_mem r _ p h
      refine ⟨fun c hc => ?_, by simp at h2 ⊢; omega⟩
      rcases h1 c hc with h3 | h3
      · rcases List.mem_append.mp h3 with h4 | h4
        · exact .inl h4
        · exact .inr (by have : c = x := by simpa using h4
                         rw [this]; simp)
      · exact .inr (List.mem_cons_of_mem _ h3)
theorem sg_lt (c : Nat) : sg c < 128 := by
  unfold sg
  split
  · rename_i h
    have : c ∈ [32, 33, 36, 42, 45, 46, 47, 48, 49, 50, 51, 52, 53, 54, 55, 56, 57, 63, 97, 98, 99, 100, 101, 102, 103, 104] := by simpa [isSg] using h
    clear h
    revert c
    decide
  · decide
theorem sc_is_heaps_name : FnScope ["name"] ["name"] (defScope (top 51)) := ⟨rfl, rfl, rfl, by decide +kernel, rfl, by decide +kernel, by decide +kernel⟩
theorem ok_is_heaps_name (t : Tx P w K mg A) : Def P w K mg base (CXN P w A.cNoRecord) 2 "is_heaps_name" ["name"] (spHName K) := by
  refine t.s_is_heaps_name.pure sc_is_heaps_name (fun vs H Q E h => ?_) fun f cdv Ar outer s H vs Q E hr h => ?_
  · obtain ⟨v, n, rfl, _⟩ := h; rfl
  obtain ⟨v, n, rfl, hv, q⟩ := h
  refine ⟨_, (pss_one (ps_ret (pe_cmpR (op_eqD hr.units) (pe_callTy call_list_of (by rfl) t.b_list boot_list (pa_cons (pv 0) pa_nil)) (pe_callD (ok_bytes_of t) (hr.mono (by decide)) (passC cxn_ok) (pa_cons (pe_con1 t.k_HEAPS_NAME) pa_nil)) (nomark _)))), ?_⟩
  tm_at "rd"
  obtain ⟨a, rfl, ha⟩ := hv
  refine ⟨a, rfl, _, .inr ha, fun l hl => ⟨Vbdcam.HEAPS, by rw [show S Vbdcam.HEAPS = Str.ofString "Heaps" from by decide +kernel], by decide, fun H' p s1 np hp => ⟨_, .lst (SqL.of (s1 _ _ upd_same)) (dp_iv _), _, .lst (SqL.of hp) (dp_iv _), shp_l _, shp_l _, ?_⟩⟩⟩
  rw [eqv_l, show decide (n = Vbdcam.HEAPS) = (n == Vbdcam.HEAPS) from by rw [Bool.eq_iff_iff]; simp]
  exact q _ ((Same.updN hl).trans s1)
theorem sc_read_heaps : FnScope ["value", "heaps", "piece"] ["value"] (defScope (top 53)) := ⟨rfl, rfl, rfl, by decide +kernel, rfl, by decide +kernel, by decide +kernel⟩
theorem ok_read_heaps (t : Tx P w K mg A) : Def P w K mg base (CXN P w A.cNoRecord) 2 "read_heaps" ["value"] (spRHeaps K) := by
  refine t.s_read_heaps.pure sc_read_heaps (fun vs H Q E h => ?_) fun f cdv Ar outer s H vs Q E hr h => ?_
  · obtain ⟨v, n, rfl, _⟩ := h; rfl
  obtain ⟨v, n, rfl, hv, hn, q⟩ := h
  refine ⟨_, (pss_cons (ps_setLc (i := 1) rfl sc_read_heaps.nd rfl rfl (sw_true rfl rfl rfl rfl) (pi_list (pe_split (pe_callD (ok_signs_of t) (hr.mono (by decide)) (passC cxn_ok) (pa_cons (pv 0) pa_nil)) pe_str)) (own := [("piece", 2)]) (blkOk_by rfl) (fun _ _ _ _ _ => (pg_name (i := 2) sc_read_heaps.nd rfl (Or.inl rfl))) (fun _ _ _ _ _ => pts_nil) (fun _ _ _ _ _ => (pe_callD (ok_numeral t) (hr.mono (by decide)) (passC cxn_ok) (pa_cons (pv 2) (pa_cons (pe_con1 t.k_MOST) pa_nil))))) (pss_one (ps_ret (pe_ifExp (pw_and (pt_cmpR op_le (pe_callB (call_len_seqK (K := K) rfl) (by rfl) t.b_len PySem.boot_len (pa_cons (pv 1) pa_nil)) (pe_con1 t.k_MOST_HEAPS) (nomark _)) (pw_and1 (pt_cmpR op_ge (pe_callB (cr_min rfl) (by rfl) t.b_min boot_min (pa_cons (pv 1) pa_nil)) pe_int (nomark _)))).pt (pv 1) pe_non)))), ?_⟩
  tm_at "rd"
  obtain ⟨a, rfl, ha⟩ := hv
  have hpc : Txt.split (S (sgs n)) (Str.ofString " ") = (Vbdcam.splitAt_ [] (sgs n)).map S := split_S _
  have hlc : (Vbdcam.splitAt_ [] (sgs n)).length ≤ 10000 := by
    have := PyProof.Rows.split_le (S (sgs n)) (Str.ofString " ")
    rw [hpc, List.length_map] at this
    have e : (S (sgs n)).length = n.length := by rw [S_len]; unfold sgs; rw [List.length_map]
    omega
  have hsl : (S (sgs n)).length = n.length := by rw [S_len]; unfold sgs; rw [List.length_map]
  refine ⟨_, rfl, a, n, rfl, .inr ha, by omega, fun H1 s1 => ?_⟩
  refine ⟨⟨_, rfl⟩, _, rfl, _, rfl, rfl, sz (by omega), fun p hp => ?_⟩
  rw [hpc]
  have s2 := s1.trans (Same.updN (o := .lst (((Vbdcam.splitAt_ [] (sgs n)).map S).map V.str)) hp)
  refine ⟨p, rfl, ⟨_, SqL.of upd_same⟩, fun D hD => lc_list (K := K) (a := p) (xs := ((Vbdcam.splitAt_ [] (sgs n)).map S).map V.str) (fun i H' => Same (upd H1 p (.lst (((Vbdcam.splitAt_ [] (sgs n)).map S).map V.str))) H' ∧ H' D = some (.lst (((heapsL n).take i).map V.int))) ⟨Same.updN hD, by rw [upd_same]; rfl⟩ (fun i H' _ ⟨s3, _⟩ => SqL.of (s3 _ _ upd_same)) ?_ ?_⟩
  · rintro i v H' hv' ⟨s3, hy⟩
    obtain ⟨pc, hpi, rfl⟩ : ∃ pc, (Vbdcam.splitAt_ [] (sgs n))[i]? = some pc ∧ v = V.str (S pc) := by
      rw [List.map_map, List.getElem?_map] at hv'
      cases e : (Vbdcam.splitAt_ [] (sgs n))[i]? with
      | none => rw [e] at hv'; cases hv'
      | some s => rw [e] at hv'; exact ⟨s, rfl, (Option.some.inj hv').symm⟩
    obtain ⟨m1, m2⟩ := split_mem _ _ _ (List.mem_of_getElem? hpi)
    have hL : (heapsL n)[i]? = some (pNum pc 1000000000) := by
      rw [← heapsL_sgs, List.getElem?_map, hpi]; rfl
    have hi : i < (Vbdcam.splitAt_ [] (sgs n)).length := (List.getElem?_eq_some_iff.mp hpi).1
    tm_at "rd"
    refine ⟨pc, 1000000000, rfl, ?_, fun c hc => ?_, .inr rfl, _, hy, szl ?_, Same.mine s3 hD, ?_⟩
    · unfold sgs at m2; simp at m2; omega
    · rcases m1 c hc with h | h
      · cases h
      · obtain ⟨c', _, rfl⟩ := List.mem_map.mp h
        exact sg_lt c'
    · rw [List.length_map, List.length_take]; omega
    · rw [upd_same, take_snoc hL, List.map_append]; rfl
  · rintro H' ⟨s3, hy⟩
    have e0 : (((Vbdcam.splitAt_ [] (sgs n)).map S).map V.str).length = (heapsL n).length := by rw [← heapsL_sgs]; simp
    rw [e0, List.take_length] at hy
    have s4 := s2.trans s3
    have hpos : 0 < (heapsL n).length := by
      rw [← e0]; simp
      exact List.length_pos_iff.mpr (split_ne _ _)
    rw [heapsOf_eq] at q
    tm_at "rd"
    refine ⟨_, .inl (SqL.of hy), ?_⟩
    rw [List.length_map]
    by_cases h8 : (heapsL n).length ≤ 8
    · rw [if_pos (by omega)]
      refine ⟨heapsL n, SqL.of hy, hpos, fun m hm1 hm2 => ?_⟩
      by_cases hm : 0 ≤ m
      · rw [if_pos hm]
        have hall : ∀ x ∈ heapsL n, 0 ≤ x := fun x hx => Int.le_trans hm (hm2 x hx)
        rw [if_pos ⟨h8, hall⟩] at q
        exact q H' D s4 (by rw [hy, iv_toNat hall])
      · rw [if_neg hm]
        rw [if_neg (fun z => hm (z.2 m hm1))] at q
        exact q H' s4
    · rw [if_neg (by omega)]
      rw [if_neg (fun z => h8 z.1)] at q
      exact q H' s4
theorem sc_heaps_of : FnScope ["record", "head"] ["record"] (defScope (top 52)) := ⟨rfl, rfl, rfl, by decide +kernel, rfl, by decide +kernel, by decide +kernel⟩
theorem ok_heaps_of (t : Tx P w K mg A) : Def P w K mg base (CXN P w A.cNoRecord) 3 "heaps_of" ["record"] (spHeapsOf K A) := by
  refine t.s_heaps_of.pure sc_heaps_of (fun vs H Q E h => ?_) fun f cdv Ar outer s H vs Q E hr h => ?_
  · obtain ⟨x, hs, l, k, rfl, _⟩ := h; rfl
  obtain ⟨x, hs, l, k, rfl, hrec, hd, q⟩ := h
  refine ⟨_, (pss_cons (ps_for PassesOwn.never rfl (pi_list (pe_fld (pv 0) rfl)) (pg_name (i := 1) sc_heaps_of.nd rfl (Or.inl rfl)) (pss_one (ps_if (pt_val (pe_callD (ok_is_heaps_name t) (hr.mono (by decide)) (passC cxn_ok) (pa_cons (pe_ix (ix_tupK (K := K) rfl) (pv 1) pe_int (fun _ _ => rfl)) pa_nil))) (pss_one (ps_ret (pe_callD (ok_read_heaps t) (hr.mono (by decide)) (passC cxn_ok) (pa_cons (pe_ix (ix_tupK (K := K) rfl) (pv 1) pe_int (fun _ _ => rfl)) pa_nil)))) pss_nil))) (pss_one (ps_ret pe_non))), ?_⟩
  tm_at "rd"
  obtain ⟨dx, hl, ln, hv, lv, hx, hhl, hln, hh, hll⟩ := hrec
  refine ⟨_, rfl, x, _, _, _, _, rfl, hx, t.cl_Record, t.na_Record_heads, rfl, hl, rfl, ⟨_, SqL.of hhl⟩, for_list (K := K) (a := hl) (xs := hv) (fun i σ H' => ∃ v1 : Option V, σ = [some (.ref x), v1] ∧ Same H H' ∧ (hs.take i).find? (fun h => h.1 == Vbdcam.HEAPS) = none) ⟨none, rfl, .refl _, rfl⟩ (fun i σ H' _ ⟨_, _, s1, _⟩ => SqL.of (s1 _ _ hhl)) ?_ ?_⟩
  · rintro i v σ H' hv' ⟨v1, rfl, s1, hnf⟩
    obtain ⟨h, hhi, b, x2, y2, rfl, hb, hx2, hy2⟩ := Paired.at hh hv'
    tm_at "rd"
    refine ⟨_, s1.seqT hb, _, atI_0, x2, h.1, rfl, hx2.keep s1, fun H2 s2 => ⟨_, rfl, ?_⟩⟩
    have s3 := s1.trans s2
    by_cases hk : (h.1 == Vbdcam.HEAPS) = true
    · rw [if_pos hk]
      have e : headsHeaps hs = Vbdcam.heapsOf h.2 := by
        unfold headsHeaps
        have : hs = hs.take i ++ h :: hs.drop (i + 1) := by
          have := List.getElem?_eq_some_iff.mp hhi
          obtain ⟨hlt, e⟩ := this
          rw [← e, List.getElem_cons_drop]
          exact (List.take_append_drop i hs).symm
        rw [this, List.find?_append, hnf, List.find?_cons, hk]
        rfl
      rw [e] at q
      refine ⟨_, s3.seqT hb, _, atI_nat (j := 1) rfl, y2, h.2, rfl, hy2.keep s3, ?_, q.mono s3⟩
      have := (hd h (List.mem_of_getElem? hhi)).2
      unfold Vbdcam.goodValue at this
      rw [Bool.and_eq_true] at this
      exact of_decide_eq_true this.1
    · rw [if_neg hk]
      refine ⟨s3, ?_⟩
      rw [take_snoc hhi, List.find?_append, hnf, List.find?_cons]
      simp [hk]
  · rintro σ H' ⟨v1, rfl, s1, hnf⟩
    rw [Paired.len hh, List.take_length] at hnf
    have e : headsHeaps hs = none := by unfold headsHeaps; rw [hnf]; rfl
    rw [e] at q
    exact q H' s1
end
section
variable {P : Program} {w : World} {K : PySem.W.Frag} {mg : Str → Option Value} {base : Heap} {A : Adr}
def PosO (A : Adr) (H : Hp) (v : V) (g : Vbdcam.Game) : Prop := PosAt A H v g ∧ GmOk g
theorem PosO.keep {H H' : Hp} {v : V} {g : Vbdcam.Game} (s : Same H H') (h : PosO A H v g) : PosO A H' v g := ⟨h.1.keep s, h.2⟩
def OPos (A : Adr) (H : Hp) (v : V) : Option Vbdcam.Game → Prop
  | none => v = .non
  | some g => PosO A H v g
def TrAt (A : Adr) (H : Hp) (x : Addr) (ps : List Vbdcam.Game) (o : Option Vbdcam.Game) : Prop := ∃ dx pl pv ev, H x = some (.ins A.cTrail dx [("positions", .ref pl), ("end", ev)]) ∧ H pl = some (.lst pv) ∧ Paired (PosO A H) pv ps ∧ OPos A H ev o
def spNewT (C : Addr) : Sp := fun vs H Q _ => ∃ (x dx : Addr) (v : V), vs = [.ref x, v] ∧ H x = some (.ins C dx []) ∧ ∀ p, H p = none → p ≠ x → Q .non (upd (upd H p (.lst [v])) x (.ins C dx [("positions", .ref p), ("end", .non)]))
theorem sc_Trail : FnScope ["self", "first"] ["self", "first"] (defScope (inClass (top 54) 0)) := ⟨rfl, rfl, rfl, by decide +kernel, rfl, by decide +kernel, by decide +kernel⟩
theorem new_Trail (t : Tx P w K mg A) : New P w K mg base (CXN P w A.cNoRecord) 1 "Trail" A.cTrail ["self", "first"] (spNewT A.cTrail) := by
  obtain ⟨fd, F, hb⟩ := t.f_Trail
  refine ⟨A.iTrail, fd, t.mk_Trail, F.pure sc_Trail (fun vs H Q E h => ?_) (fun cdv Ar outer s H vs Q E hr h => ?_), hb, t.mg_Trail⟩
  · obtain ⟨x, dx, v, rfl, _⟩ := h; rfl
  obtain ⟨x, dx, v, rfl, hx, q⟩ := h
  refine ⟨_, (pss_cons (ps_fld (pv 0) (pe_lst (pa_cons (pv 1) pa_nil)) rfl) (pss_one (ps_fld (pv 0) pe_non rfl))), ?_⟩
  tm_at "rd"
  refine ⟨sz (by decide), fun p hp => ?_⟩
  have hpx : p ≠ x := fun z => by rw [z, hx] at hp; cases hp
  have hx2 : upd H p (.lst [v]) x = some (.ins A.cTrail dx []) := by rw [upd_ne (Ne.symm hpx)]; exact hx
  refine ⟨_, _, _, hx2, t.cl_Trail, t.na_Trail_positions, (by show 0 < 1000; decide), _, _, _, upd_same, t.cl_Trail, t.na_Trail_end, (by show 1 < 1000; decide), ?_⟩
  rw [upd_upd]
  exact q p hp hpx
def PrAt (A : Adr) (G : Hp) (v : V) (x : Vbdcam.Game × Vbdcam.Game) : Prop := ∃ c v1 v2, v = .ref c ∧ G c = some (.tup [v1, v2]) ∧ PosO A G v1 x.1 ∧ PosO A G v2 x.2
theorem PrAt.keep {G G' : Hp} {v : V} {x : Vbdcam.Game × Vbdcam.Game} (s : Same G G') (h : PrAt A G v x) : PrAt A G' v x := let ⟨c, v1, v2, e, h1, h2, h3⟩ := h; ⟨c, v1, v2, e, s _ _ h1, h2.keep s, h3.keep s⟩
noncomputable def cutH (G H1 H2 : Hp) : Hp := fun b => open Classical in if G b = none ∧ H1 b ≠ none then none else H2 b
theorem cut_same {G H1 H2 : Hp} (a : Same G H1) (b : Same H1 H2) : Same G (cutH G H1 H2) := fun c u h => by
  unfold cutH
  rw [if_neg (fun z => by rw [h] at z; cases z.1)]
  exact b _ _ (a _ _ h)
theorem cut_sub {G H1 H2 : Hp} : Same (cutH G H1 H2) H2 := fun c u h => by
  unfold cutH at h
  split at h
  · cases h
  · exact h
theorem cut_none {G H1 H2 : Hp} {b : Addr} {o : HO} (h1 : G b = none) (h2 : H1 b = some o) : cutH G H1 H2 b = none := by
  unfold cutH
  rw [if_pos ⟨h1, by rw [h2]; simp⟩]
theorem cut_new {G H1 H2 : Hp} {b : Addr} (h : H1 b = none) : cutH G H1 H2 b = H2 b := by
  unfold cutH
  rw [if_neg (fun z => z.2 h)]
theorem PosN.cut {G H1 H2 : Hp} {v : V} {g : Vbdcam.Game} (h : PosN A H1 H2 v g) : PosAt A (cutH G H1 H2) v g := by
  obtain ⟨x, dx, hl, pl, e, n1, n2, n3, h1, h2, h3⟩ := h
  exact ⟨x, dx, hl, pl, e, by rw [cut_new n1]; exact h1, by rw [cut_new n2]; exact h2, by rw [cut_new n3]; exact h3⟩
theorem same_upd {G H' : Hp} {c : Addr} {o : HO} (s : Same G H') : Same (upd G c o) (upd H' c o) := fun b u h => by
  by_cases e : b = c
  · subst e; rw [upd_same] at h ⊢; exact h
  · rw [upd_ne e] at h ⊢; exact s _ _ h
structure FoD (A : Adr) (H : Hp) (T dT P O : Addr) (l : List FI) (g0 : Vbdcam.Game) (i : Nat) (H' : Hp) (vn vb : V) (G : Hp) (b g : Vbdcam.Game) (st : List (Vbdcam.Game × Vbdcam.Game)) (pv ov : List V) (ps : List Vbdcam.Game) (ply : Nat) (pst : List Nat) : Prop where
  z1 : Same H G
  z2 : Same G H'
  gT : G T = none
  gP : G P = none
  gO : G O = none
  TP : T ≠ P
  TO : T ≠ O
  PO : P ≠ O
  hT : H' T = some (.ins A.cTrail dT [("positions", .ref P), ("end", .non)])
  hP : H' P = some (.lst pv)
  hO : H' O = some (.lst ov)
  pp : Paired (PosO A G) pv (g0 :: ps)
  oo : Paired (PrAt A G) ov st.reverse
  pn : PosO A G vn g
  pb : PosO A G vb b
  tr : ftr l g0 g0 [] = (ps ++ (ftr (l.drop i) b g st).1, (ftr (l.drop i) b g st).2)
  fw : fwok (l.drop i) ply pst
  ns : pst.length = st.length
  n1 : pv.length ≤ i + 1
  n2 : ov.length ≤ i
def FoI (A : Adr) (H : Hp) (a ln T dT P O : Addr) (l : List FI) (g0 : Vbdcam.Game) (i : Nat) (σ : L2.St) (H' : Hp) : Prop := ∃ vn vb v6 G b g st pv ov ps ply pst, σ = [some (.ref a), some (.ref ln), some vn, some (.ref T), some vb, some (.ref O), v6] ∧ FoD A H T dT P O l g0 i H' vn vb G b g st pv ov ps ply pst
theorem FoI.same {H : Hp} {a ln T dT P O : Addr} {l : List FI} {g0 : Vbdcam.Game} {i : Nat} {σ : L2.St} {H' : Hp} (h : FoI A H a ln T dT P O l g0 i σ H') : Same H H' := by
  obtain ⟨vn, vb, v6, G, b, g, st, pv, ov, ps, ply, pst, _, D⟩ := h
  exact D.z1.trans D.z2
def spFollow (K : PySem.W.Frag) (A : Adr) : Sp := fun vs H Q _ => ∃ (a ln : Addr) (hs : List Nat) (lv : List V) (l : List FI), vs = [.ref a, .ref ln] ∧ H a = some (.lst (iv hs)) ∧ H ln = some (.lst lv) ∧ LnAt K H lv l ∧ fwok l 0 [] ∧ l.length ≤ 10000 ∧ GmOk { heaps := hs } ∧
  ∀ H' x, Same H H' → TrAt A H' x ({ heaps := hs } :: (ftr l { heaps := hs } { heaps := hs } []).1) (ftr l { heaps := hs } { heaps := hs } []).2 → Q (.ref x) H'
theorem sc_follow : FnScope ["heaps", "line", "now", "trail", "before", "outer", "item"] ["heaps", "line"] (defScope (top 55)) := ⟨rfl, rfl, rfl, by decide +kernel, rfl, by decide +kernel, by decide +kernel⟩
theorem ok_follow (t : Tx P w K mg A) : Def P w K mg base (CXN P w A.cNoRecord) 4 "follow" ["heaps", "line"] (spFollow K A) := by
  refine t.s_follow.pure sc_follow (fun vs H Q E h => ?_) fun f cdv Ar outer s H vs Q E hr h => ?_
  · obtain ⟨a, ln, hs, lv, l, rfl, _⟩ := h; rfl
  obtain ⟨a, ln, hs, lv, l, rfl, ha, hln, hll, hw, hl, hg, q⟩ := h
  refine ⟨_, (pss_cons (ps_set (i := 2) sc_follow.nd rfl (Or.inl rfl) (pe_callD (ok_first_position t) (hr.mono (by decide)) (passC cxn_ok) (pa_cons (pv 0) pa_nil))) (pss_cons (ps_set (i := 3) sc_follow.nd rfl (Or.inl rfl) (pe_newC (new_Trail t) (hr.mono (by decide)) (passC cxn_ok) (pa_cons (pv 2) pa_nil))) (pss_cons (ps_set (i := 4) sc_follow.nd rfl (Or.inl rfl) (pv 2)) (pss_cons (ps_set (i := 5) sc_follow.nd rfl (Or.inl rfl) (pe_lst pa_nil)) (pss_cons (ps_for PassesOwn.never rfl (pi_list (pv 1)) (pg_name (i := 6) sc_follow.nd rfl (Or.inl rfl)) (pss_one (ps_if (pt_cmpR op_eq (pe_ix (ix_tupK (K := K) rfl) (pv 6) pe_int (fun _ _ => rfl)) (pe_con1 t.k_MOVE) (nomark _)) (pss_cons (ps_if (pt_not (pt_val (pe_callD (ok_is_allowed t) (hr.mono (by decide)) (passC cxn_ok) (pa_cons (pv 2) (pa_cons (pe_ix (ix_tupK (K := K) rfl) (pv 6) pe_int (fun _ _ => rfl)) pa_nil))))) (pss_one (ps_ret (pv 3))) pss_nil) (pss_cons (ps_set (i := 4) sc_follow.nd rfl (Or.inl rfl) (pv 2)) (pss_cons (ps_set (i := 2) sc_follow.nd rfl (Or.inl rfl) (pe_callD (ok_position_after t) (hr.mono (by decide)) (passC cxn_ok) (pa_cons (pv 2) (pa_cons (pe_ix (ix_tupK (K := K) rfl) (pv 6) pe_int (fun _ _ => rfl)) pa_nil)))) (pss_one (ps_expr (pe_bm PySem.F.plainAttrs_list PySem.F.slot_list_append PySem.F.type_list_append mt_append (pe_fld (pv 3) rfl) (pa_cons (pv 2) pa_nil))))))) (pss_one (ps_if (pt_cmp (pc_dinK t.dk_CLOSED_BY (pe_ix (ix_tupK (K := K) rfl) (pv 6) pe_int (fun _ _ => rfl))) (by with_unfolding_all rfl)) (pss_cons (ps_expr (pe_bm PySem.F.plainAttrs_list PySem.F.slot_list_append PySem.F.type_list_append mt_append (pv 5) (pa_cons (pe_tup (pa_cons (pv 4) (pa_cons (pv 2) pa_nil))) pa_nil))) (pss_one (ps_set (i := 2) sc_follow.nd rfl (Or.inl rfl) (pe_ifExp (pt_cmpR op_eq (pe_ix (ix_tupK (K := K) rfl) (pv 6) pe_int (fun _ _ => rfl)) (pe_con1 t.k_OPEN_OTHER) (nomark _)) (pv 4) (pv 2))))) (pss_one (ps_if (pt_cmpR op_ne (pe_ix (ix_tupK (K := K) rfl) (pv 6) pe_int (fun _ _ => rfl)) (pe_con1 t.k_NOTE) (nomark _)) (pss_cons (ps_set (i := 4) sc_follow.nd rfl (Or.inl rfl) (pe_ix (ix_tupK (K := K) rfl) (pe_ix (ix_listK (K := K) rfl) (pv 5) (pe_un un_neg pe_int) (fun _ _ => rfl)) pe_int (fun _ _ => rfl))) (pss_cons (ps_set (i := 2) sc_follow.nd rfl (Or.inl rfl) (pe_ix (ix_tupK (K := K) rfl) (pe_ix (ix_listK (K := K) rfl) (pv 5) (pe_un un_neg pe_int) (fun _ _ => rfl)) pe_int (fun _ _ => rfl))) (pss_one (ps_expr (pe_bm0 PySem.F.plainAttrs_list PySem.F.slot_list_pop PySem.F.type_list_pop mt_pop (pv 5)))))) pss_nil))))))) (pss_cons (ps_fld (pv 3) (pv 2) rfl) (pss_one (ps_ret (pv 3))))))))), ?_⟩
  tm_at "rd"
  refine ⟨a, hs, rfl, ha, fun H1 v s1 hN => ?_⟩
  intro T dT hT0 hdT hne
  refine ⟨T, dT, v, rfl, upd_same, fun P hP0 hPT => ⟨rfl, Nat.zero_le _, fun O hO0 => ?_⟩⟩
  have gP : H1 P = none := upd_none hP0
  have hTe : ∀ G : Hp, upd G T (.ins A.cTrail dT [("positions", .ref P), ("end", .non)]) T = some (.ins A.cTrail dT [("positions", .ref P), ("end", .non)]) := fun _ => upd_same
  have TO : T ≠ O := ne_of_none (hTe _) hO0
  have hPe : upd (upd (upd (upd H1 dT (.own T)) T (.ins A.cTrail dT [])) P (.lst [v])) T (.ins A.cTrail dT [("positions", .ref P), ("end", .non)]) P = some (.lst [v]) := by rw [upd_ne hPT, upd_same]
  have PO : P ≠ O := ne_of_none hPe hO0
  have gO : H1 O = none := upd_none (upd_none hO0)
  have s2 : Same H1 (upd (upd (upd (upd (upd H1 dT (.own T)) T (.ins A.cTrail dT [])) P (.lst [v])) T (.ins A.cTrail dT [("positions", .ref P), ("end", .non)])) O (.lst [])) := Same.mine (Same.mine (Same.mine (Same.mine (Same.updN hdT) hT0) gP) hT0) gO
  have pN : PosO A H1 v { heaps := hs } := ⟨hN.at, hg⟩
  generalize hG2 : upd (upd (upd (upd (upd H1 dT (.own T)) T (.ins A.cTrail dT [])) P (.lst [v])) T (.ins A.cTrail dT [("positions", .ref P), ("end", .non)])) O (.lst []) = H2 at s2
  have k1 : H2 T = some (.ins A.cTrail dT [("positions", .ref P), ("end", .non)]) := by rw [← hG2, upd_ne TO, upd_same]
  have k2 : H2 P = some (.lst [v]) := by rw [← hG2, upd_ne PO]; exact hPe
  have k3 : H2 O = some (.lst []) := by rw [← hG2, upd_same]
  clear hG2 hO0 hPe
  have D0 : FoD A H T dT P O l { heaps := hs } 0 H2 v v H1 { heaps := hs } { heaps := hs } [] [v] [] [] 0 [] := ⟨s1, s2, hT0, gP, gO, Ne.symm hPT, TO, PO, k1, k2, k3, .cons pN .nil, .nil, pN, pN, rfl, hw, rfl, Nat.le_refl _, Nat.le_refl _⟩
  refine ⟨_, rfl, ln, rfl, ⟨_, SqL.of ((s1.trans s2) _ _ hln)⟩, for_list (K := K) (a := ln) (xs := lv) (FoI A H a ln T dT P O l { heaps := hs }) ⟨v, v, none, H1, _, _, _, _, _, _, _, _, rfl, D0⟩ (fun i σ H' _ z => SqL.of (z.same _ _ hln)) ?_ ?_⟩
  · rintro i x σ H' hx ⟨vn, vb, v6, G, b, g, st, pv, ov, ps, ply, pst, rfl, D⟩
    obtain ⟨y, hy, c, rfl, hb⟩ := Paired.at hll hx
    have hi : i < l.length := (List.getElem?_eq_some_iff.mp hy).1
    have hdr : l.drop i = y :: l.drop (i + 1) := drop_ofF hy
    have sH := D.z1.trans D.z2
    have htr := D.tr
    have hfw := D.fw
    rw [hdr] at htr hfw
    cases y with
    | move m ms =>
      obtain ⟨xm, ym, hq0, hm, hms⟩ := hb
      have hq := sH.seqT hq0
      tm_at "rd"
      refine ⟨_, hq, _, atI_0, rfl, ?_⟩
      rw [if_pos rfl]
      refine ⟨_, hq, _, atI_nat (j := 1) rfl, vn, xm, g, m, rfl, D.pn.1.keep D.z2, D.pn.2, hm.keep sH, _, rfl, ?_⟩
      cases hp : Vbdcam.play g m with
      | none =>
        rw [if_pos (by rfl)]
        have e : ftr (.move m ms :: l.drop (i + 1)) b g st = ([], none) := by unfold ftr; rw [hp]
        rw [e, List.append_nil] at htr
        refine q H' T sH ⟨dT, P, pv, .non, D.hT, D.hP, ?_, ?_⟩
        · rw [htr]; exact Paired.map D.pp fun _ _ z => z.keep D.z2
        · rw [htr]; rfl
      | some g' =>
        rw [if_neg (by simp)]
        refine ⟨_, hq, _, atI_nat (j := 1) rfl, vn, xm, g, g', m, rfl, D.pn.1.keep D.z2, D.pn.2, hm.keep sH, hp, fun H2 u s2 hN2 => ?_⟩
        refine ⟨_, _, _, s2 _ _ D.hT, t.cl_Trail, t.na_Trail_positions, _, rfl, .inl ⟨rfl, _, SqL.of (s2 _ _ D.hP)⟩, P, rfl, pv, s2 _ _ D.hP, szl2 (by have := D.n1; omega), ?_⟩
        have e : ftr (.move m ms :: l.drop (i + 1)) b g st = (g' :: (ftr (l.drop (i + 1)) g g' st).1, (ftr (l.drop (i + 1)) g g' st).2) := by rw [ftr, hp]
        rw [e] at htr
        have c1 := cut_same D.z2 s2
        have c2 : Same (cutH G H' H2) H2 := cut_sub
        exact ⟨u, vn, _, cutH G H' H2, g, g', st, pv ++ [u], ov, ps ++ [g'], ply + 1, pst, rfl, { z1 := D.z1.trans c1, z2 := Same.mine c2 (cut_none D.gP D.hP), gT := cut_none D.gT D.hT, gP := cut_none D.gP D.hP, gO := cut_none D.gO D.hO, TP := D.TP, TO := D.TO, PO := D.PO, hT := by rw [upd_ne D.TP]; exact s2 _ _ D.hT, hP := upd_same, hO := by rw [upd_ne (Ne.symm D.PO)]; exact s2 _ _ D.hO, pp := Paired.snoc ⟨hN2.cut, play_ok hp D.pn.2⟩ (Paired.map D.pp fun _ _ z => z.keep c1), oo := Paired.map D.oo fun _ _ z => z.keep c1, pn := ⟨hN2.cut, play_ok hp D.pn.2⟩, pb := D.pn.keep c1, tr := by rw [htr, List.append_assoc]; rfl, fw := hfw, ns := D.ns, n1 := by have := D.n1; rw [List.length_append]; simp; omega, n2 := by have := D.n2; omega }⟩
    | note tt =>
      obtain ⟨ym, hq0, hn⟩ := hb
      have hq := sH.seqT hq0
      tm_at "rd"
      refine ⟨_, hq, _, atI_0, rfl, ?_⟩
      rw [if_neg (by decide)]
      refine ⟨_, hq, _, atI_0, Sum.inr "note", rfl, ?_⟩
      rw [if_neg (by rw [no_kv "note" (by decide) (by decide)]; decide)]
      refine ⟨_, hq, _, atI_0, rfl, ?_⟩
      rw [if_neg (by decide)]
      exact ⟨vn, vb, _, G, b, g, st, pv, ov, ps, ply, pst, rfl, { D with tr := htr, fw := hfw, n1 := by have := D.n1; omega, n2 := by have := D.n2; omega }⟩
    | opn k =>
      have hq := sH.seqT hb
      tm_at "rd"
      refine ⟨_, hq, _, atI_0, rfl, ?_⟩
      rw [if_neg (by cases k <;> decide)]
      refine ⟨_, hq, _, atI_0, Sum.inr (opS k), rfl, ?_⟩
      rw [if_pos (open_kv k)]
      refine ⟨.inl ⟨rfl, _, SqL.of D.hO⟩, sz (by decide), fun c2 hc2 => ?_⟩
      have sc : Same H' (upd H' c2 (.tup [vb, vn])) := Same.updN hc2
      have sK : Same H (upd (upd H' c2 (.tup [vb, vn])) O (.lst (ov ++ [.ref c2]))) := Same.mine (sH.trans sc) (D.z1.free D.gO)
      have nO : O ≠ c2 := ne_of_none D.hO hc2
      have nT : T ≠ c2 := ne_of_none D.hT hc2
      have nP : P ≠ c2 := ne_of_none D.hP hc2
      have gc : G c2 = none := D.z2.free hc2
      have sg : Same G (upd G c2 (.tup [vb, vn])) := Same.updN gc
      have gO2 : upd G c2 (.tup [vb, vn]) O = none := by rw [upd_ne nO]; exact D.gO
      have D2 : ∀ (v' : V) (g' : Vbdcam.Game), PosO A G v' g' → g' = (if k = true then g else b) → FoD A H T dT P O l { heaps := hs } (i + 1) (upd (upd H' c2 (.tup [vb, vn])) O (.lst (ov ++ [.ref c2]))) v' vb (upd G c2 (.tup [vb, vn])) b g' ((b, g) :: st) pv (ov ++ [.ref c2]) ps (if k = true then ply else ply - 1) (ply :: pst) := fun v' g' hv' eg => { z1 := D.z1.trans sg, z2 := Same.mine (same_upd D.z2) gO2, gT := by rw [upd_ne nT]; exact D.gT, gP := by rw [upd_ne nP]; exact D.gP, gO := gO2, TP := D.TP, TO := D.TO, PO := D.PO, hT := by rw [upd_ne D.TO, upd_ne nT]; exact D.hT, hP := by rw [upd_ne D.PO, upd_ne nP]; exact D.hP, hO := upd_same, pp := Paired.map D.pp fun _ _ z => z.keep sg, oo := by rw [List.reverse_cons]; exact Paired.snoc ⟨c2, vb, vn, rfl, upd_same, D.pb.keep sg, D.pn.keep sg⟩ (Paired.map D.oo fun _ _ z => z.keep sg), pn := hv'.keep sg, pb := D.pb.keep sg, tr := by rw [htr, eg]; rfl, fw := hfw.2, ns := by rw [List.length_cons, List.length_cons, D.ns], n1 := by have := D.n1; omega, n2 := by have := D.n2; rw [List.length_append]; simp; omega }
      refine ⟨ov, sc _ _ D.hO, szl2 (by have := D.n2; omega), _, sK.seqT hb, _, atI_0, rfl, ?_⟩
      cases k with
      | false =>
        rw [if_pos (by decide)]
        exact ⟨vb, vb, _, _, b, b, _, pv, _, ps, _, _, rfl, D2 vb b D.pb rfl⟩
      | true =>
        rw [if_neg (by decide)]
        exact ⟨vn, vb, _, _, b, g, _, pv, _, ps, _, _, rfl, D2 vn g D.pn rfl⟩
    | cls k =>
      have hq := sH.seqT hb
      tm_at "rd"
      refine ⟨_, hq, _, atI_0, rfl, ?_⟩
      rw [if_neg (by cases k <;> decide)]
      refine ⟨_, hq, _, atI_0, Sum.inr (clS k), rfl, ?_⟩
      rw [if_neg (by rw [no_kv (clS k) (by cases k <;> decide) (by cases k <;> decide)]; decide)]
      refine ⟨_, hq, _, atI_0, (by cases k <;> rfl), ?_⟩
      rw [if_pos (by cases k <;> decide)]
      have hns := D.ns
      have hoo := D.oo
      cases st with
      | nil =>
        have : pst = [] := List.length_eq_zero_iff.mp hns
        exact absurd this hfw.1
      | cons x1 st1 =>
        cases pst with
        | nil => cases hns
        | cons p1 pst1 =>
          rw [List.reverse_cons] at hoo
          obtain ⟨ov1, w1, rfl, ho1, c2, v1, v2, rfl, hc2, hv1, hv2⟩ := Paired.unsnoc hoo
          have hc3 := D.z2 _ _ hc2
          refine ⟨_, SqL.of D.hO, _, atI_last, c2, rfl, _, SqT.of hc3, _, atI_0, _, SqL.of D.hO, _, atI_last, c2, rfl, _, SqT.of hc3, _, atI_nat (j := 1) rfl, .inl ⟨rfl, _, SqL.of D.hO⟩, _, D.hO, .ref c2, by simp, ?_⟩
          rw [List.dropLast_concat]
          exact ⟨v2, v1, _, G, x1.1, x1.2, st1, pv, ov1, ps, p1, pst1, rfl, { z1 := D.z1, z2 := Same.mine D.z2 D.gO, gT := D.gT, gP := D.gP, gO := D.gO, TP := D.TP, TO := D.TO, PO := D.PO, hT := by rw [upd_ne D.TO]; exact D.hT, hP := by rw [upd_ne D.PO]; exact D.hP, hO := upd_same, pp := D.pp, oo := ho1, pn := hv2, pb := hv1, tr := htr, fw := hfw.2, ns := by simpa using hns, n1 := by have := D.n1; omega, n2 := by have := D.n2; rw [List.length_append] at this; simp at this; omega }⟩
  · rintro σ H' ⟨vn, vb, v6, G, b, g, st, pv, ov, ps, ply, pst, rfl, D⟩
    have htr := D.tr
    rw [Paired.len hll, List.drop_length] at htr
    have e : ftr [] b g st = ([], some g) := rfl
    rw [e, List.append_nil] at htr
    tm_at "rd"
    refine ⟨_, _, _, D.hT, t.cl_Trail, t.na_Trail_end, (by show 2 < 1000; decide), ?_⟩
    have s5 : Same G (upd H' T (.ins A.cTrail dT [("positions", .ref P), ("end", vn)])) := Same.mine D.z2 D.gT
    refine q _ T (D.z1.trans s5) ⟨dT, P, pv, vn, upd_same, ?_, ?_, ?_⟩
    · rw [upd_ne (Ne.symm D.TP)]; exact D.hP
    · rw [htr]; exact Paired.map D.pp fun _ _ z => z.keep s5
    · rw [htr]; exact D.pn.keep s5
end
section
variable {P : Program} {w : World} {K : PySem.W.Frag} {mg : Str → Option Value} {base : Heap} {A : Adr}
def trOf (hs : List (Tt × Tt)) (l : List FI) : Option (List Vbdcam.Game × Option Vbdcam.Game) := (headsHeaps hs).map fun n => ({ heaps := n } :: (ftr l { heaps := n } { heaps := n } []).1, (ftr l { heaps := n } { heaps := n } []).2)
def TRes (A : Adr) (H : Hp) (Q : VK) : Option (List Vbdcam.Game × Option Vbdcam.Game) → Prop
  | none => ∀ H', Same H H' → Q .non H'
  | some x => ∀ H' a, Same H H' → TrAt A H' a x.1 x.2 → Q (.ref a) H'
def spTrailOf (K : PySem.W.Frag) (A : Adr) : Sp := fun vs H Q _ => ∃ (x : Addr) (hs : List (Tt × Tt)) (l : List FI) (k : Nat), vs = [.ref x] ∧ RecAt K A H x hs l k ∧ FrOk hs l k ∧ TRes A H Q (trOf hs l)
theorem gm_heads {hs : List (Tt × Tt)} {n : List Nat} (h : headsHeaps hs = some n) : GmOk { heaps := n } := by
  unfold headsHeaps at h
  cases hf : hs.find? fun h => h.1 == Vbdcam.HEAPS with
  | none => rw [hf] at h; cases h
  | some y =>
    rw [hf] at h
    have h : Vbdcam.heapsOf y.2 = some n := h
    rw [heapsOf_eq] at h
    split at h
    · rename_i hc
      have e := Option.some.inj h
      subst e
      refine ⟨fun z => ?_, rfl, by rw [List.length_map]; exact hc.1⟩
      have : (heapsL y.2).length = 0 := by have := congrArg List.length z; simpa using this
      unfold heapsL at this
      rw [List.length_map] at this
      exact split_ne _ _ (List.length_eq_zero_iff.mp this)
    · cases h
theorem sc_trail_of : FnScope ["record", "heaps"] ["record"] (defScope (top 56)) := ⟨rfl, rfl, rfl, by decide +kernel, rfl, by decide +kernel, by decide +kernel⟩
theorem ok_trail_of (t : Tx P w K mg A) : Def P w K mg base (CXN P w A.cNoRecord) 5 "trail_of" ["record"] (spTrailOf K A) := by
  refine t.s_trail_of.pure sc_trail_of (fun vs H Q E h => ?_) fun f cdv Ar outer s H vs Q E hr h => ?_
  · obtain ⟨x, hs, l, k, rfl, _⟩ := h; rfl
  obtain ⟨x, hs, l, k, rfl, hrec, ho, q⟩ := h
  refine ⟨_, (pss_cons (ps_set (i := 1) sc_trail_of.nd rfl (Or.inl rfl) (pe_callD (ok_heaps_of t) (hr.mono (by decide)) (passC cxn_ok) (pa_cons (pv 0) pa_nil))) (pss_one (ps_ret (pe_ifExp (pt_cmpR op_isN (pv 1) pe_non (nomark _)) pe_non (pe_callD (ok_follow t) (hr.mono (by decide)) (passC cxn_ok) (pa_cons (pv 1) (pa_cons (pe_fld (pv 0) rfl) pa_nil))))))), ?_⟩
  tm_at "rd"
  refine ⟨x, hs, l, k, rfl, hrec, ho.hd, ?_⟩
  obtain ⟨dx, hl, ln, hv, lv, hx, hhl, hln, hh, hll⟩ := hrec
  unfold trOf at q
  cases hh' : headsHeaps hs with
  | none =>
    rw [hh'] at q
    intro H' s1
    rw [if_pos rfl]
    exact q H' s1
  | some n =>
    rw [hh'] at q
    intro H' a s1 ha
    rw [if_neg (fun z => by cases z)]
    exact ⟨_, _, _, s1 _ _ hx, t.cl_Record, t.na_Record_line, _, rfl, a, ln, n, lv, l, rfl, ha, s1 _ _ hln, hll.keep s1, ho.ok, ho.n1, gm_heads hh', fun H2 y s2 hy => q H2 y (s1.trans s2) hy⟩
def PRes (A : Adr) (H : Hp) (Q : VK) : Option (List Vbdcam.Game × Option Vbdcam.Game) → Prop
  | some (ps, some _) => ∀ H' a pv, Same H H' → H' a = some (.lst pv) → Paired (PosO A H') pv ps → Q (.ref a) H'
  | _ => ∀ H', Same H H' → Q .non H'
def spPosOf (K : PySem.W.Frag) (A : Adr) : Sp := fun vs H Q _ => ∃ (x : Addr) (hs : List (Tt × Tt)) (l : List FI) (k : Nat), vs = [.ref x] ∧ RecAt K A H x hs l k ∧ FrOk hs l k ∧ PRes A H Q (trOf hs l)
theorem row_len {g : Vbdcam.Game} (o : GmOk g) : (Vbdcam.gameRow g).length ≤ 12 := by
  have := o.n8
  unfold Vbdcam.gameRow
  rw [List.length_append]
  simp
  omega
theorem sc_positions_of : FnScope ["record", "trail"] ["record"] (defScope (top 57)) := ⟨rfl, rfl, rfl, by decide +kernel, rfl, by decide +kernel, by decide +kernel⟩
theorem ok_positions_of (t : Tx P w K mg A) : Def P w K mg base (CXN P w A.cNoRecord) 6 "positions_of" ["record"] (spPosOf K A) := by
  refine t.s_positions_of.pure sc_positions_of (fun vs H Q E h => ?_) fun f cdv Ar outer s H vs Q E hr h => ?_
  · obtain ⟨x, hs, l, k, rfl, _⟩ := h; rfl
  obtain ⟨x, hs, l, k, rfl, hrec, ho, q⟩ := h
  refine ⟨_, (pss_cons (ps_set (i := 1) sc_positions_of.nd rfl (Or.inl rfl) (pe_callD (ok_trail_of t) (hr.mono (by decide)) (passC cxn_ok) (pa_cons (pv 0) pa_nil))) (pss_one (ps_ret (pe_ifExp (pw_or (pt_cmpR op_isN (pv 1) pe_non (nomark _)) (pw_or1 (pt_cmpR op_isN (pe_fld (pv 1) rfl) pe_non (nomark _)))).pt pe_non (pe_fld (pv 1) rfl))))), ?_⟩
  tm_at "rd"
  refine ⟨x, hs, l, k, rfl, hrec, ho, ?_⟩
  cases ht : trOf hs l with
  | none =>
    rw [ht] at q
    intro H' s1
    rw [if_pos rfl]
    exact q H' s1
  | some y =>
    obtain ⟨ps, o⟩ := y
    rw [ht] at q
    intro H' T s1 hT
    obtain ⟨dT, P, pv, ev, hTi, hP, hpp, hev⟩ := hT
    rw [if_neg (fun z => by cases z)]
    refine ⟨T, rfl, _, _, _, hTi, t.cl_Trail, t.na_Trail_end, _, rfl, ?_⟩
    cases o with
    | none =>
      have hev : ev = .non := hev
      subst hev
      rw [if_pos rfl]
      exact q H' s1
    | some g =>
      have hev : PosO A H' ev g := hev
      obtain ⟨px, _, _, _, rfl, _⟩ := id hev.1
      rw [if_neg (fun z => by cases z)]
      exact ⟨T, rfl, _, _, _, hTi, t.cl_Trail, t.na_Trail_positions, _, rfl, q H' P pv s1 hP hpp⟩
end
section
variable {P : Program} {w : World} {K : PySem.W.Frag} {mg : Str → Option Value} {base : Heap} {A : Adr}
def walkOut (k : Int) (l : List Nat) : List Int := if 0 ≤ k ∧ k ≤ 1000000000 then (match mread l with
  | .error _ => [-2]
  | .ok (hs, fl, _) => (match trOf hs fl with
    | some (ps, some _) => (match ps[k.toNat]? with
      | none => [-3]
      | some g => 0 :: (Vbdcam.gameRow g).map fun (n : Nat) => (n : Int))
    | _ => [-6])) else [-1]
def spTop2 (K : PySem.W.Frag) (f : Int → List Nat → List Int) : Sp := fun vs H Q _ => ∃ (k : Int) (a : Addr) (l : List Nat), vs = [.int k, .ref a] ∧ SqL K H a (iv l) ∧ ∀ H' p, H' p = some (.lst ((f k l).map V.int)) → Q (.ref p) H'
theorem sc_walk : FnScope ["k", "text", "record", "positions"] ["k", "text"] (defScope (top 109)) := ⟨rfl, rfl, rfl, by decide +kernel, rfl, by decide +kernel, by decide +kernel⟩
theorem fn_walk (t : Tx P w K mg A) {f : Addr} {fd : FuncData} (F : Fun K "walk" "walk" (top 109) f fd) : FnOk P w K mg base (CXN P w A.cNoRecord) 10 f fd ["k", "text"] (spTop2 K walkOut) := by
  refine F.pure sc_walk (fun vs H Q E h => ?_) fun cdv Ar outer s H vs Q E hr h => ?_
  · obtain ⟨k, a, l, rfl, _⟩ := h; rfl
  obtain ⟨k, a, l, rfl, hs, q⟩ := h
  refine ⟨_, (pss_cons (ps_if (pt_not (pt_chain op_le op_le pe_int (pv 0) (pe_con1 t.k_MOST))) (pss_one (ps_ret (pe_lst (pa_cons (pe_con1 t.k_WRONG_FORM) pa_nil)))) pss_nil) (pss_cons (ps_set (i := 2) sc_walk.nd rfl (Or.inl rfl) (pe_callD (ok_read_if_record t) (hr.mono (by decide)) (passC cxn_ok) (pa_cons (pv 1) pa_nil))) (pss_cons (ps_if (pt_cmpR op_isN (pv 2) pe_non (nomark _)) (pss_one (ps_ret (pe_lst (pa_cons (pe_con1 t.k_NO_TEXT) pa_nil)))) pss_nil) (pss_cons (ps_set (i := 3) sc_walk.nd rfl (Or.inl rfl) (pe_callD (ok_positions_of t) (hr.mono (by decide)) (passC cxn_ok) (pa_cons (pv 2) pa_nil))) (pss_cons (ps_if (pt_cmpR op_isN (pv 3) pe_non (nomark _)) (pss_one (ps_ret (pe_lst (pa_cons (pe_con1 t.k_AGAINST_RULES) pa_nil)))) pss_nil) (pss_cons (ps_if (pt_cmpR op_ge (pv 0) (pe_callB (call_len_seqK (K := K) rfl) (by rfl) t.b_len PySem.boot_len (pa_cons (pv 3) pa_nil)) (nomark _)) (pss_one (ps_ret (pe_lst (pa_cons (pe_con1 t.k_NOT_NOW) pa_nil)))) pss_nil) (pss_one (ps_ret (pe_op op_cat (pe_lst (pa_cons (pe_con1 t.k_DONE) pa_nil)) (pe_callD (ok_game_row t) (hr.mono (by decide)) (passC cxn_ok) (pa_cons (pe_ix (ix_listK (K := K) rfl) (pv 3) (pv 0) (fun _ _ => rfl)) pa_nil))))))))))), ?_⟩
  tm_at "rd"
  have q1 : ¬ (0 ≤ k ∧ k ≤ 1000000000) → ∀ p, H p = none → Q (V.ref p) (upd H p (HO.lst [V.int (-1)])) := fun hn p hp => q _ _ (by rw [upd_same]; unfold walkOut; rw [if_neg hn]; rfl)
  by_cases h0 : 0 ≤ k
  case neg => rw [if_neg h0]; exact ⟨sz (by decide), q1 fun z => h0 z.1⟩
  rw [if_pos h0]
  by_cases h1 : k ≤ 1000000000
  case neg =>
    rw [if_pos (by rw [decide_eq_false h1]; rfl)]
    exact ⟨sz (by decide), q1 fun z => h1 z.2⟩
  rw [if_neg (by rw [decide_eq_true h1]; decide)]
  clear q1
  refine ⟨a, l, rfl, hs, ?_⟩
  unfold walkOut at q
  rw [if_pos ⟨h0, h1⟩] at q
  cases hm : mread l with
  | error p =>
    rw [hm] at q
    intro H' s1
    rw [if_pos rfl]
    exact ⟨sz (by decide), fun p hp => q _ _ upd_same⟩
  | ok x =>
    obtain ⟨hds, fl, r⟩ := x
    rw [hm] at q
    simp only [] at q
    intro ho H' x s1 hrec
    rw [if_neg (fun z => by cases z)]
    refine ⟨x, hds, fl, r, rfl, hrec, ho, ?_⟩
    cases ht : trOf hds fl with
    | none =>
      rw [ht] at q
      intro H2 s2
      rw [if_pos rfl]
      exact ⟨sz (by decide), fun p hp => q _ _ upd_same⟩
    | some y =>
      obtain ⟨ps, o⟩ := y
      rw [ht] at q
      cases o with
      | none =>
        intro H2 s2
        rw [if_pos rfl]
        exact ⟨sz (by decide), fun p hp => q _ _ upd_same⟩
      | some g0 =>
        intro H2 b pv s2 hb hpp
        simp only [] at q
        rw [if_neg (fun z => by cases z)]
        refine ⟨b, rfl, _, .inl (SqL.of hb), ?_⟩
        have hlen := Paired.len hpp
        cases hg : ps[k.toNat]? with
        | none =>
          rw [hg] at q
          have := List.getElem?_eq_none_iff.mp hg
          rw [if_pos (by omega)]
          exact ⟨sz (by decide), fun p hp => q _ _ upd_same⟩
        | some g =>
          rw [hg] at q
          have hlt := (List.getElem?_eq_some_iff.mp hg).1
          rw [if_neg (by omega)]
          obtain ⟨v, hv, hpo⟩ := Paired.at' hpp hg
          have ek : ((k.toNat : Nat) : Int) = k := Int.toNat_of_nonneg h0
          refine ⟨sz (by decide), fun p hp => ?_⟩
          have s3 : Same H2 (upd H2 p (.lst [.int 0])) := Same.updN hp
          refine ⟨b, rfl, _, SqL.of (s3 _ _ hb), v, by rw [← ek]; exact atI_nat hv, v, g, rfl, hpo.1.keep s3, hpo.2, fun H3 p3 s4 n3 h3 => ⟨p3, rfl, _, s4 _ _ upd_same, _, h3, sz (by have := row_len hpo.2; rw [iv_len]; simp; omega), fun p4 hp4 => q _ _ ?_⟩⟩
          rw [upd_same, List.map_cons, List.map_map]
          rfl
end
theorem walk_eq {k : Int} {ns : List Int} (h : ∀ x ∈ ns, 0 ≤ x) : PyVbdcam.walk k ns = walkOut k (ns.map Int.toNat) := by
  show (Vbdcam.step VbdcamNeutral.start (.walk k (ns.map Int.toNat))).2 = _
  unfold walkOut
  have e2 := mread_eq (ns.map Int.toNat)
  show (if Vbdcam.from_ k 0 Vbdcam.MOST = false then Vbdcam.no_ VbdcamNeutral.start 1 else match Vbdcam.readRecord (ns.map Int.toNat) with
      | .error _ => Vbdcam.no_ VbdcamNeutral.start 2
      | .ok r => match Vbdcam.opening r with
        | none => Vbdcam.no_ VbdcamNeutral.start 6
        | some g => match Vbdcam.seen g g r.line with
          | none => Vbdcam.no_ VbdcamNeutral.start 6
          | some l => match (g :: l)[k.toNat]? with
            | none => Vbdcam.no_ VbdcamNeutral.start 3
            | some h => Vbdcam.yes_ VbdcamNeutral.start (Vbdcam.gameRow h)).2 = _
  have ef : Vbdcam.from_ k 0 Vbdcam.MOST = decide (0 ≤ k ∧ k ≤ 1000000000) := rfl
  rw [ef]
  by_cases hk : 0 ≤ k ∧ k ≤ 1000000000
  case neg => rw [if_pos (decide_eq_false hk), if_neg hk]; rfl
  rw [if_neg (by rw [decide_eq_true hk]; decide), if_pos hk]
  cases hr : Vbdcam.readRecord (ns.map Int.toNat) with
  | error p =>
    rw [hr] at e2
    rw [e2]
    rfl
  | ok r =>
    rw [hr] at e2
    rw [e2]
    have hw := read_wf hr
    have e0 : Vbdcam.opening r = (headsHeaps r.heads).map fun l => { heaps := l } := rfl
    show (match Vbdcam.opening r with
        | none => Vbdcam.no_ VbdcamNeutral.start 6
        | some g => match Vbdcam.seen g g r.line with
          | none => Vbdcam.no_ VbdcamNeutral.start 6
          | some l => match (g :: l)[k.toNat]? with
            | none => Vbdcam.no_ VbdcamNeutral.start 3
            | some h => Vbdcam.yes_ VbdcamNeutral.start (Vbdcam.gameRow h)).2 = (match trOf r.heads (flat r.line) with
      | some (ps, some _) => (match ps[k.toNat]? with
        | none => [-3]
        | some g => 0 :: (Vbdcam.gameRow g).map fun (n : Nat) => (n : Int))
      | _ => [-6])
    rw [e0]
    unfold trOf
    cases headsHeaps r.heads with
    | none => rfl
    | some n =>
      simp only [Option.map_some]
      rw [← fseen_eq r.line { heaps := n } hw, fseen_ftr]
      generalize ftr (flat r.line) { heaps := n } { heaps := n } [] = y
      obtain ⟨ps, o⟩ := y
      cases o with
      | none => rfl
      | some e =>
        simp only [Option.map_some]
        cases (({ heaps := n } : Vbdcam.Game) :: ps)[k.toNat]? <;> rfl
def spR (K : PySem.W.Frag) : Sp := fun vs H Q _ => ∃ (k : Int) (a : Addr) (ns : List Int), vs = [.int k, .ref a] ∧ SqL K H a (ns.map V.int) ∧ (∀ x ∈ ns, 0 ≤ x) ∧ ∀ (H' : Hp) (p : Addr), H' p = some (.lst ((PyVbdcam.walk k ns).map V.int)) → Q (.ref p) H'
theorem fin_mk {P : Program} {w : World} {K : PySem.W.Frag} {mg : Str → Option Value} {A : Adr} {fa : Addr} (t : Tx P w K mg A) (hfa : mg "walk" = some (.ref fa)) :
    ∃ fd : FuncData, (∀ (s : Shared) (us : List Value), us.length = (["k", "text"] : List Str).length → BindsTo s fd ⟨us, []⟩ ((["k", "text"] : List Str).zip us)) ∧ ∀ base : Heap, FnOk P w K mg base CX0 10 fa fd ["k", "text"] (spR K) := by
  obtain ⟨f, fd, F, hm, hb⟩ := t.s_walk.ex
  have e := hfa.symm.trans hm
  cases e
  obtain ⟨oc, od, kV, doc, pm, an, cdv, ct, osl, rfl, lk, hcd⟩ := F.ex
  refine ⟨PySem.W.fnOf "walk" "walk" (defArgs (top 109)) (defBody (top 109)) (defScope (top 109)) .none kV doc pm an cdv ct, fun s us hu => match us, hu with | [_, _], _ => .of_eq rfl, fun base => ?_⟩
  refine ((fn_walk (base := base) t F).calm cxn_ok fun _ _ _ _ q => q).imp fun vs H Q E h => ?_
  obtain ⟨k, a, ns, rfl, hs, hn, q⟩ := h
  refine ⟨k, a, ns.map Int.toNat, rfl, ?_, fun H' p hp => q H' p ?_⟩
  · rw [iv_toNat hn]; exact hs
  · rw [walk_eq hn]; exact hp
open PySem.W in
theorem sp_in {K : PySem.W.Frag} {H : Hp} {xs : List V} (a : Codec.denoteAll PySem.Challenge.rw_gamerecord_s06_walk.args) (hwi : Codec.withinAll PySem.Challenge.rw_gamerecord_s06_walk.args a = true) (hx : DwAll K H xs (Codec.encAll PySem.Challenge.rw_gamerecord_s06_walk.args a)) :
    spR K xs H (fun v H' => Dw K H' v (PySem.Challenge.rw_gamerecord_s06_walk.ret.enc (Codec.app PySem.Challenge.rw_gamerecord_s06_walk.args PySem.Challenge.rw_gamerecord_s06_walk.f a))) fun _ _ _ => False := by
  cases hx with
  | cons h1 h2 =>
    cases h2 with
    | cons h3 h4 =>
      cases h4
      cases h1
      cases h3 with
      | lst hs ha =>
        have e := ints_dw a.2.1 _ ha
        subst e
        have q : (Codec.inInt (-1000000000000000000) 1000000000000000000 a.1 && ((Codec.inLen 0 10000 a.2.1 && a.2.1.all (Codec.inInt 0 255)) && true)) = true := hwi
        rw [Bool.and_eq_true, Bool.and_eq_true, Bool.and_eq_true] at q
        refine ⟨_, _, a.2.1, rfl, hs, fun x hx => ?_, fun H' p hp => .lst (SqL.of hp) (dw_ints _)⟩
        have := List.all_eq_true.mp q.2.1.2 x hx
        exact (Codec.inInt_iff.mp this).1
end GR
namespace PySem.W.Fast
theorem tw9997376375100644970 : True := ⟨⟩
theorem tw5667255442260052167 : True := ⟨⟩
theorem tw2257833421823696288 : True := ⟨⟩
theorem tw5441240237773304189 : True := ⟨⟩
theorem tw13173876843081035949 : True := ⟨⟩
theorem tw8683016050353065435 : True := ⟨⟩
theorem tw17582685379414620420 : True := ⟨⟩
theorem tw5223295394800402719 : True := ⟨⟩
theorem tw2688816394017354889 : True := ⟨⟩
theorem tw16083979968233633155 : True := ⟨⟩
theorem tw16806952413980458318 : True := ⟨⟩
theorem tw17658149720857775787 : True := ⟨⟩
theorem tw9075058379304161062 : True := ⟨⟩
theorem tw10700258800636221953 : True := ⟨⟩
theorem tw640344453958930664 : True := ⟨⟩
theorem tw15035587374848516206 : True := ⟨⟩
theorem tw12024839714081549523 : True := ⟨⟩
theorem tw14112851193263045315 : True := ⟨⟩
theorem tw3723547300502213337 : True := ⟨⟩
theorem tw8328824328349310335 : True := ⟨⟩
theorem tw11079644744928323990 : True := ⟨⟩
theorem tw17320149131535799536 : True := ⟨⟩
theorem tw6464075007707717172 : True := ⟨⟩
theorem tw9245080429343093611 : True := ⟨⟩
theorem tw17154165238949643453 : True := ⟨⟩
theorem tw17470763953167815207 : True := ⟨⟩
theorem tw18341459274227685616 : True := ⟨⟩
theorem tw12741055250970600129 : True := ⟨⟩
theorem tw16164476046572143028 : True := ⟨⟩
theorem tw6531655295899849947 : True := ⟨⟩
theorem tw13964918685392320617 : True := ⟨⟩
theorem tw352429977486193626 : True := ⟨⟩
theorem tw6328529233029591645 : True := ⟨⟩
theorem tw1115086497750477112 : True := ⟨⟩
theorem tw17641610916362807012 : True := ⟨⟩
theorem tw4861646811877240050 : True := ⟨⟩
theorem tw1293903110738419957 : True := ⟨⟩
theorem tw5639621721898206111 : True := ⟨⟩
theorem tw7758394742058900703 : True := ⟨⟩
theorem tw18073865987641378441 : True := ⟨⟩
theorem tw252857020659924345 : True := ⟨⟩
theorem tw435826052410721725 : True := ⟨⟩
theorem tw9730740087818558595 : True := ⟨⟩
theorem tw2767436106401597706 : True := ⟨⟩
theorem tw13625700314430076228 : True := ⟨⟩
theorem tw10198533185831278417 : True := ⟨⟩
theorem tw9688202951146060571 : True := ⟨⟩
theorem tw9875126936465128966 : True := ⟨⟩
theorem tw3501181385922176233 : True := ⟨⟩
theorem tw15444422846947307354 : True := ⟨⟩
theorem tw17459042271220496790 : True := ⟨⟩
theorem tw8145974108247973679 : True := ⟨⟩
theorem tw5843015340415886075 : True := ⟨⟩
theorem tw1263183430099761390 : True := ⟨⟩
theorem tw4689758619684472197 : True := ⟨⟩
theorem tw15830549156413463213 : True := ⟨⟩
theorem tw10784191138286443508 : True := ⟨⟩
theorem tw5939400615063978285 : True := ⟨⟩
theorem tw1851353909833718631 : True := ⟨⟩
theorem tw4834470080188114586 : True := ⟨⟩
theorem tw14542638926558051111 : True := ⟨⟩
theorem tw12844630234312277195 : True := ⟨⟩
theorem tw17277570979859139228 : True := ⟨⟩
theorem tw12941021139990455407 : True := ⟨⟩
theorem tw14847649222062649379 : True := ⟨⟩
theorem tw16090769224510063443 : True := ⟨⟩
theorem tw12466579044196625880 : True := ⟨⟩
theorem tw195852400681493331 : True := ⟨⟩
theorem tw11361651348396370517 : True := ⟨⟩
theorem tw10537856646376370419 : True := ⟨⟩
theorem tw3886114683661955450 : True := ⟨⟩
theorem tw10757255427282382751 : True := ⟨⟩
theorem tw16528827105756310175 : True := ⟨⟩
theorem tw13581822469418291876 : True := ⟨⟩
theorem tw446632798145816214 : True := ⟨⟩
theorem tw2069808248565625596 : True := ⟨⟩
theorem tw14464662375637823721 : True := ⟨⟩
theorem tw16649025916544610558 : True := ⟨⟩
theorem tw14363214760614154043 : True := ⟨⟩
theorem tw11691728387040116090 : True := ⟨⟩
theorem tw12009806838585562866 : True := ⟨⟩
theorem tw15102584701102857091 : True := ⟨⟩
theorem tw7407992987690963545 : True := ⟨⟩
theorem tw13431061828427500927 : True := ⟨⟩
theorem tw14643431948650354382 : True := ⟨⟩
theorem tw8425646791940503675 : True := ⟨⟩
theorem tw4105908974700695951 : True := ⟨⟩
theorem tw9705605954752609468 : True := ⟨⟩
theorem tw6497031026194863774 : True := ⟨⟩
theorem tw6132222908924918424 : True := ⟨⟩
theorem tw15512977303974666488 : True := ⟨⟩
theorem tw11722512763917941643 : True := ⟨⟩
theorem tw18344672557693982078 : True := ⟨⟩
theorem tw6449424761840945238 : True := ⟨⟩
theorem tw6428490303201232378 : True := ⟨⟩
theorem tw1136630214890759442 : True := ⟨⟩
theorem tw5852989295658933958 : True := ⟨⟩
theorem tw17368280256361733915 : True := ⟨⟩
theorem tw13498194958799637561 : True := ⟨⟩
theorem tw13573238014465963412 : True := ⟨⟩
theorem tw270856636063433430 : True := ⟨⟩
theorem tw8637478002098960520 : True := ⟨⟩
theorem tw5629159904534351848 : True := ⟨⟩
theorem tw508468062818842167 : True := ⟨⟩
theorem tw6949308394557561085 : True := ⟨⟩
theorem tw7377899722045724147 : True := ⟨⟩
theorem tw17758181882785486470 : True := ⟨⟩
theorem tw2288416675502061775 : True := ⟨⟩
theorem tw8415918517972121063 : True := ⟨⟩
theorem tw10886883802002557430 : True := ⟨⟩
theorem tw8261378556434720968 : True := ⟨⟩
theorem tw4104186140964331678 : True := ⟨⟩
theorem tw16534097511764029798 : True := ⟨⟩
theorem tw17884840879532808431 : True := ⟨⟩
theorem tw2486687126904871859 : True := ⟨⟩
theorem tw8240135405065401176 : True := ⟨⟩
theorem tw1934477914938352449 : True := ⟨⟩
theorem tw12442812923380309469 : True := ⟨⟩
theorem tw1324671803391629911 : True := ⟨⟩
theorem tw1481276404591890254 : True := ⟨⟩
theorem tw7049510968540996604 : True := ⟨⟩
theorem tw10300382835665999418 : True := ⟨⟩
theorem tw3824083727846207685 : True := ⟨⟩
theorem tw14681494265815956269 : True := ⟨⟩
theorem tw10247248832008148311 : True := ⟨⟩
theorem tw1651614507237826600 : True := ⟨⟩
theorem tw8274208269904543797 : True := ⟨⟩
theorem tw2537529735528672062 : True := ⟨⟩
theorem tw6558133406394482606 : True := ⟨⟩
theorem tw12060144635467226459 : True := ⟨⟩
theorem tw18331586839604337124 : True := ⟨⟩
theorem tw10903922604819949921 : True := ⟨⟩
theorem tw7435625927833253998 : True := ⟨⟩
theorem tw15034499779977780746 : True := ⟨⟩
theorem tw172571351267546094 : True := ⟨⟩
theorem tw11554418986050443045 : True := ⟨⟩
theorem tw11166243641552888372 : True := ⟨⟩
theorem tw2354881608988044235 : True := ⟨⟩
theorem tw1152095970392299014 : True := ⟨⟩
theorem tw14108202924715102715 : True := ⟨⟩
theorem tw14327188038511467619 : True := ⟨⟩
theorem tw10844972012562990925 : True := ⟨⟩
theorem tw16738104716123178913 : True := ⟨⟩
theorem tw254173104727983188 : True := ⟨⟩
theorem tw8248328841733903553 : True := ⟨⟩
theorem tw11757125675595250858 : True := ⟨⟩
theorem tw8479562566017062817 : True := ⟨⟩
theorem tw8310064272895716782 : True := ⟨⟩
theorem tw14660895452686367608 : True := ⟨⟩
theorem tw13076448439842021368 : True := ⟨⟩
theorem tw16148678232811193137 : True := ⟨⟩
theorem tw2003506025646179608 : True := ⟨⟩
theorem tw6065349770058674127 : True := ⟨⟩
theorem tw18310957039920060137 : True := ⟨⟩
theorem tw7505123338318190805 : True := ⟨⟩
theorem tw10648396135882151991 : True := ⟨⟩
theorem tw4062531685211308363 : True := ⟨⟩
theorem tw8325543846159717682 : True := ⟨⟩
theorem tw14966776869512081781 : True := ⟨⟩
theorem tw7580278828687533755 : True := ⟨⟩
theorem tw8636228425312512743 : True := ⟨⟩
theorem tw8929322549584261201 : True := ⟨⟩
theorem tw10865415584609906228 : True := ⟨⟩
theorem tw15928125134941763103 : True := ⟨⟩
theorem tw2971836441482267544 : True := ⟨⟩
theorem tw1567218468212742477 : True := ⟨⟩
theorem tw8994495515200894632 : True := ⟨⟩
theorem tw6534992221033043366 : True := ⟨⟩
theorem tw17249277817080513663 : True := ⟨⟩
theorem tw9890332804229411478 : True := ⟨⟩
theorem tw10870782839294330195 : True := ⟨⟩
theorem tw9842147621268793450 : True := ⟨⟩
theorem tw7892379989374222464 : True := ⟨⟩
theorem tw15064809861338958188 : True := ⟨⟩
theorem tw5163727403617015078 : True := ⟨⟩
theorem tw11014986730153031111 : True := ⟨⟩
theorem tw11124243914497933574 : True := ⟨⟩
theorem tw6774255993490579151 : True := ⟨⟩
theorem tw13912394722841250486 : True := ⟨⟩
theorem tw3336803236224135059 : True := ⟨⟩
theorem tw15395155110042295274 : True := ⟨⟩
theorem tw7898342998054868496 : True := ⟨⟩
theorem tw15403695735408973499 : True := ⟨⟩
theorem tw18221779163024783033 : True := ⟨⟩
theorem tw9345854519996114795 : True := ⟨⟩
theorem tw17859404806155363550 : True := ⟨⟩
theorem tw2775830880185424260 : True := ⟨⟩
theorem tw1839762988737254960 : True := ⟨⟩
theorem tw12400159582476390530 : True := ⟨⟩
theorem tw2268265244541893842 : True := ⟨⟩
theorem tw17367334095725305579 : True := ⟨⟩
theorem tw12490474531388454160 : True := ⟨⟩
theorem tw15390521472207873767 : True := ⟨⟩
theorem tw6360131779818184679 : True := ⟨⟩
theorem tw12426019010078265954 : True := ⟨⟩
theorem tw11281019038389958707 : True := ⟨⟩
theorem tw7077054347627991323 : True := ⟨⟩
theorem tw5450104071526031741 : True := ⟨⟩
theorem tw161466754890344927 : True := ⟨⟩
theorem tw10167974540293583208 : True := ⟨⟩
theorem tw14526454455180375707 : True := ⟨⟩
theorem tw8643478958366281983 : True := ⟨⟩
theorem tw13018734504228806039 : True := ⟨⟩
theorem tw18323596856777423666 : True := ⟨⟩
theorem tw10853760603738412733 : True := ⟨⟩
theorem tw8912792971699504394 : True := ⟨⟩
theorem tw481112097263134880 : True := ⟨⟩
theorem tw1536150661928666958 : True := ⟨⟩
theorem tw13600751725896797214 : True := ⟨⟩
theorem tw6824641611535857362 : True := ⟨⟩
theorem tw11394453218429920197 : True := ⟨⟩
theorem tw8280667950646105678 : True := ⟨⟩
theorem tw1556458416744392919 : True := ⟨⟩
theorem tw3232167332717188060 : True := ⟨⟩
theorem tw12899898131442743654 : True := ⟨⟩
theorem tw17508139071954782868 : True := ⟨⟩
theorem tw9941636890581452596 : True := ⟨⟩
theorem tw15344369535937912946 : True := ⟨⟩
theorem tw8764748428161346185 : True := ⟨⟩
theorem tw2290455666731778923 : True := ⟨⟩
theorem tw7780857436794498025 : True := ⟨⟩
theorem tw2031169089316002227 : True := ⟨⟩
theorem tw5993667527720241888 : True := ⟨⟩
theorem tw8305003510018505214 : True := ⟨⟩
theorem tw7176616096280815468 : True := ⟨⟩
theorem tw18368575207174930306 : True := ⟨⟩
theorem tw15690647441180496443 : True := ⟨⟩
theorem tw8553041379191078827 : True := ⟨⟩
theorem tw4038306367361624802 : True := ⟨⟩
theorem tw8559943307454426026 : True := ⟨⟩
theorem tw15006987912951373564 : True := ⟨⟩
theorem tw18318387011478050142 : True := ⟨⟩
theorem tw3617003323251078078 : True := ⟨⟩
theorem tw5976430166489806272 : True := ⟨⟩
theorem tw10085015899326492763 : True := ⟨⟩
theorem tw5968052799853927371 : True := ⟨⟩
theorem tw3415714979515712472 : True := ⟨⟩
theorem tw12084689470901520047 : True := ⟨⟩
theorem tw5375509485934378672 : True := ⟨⟩
theorem tw2893508545040067243 : True := ⟨⟩
theorem tw12522637136799816581 : True := ⟨⟩
theorem tw91527462242448940 : True := ⟨⟩
theorem tw15308533183757892997 : True := ⟨⟩
theorem tw9301723155497538573 : True := ⟨⟩
theorem tw8851900458421219303 : True := ⟨⟩
theorem tw9531229088021039798 : True := ⟨⟩
theorem tw2439829942783974585 : True := ⟨⟩
theorem tw2963935074911076502 : True := ⟨⟩
theorem tw1526568088200189210 : True := ⟨⟩
theorem tw13552019415293046784 : True := ⟨⟩
theorem tw16945071859940932667 : True := ⟨⟩
theorem tw12872889044190966480 : True := ⟨⟩
theorem tw11588768509725024258 : True := ⟨⟩
theorem tw9208262988726382982 : True := ⟨⟩
theorem tw13551873113080973854 : True := ⟨⟩
theorem tw8011470520672093578 : True := ⟨⟩
theorem tw13983290225120044590 : True := ⟨⟩
theorem tw15035932544612088154 : True := ⟨⟩
theorem tw1365415993955798393 : True := ⟨⟩
theorem tw9002510236486069165 : True := ⟨⟩
theorem tw5207070867957015666 : True := ⟨⟩
theorem tw243817931751467893 : True := ⟨⟩
theorem tw9949277792302341752 : True := ⟨⟩
theorem tw10084809498523170137 : True := ⟨⟩
theorem tw1529830767290263529 : True := ⟨⟩
theorem tw9325986140991358755 : True := ⟨⟩
theorem tw16223481273673050124 : True := ⟨⟩
theorem tw4415028113870738631 : True := ⟨⟩
theorem tw3940292456123181305 : True := ⟨⟩
theorem tw17306648820316888414 : True := ⟨⟩
theorem tw11458350809402637297 : True := ⟨⟩
theorem tw4062232024963148776 : True := ⟨⟩
theorem tw12176770591556612793 : True := ⟨⟩
theorem tw5910709760174741398 : True := ⟨⟩
theorem tw16370043574733291393 : True := ⟨⟩
theorem tw14300905778154716106 : True := ⟨⟩
theorem tw15820403647099323736 : True := ⟨⟩
theorem tw11206252264570052366 : True := ⟨⟩
theorem tw2126978040618549293 : True := ⟨⟩
theorem tw1355839945136329828 : True := ⟨⟩
theorem tw8587169469527569198 : True := ⟨⟩
theorem tw734754384749103297 : True := ⟨⟩
theorem tw14196993135242169970 : True := ⟨⟩
theorem tw13051951953530909027 : True := ⟨⟩
theorem tw793582479661919793 : True := ⟨⟩
theorem tw6299915331767865790 : True := ⟨⟩
theorem tw4346373834351329442 : True := ⟨⟩
theorem tw17147657563534101136 : True := ⟨⟩
theorem tw10221892143077219101 : True := ⟨⟩
theorem tw16862924045045664889 : True := ⟨⟩
theorem tw5283701645078688426 : True := ⟨⟩
theorem tw8088853519362947167 : True := ⟨⟩
theorem tw8813607701861174555 : True := ⟨⟩
theorem tw9169696403259974692 : True := ⟨⟩
theorem tw4924270692779106534 : True := ⟨⟩
theorem tw15459690419895856914 : True := ⟨⟩
theorem tw14395129641369674242 : True := ⟨⟩
theorem tw2620999879300859503 : True := ⟨⟩
theorem tw6847246922456274182 : True := ⟨⟩
theorem tw17846269374641143831 : True := ⟨⟩
theorem tw8694025539447066233 : True := ⟨⟩
theorem tw16851730539399475698 : True := ⟨⟩
theorem tw6560689869546617509 : True := ⟨⟩
theorem tw6191453281535872742 : True := ⟨⟩
theorem tw12100968736617254891 : True := ⟨⟩
theorem tw16605151289290945002 : True := ⟨⟩
theorem tw6575549345880027645 : True := ⟨⟩
theorem tw3016857888549679205 : True := ⟨⟩
theorem tw6010073673257548691 : True := ⟨⟩
theorem tw6922580083929053871 : True := ⟨⟩
theorem tw8408719116651850645 : True := ⟨⟩
theorem tw16206455377069239472 : True := ⟨⟩
theorem tw17727200305611303218 : True := ⟨⟩
theorem tw4037589435428516631 : True := ⟨⟩
theorem tw6689523576527489245 : True := ⟨⟩
theorem tw1730912635806334034 : True := ⟨⟩
theorem tw16561541785885042496 : True := ⟨⟩
theorem tw14013500020260544036 : True := ⟨⟩
theorem tw7561571437611967081 : True := ⟨⟩
theorem tw4038079906724200461 : True := ⟨⟩
theorem tw8908154535255149835 : True := ⟨⟩
theorem tw6050620799411096390 : True := ⟨⟩
theorem tw12431297160523547083 : True := ⟨⟩
theorem tw6473038567205915831 : True := ⟨⟩
theorem tw12477789800512983794 : True := ⟨⟩
theorem tw8008417343567307548 : True := ⟨⟩
theorem tw18219019187656127222 : True := ⟨⟩
theorem tw2439530399407294425 : True := ⟨⟩
theorem tw6477548285517037033 : True := ⟨⟩
theorem tw5775604544122092422 : True := ⟨⟩
theorem tw14791925529407659192 : True := ⟨⟩
theorem tw18044229094772599078 : True := ⟨⟩
theorem tw10410639134616961162 : True := ⟨⟩
theorem tw6202368052294452087 : True := ⟨⟩
theorem tw6136027239602292010 : True := ⟨⟩
theorem tw3049965138677891491 : True := ⟨⟩
theorem tw1556019546800084585 : True := ⟨⟩
theorem tw6601686958806945030 : True := ⟨⟩
theorem tw3320210508166169124 : True := ⟨⟩
theorem tw8404650360614935887 : True := ⟨⟩
theorem tw18152025812381535677 : True := ⟨⟩
theorem tw4652118282690219362 : True := ⟨⟩
theorem tw11780607114615787852 : True := ⟨⟩
theorem tw4315179400231312079 : True := ⟨⟩
theorem tw4215428638221146114 : True := ⟨⟩
theorem tw11974494301456516927 : True := ⟨⟩
theorem tw9779263759103483894 : True := ⟨⟩
theorem tw1623221527149081381 : True := ⟨⟩
theorem tw2094493647229084402 : True := ⟨⟩
theorem tw6892377238803042462 : True := ⟨⟩
theorem tw1855722069597209782 : True := ⟨⟩
theorem tw7754067792283382624 : True := ⟨⟩
theorem tw6650723357872029560 : True := ⟨⟩
theorem tw9785477148799903278 : True := ⟨⟩
theorem tw11990946571702007873 : True := ⟨⟩
theorem tw5797906210551404908 : True := ⟨⟩
theorem tw13662644518599645593 : True := ⟨⟩
theorem tw6866557185824525107 : True := ⟨⟩
theorem tw2832474645613188058 : True := ⟨⟩
theorem tw10437305435440253085 : True := ⟨⟩
theorem tw16588940969469056552 : True := ⟨⟩
theorem tw6444985713392536219 : True := ⟨⟩
theorem tw7137719411738447927 : True := ⟨⟩
theorem tw15377914564191677367 : True := ⟨⟩
theorem tw974256140492547632 : True := ⟨⟩
theorem tw11003184815139569871 : True := ⟨⟩
theorem tw12435583430644208908 : True := ⟨⟩
theorem tw12176103651351011898 : True := ⟨⟩
theorem tw13562485743556987833 : True := ⟨⟩
theorem tw17234932533474526954 : True := ⟨⟩
theorem tw8326828156858572372 : True := ⟨⟩
theorem tw10152240186081650866 : True := ⟨⟩
theorem tw13543437070982093345 : True := ⟨⟩
theorem tw2583892618539915259 : True := ⟨⟩
theorem tw254860670545714919 : True := ⟨⟩
theorem tw1618342024625895014 : True := ⟨⟩
theorem tw16121063852476854220 : True := ⟨⟩
theorem tw5872053654112458718 : True := ⟨⟩
theorem tw17612924094283585616 : True := ⟨⟩
theorem tw14900263022796497469 : True := ⟨⟩
theorem tw9170333606288964431 : True := ⟨⟩
theorem tw10577965750536787510 : True := ⟨⟩
theorem tw13731651270764503255 : True := ⟨⟩
theorem tw182492288022299361 : True := ⟨⟩
theorem tw12245418389903382861 : True := ⟨⟩
theorem tw15814207566973707315 : True := ⟨⟩
theorem tw9119382384881183300 : True := ⟨⟩
theorem tw1006517808756546973 : True := ⟨⟩
theorem tw18020576863469274755 : True := ⟨⟩
theorem tw16139096241804144711 : True := ⟨⟩
theorem tw15763295777381813399 : True := ⟨⟩
theorem tw2021955102683636345 : True := ⟨⟩
theorem tw17523047569838944377 : True := ⟨⟩
theorem tw5970458400974800105 : True := ⟨⟩
theorem tw16281785249617889622 : True := ⟨⟩
theorem tw2681544320502851761 : True := ⟨⟩
theorem tw17289193254803207398 : True := ⟨⟩
theorem tw9794999063195393414 : True := ⟨⟩
theorem tw889906252198255880 : True := ⟨⟩
theorem tw7410490378086438000 : True := ⟨⟩
theorem tw9037257259229295585 : True := ⟨⟩
theorem tw17952141634390977584 : True := ⟨⟩
theorem tw6869409227239955164 : True := ⟨⟩
theorem tw18057632957505229085 : True := ⟨⟩
theorem tw10716593948409959759 : True := ⟨⟩
theorem tw7173864247842225151 : True := ⟨⟩
theorem tw10484572968219991420 : True := ⟨⟩
theorem tw14144376571224635928 : True := ⟨⟩
theorem tw7726430364058005349 : True := ⟨⟩
theorem tw15769133634672262419 : True := ⟨⟩
theorem tw11712468099293886798 : True := ⟨⟩
theorem tw2782366642952602492 : True := ⟨⟩
theorem tw9289198871690663065 : True := ⟨⟩
theorem tw15118034718585535822 : True := ⟨⟩
theorem tw2268214586174222674 : True := ⟨⟩
theorem tw197526304218197385 : True := ⟨⟩
theorem tw11112544077255739455 : True := ⟨⟩
theorem tw11673109376897203791 : True := ⟨⟩
theorem tw14890989395956900312 : True := ⟨⟩
theorem tw11111749277173096264 : True := ⟨⟩
theorem tw8373530061606375694 : True := ⟨⟩
theorem tw1052454332278123135 : True := ⟨⟩
theorem tw15959645691404826392 : True := ⟨⟩
theorem tw1470040248686480146 : True := ⟨⟩
theorem tw16705433777219806943 : True := ⟨⟩
theorem tw5809081462821943312 : True := ⟨⟩
theorem tw1052170401673417861 : True := ⟨⟩
theorem tw15532780954288887053 : True := ⟨⟩
theorem tw4779332210236280754 : True := ⟨⟩
theorem tw12200719407287728225 : True := ⟨⟩
theorem tw6189982455267405966 : True := ⟨⟩
theorem tw2031384209648189446 : True := ⟨⟩
theorem tw4783618370722950770 : True := ⟨⟩
theorem tw6397733588675468381 : True := ⟨⟩
theorem tw728778691713713904 : True := ⟨⟩
theorem tw14919588753504968518 : True := ⟨⟩
theorem tw2796301649495201382 : True := ⟨⟩
theorem tw5250078803334413967 : True := ⟨⟩
theorem tw13068733026246547477 : True := ⟨⟩
theorem tw4930780522761683096 : True := ⟨⟩
theorem tw13682577092747709597 : True := ⟨⟩
theorem tw12627246081225457015 : True := ⟨⟩
theorem tw7198565306607659189 : True := ⟨⟩
theorem tw8753641645905097041 : True := ⟨⟩
theorem tw11671590728924212000 : True := ⟨⟩
theorem tw8787339382567775346 : True := ⟨⟩
theorem tw16856671879320534055 : True := ⟨⟩
theorem tw581066101452747042 : True := ⟨⟩
theorem tw9638658617147821498 : True := ⟨⟩
theorem tw14572174905902622635 : True := ⟨⟩
theorem tw5389920012499872641 : True := ⟨⟩
theorem tw4772354062988971347 : True := ⟨⟩
theorem tw2871296863922250056 : True := ⟨⟩
theorem tw10074658512378851561 : True := ⟨⟩
theorem tw10502813956965327798 : True := ⟨⟩
theorem tw15019544022475108207 : True := ⟨⟩
theorem tw1018064756535911981 : True := ⟨⟩
theorem tw2591806795482900667 : True := ⟨⟩
theorem tw6373212479909869603 : True := ⟨⟩
theorem tw8119361395075416834 : True := ⟨⟩
theorem tw8934412249531807957 : True := ⟨⟩
theorem tw5088095521465465299 : True := ⟨⟩
theorem tw6098531022315654872 : True := ⟨⟩
theorem tw2222465677445550433 : True := ⟨⟩
theorem tw12895567995963118766 : True := ⟨⟩
theorem tw13543663186043807179 : True := ⟨⟩
theorem tw3922100159868253550 : True := ⟨⟩
theorem tw12976673746116617667 : True := ⟨⟩
theorem tw1407305326042656735 : True := ⟨⟩
theorem tw11228148724696262637 : True := ⟨⟩
theorem tw1678702757825459921 : True := ⟨⟩
theorem tw16104891459021552826 : True := ⟨⟩
theorem tw5218663218357329070 : True := ⟨⟩
theorem tw8093736829733357303 : True := ⟨⟩
theorem tw1032346457554491140 : True := ⟨⟩
theorem tw14043767266648786601 : True := ⟨⟩
theorem tw9143857377032942772 : True := ⟨⟩
theorem tw16920067526553315239 : True := ⟨⟩
theorem tw8026859340682865893 : True := ⟨⟩
end PySem.W.Fast
open PySem PySem.W PyProof.Rows
set_option Elab.async false
set_option linter.all false
set_option maxRecDepth 100000 in
set_option maxHeartbeats 0 in
theorem PySem.Challenge.cw_gamerecord_s06_walk_holds : PySem.Challenge.rw_gamerecord_s06_walk.Holds := by
  w_on; k_headS; (case hw => exact ⟨[.int 0, .list []], by decide +kernel, by decide +kernel⟩)
  k_fillS
  refine L2.walk_specK (r := PySem.Challenge.rw_gamerecord_s06_walk) (k := 10) (CX := L2.CX0) (ps := ["k", "text"]) (sp := GR.spR) (by decide +kernel) rfl rfl ⟨rfl, by decide, by decide⟩ (fun w h Y => PySem.W.kIn_of Y) ?F ?S (fun _ _ _ _ z => z)
  case F =>
    intro w mg fa h Y KX G hmg
    refine' (GR.fin_mk (P := PySem.Challenge.rw_gamerecord_s06_walk.prog) (w := w) (GR.tx_mk KX G ?qih ?qii ?qij ?qik ?qil ?qim ?qin ?qio ?qip ?qiq ?qir ?qis ?qit ?qiu ?qiv ?qiw ?qix ?qiy ?qiz ?qj0 ?qj1 ?qj2 ?qj3 ?qj4 ?qj5 ?qj6 ?qj7 ?qj8 ?qj9 ?qja ?qjb ?qjc ?qjd ?qje ?qjf ?qjg ?qjh ?qji ?qjj ?qjk ?qjl ?qjm ?qjn ?qjo ?qjp ?qjq ?qjr ?qjs ?qjt ?qju ?qjv ?qjw ?qjx ?qjy ?qjz ?qk0 ?qk1 ?qk2 ?qk3 ?qk4 ?qk5 ?qk6 ?qk7 ?qk8 ?qk9 ?qka ?qkb ?qkc ?qkd ?qke ?qkf ?qkg ?qkh ?qki ?qkj ?qkk ?qkl ?qkm ?qkn ?qko ?qkp ?qkq ?qkr ?qks ?qkt ?qku ?qkv ?qkw ?qkx ?qky ?qkz ?ql0 ?ql1 ?ql2 ?ql3 ?ql4 ?ql5 ?ql6 ?ql7 ?ql8 ?ql9 ?qla ?qlb ?qlc ?qld ?qle ?qlf ?qlg ?qlh ?qli ?qlj ?qlk ?qll ?qlm ?qln ?qlo ?qlp ?qlq ?qlr ?qls ?qlt ?qlu ?qlv ?qlw ?qlx ?qly ?qlz ?qm0 ?qm1 ?qm2 ?qm3 ?qm4 ?qm5 ?qm6 ?qm7 ?qm8 ?qm9 ?qma ?qmb ?qmc ?qmd ?qme ?qmf ?qmg ?qmh ?qmi ?qmj ?qmk ?qml ?qmm ?qmn ?qmo ?qmp ?qmq ?qmr ?qms ?qmt ?qmu ?qmv ?qmw ?qmx ?qmy ?qmz ?qn0 ?qn1 ?qn2 ?qn3 ?qn4 ?qn5 ?qn6 ?qn7 ?qn8 ?qn9 ?qna ?qnb ?qnc ?qnd ?qne ?qnf ?qng ?qnh ?qni ?qnj ?qnk ?qnl ?qnm ?qnn ?qno ?qnp ?qnq ?qnr ?qns ?qnt ?qnu ?qnv ?qnw ?qnx ?qny ?qnz ?qo0 ?qo1 ?qo2 ?qo3 ?qo4 ?qo5 ?qo6 ?qo7 ?qo8 ?qo9 ?qoa ?qob ?qoc ?qod ?qoe ?qof ?qog ?qoh ?qoi ?qoj ?qok ?qol ?qom ?qon ?qoo ?qop ?qoq ?qor ?qos ?qot ?qou ?qov ?qow ?qox ?qoy ?qoz ?qp0 ?qp1 ?qp2 ?qp3 ?qp4 ?qp5 ?qp6 ?qp7 ?qp8 ?qp9 ?qpa ?qpb ?qpc ?qpd ?qpe ?qpf ?qpg ?qph ?qpi ?qpj ?qpk ?qpl ?qpm ?qpn ?qpo ?qpp ?qpq ?qpr ?qps ?qpt ?qpu ?qpv ?qpw ?qpx ?qpy ?qpz ?qq0 ?qq1 ?qq2 ?qq3 ?qq4 ?qq5 ?qq6 ?qq7 ?qq8 ?qq9 ?qqa ?qqb ?qqc ?qqd ?qqe ?qqf ?qqg ?qqh ?qqi ?qqj ?qqk ?qql ?qqm ?qqn ?qqo ?qqp ?qqq ?qqr ?qqs ?qqt ?qqu ?qqv ?qqw ?qqx ?qqy ?qqz ?qr0 ?qr1 ?qr2 ?qr3 ?qr4 ?qr5 ?qr6 ?qr7 ?qr8 ?qr9 ?qra ?qrb ?qrc ?qrd ?qre ?qrf ?qrg ?qrh ?qri ?qrj ?qrk ?qrl ?qrm ?qrn ?qro ?qrp ?qrq ?qrr ?qrs ?qrt ?qru ?qrv ?qrw ?qrx ?qry ?qrz ?qs0 ?qs1 ?qs2 ?qs3 ?qs4 ?qs5 ?qs6 ?qs7 ?qs8 ?qs9 ?qsa ?qsb ?qsc ?qsd ?qse ?qsf ?qsg ?qsh ?qsi ?qsj ?qsk ?qsl ?qsm ?qsn ?qso ?qsp ?qsq ?qsr ?qss ?qst ?qsu ?qsv ?qsw ?qsx ?qsy ?qsz ?qt0 ?qt1 ?qt2 ?qt3 ?qt4 ?qt5) hmg).imp fun fd hfd => ⟨hfd.1, fun base _ _ => hfd.2 base⟩
    (case qih => k_is)
    (case qii => k_is)
    (case qij => k_is)
    (case qik => k_is)
    (case qil => k_is)
    (case qim => k_is)
    (case qin => k_is)
    (case qio => k_is)
    (case qip => k_is)
    (case qiq => k_is)
    (case qir => k_is)
    (case qis => decide)
    (case qit => exact .str _ _ _ _ (.str _ _ _ _ (.nil)))
    (case qiu => k_is)
    (case qiv => k_is)
    (case qiw => k_is)
    (case qix => k_is)
    (case qiy => k_is)
    (case qiz => k_is)
    (case qj0 => k_is)
    (case qj1 => k_is)
    (case qj2 => k_is)
    (case qj3 => k_is)
    (case qj4 => k_is)
    (case qj5 => k_is)
    (case qj6 => k_is)
    (case qj7 => k_is)
    (case qj8 => k_is)
    (case qj9 => k_is)
    (case qja => decide)
    (case qjb => exact .int _ _ _ _ (.int _ _ _ _ (.int _ _ _ _ (.int _ _ _ _ (.int _ _ _ _ (.int _ _ _ _ (.int _ _ _ _ (.int _ _ _ _ (.int _ _ _ _ (.int _ _ _ _ (.int _ _ _ _ (.int _ _ _ _ (.int _ _ _ _ (.int _ _ _ _ (.int _ _ _ _ (.int _ _ _ _ (.int _ _ _ _ (.int _ _ _ _ (.int _ _ _ _ (.int _ _ _ _ (.int _ _ _ _ (.int _ _ _ _ (.int _ _ _ _ (.int _ _ _ _ (.int _ _ _ _ (.int _ _ _ _ (.nil)))))))))))))))))))))))))))
    (case qjc => k_is)
    (case qjd => k_is)
    (case qje => k_is)
    (case qjf => k_is)
    (case qjg => k_is)
    (case qjh => k_is)
    (case qji => k_is)
    (case qjj => k_is)
    (case qjk => k_is)
    (case qjl => k_is)
    (case qjm => exact .cons ⟨_, rfl⟩ (.cons ⟨_, rfl⟩ (.cons ⟨_, rfl⟩ (.cons ⟨_, rfl⟩ (.nil)))))
    (case qjn => k_is)
    (case qjo => k_is)
    (case qjp => exact .cons ⟨_, rfl⟩ (.cons ⟨_, rfl⟩ (.cons ⟨_, rfl⟩ (.cons ⟨_, rfl⟩ (.cons ⟨_, rfl⟩ (.cons ⟨_, rfl⟩ (.nil)))))))
    (case qjq => k_is)
    (case qjr => k_is)
    (case qjs => k_is)
    (case qjt => k_is)
    (case qju => decide)
    (case qjv => exact .int _ _ _ _ (.int _ _ _ _ (.int _ _ _ _ (.int _ _ _ _ (.nil)))))
    (case qjw => k_is)
    (case qjx => k_is)
    (case qjy => exact .cons ⟨_, rfl⟩ (.cons ⟨_, rfl⟩ (.cons ⟨_, rfl⟩ (.cons ⟨_, rfl⟩ (.cons ⟨_, rfl⟩ (.cons ⟨_, rfl⟩ (.cons ⟨_, rfl⟩ (.cons ⟨_, rfl⟩ (.cons ⟨_, rfl⟩ (.cons ⟨_, rfl⟩ (.nil)))))))))))
    (case qjz => k_is)
    (case qk0 => k_is)
    (case qk1 => k_is)
    (case qk2 => k_is)
    (case qk3 => k_is)
    (case qk4 => k_is)
    (case qk5 => k_is)
    (case qk6 => k_is)
    (case qk7 => k_is)
    (case qk8 => k_is)
    (case qk9 => k_is)
    (case qka => k_is)
    (case qkb => k_is)
    (case qkc => k_is)
    (case qkd => k_is)
    (case qke => k_is)
    (case qkf => k_is)
    (case qkg => k_is)
    (case qkh => k_is)
    (case qki => k_is)
    (case qkj => k_is)
    (case qkk => k_is)
    (case qkl => k_is)
    (case qkm => k_is)
    (case qkn => k_is)
    (case qko => k_is)
    (case qkp => k_is)
    (case qkq => k_is)
    (case qkr => k_is)
    (case qks => k_is)
    (case qkt => k_is)
    (case qku => k_is)
    (case qkv => k_is)
    (case qkw => k_is)
    (case qkx => k_is)
    (case qky => k_is)
    (case qkz => k_is)
    (case ql0 => k_is)
    (case ql1 => k_is)
    (case ql2 => k_is)
    (case ql3 => k_is)
    (case ql4 => k_is)
    (case ql5 => k_is)
    (case ql6 => k_is)
    (case ql7 => k_is)
    (case ql8 => k_is)
    (case ql9 => k_is)
    (case qla => k_is)
    (case qlb => k_is)
    (case qlc => k_is)
    (case qld => k_is)
    (case qle => k_is)
    (case qlf => k_is)
    (case qlg => k_is)
    (case qlh => k_is)
    (case qli => k_is)
    (case qlj => k_is)
    (case qlk => k_is)
    (case qll => k_is)
    (case qlm => k_is)
    (case qln => k_is)
    (case qlo => k_is)
    (case qlp => k_is)
    (case qlq => k_is)
    (case qlr => k_is)
    (case qls => k_is)
    (case qlt => k_is)
    (case qlu => k_is)
    (case qlv => k_is)
    (case qlw => k_is)
    (case qlx => k_is)
    (case qly => k_is)
    (case qlz => k_is)
    (case qm0 => k_is)
    (case qm1 => k_is)
    (case qm2 => k_is)
    (case qm3 => k_is)
    (case qm4 => rfl)
    (case qm5 => k_is)
    (case qm6 => k_is)
    (case qm7 => k_is)
    (case qm8 => k_is)
    (case qm9 => k_is)
    (case qma => k_is)
    (case qmb => k_is)
    (case qmc => k_is)
    (case qmd => k_is)
    (case qme => k_is)
    (case qmf => k_is)
    (case qmg => k_is)
    (case qmh => k_is)
    (case qmi => k_is)
    (case qmj => k_is)
    (case qmk => k_is)
    (case qml => k_is)
    (case qmm => k_is)
    (case qmn => k_is)
    (case qmo => k_is)
    (case qmp => k_is)
    (case qmq => k_is)
    (case qmr => k_is)
    (case qms => k_is)
    (case qmt => k_is)
    (case qmu => k_is)
    (case qmv => k_is)
    (case qmw => k_is)
    (case qmx => k_is)
    (case qmy => k_is)
    (case qmz => k_is)
    (case qn0 => k_is)
    (case qn1 => k_is)
    (case qn2 => k_is)
    (case qn3 => k_is)
    (case qn4 => k_is)
    (case qn5 => k_is)
    (case qn6 => k_is)
    (case qn7 => k_is)
    (case qn8 => k_is)
    (case qn9 => k_is)
    (case qna => k_is)
    (case qnb => k_is)
    (case qnc => decide)
    (case qnd => decide)
    (case qne => decide)
    (case qnf => decide)
    (case qng => decide)
    (case qnh => decide)
    (case qni => k_is)
    (case qnj => k_is)
    (case qnk => k_is)
    (case qnl => k_is)
    (case qnm => k_is)
    (case qnn => k_is)
    (case qno => k_is)
    (case qnp => k_is)
    (case qnq => k_is)
    (case qnr => k_is)
    (case qns => k_is)
    (case qnt => k_is)
    (case qnu => k_is)
    (case qnv => k_is)
    (case qnw => k_is)
    (case qnx => k_is)
    (case qny => k_is)
    (case qnz => k_is)
    (case qo0 => k_is)
    (case qo1 => k_is)
    (case qo2 => k_is)
    (case qo3 => k_is)
    (case qo4 => k_is)
    (case qo5 => k_is)
    (case qo6 => k_is)
    (case qo7 => k_is)
    (case qo8 => k_is)
    (case qo9 => k_is)
    (case qoa => k_is)
    (case qob => k_is)
    (case qoc => k_is)
    (case qod => k_is)
    (case qoe => k_is)
    (case qof => k_is)
    (case qog => k_is)
    (case qoh => k_is)
    (case qoi => k_is)
    (case qoj => k_is)
    (case qok => k_is)
    (case qol => k_is)
    (case qom => k_is)
    (case qon => k_is)
    (case qoo => k_is)
    (case qop => k_is)
    (case qoq => k_is)
    (case qor => k_is)
    (case qos => k_is)
    (case qot => k_is)
    (case qou => k_is)
    (case qov => k_is)
    (case qow => k_is)
    (case qox => k_is)
    (case qoy => k_is)
    (case qoz => k_is)
    (case qp0 => k_is)
    (case qp1 => k_is)
    (case qp2 => k_is)
    (case qp3 => k_is)
    (case qp4 => k_is)
    (case qp5 => k_is)
    (case qp6 => k_is)
    (case qp7 => k_is)
    (case qp8 => k_is)
    (case qp9 => k_is)
    (case qpa => k_is)
    (case qpb => k_is)
    (case qpc => k_is)
    (case qpd => k_is)
    (case qpe => k_is)
    (case qpf => k_is)
    (case qpg => k_is)
    (case qph => k_is)
    (case qpi => k_is)
    (case qpj => k_is)
    (case qpk => k_is)
    (case qpl => k_is)
    (case qpm => k_is)
    (case qpn => k_is)
    (case qpo => k_is)
    (case qpp => k_is)
    (case qpq => k_is)
    (case qpr => k_is)
    (case qps => k_is)
    (case qpt => k_is)
    (case qpu => k_is)
    (case qpv => k_is)
    (case qpw => k_is)
    (case qpx => k_is)
    (case qpy => k_is)
    (case qpz => k_is)
    (case qq0 => k_is)
    (case qq1 => k_is)
    (case qq2 => k_is)
    (case qq3 => k_is)
    (case qq4 => k_is)
    (case qq5 => k_is)
    (case qq6 => k_is)
    (case qq7 => k_is)
    (case qq8 => k_is)
    (case qq9 => k_is)
    (case qqa => k_is)
    (case qqb => k_is)
    (case qqc => k_is)
    (case qqd => k_is)
    (case qqe => k_is)
    (case qqf => k_is)
    (case qqg => k_is)
    (case qqh => k_is)
    (case qqi => k_is)
    (case qqj => k_is)
    (case qqk => k_is)
    (case qql => k_is)
    (case qqm => k_is)
    (case qqn => k_is)
    (case qqo => k_is)
    (case qqp => k_is)
    (case qqq => k_is)
    (case qqr => k_is)
    (case qqs => k_is)
    (case qqt => k_is)
    (case qqu => k_is)
    (case qqv => k_is)
    (case qqw => k_is)
    (case qqx => k_is)
    (case qqy => k_is)
    (case qqz => k_is)
    (case qr0 => k_is)
    (case qr1 => k_is)
    (case qr2 => k_is)
    (case qr3 => k_is)
    (case qr4 => k_is)
    (case qr5 => k_is)
    (case qr6 => k_is)
    (case qr7 => k_is)
    (case qr8 => k_is)
    (case qr9 => k_is)
    (case qra => k_is)
    (case qrb => k_is)
    (case qrc => k_is)
    (case qrd => k_is)
    (case qre => k_is)
    (case qrf => k_is)
    (case qrg => k_is)
    (case qrh => k_is)
    (case qri => k_is)
    (case qrj => k_is)
    (case qrk => k_is)
    (case qrl => k_is)
    (case qrm => k_is)
    (case qrn => k_is)
    (case qro => k_is)
    (case qrp => k_is)
    (case qrq => k_is)
    (case qrr => k_is)
    (case qrs => k_is)
    (case qrt => k_is)
    (case qru => k_is)
    (case qrv => k_is)
    (case qrw => k_is)
    (case qrx => k_is)
    (case qry => k_is)
    (case qrz => k_is)
    (case qs0 => k_is)
    (case qs1 => k_is)
    (case qs2 => k_is)
    (case qs3 => k_is)
    (case qs4 => k_is)
    (case qs5 => k_is)
    (case qs6 => k_is)
    (case qs7 => k_is)
    (case qs8 => k_is)
    (case qs9 => k_is)
    (case qsa => k_is)
    (case qsb => k_is)
    (case qsc => k_is)
    (case qsd => k_is)
    (case qse => k_is)
    (case qsf => k_is)
    (case qsg => k_is)
    (case qsh => k_is)
    (case qsi => k_is)
    (case qsj => k_is)
    (case qsk => k_is)
    (case qsl => k_is)
    (case qsm => k_is)
    (case qsn => k_is)
    (case qso => k_is)
    (case qsp => k_is)
    (case qsq => k_is)
    (case qsr => k_is)
    (case qss => k_is)
    (case qst => k_is)
    (case qsu => k_is)
    (case qsv => k_is)
    (case qsw => k_is)
    (case qsx => k_is)
    (case qsy => k_is)
    (case qsz => k_is)
    (case qt0 => k_is)
    (case qt1 => k_is)
    (case qt2 => k_is)
    (case qt3 => k_is)
    (case qt4 => k_is)
    (case qt5 => k_is)
  case S =>
    intro K H xs a hO hwi hask hx
    exact GR.sp_in a hwi hx
