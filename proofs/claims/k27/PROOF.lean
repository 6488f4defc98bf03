import PyProof.Rows.All
import Wide.All
import OpenK.AllK
import Wide.FinOn
import Lean
import PyProof.EqAt
import PyProof.EqKinds
import PyProof.TupleCall
import PyProof.NeKinds
import PyProof.ListRange
import PyProof.Rows.RuleM_int
import PyProof.ConsumeWalk
import PyProof.FitsBits
import PyProof.Rows.EnumRows
import PyProof.Rows.SeqGen
import PyProof.Rows.SeqCalls
import PyProof.Rows.FactsN_isinstance
import PyProof.WalksEnum
import KE.KRevIter
import KE.KDictList
import PyProof.DictWalks
import PyProof.Rows.SumAny
import PyProof.Rows.SeqJoint
import PyProof.ExcBaseAll.ValueError
import PyProof.NsDelKeeps
import PyProof.RulesAs
import PyProof.Rows.FStr
import PyProof.Rows.RegStrFacts
import PyProof.ExcArgsOwn
import PyProof.ExcInit
import PyProof.InstStore
import PyProof.InstStoreFacts
import OpenK.KMake
import PyProof.ReprRoads
import PyProof.ReprLen
import PySem.Challenge.RW_orderhall_k27_refused_ways
set_option genSizeOf false
set_option hygiene false
local macro_rules
  | `(tactic| omega) => `(tactic| lia)
set_option Elab.async false
set_option linter.all false
set_option maxRecDepth 100000
namespace L2
open PySem PySem.Spec PyProof.Rows
abbrev Key := Sum Int Str
def keyIs : Key → Value → Bool
  | .inl k, v => Value.isInt k v
  | .inr x, v => Value.isStrOf x v
def keyH (w : World) : Key → Int
  | .inl k => hashInt k
  | .inr x => hashStr w x
theorem keyIs_shape : ∀ {k : Key} {v : Value}, keyIs k v = true → (∃ i t, k = Sum.inl i ∧ v = Value.int i t) ∨ (∃ x t, k = Sum.inr x ∧ v = Value.str x t)
  | .inl i, v, h => by
    obtain ⟨t, e⟩ := Value.isInt_shape (k := i) (v := v) h
    exact .inl ⟨i, t, rfl, e⟩
  | .inr x, v, h => by
    obtain ⟨t, e⟩ := Value.isStrOf_shape (x := x) (v := v) h
    exact .inr ⟨x, t, rfl, e⟩
theorem keyIs_int (i : Int) (t : Tok) : keyIs (.inl i) (.int i t) = true := by simp [keyIs, Value.isInt]
theorem keyIs_str (x : Str) (t : Tok) : keyIs (.inr x) (.str x t) = true := by simp [keyIs, Value.isStrOf]
theorem key_ll (a b : Int) : decide ((Sum.inl a : Key) = Sum.inl b) = (a == b) := by
  by_cases e : a = b
  · subst e; simp
  · have h : ¬ (Sum.inl a : Key) = Sum.inl b := fun q => e (Sum.inl.inj q)
    rw [decide_eq_false h]
    exact (beq_eq_false_iff_ne.mpr e).symm
theorem key_rr (a b : Str) : decide ((Sum.inr a : Key) = Sum.inr b) = decide (a = b) := by
  by_cases e : a = b
  · subst e; simp
  · have h : ¬ (Sum.inr a : Key) = Sum.inr b := fun q => e (Sum.inr.inj q)
    rw [decide_eq_false h, decide_eq_false e]
theorem key_lr (a : Int) (b : Str) : decide ((Sum.inl a : Key) = Sum.inr b) = false := decide_eq_false (fun q => nomatch q)
theorem key_rl (a : Str) (b : Int) : decide ((Sum.inr a : Key) = Sum.inl b) = false := decide_eq_false (fun q => nomatch q)
def mixKind (prog : Program) (w : World) : PySem.KeyKind prog w Key where
  is := keyIs
  hash := keyH w
  inj := fun v a b ha hb => by
    rcases keyIs_shape ha with ⟨i, t, rfl, rfl⟩ | ⟨x, t, rfl, rfl⟩
    · rcases keyIs_shape hb with ⟨j, u, rfl, e⟩ | ⟨y, u, rfl, e⟩
      · injection e with e1 _; rw [e1]
      · exact nomatch e
    · rcases keyIs_shape hb with ⟨j, u, rfl, e⟩ | ⟨y, u, rfl, e⟩
      · exact nomatch e
      · injection e with e1 _; rw [e1]
  byValue := fun k v h => by
    rcases keyIs_shape h with ⟨i, t, rfl, rfl⟩ | ⟨x, t, rfl, rfl⟩ <;> rfl
  pyHash := fun hv h => by
    rcases keyIs_shape hv with ⟨i, t, rfl, rfl⟩ | ⟨x, t, rfl, rfl⟩
    · exact wpAny_pyHash_int h
    · exact wpAny_pyHash_str h
  eqBool := fun hu hv h => by
    rcases keyIs_shape hu with ⟨i, t, rfl, rfl⟩ | ⟨x, t, rfl, rfl⟩
    · rcases keyIs_shape hv with ⟨j, u, rfl, rfl⟩ | ⟨y, u, rfl, rfl⟩
      · rw [key_ll] at h; exact wpAny_eqBool_int h
      · rw [key_lr] at h; exact SeqAt.EqAt.int_str i t y u _ _ _ _ h
    · rcases keyIs_shape hv with ⟨j, u, rfl, rfl⟩ | ⟨y, u, rfl, rfl⟩
      · rw [key_rl] at h; exact SeqAt.EqAt.str_int x t j u _ _ _ _ h
      · rw [key_rr] at h; exact wpAny_eqBool_str h
  «strs» := fun k x t v h => by
    rcases keyIs_shape h with ⟨i, u, rfl, e⟩ | ⟨y, u, rfl, e⟩
    · exact nomatch e
    · injection e with e1 _
      subst e1
      cases v <;> rfl
theorem mixKind_int (prog : Program) (w : World) (i : Int) (t : Tok) : (mixKind prog w).is (.inl i) (.int i t) = true := keyIs_int i t
theorem mixKind_str (prog : Program) (w : World) (x : Str) (t : Tok) : (mixKind prog w).is (.inr x) (.str x t) = true := keyIs_str x t
end L2
namespace L2
open PySem PySem.Spec PyProof.Rows
inductive V where
  | non | bl (b : Bool) | int (i : Int) | str (x : Str) | byt (b : Array UInt8) | flt (b : UInt64) | ref (a : Addr) | ty (n : String)
  deriving DecidableEq
def RelV : V → Value → Prop
  | .non, u => u = Value.none
  | .bl b, u => u = Value.bool b
  | .int i, u => ∃ t, u = Value.int i t
  | .str x, u => ∃ t, u = Value.str x t
  | .byt b, u => ∃ t, u = Value.bytes b t
  | .flt b, u => ∃ t, u = Value.float b t
  | .ref a, u => u = Value.ref a
  | .ty n, u => u = Value.type n
abbrev Vals : List V → List Value → Prop := Paired RelV
theorem Vals.length {xs : List V} {us : List Value} (r : Vals xs us) : xs.length = us.length := Paired.length r
theorem Vals.get : ∀ {xs : List V} {us : List Value} {i : Nat} {x : V}, Vals xs us → xs[i]? = some x → ∃ u, us[i]? = some u ∧ RelV x u
  | _, _, _, _, .nil, e => by simp at e
  | _, _, 0, _, .cons r _, e => by simp at e; subst e; exact ⟨_, rfl, r⟩
  | _, _, i + 1, x, .cons _ t, e => by
    obtain ⟨u, h1, h2⟩ := Vals.get (i := i) (x := x) t (by simpa using e)
    exact ⟨u, by simpa using h1, h2⟩
theorem Vals.set {x : V} {u : Value} (r : RelV x u) : ∀ {xs : List V} {us : List Value} (i : Nat), Vals xs us → Vals (xs.set i x) (us.set i u)
  | _, _, _, .nil => .nil
  | _, _, 0, .cons _ t => .cons r t
  | _, _, i + 1, .cons q t => .cons q (Vals.set r i t)
theorem Vals.append : ∀ {xs ys : List V} {us ws : List Value}, Vals xs us → Vals ys ws → Vals (xs ++ ys) (us ++ ws)
  | _, _, _, _, .nil, s => s
  | _, _, _, _, .cons r t, s => .cons r (Vals.append t s)
theorem Vals.take : ∀ {xs : List V} {us : List Value} (n : Nat), Vals xs us → Vals (xs.take n) (us.take n)
  | _, _, 0, _ => .nil
  | _, _, _ + 1, .nil => .nil
  | _, _, n + 1, .cons r t => .cons r (Vals.take n t)
theorem Vals.drop : ∀ {xs : List V} {us : List Value} (n : Nat), Vals xs us → Vals (xs.drop n) (us.drop n)
  | _, _, 0, r => r
  | _, _, _ + 1, .nil => .nil
  | _, _, n + 1, .cons _ t => Vals.drop n t
def RelO : Option V → Option Value → Prop
  | some v, some u => RelV v u
  | none, none => True
  | _, _ => False
def KV {κ : Type} : List (κ × V) → List (κ × Value) → Prop := Paired fun (p : κ × V) (q : κ × Value) => p.1 = q.1 ∧ RelV p.2 q.2
def kV : Key → V
  | .inl i => .int i
  | .inr x => .str x
inductive HO where
  | lst (xs : List V)
  | tup (xs : List V)
  | dK (kvs : List (Key × V)) | dT (kvs : List (List Key × V))
  | set (S : Int → Bool) (n : Nat)
  | ins (C dx : Addr) (fs : List (Str × V))
  | own (x : Addr)
  | xd (fs : List (Str × V))
  | met (f x : Addr)
  | rng (lo hi : Int)
  | frz (o : Obj) (u : HO)
  | tbl (ps : Array Value)
  | ext (φ : Heap → Prop)
abbrev Hp := Addr → Option HO
def upd (H : Hp) (a : Addr) (o : HO) : Hp := fun b => if b = a then some o else H b
theorem upd_same {H : Hp} {a : Addr} {o : HO} : upd H a o a = some o := by unfold upd; rw [if_pos rfl]
theorem upd_ne {H : Hp} {a b : Addr} {o : HO} (h : b ≠ a) : upd H a o b = H b := by unfold upd; rw [if_neg h]
theorem ne_of {H : Hp} {a b : Addr} {o u : HO} (h : H a = some o) (h' : H b = some u) (d : o ≠ u) : a ≠ b := by
  intro e; subst e; rw [h] at h'; exact d (Option.some.inj h')
theorem ne_of_none {H : Hp} {a b : Addr} {o : HO} (h : H a = some o) (h' : H b = none) : a ≠ b := by
  intro e; subst e; rw [h] at h'; cases h'
section
variable (P : Program) (w : World)
def ObjOk (H : Hp) (h : Heap) (a : Addr) : HO → Prop
  | .lst xs => xs.length ≤ sizeLine ∧ ∃ (its : List Value) (n : Nat), Vals xs its ∧ h.get? a = some { cls := .type "list", data := .seq its.toArray n }
  | .tup xs => xs.length ≤ sizeLine ∧ ∃ its : List Value, Vals xs its ∧ IsTup h a its.toArray
  | .dK kvs => kvs.length ≤ sizeLine ∧ (a == sysModules) = false ∧ ∃ vs, KV kvs vs ∧ h.DictOf (mixKind P w) a vs
  | .dT kvs => kvs.length ≤ sizeLine ∧ (a == sysModules) = false ∧ ∃ xs : List (List Key × Addr × Value),
      Paired (fun (p : List Key × V) (q : List Key × Addr × Value) => p.1 = q.1 ∧ H q.2.1 = some (.tup (p.1.map kV)) ∧ RelV p.2 q.2.2) kvs xs ∧
      ∃ o es ep, h.get? a = some o ∧ o.ExactDict ∧ o.data = .dict es ep ∧ es.toList = xs.map (entryOfKey (tupleKind (mixKind P w))) ∧ (xs.map (·.1)).Nodup
  | .set S n => h.SetOf (intKind P w) a S n
  | .ins C dx fs => H dx = some (.own a) ∧ fs.length ≤ 1000 ∧ dx ≠ a ∧ h.get? a = some (PySem.W.instObj C dx) ∧
      ∃ mA, h.Ns1 dx mA ∧ (∀ f, RelO (fs.lookup f) (mA f)) ∧ PySem.Within mA (fs.map (·.1))
  | .own _ => ∃ o, h.get? a = some o
  | .xd fs => ∃ mA, h.Ns1 a mA ∧ ∀ f, RelO (fs.lookup f) (mA f)
  | .rng lo hi => ∃ t u v, h.get? a = some { cls := .type "range", data := .fields #[.int lo t, .int hi u, .int 1 v] }
  | .frz o u => h.get? a = some o ∧ ObjOk H h a u
  | .tbl ps => h.get? a = some { cls := .none, data := .fields ps }
  | .met f x => h.get? a = some (PySem.W.methodObj (.ref f) (.ref x))
  | .ext φ => φ h ∧ (∃ o, h.get? a = some o) ∧ ∀ h1 h2 : Heap, φ h1 → (∀ o, h1.get? a = some o → h2.get? a = some o) → φ h2
def HOk (H : Hp) (h : Heap) : Prop := ∀ a o, H a = some o → ObjOk P w H h a o
end
section
variable {P : Program} {w : World} {H H' : Hp} {h h' : Heap} {a : Addr} {o : HO}
theorem ObjOk.lt (x : ObjOk P w H h a o) : a < h.objs.size := by
  cases o with
  | lst xs => obtain ⟨_, _, _, _, e⟩ := x; exact Heap.lt_size e
  | tup xs => obtain ⟨_, _, _, p⟩ := x; exact p.lt
  | dK kvs => obtain ⟨_, _, _, _, o, _, _, e, _⟩ := x; exact Heap.lt_size e
  | dT kvs => obtain ⟨_, _, _, _, o, _, _, e, _⟩ := x; exact Heap.lt_size e
  | set S n => obtain ⟨o, _, _, _, e, _⟩ := x; exact Heap.lt_size e
  | ins C dx fs => obtain ⟨_, _, _, e, _⟩ := x; exact Heap.lt_size e
  | own y => obtain ⟨_, e⟩ := x; exact Heap.lt_size e
  | xd fs => obtain ⟨_, ⟨_, _, _, e, _⟩, _⟩ := x; exact Heap.lt_size e
  | rng lo hi => obtain ⟨_, _, _, e⟩ := x; exact Heap.lt_size e
  | frz ob u => obtain ⟨e, _⟩ := x; exact Heap.lt_size e
  | tbl ps => exact Heap.lt_size (show h.get? a = some _ from x)
  | met f y => exact Heap.lt_size (show h.get? a = some _ from x)
  | ext φ => obtain ⟨_, ⟨_, e⟩, _⟩ := x; exact Heap.lt_size e
theorem Paired.mapP {α β : Type} {F G : α → β → Prop} : ∀ {l₁ : List α} {l₂ : List β}, Paired F l₁ l₂ → (∀ a b, F a b → G a b) → Paired G l₁ l₂
  | _, _, .nil, _ => .nil
  | _, _, .cons r t, f => .cons (f _ _ r) (Paired.mapP t f)
theorem ObjOk.stay (x : ObjOk P w H h a o) (k : ∀ b u, (b = a ∨ H b = some (.own a)) → h.get? b = some u → h'.get? b = some u)
    (ho : ∀ b, H b = some (.own a) → H' b = some (.own a)) (ht : ∀ b xs, H b = some (.tup xs) → H' b = some (.tup xs)) : ObjOk P w H' h' a o := by
  induction o with
  | lst xs => obtain ⟨z, its, n, r, e⟩ := x; exact ⟨z, its, n, r, k _ _ (.inl rfl) e⟩
  | tup xs => obtain ⟨z, its, r, ob, e, c⟩ := x; exact ⟨z, its, r, ob, k _ _ (.inl rfl) e, c⟩
  | dK kvs => obtain ⟨z, y, vs, r, ob, es, ep, e, c⟩ := x; exact ⟨z, y, vs, r, ob, es, ep, k _ _ (.inl rfl) e, c⟩
  | dT kvs =>
    obtain ⟨z, y, xs, r, ob, es, ep, e, c⟩ := x
    exact ⟨z, y, xs, Paired.mapP r fun p q z => ⟨z.1, ht _ _ z.2.1, z.2.2⟩, ob, es, ep, k _ _ (.inl rfl) e, c⟩
  | set S n => obtain ⟨ob, es, ep, t, e, c⟩ := x; exact ⟨ob, es, ep, t, k _ _ (.inl rfl) e, c⟩
  | ins C dx fs =>
    obtain ⟨d, z, ne, e, mA, ⟨od, es, ep, e2, c⟩, r⟩ := x
    exact ⟨ho _ d, z, ne, k _ _ (.inl rfl) e, mA, ⟨od, es, ep, k _ _ (.inr d) e2, c⟩, r⟩
  | own y => obtain ⟨ob, e⟩ := x; exact ⟨ob, k _ _ (.inl rfl) e⟩
  | xd fs => obtain ⟨mA, ⟨od, es, ep, e, c⟩, r⟩ := x; exact ⟨mA, ⟨od, es, ep, k _ _ (.inl rfl) e, c⟩, r⟩
  | rng lo hi => obtain ⟨t, u, v, e⟩ := x; exact ⟨t, u, v, k _ _ (.inl rfl) e⟩
  | frz ob u ih => obtain ⟨e, q⟩ := x; exact ⟨k _ _ (.inl rfl) e, ih q⟩
  | tbl ps =>
    have e : h.get? a = some { cls := .none, data := .fields ps } := x
    show h'.get? a = some { cls := .none, data := .fields ps }
    exact k a _ (.inl rfl) e
  | met f y =>
    have e : h.get? a = some (PySem.W.methodObj (.ref f) (.ref y)) := x
    show h'.get? a = some (PySem.W.methodObj (.ref f) (.ref y))
    exact k a _ (.inl rfl) e
  | ext φ => obtain ⟨p, ⟨o, e⟩, st⟩ := x; exact ⟨st _ _ p fun o q => k _ _ (.inl rfl) q, ⟨o, k _ _ (.inl rfl) e⟩, st⟩
theorem HOk.lt (x : HOk P w H h) (e : H a = some o) : a < h.objs.size := (x a o e).lt
theorem HOk.fresh (x : HOk P w H h) (e : h.objs.size ≤ a) : H a = none := by
  cases q : H a with
  | none => rfl
  | some u => exact absurd (Nat.lt_of_lt_of_le (x.lt q) e) (Nat.lt_irrefl _)
theorem HOk.kept (x : HOk P w H h) (k : ∀ b u, h.get? b = some u → h'.get? b = some u) : HOk P w H h' := fun a o e =>
  (x a o e).stay (fun b u _ q => k b u q) (fun _ q => q) fun _ _ q => q
theorem HOk.laid (x : HOk P w H h) (k : ∀ b u, h.get? b = some u → h'.get? b = some u) (hp : h.objs.size ≤ a) (new : ObjOk P w (upd H a o) h' a o) : HOk P w (upd H a o) h' := fun b u e => by
  have hn := x.fresh hp
  by_cases hb : b = a
  · subst hb; rw [upd_same] at e; cases e; exact new
  · rw [upd_ne hb] at e
    exact (x b u e).stay (fun c v _ q => k c v q) (fun c q => by rw [upd_ne (ne_of_none q hn)]; exact q) fun c xs q => by rw [upd_ne (ne_of_none q hn)]; exact q
end
def Rd (H : Hp) (a : Addr) (u : HO) : Prop := H a = some u ∨ ∃ o, H a = some (.frz o u)
theorem Rd.ok {P : Program} {w : World} {H : Hp} {h : Heap} {a : Addr} {u : HO} (r : Rd H a u) (x : HOk P w H h) : ObjOk P w H h a u := by
  rcases r with r | ⟨o, r⟩
  · exact x a u r
  · obtain ⟨_, q⟩ := x a _ r
    exact q
def Mut : Option HO → Prop
  | some (.lst _) => True
  | some (.dK _) => True
  | some (.dT _) => True
  | some (.set _ _) => True
  | some (.ins _ _ _) => True
  | some (.ext _) => True
  | _ => False
section
variable {P : Program} {w : World} {H : Hp} {h h' : Heap} {x e : Addr} {o' : HO}
theorem HOk.write (ok : HOk P w H h) (mu : Mut (H x)) (he : e = x ∨ H e = some (.own x)) (k : ∀ b u, b ≠ e → h.get? b = some u → h'.get? b = some u) (heo : ∃ u, h'.get? e = some u)
    (new : ObjOk P w (upd H x o') h' x o') : HOk P w (upd H x o') h' := fun b u q => by
  have nown : ∀ c y, H c = some (.own y) → c ≠ x := fun c y r z => by subst z; rw [r] at mu; exact mu
  have ntup : ∀ c xs, H c = some (.tup xs) → c ≠ x := fun c xs r z => by subst z; rw [r] at mu; exact mu
  by_cases hb : b = x
  · subst hb; rw [upd_same] at q; cases q; exact new
  · rw [upd_ne hb] at q
    by_cases hbe : b = e
    · have q' : H b = some (.own x) := by
        rcases he with z | z
        · exact absurd (hbe.trans z) hb
        · rw [hbe]; exact z
      rw [q] at q'; cases q'
      obtain ⟨v, hv⟩ := heo
      exact ⟨v, by rw [hbe]; exact hv⟩
    · refine (ok b u q).stay (fun c v hc r => k c v ?_ r) (fun c r => by rw [upd_ne (nown c b r)]; exact r) fun c xs r => by rw [upd_ne (ntup c xs r)]; exact r
      rcases hc with rfl | hc
      · exact hbe
      · rintro rfl
        rcases he with z | z
        · exact nown c b hc z
        · rw [hc] at z; cases z; exact hb rfl
end
structure Un (fs ex : List Addr) (H H' : Hp) (h h' : Heap) : Prop where
  keep : ∀ b o, h.get? b = some o → H b = none → b ∉ fs → b ∉ ex → h'.get? b = some o
  slot : ∀ b o, h.get? b = some o → H b = none → b ∈ fs → b ∉ ex → ∃ sl, h'.get? b = some { o with slots := sl }
  free : ∀ b o, h.get? b = some o → H b = none → b ∉ ex → H' b = none
  there : ∀ b o, h.get? b = some o → b ∉ ex → ∃ o', h'.get? b = some o'
  tups : ∀ b xs, H b = some (.tup xs) → H' b = some (.tup xs)
  frzs : ∀ b o u, H b = some (.frz o u) → H' b = some (.frz o u)
  tbls : ∀ b ps, H b = some (.tbl ps) → ∃ more, H' b = some (.tbl (ps ++ more))
section
variable {fs fs' ex ex' : List Addr} {H H1 H2 : Hp} {h h1 h2 h' : Heap} {a x e : Addr} {o : HO}
theorem Un.any (u : Un fs ex H H1 h h1) {b : Addr} {ob : Obj} (q : h.get? b = some ob) (n : H b = none) (hx : b ∉ ex) : ∃ sl, h1.get? b = some { ob with slots := sl } := by
  by_cases hb : b ∈ fs
  · exact u.slot b ob q n hb hx
  · exact ⟨ob.slots, u.keep b ob q n hb hx⟩
theorem Un.kept (k : ∀ b u, h.get? b = some u → h'.get? b = some u) : Un fs ex H H h h' :=
  ⟨fun b ob q _ _ _ => k b ob q, fun b ob q _ _ _ => ⟨ob.slots, k b ob q⟩, fun _ _ _ n _ => n, fun b ob q _ => ⟨ob, k b ob q⟩, fun _ _ q => q, fun _ _ _ q => q, fun _ ps q => ⟨#[], by rw [q]; simp⟩⟩
theorem Un.refl : Un fs ex H H h h := Un.kept fun _ _ q => q
theorem Un.laid (k : ∀ b u, h.get? b = some u → h'.get? b = some u) (hp : h.objs.size ≤ a) (hn : H a = none) : Un fs ex H (upd H a o) h h' where
  keep := fun b u q _ _ _ => k b u q
  slot := fun b u q _ _ _ => ⟨u.slots, k b u q⟩
  free := fun b u q n _ => by rw [upd_ne (Nat.ne_of_lt (Nat.lt_of_lt_of_le (Heap.lt_size q) hp))]; exact n
  there := fun b u q _ => ⟨u, k b u q⟩
  tups := fun b xs q => by rw [upd_ne (ne_of_none q hn)]; exact q
  frzs := fun b u xs q => by rw [upd_ne (ne_of_none q hn)]; exact q
  tbls := fun b ps q => ⟨#[], by rw [upd_ne (ne_of_none q hn), q]; simp⟩
theorem Un.write (mu : Mut (H x)) (he : e = x ∨ H e = some (.own x)) (k : ∀ b u, b ≠ e → h.get? b = some u → h'.get? b = some u) (heo : ∃ u, h'.get? e = some u) : Un fs ex H (upd H x o) h h' := by
  have hx : ∀ b, H b = none → b ≠ x := fun b n z => by subst z; rw [n] at mu; exact mu
  have hb : ∀ b, H b = none → b ≠ e := fun b n z => by
    subst z
    rcases he with r | r
    · exact hx b n r
    · rw [n] at r; cases r
  have hm : ∀ b u, H b = some u → ¬ Mut (some u) → b ≠ x := fun b u q nm z => by subst z; rw [q] at mu; exact nm mu
  refine ⟨fun b u q n _ _ => k b u (hb b n) q, fun b u q n _ _ => ⟨u.slots, k b u (hb b n) q⟩, fun b u q n _ => by rw [upd_ne (hx b n)]; exact n, fun b u q _ => ?_,
    fun b xs q => by rw [upd_ne (hm b _ q fun z => z)]; exact q, fun b u xs q => by rw [upd_ne (hm b _ q fun z => z)]; exact q, fun b ps q => ⟨#[], by rw [upd_ne (hm b _ q fun z => z), q]; simp⟩⟩
  by_cases hbe : b = e
  · subst hbe; exact heo
  · exact ⟨u, k b u hbe q⟩
end
def trk (h : Heap) (H : Hp) : List Addr := (List.range h.objs.size).filter fun a => (H a).isSome
def hidT (h : Heap) (H : Hp) : Heap := PySem.W.hideAll h (trk h H)
theorem hidT_size (h : Heap) (H : Hp) : (hidT h H).objs.size = h.objs.size := PySem.W.hideAll_size _ _
theorem hidT_get {h : Heap} {H : Hp} {b : Addr} {o : Obj} (e : h.get? b = some o) (n : H b = none) : (hidT h H).get? b = some o :=
  PySem.W.hideAll_get _ e fun hm => by
    have q : (H b).isSome = true := (List.mem_filter.mp hm).2
    rw [n] at q; simp at q
theorem of_hidT {h : Heap} {H : Hp} {b : Addr} {o : Obj} (e : (hidT h H).get? b = some o) : h.get? b = some o ∧ H b = none := by
  have e' : h.get? b = some o := PySem.W.of_hideAll (trk h H) e
  refine ⟨e', ?_⟩
  cases q : H b with
  | none => rfl
  | some x =>
    have hm : b ∈ trk h H := List.mem_filter.mpr ⟨List.mem_range.mpr (Heap.lt_size e'), by simp [q]⟩
    have z : (hidT h H).get? b = none := PySem.W.hideAll_none (trk h H) hm
    rw [z] at e; cases e
def allNews (g h : Heap) (L : Addr) : List (Addr × Obj) := (List.range h.objs.size).filterMap fun a => if a = L ∨ (g.get? a).isSome = true then none else (h.get? a).map fun o => (a, o)
def rest (g h : Heap) (L d : Addr) : List (Addr × Obj) := (allNews g h L).filter fun p => decide (p.1 ≠ d)
end L2
namespace L2
open PySem PySem.Spec PyProof.Rows
structure Mod (K : PySem.W.Frag) (mg : Str → Option Value) (base : Heap) : Prop where
  kin : K.In base
  glob : base.Ns mainGlobals mg
  blt : ∃ mb, base.Ns builtinsNs mb ∧ ∀ x : Str, x ≠ "__name__" → mb x = bootBuiltins x
  nolimit : base.NoLimit
set_option genInjectivity false in
structure Cx where
  prog : Program
  w : World
  K : PySem.W.Frag
  mg : Str → Option Value
  base : Heap
  A : Around
  N : List Str
  s₀ : Shared
  H₀ : Hp
  env : Env
  outer : List Env
  stack : List Env
  ex : List Addr
  fn : Str → Bool
  calm : Bool
  pn : List (Addr × Obj)
  xe : Value → Shared → Prop
def frs (l : List Env) : List Addr := l.filterMap (·.frame)
abbrev Cx.fs (X : Cx) : List Addr := frs X.outer
def Vis (sc : Scope) (x : Str) : Prop := sc.names.lookup x = some .local ∨ sc.names.lookup x = some .cell ∨ sc.names.lookup x = some .free
def Loc (sc : Scope) (x : Str) : Prop := sc.names.lookup x = some .local ∨ sc.names.lookup x = some .cell
def Look (env : Env) (h : Heap) (m : Str → Option Value) (x : Str) (u : Value) : Prop :=
  (env.kindOf x = some .local ∧ m x = some u) ∨ ((env.kindOf x = some .cell ∨ env.kindOf x = some .free) ∧ ∃ c, env.cells.lookup x = some c ∧ h.IsCell c (some u))
structure Cx.Ok (X : Cx) : Prop where
  mod : Mod X.K X.mg X.base
  kind : X.env.scope.kind = .function
  glob : X.env.globals = mainGlobals
  blt : X.env.builtins = builtinsNs
  above : X.s₀.heap.objs.size ≤ X.env.locals
  inj : ∀ x y c, X.env.cells.lookup x = some c → X.env.cells.lookup y = some c → x = y
  has : ∀ x, (X.env.kindOf x = some .cell ∨ X.env.kindOf x = some .free) → ∃ c, X.env.cells.lookup x = some c
  cab : ∀ x c, X.fn x = true → X.env.cells.lookup x = some c → X.s₀.heap.objs.size ≤ c
  hd : X.calm = true → X.A.handled = none
  frames : X.A.frames = some X.stack
  stk : X.stack = X.outer ∨ (X.stack = X.env :: X.outer ∧ X.env.frame = some X.env.locals)
  exf : ∀ b ∈ X.ex, b ≠ X.env.locals ∧ ∀ x c, X.env.cells.lookup x = some c → c ≠ b
  bs : ∀ b o, X.base.get? b = some o → X.s₀.heap.get? b = some o ∧ X.H₀ b = none
  bsz : X.base.objs.size ≤ X.s₀.heap.objs.size
  noex : ∀ b o, X.base.get? b = some o → b ∉ X.ex
  exfs : ∀ b ∈ X.ex, b ∉ X.fs
  funs : X.s₀.heap.FunFrames X.base X.outer
  frf : ∀ b ∈ X.fs, X.H₀ b = none
structure Inv (X : Cx) (pins : List (Addr × Obj)) (σ : List (Option V)) (H : Hp) (s : Shared) : Prop where
  ok : X.Ok
  os : s.os = X.s₀.os
  bare : AllBare s.gens
  base : Un X.fs X.ex X.H₀ H X.s₀.heap s.heap
  loc : ∃ m, s.heap.Ns X.env.locals m ∧ ∀ (i : Nat) (x : Str) (v : V), X.N[i]? = some x → σ[i]? = some (some v) → Vis X.env.scope x → ∃ u, RelV v u ∧ Look X.env s.heap m x u
  cell : ∀ x c, X.env.cells.lookup x = some c → ∃ v, s.heap.IsCell c v
  free : H X.env.locals = none
  freeC : ∀ x c, X.env.cells.lookup x = some c → H c = none
  pin : ∀ p ∈ X.pn ++ pins, s.heap.get? p.1 = some p.2 ∧ H p.1 = none ∧ p.1 ≠ X.env.locals ∧ p.1 ∉ X.fs ∧ ∀ v, p.2.data ≠ .cell v
  hok : HOk X.prog X.w H s.heap
  len : σ.length = X.N.length
section
variable {X : Cx} {pins : List (Addr × Obj)} {σ : List (Option V)} {H H' : Hp} {s : Shared} {h' : Heap}
theorem Cx.Ok.nofr (ok : X.Ok) {b : Addr} {o : Obj} (e : X.base.get? b = some o) : b ∉ X.fs := fun hb => by
  have := (ok.funs.mem hb).1
  rw [e] at this; cases this
theorem Inv.bs (I : Inv X pins σ H s) : ∀ b o, X.base.get? b = some o → s.heap.get? b = some o ∧ H b = none := fun b o e =>
  ⟨I.base.keep b o (I.ok.bs b o e).1 (I.ok.bs b o e).2 (I.ok.nofr e) (I.ok.noex b o e), I.base.free b o (I.ok.bs b o e).1 (I.ok.bs b o e).2 (I.ok.noex b o e)⟩
theorem Inv.bk (I : Inv X pins σ H s) : ∀ b o, X.base.get? b = some o → s.heap.get? b = some o := fun b o e => (I.bs b o e).1
theorem Inv.mod (I : Inv X pins σ H s) : Mod X.K X.mg X.base := I.ok.mod
theorem Inv.kIn (I : Inv X pins σ H s) : X.K.In s.heap := I.ok.mod.kin.keeps I.bk
theorem Inv.lt (I : Inv X pins σ H s) : X.env.locals < s.heap.objs.size := let ⟨_, hn, _⟩ := I.loc; hn.lt
theorem Inv.sz (I : Inv X pins σ H s) : X.s₀.heap.objs.size ≤ s.heap.objs.size := Nat.le_trans I.ok.above (Nat.le_of_lt I.lt)
theorem Inv.nofs (I : Inv X pins σ H s) {a : Addr} (h : s.heap.objs.size ≤ a) : a ∉ X.fs := fun hb => by
  obtain ⟨_, o, ho, _⟩ := I.ok.funs.mem hb
  exact absurd (Nat.lt_of_lt_of_le (Heap.lt_size ho) (Nat.le_trans I.sz h)) (Nat.lt_irrefl _)
theorem Inv.cne (I : Inv X pins σ H s) : ∀ x c, X.env.cells.lookup x = some c → c ≠ X.env.locals := fun x c e z => by
  obtain ⟨v, o, ho, hd⟩ := I.cell x c e
  obtain ⟨m, ⟨o', es, ep, ho', hd', _⟩, _⟩ := I.loc
  rw [z, ho'] at ho; cases ho; rw [hd'] at hd; cases hd
theorem Inv.funs (I : Inv X pins σ H s) : s.heap.FunFrames X.base X.outer := by
  have all : ∀ (l : List Env), (∀ b ∈ frs l, b ∈ X.fs) → X.s₀.heap.FunFrames X.base l → s.heap.FunFrames X.base l := by
    intro l
    induction l with
    | nil => intro _ _; trivial
    | cons env r ih =>
      intro hs hl
      obtain ⟨hk, ⟨L, o, hf, hn, ho, hd⟩, hr⟩ := hl
      have hL : L ∈ X.fs := hs L (by unfold frs; rw [List.filterMap_cons, hf]; exact List.mem_cons_self)
      obtain ⟨sl, e⟩ := I.base.slot L o ho (I.ok.frf L hL) hL fun z => I.ok.exfs L z hL
      exact ⟨hk, ⟨L, _, hf, hn, e, hd⟩, ih (fun b hb => hs b (by unfold frs; rw [List.filterMap_cons, hf]; exact List.mem_cons_of_mem _ hb)) hr⟩
  exact all X.outer (fun _ hb => hb) I.ok.funs
theorem Inv.stack (I : Inv X pins σ H s) : s.heap.FunFrames X.base X.stack := by
  rcases I.ok.stk with e | ⟨e, hf⟩
  · rw [e]; exact I.funs
  · rw [e]
    obtain ⟨m, hn, _⟩ := I.loc
    refine .cons (by rw [I.ok.kind]; decide) hf hn ?_ I.funs
    exact Heap.get?_none_of_le (Nat.le_trans I.ok.bsz I.ok.above)
theorem Inv.stkSub (I : Inv X pins σ H s) : ∀ b ∈ frs X.stack, b ∈ X.env.locals :: X.fs := fun b hb => by
  rcases I.ok.stk with e | ⟨e, hf⟩
  · rw [e] at hb; exact List.mem_cons_of_mem _ hb
  · rw [e] at hb
    unfold frs at hb
    rw [List.filterMap_cons, hf] at hb
    exact hb
theorem Inv.stkFree (I : Inv X pins σ H s) : ∀ b ∈ frs X.stack, H b = none := fun b hb => by
  rcases List.mem_cons.mp (I.stkSub b hb) with e | hb
  · rw [e]; exact I.free
  · obtain ⟨_, o, ho, _⟩ := I.ok.funs.mem hb
    exact I.base.free b o ho (I.ok.frf b hb) fun z => I.ok.exfs b z hb
theorem Inv.step {g' : Array GenState} {t' : Nat} {d' : Drawn} {ch : List Addr} (I : Inv X pins σ H s)
    (hch : ∀ b ∈ ch, (b ∈ X.ex ∨ X.s₀.heap.objs.size ≤ b) ∧ b ≠ X.env.locals ∧ (∀ x c, X.env.cells.lookup x = some c → c ≠ b) ∧ ∀ p ∈ X.pn ++ pins, p.1 ≠ b)
    (keep : ∀ b o, b ≠ X.env.locals → b ∉ X.fs → b ∉ ch → s.heap.get? b = some o → H b = none → h'.get? b = some o)
    (slot : ∀ b o, b ≠ X.env.locals → b ∈ X.fs → b ∉ ch → s.heap.get? b = some o → H b = none → ∃ sl, h'.get? b = some { o with slots := sl }) (free : ∀ b o, b ∉ ch → s.heap.get? b = some o → H b = none → H' b = none)
    (there : ∀ b o, b ∉ ch → s.heap.get? b = some o → ∃ o', h'.get? b = some o')
    (tups : ∀ b xs, H b = some (.tup xs) → H' b = some (.tup xs)) (frzs : ∀ b o u, H b = some (.frz o u) → H' b = some (.frz o u)) (tbls : ∀ b ps, H b = some (.tbl ps) → ∃ more, H' b = some (.tbl (ps ++ more)))
    (ns : ∀ m, s.heap.Ns X.env.locals m → h'.Ns X.env.locals m) (hok : HOk X.prog X.w H' h') (hg : AllBare g') :
    Inv X pins σ H' { s with heap := h', gens := g', drawn := d', toks := t' } := by
  have neL : ∀ b o, X.s₀.heap.get? b = some o → b ≠ X.env.locals := fun b o e => Nat.ne_of_lt (Nat.lt_of_lt_of_le (Heap.lt_size e) I.ok.above)
  have neC : ∀ b o, X.s₀.heap.get? b = some o → b ∉ X.ex → b ∉ ch := fun b o e hx hb => by
    rcases (hch b hb).1 with z | z
    · exact hx z
    · exact absurd (Nat.lt_of_lt_of_le (Heap.lt_size e) z) (Nat.lt_irrefl _)
  have cellK : ∀ x c, X.env.cells.lookup x = some c → ∀ v, s.heap.IsCell c v → h'.IsCell c v := fun x c e v ⟨o, ho, hd⟩ => by
    have nch : c ∉ ch := fun z => (hch c z).2.2.1 x c e rfl
    by_cases hc : c ∈ X.fs
    · obtain ⟨sl, q⟩ := slot c o (I.cne x c e) hc nch ho (I.freeC x c e)
      exact ⟨_, q, hd⟩
    · exact ⟨o, keep c o (I.cne x c e) hc nch ho (I.freeC x c e), hd⟩
  refine ⟨I.ok, I.os, hg, ⟨fun b o e n hb hx => ?_, fun b o e n hb hx => ?_, fun b o e n hx => ?_, fun b o e hx => ?_, fun b xs e => tups b xs (I.base.tups b xs e), fun b o xs e => frzs b o xs (I.base.frzs b o xs e), fun b ps e => ?_⟩, ?_, fun x c e => ?_, ?_, fun x c e => ?_, fun p hp => ?_, hok, I.len⟩
  · exact keep b o (neL b o e) hb (neC b o e hx) (I.base.keep b o e n hb hx) (I.base.free b o e n hx)
  · obtain ⟨sl, e1⟩ := I.base.slot b o e n hb hx
    obtain ⟨sl', e2⟩ := slot b _ (neL b o e) hb (neC b o e hx) e1 (I.base.free b o e n hx)
    exact ⟨sl', e2⟩
  · obtain ⟨o', e1⟩ := I.base.there b o e hx
    exact free b o' (neC b o e hx) e1 (I.base.free b o e n hx)
  · obtain ⟨o', e1⟩ := I.base.there b o e hx
    exact there b o' (neC b o e hx) e1
  · obtain ⟨m1, e1⟩ := I.base.tbls b ps e
    obtain ⟨m2, e2⟩ := tbls b _ e1
    exact ⟨m1 ++ m2, by rw [e2, Array.append_assoc]⟩
  · obtain ⟨m, hn, hl⟩ := I.loc
    refine ⟨m, ns m hn, fun i x v e1 e2 e3 => ?_⟩
    obtain ⟨u, r, l⟩ := hl i x v e1 e2 e3
    refine ⟨u, r, ?_⟩
    rcases l with l | ⟨k, c, e, z⟩
    · exact .inl l
    · exact .inr ⟨k, c, e, cellK x c e _ z⟩
  · obtain ⟨v, z⟩ := I.cell x c e
    exact ⟨v, cellK x c e v z⟩
  · obtain ⟨m, ⟨o, _, _, ho, _⟩, _⟩ := I.loc
    exact free _ o (fun z => (hch _ z).2.1 rfl) ho I.free
  · obtain ⟨v, o, ho, hd⟩ := I.cell x c e
    exact free c o (fun z => (hch c z).2.2.1 x c e rfl) ho (I.freeC x c e)
  · obtain ⟨e, n, ne, nf, d⟩ := I.pin p hp
    have nch : p.1 ∉ ch := fun z => (hch p.1 z).2.2.2 p hp rfl
    exact ⟨keep p.1 p.2 ne nf nch e n, free p.1 p.2 nch e n, ne, nf, d⟩
theorem Inv.un {t' : Nat} (I : Inv X pins σ H s) (u : Un X.fs [] H H' s.heap h') (hok : HOk X.prog X.w H' h') : Inv X pins σ H' { s with heap := h', toks := t' } := by
  obtain ⟨m, ⟨o, es, ep, ho, r⟩, _⟩ := id I.loc
  obtain ⟨sl, hL⟩ := u.any ho I.free (by simp)
  exact I.step (g' := s.gens) (d' := s.drawn) (ch := []) (fun _ z => nomatch z) (fun b o _ hb _ e n => u.keep b o e n hb (by simp)) (fun b o _ hb _ e n => u.slot b o e n hb (by simp)) (fun b o _ e n => u.free b o e n (by simp)) (fun b o _ e => u.there b o e (by simp)) u.tups u.frzs u.tbls (fun m' hm => by
    obtain ⟨o', es', ep', ho', r'⟩ := hm
    rw [ho] at ho'; cases ho'
    exact ⟨_, es', ep', hL, r'⟩) hok I.bare
theorem Inv.call {g' : Array GenState} {t' : Nat} {d' : Drawn} {ch : List Addr} (I : Inv X pins σ H s) (u : Un (frs X.stack) ch H H' s.heap h') (hok : HOk X.prog X.w H' h') (hg : AllBare g')
    (hch : ∀ b ∈ ch, (b ∈ X.ex ∨ X.s₀.heap.objs.size ≤ b) ∧ b ≠ X.env.locals ∧ (∀ x c, X.env.cells.lookup x = some c → c ≠ b) ∧ ∀ p ∈ X.pn ++ pins, p.1 ≠ b) :
    Inv X pins σ H' { s with heap := h', gens := g', drawn := d', toks := t' } := by
  obtain ⟨m, ⟨o, es, ep, ho, r⟩, _⟩ := id I.loc
  obtain ⟨sl, hL⟩ := u.any ho I.free fun z => (hch _ z).2.1 rfl
  exact I.step (ch := ch) hch (fun b o hL hb hc e n => u.keep b o e n (fun z => (List.mem_cons.mp (I.stkSub b z)).elim hL hb) hc) (fun b o _ _ hc e n => u.any e n hc) (fun b o hc e n => u.free b o e n hc) (fun b o hc e => u.there b o e hc) u.tups u.frzs u.tbls (fun m' hm => by
    obtain ⟨o', es', ep', ho', r'⟩ := hm
    rw [ho] at ho'; cases ho'
    exact ⟨_, es', ep', hL, r'⟩) hok hg
theorem Inv.turned {t' : Nat} {it : Addr} (I : Inv X pins σ H s) (k : ∀ b o, b ≠ it → s.heap.get? b = some o → h'.get? b = some o) (hn : H it = none) (hL : it ≠ X.env.locals)
    (h1 : it ∈ X.ex ∨ X.s₀.heap.objs.size ≤ it) (h2 : ∀ x c, X.env.cells.lookup x = some c → c ≠ it) (h3 : ∀ p ∈ X.pn ++ pins, p.1 ≠ it) : Inv X pins σ H { s with heap := h', toks := t' } := by
  have nit : ∀ b u, H b = some u → b ≠ it := fun b u e z => by rw [z, hn] at e; cases e
  refine I.step (g' := s.gens) (d' := s.drawn) (ch := [it]) (fun b hb => ?_) (fun b o _ _ hc e _ => k b o (fun z => hc (by simp [z])) e) (fun b o _ _ hc e _ => ⟨o.slots, k b o (fun z => hc (by simp [z])) e⟩) (fun _ _ _ _ n => n)
    (fun b o hc e => ⟨o, k b o (fun z => hc (by simp [z])) e⟩) (fun _ _ e => e) (fun _ _ _ e => e) (fun b ps e => ⟨#[], by rw [e]; simp⟩) (fun m hm => ?_) (fun b u e => ?_) I.bare
  · have e : b = it := by simpa using hb
    subst e
    exact ⟨h1, hL, h2, h3⟩
  · obtain ⟨o, es, ep, ho, r⟩ := hm
    exact ⟨o, es, ep, k _ o (Ne.symm hL) ho, r⟩
  · refine (I.hok b u e).stay (fun c v hc q => k c v ?_ q) (fun _ q => q) fun _ _ q => q
    rcases hc with z | z
    · rw [z]; exact nit b u e
    · exact nit c _ z
theorem Inv.tok (I : Inv X pins σ H s) (t : Nat) : Inv X pins σ H { s with toks := t } := I.un (h' := s.heap) (t' := t) Un.refl I.hok
theorem Inv.kept {t' : Nat} (I : Inv X pins σ H s) (k : ∀ b u, s.heap.get? b = some u → h'.get? b = some u) : Inv X pins σ H { s with heap := h', toks := t' } := I.un (Un.kept k) (I.hok.kept k)
theorem Inv.laid {a : Addr} {o : HO} {t' : Nat} (I : Inv X pins σ H s) (k : ∀ b u, s.heap.get? b = some u → h'.get? b = some u) (hp : s.heap.objs.size ≤ a) (new : ObjOk X.prog X.w (upd H a o) h' a o) :
    Inv X pins σ (upd H a o) { s with heap := h', toks := t' } := I.un (Un.laid k hp (I.hok.fresh hp)) (I.hok.laid k hp new)
theorem Inv.write {x e : Addr} {o : HO} {t' : Nat} (I : Inv X pins σ H s) (mu : Mut (H x)) (he : e = x ∨ H e = some (.own x)) (k : ∀ b u, b ≠ e → s.heap.get? b = some u → h'.get? b = some u) (heo : ∃ u, h'.get? e = some u)
    (new : ObjOk X.prog X.w (upd H x o) h' x o) : Inv X pins σ (upd H x o) { s with heap := h', toks := t' } := I.un (Un.write mu he k heo) (I.hok.write mu he k heo new)
theorem Inv.pins_of {pins' : List (Addr × Obj)} (I : Inv X pins σ H s) (h : ∀ p ∈ pins', s.heap.get? p.1 = some p.2 ∧ H p.1 = none ∧ p.1 ≠ X.env.locals ∧ p.1 ∉ X.fs ∧ ∀ v, p.2.data ≠ .cell v) : Inv X pins' σ H s :=
  ⟨I.ok, I.os, I.bare, I.base, I.loc, I.cell, I.free, I.freeC, fun p hp => (List.mem_append.mp hp).elim (fun z => I.pin p (List.mem_append_left _ z)) (h p), I.hok, I.len⟩
theorem nodup_ix {N : List Str} (hN : N.Nodup) {i j : Nat} {x : Str} (a : N[i]? = some x) (b : N[j]? = some x) : i = j := by
  obtain ⟨h1, e1⟩ := List.getElem?_eq_some_iff.mp a
  obtain ⟨h2, e2⟩ := List.getElem?_eq_some_iff.mp b
  exact (List.getElem_inj hN).mp (e1.trans e2.symm)
theorem store_ok2 {M : Model} {A : Around} {E : Value → Shared → Prop} {i : Nat} {x : Str} {v : V} {u : Value} {Q : Unit → Shared → Prop} (I : Inv X pins σ H s) (hN : X.N.Nodup) (hi : X.N[i]? = some x) (hx : Loc X.env.scope x) (r : RelV v u)
    (h : ∀ s', Inv X pins (σ.set i (some v)) H s' → (∃ a, Heap.SameBut a s.heap s'.heap ∧ (a = X.env.locals ∨ X.env.cells.lookup x = some a)) → Q () s') (hf : X.fn x = true ∨ X.env.scope.names.lookup x = some .local := by first | exact .inl rfl | exact .inr rfl | assumption) : wpAny M A (storeName X.env x u) Q E s := by
  obtain ⟨m, hn, hl⟩ := id I.loc
  have hcls : (X.env.scope.kind == .class || (X.env.scope.kind == .module && X.env.locals != X.env.globals)) = false := by rw [I.ok.kind]; rfl
  have hiσ : i < σ.length := by rw [I.len]; exact (List.getElem?_eq_some_iff.mp hi).1
  have cne := I.cne
  have tracked : ∀ {a : Addr} {h' : Heap}, (∃ o, s.heap.get? a = some o ∧ H a = none) → Heap.SameBut a s.heap h' → HOk X.prog X.w H h' := fun {a h'} ha hs b ob e => by
    obtain ⟨_, _, hfree⟩ := ha
    refine (I.hok b ob e).stay (fun c w' hc q => (hs.2 c ?_).trans q) (fun _ q => q) fun _ _ q => q
    rintro rfl
    rcases hc with rfl | hc
    · rw [hfree] at e; cases e
    · rw [hfree] at hc; cases hc
  rcases hx with hk | hk
  · refine wpAny_storeName_local hk hn (fun h' hn' hs => ?_) hcls
    obtain ⟨oL, _, _, hoL, _⟩ := id hn
    refine h _ ⟨I.ok, I.os, I.bare, ⟨fun b o e n hb hx => ?_, fun b o e n hb hx => ?_, I.base.free, fun b o e hx => ?_, I.base.tups, I.base.frzs, I.base.tbls⟩, ⟨_, hn', fun j y v' e1 e2 e3 => ?_⟩, fun y c e => ?_, I.free, I.freeC, fun p hp => ?_, tracked ⟨oL, hoL, I.free⟩ hs, by simpa using I.len⟩ ⟨_, hs, .inl rfl⟩
    · exact (hs.2 b (Nat.ne_of_lt (Nat.lt_of_lt_of_le (Heap.lt_size e) I.ok.above))).trans (I.base.keep b o e n hb hx)
    · obtain ⟨sl, e1⟩ := I.base.slot b o e n hb hx
      exact ⟨sl, (hs.2 b (Nat.ne_of_lt (Nat.lt_of_lt_of_le (Heap.lt_size e) I.ok.above))).trans e1⟩
    · obtain ⟨o', e1⟩ := I.base.there b o e hx
      exact ⟨o', (hs.2 b (Nat.ne_of_lt (Nat.lt_of_lt_of_le (Heap.lt_size e) I.ok.above))).trans e1⟩
    · by_cases hj : j = i
      · subst hj
        rw [hi] at e1; cases e1
        rw [List.getElem?_set_self hiσ] at e2
        cases e2
        exact ⟨u, r, .inl ⟨hk, by simp⟩⟩
      · rw [List.getElem?_set_ne (Ne.symm hj)] at e2
        obtain ⟨u', r', q⟩ := hl j y v' e1 e2 e3
        refine ⟨u', r', ?_⟩
        rcases q with ⟨k, e⟩ | ⟨k, c, e, z⟩
        · refine .inl ⟨k, ?_⟩
          have : y ≠ x := fun e => hj (nodup_ix hN e1 (e ▸ hi))
          simp [this, e]
        · exact .inr ⟨k, c, e, z.sameBut hs (cne y c e)⟩
    · obtain ⟨w', z⟩ := I.cell y c e
      exact ⟨w', z.sameBut hs (cne y c e)⟩
    · obtain ⟨e, n, ne, nf, d⟩ := I.pin p hp
      exact ⟨(hs.2 p.1 ne).trans e, n, ne, nf, d⟩
  · have hfn : X.fn x = true := by
      rcases hf with z | z
      · exact z
      · rw [z] at hk; cases hk
    obtain ⟨c, hc⟩ := I.ok.has x (.inl hk)
    obtain ⟨w', z⟩ := I.cell x c hc
    refine wpAny_storeName_cell I.ok.kind hk hc z (fun h' hc' hs => ?_)
    obtain ⟨oc, hoc, hocd⟩ := id z
    refine h { s with heap := h' } ⟨I.ok, I.os, I.bare, ⟨fun b o e n hb hx => ?_, fun b o e n hb hx => ?_, I.base.free, fun b o e hx => ?_, I.base.tups, I.base.frzs, I.base.tbls⟩, ⟨m, hn.sameBut hs (Ne.symm (cne x c hc)), fun j y v' e1 e2 e3 => ?_⟩, fun y c' e => ?_, I.free, I.freeC, fun p hp => ?_, tracked ⟨oc, hoc, I.freeC x c hc⟩ hs, by simpa using I.len⟩ ⟨c, hs, .inr hc⟩
    · exact (hs.2 b (Nat.ne_of_lt (Nat.lt_of_lt_of_le (Heap.lt_size e) (I.ok.cab x c hfn hc)))).trans (I.base.keep b o e n hb hx)
    · obtain ⟨sl, e1⟩ := I.base.slot b o e n hb hx
      exact ⟨sl, (hs.2 b (Nat.ne_of_lt (Nat.lt_of_lt_of_le (Heap.lt_size e) (I.ok.cab x c hfn hc)))).trans e1⟩
    · obtain ⟨o', e1⟩ := I.base.there b o e hx
      exact ⟨o', (hs.2 b (Nat.ne_of_lt (Nat.lt_of_lt_of_le (Heap.lt_size e) (I.ok.cab x c hfn hc)))).trans e1⟩
    · by_cases hj : j = i
      · subst hj
        rw [hi] at e1; cases e1
        rw [List.getElem?_set_self hiσ] at e2
        cases e2
        exact ⟨u, r, .inr ⟨.inl hk, c, hc, hc'⟩⟩
      · rw [List.getElem?_set_ne (Ne.symm hj)] at e2
        obtain ⟨u', r', q⟩ := hl j y v' e1 e2 e3
        refine ⟨u', r', ?_⟩
        rcases q with q | ⟨k, c', e, z'⟩
        · exact .inl q
        · refine .inr ⟨k, c', e, z'.sameBut hs ?_⟩
          rintro rfl
          exact hj (nodup_ix hN e1 (I.ok.inj _ _ _ e hc ▸ hi))
    · by_cases hcc : c' = c
      · subst hcc; exact ⟨_, hc'⟩
      · obtain ⟨w2, z2⟩ := I.cell y c' e
        exact ⟨w2, z2.sameBut hs hcc⟩
    · obtain ⟨e, n, ne, nf, d⟩ := I.pin p hp
      refine ⟨(hs.2 p.1 ?_).trans e, n, ne, nf, d⟩
      intro q
      rw [q, hoc] at e
      have q' : oc = p.2 := Option.some.inj e
      exact d w' (by rw [← q']; exact hocd)
theorem store_ok {M : Model} {A : Around} {E : Value → Shared → Prop} {i : Nat} {x : Str} {v : V} {u : Value} {Q : Unit → Shared → Prop} (I : Inv X pins σ H s) (hN : X.N.Nodup) (hi : X.N[i]? = some x) (hx : Loc X.env.scope x) (r : RelV v u)
    (h : ∀ s', Inv X pins (σ.set i (some v)) H s' → Q () s') (hf : X.fn x = true ∨ X.env.scope.names.lookup x = some .local := by first | exact .inl rfl | exact .inr rfl | assumption) : wpAny M A (storeName X.env x u) Q E s :=
  store_ok2 I hN hi hx r (fun s' I' _ => h s' I') hf
theorem Inv.call' {s' : Shared} {ch : List Addr} (I : Inv X pins σ H s) (ho : s'.os = s.os) (u : Un (frs X.stack) ch H H' s.heap s'.heap) (hok : HOk X.prog X.w H' s'.heap) (hg : AllBare s'.gens)
    (hch : ∀ b ∈ ch, (b ∈ X.ex ∨ X.s₀.heap.objs.size ≤ b) ∧ b ≠ X.env.locals ∧ (∀ x c, X.env.cells.lookup x = some c → c ≠ b) ∧ ∀ p ∈ X.pn ++ pins, p.1 ≠ b) : Inv X pins σ H' s' := by
  obtain ⟨h', g', d', t', o'⟩ := s'
  have e : o' = s.os := ho
  subst e
  exact I.call (g' := g') (t' := t') (d' := d') u hok hg hch
end
abbrev XK := Value → Option Addr → Hp → Prop
abbrev St := List (Option V)
abbrev VK := V → Hp → Prop
abbrev TE := St → Hp → VK → Prop
abbrev TT := St → Hp → (Bool → Hp → Prop) → Prop
abbrev TA := St → Hp → (List V → Hp → Prop) → Prop
structure Ends where
  nx : St → Hp → Prop
  rt : VK
  bk : St → Hp → Prop := fun _ _ => False
  ct : St → Hp → Prop := fun _ _ => False
abbrev TS := Ends → St → Hp → Prop
def EP (X : Cx) (pins : List (Addr × Obj)) (σ : St) (Q : VK) (u : Value) (s' : Shared) : Prop := ∃ v H', Inv X pins σ H' s' ∧ RelV v u ∧ Q v H'
def TP (X : Cx) (pins : List (Addr × Obj)) (σ : St) (Q : Bool → Hp → Prop) (b : Bool) (s' : Shared) : Prop := ∃ H', Inv X pins σ H' s' ∧ Q b H'
def AP (X : Cx) (pins : List (Addr × Obj)) (σ : St) (Q : List V → Hp → Prop) (us : List Value) (s' : Shared) : Prop := ∃ vs H', Inv X pins σ H' s' ∧ Vals vs us ∧ Q vs H'
def SP (X : Cx) (pins : List (Addr × Obj)) (D : Ends) (f : Flow) (s' : Shared) : Prop :=
  match f with
  | .next => ∃ σ' H', Inv X pins σ' H' s' ∧ D.nx σ' H'
  | .brk => ∃ σ' H', Inv X pins σ' H' s' ∧ D.bk σ' H'
  | .cont => ∃ σ' H', Inv X pins σ' H' s' ∧ D.ct σ' H'
  | .ret u => ∃ v σ' H', Inv X pins σ' H' s' ∧ RelV v u ∧ D.rt v H'
def PE (X : Cx) (e : Expr) (t : TE) : Prop :=
  ∀ (pins : List (Addr × Obj)) (s : Shared) (σ : St) (H : Hp) (Q : VK), Inv X pins σ H s → t σ H Q → wpAny (model X.prog X.w) X.A (eval e X.env) (EP X pins σ Q) X.xe s
def PT (X : Cx) (e : Expr) (t : TT) : Prop :=
  ∀ (pins : List (Addr × Obj)) (s : Shared) (σ : St) (H : Hp) (Q : Bool → Hp → Prop), Inv X pins σ H s → t σ H Q → wpAny (model X.prog X.w) X.A (isTrue e X.env (eval e X.env)) (TP X pins σ Q) X.xe s
def PW (X : Cx) (e : Expr) (t : TT) : Prop :=
  ∀ (whole : Sem Value) (pins : List (Addr × Obj)) (s : Shared) (σ : St) (H : Hp) (Q : Bool → Hp → Prop), Inv X pins σ H s → t σ H Q → wpAny (model X.prog X.w) X.A (isTrue e X.env whole) (TP X pins σ Q) X.xe s
theorem PW.pt {X : Cx} {e : Expr} {t : TT} (h : PW X e t) : PT X e t := h _
def PA (X : Cx) (es : List Expr) (t : TA) : Prop :=
  ∀ (pos : Pos) (pins : List (Addr × Obj)) (s : Shared) (σ : St) (H : Hp) (Q : List V → Hp → Prop), Inv X pins σ H s → t σ H Q → wpAny (model X.prog X.w) X.A (spliced (backTo pos (starEach es X.env))) (AP X pins σ Q) X.xe s
def PS (X : Cx) (st : Stmt) (t : TS) : Prop :=
  ∀ (pins : List (Addr × Obj)) (s : Shared) (σ : St) (H : Hp) (D : Ends), Inv X pins σ H s → t D σ H → wpAny (model X.prog X.w) X.A (exec st X.env) (SP X pins D) X.xe s
def PSs (X : Cx) (st : List Stmt) (t : TS) : Prop :=
  ∀ (pins : List (Addr × Obj)) (s : Shared) (σ : St) (H : Hp) (D : Ends), Inv X pins σ H s → t D σ H → wpAny (model X.prog X.w) X.A (execs st X.env) (SP X pins D) X.xe s
theorem thn {α : Type} {t : Sem α} {Q Q' : α → Shared → Prop} {M : Model} {A : Around} {E : Value → Shared → Prop} {s : Shared} (h : wpAny M A t Q E s) (hQ : ∀ a s, Q a s → Q' a s) : wpAny M A t Q' E s := wpAny_mono h hQ fun _ _ x => x
end L2
namespace L2
open PySem PySem.Spec PyProof.Rows
section
variable {X : Cx}
def tVar (i : Nat) : TE := fun σ H Q => ∃ v, σ[i]? = some (some v) ∧ Q v H
def tC (v : V) : TE := fun _ H Q => Q v H
theorem pe_var {i : Nat} {x : Str} {pos : Pos} (hN : X.N[i]? = some x) (hv : Vis X.env.scope x) (hd : (x == ("__debug__" : Str)) = false := by decide) (hcd : (x == ("__classdict__" : Str)) = false := by decide) : PE X (.Name x pos) (tVar i) := by
  intro pins s σ H Q I h
  obtain ⟨v, e, h⟩ := h
  obtain ⟨m, hn, hl⟩ := I.loc
  obtain ⟨u, r, l⟩ := hl i x v hN e hv
  have fin : EP X pins σ Q u s := ⟨v, H, I, r, h⟩
  rcases l with ⟨hk, hm⟩ | ⟨hk, c, hc, hcell⟩
  · exact wpAny_Name (wpAny_loadName_local I.ok.kind hk hn hm fin) hd
  · rcases hk with hk | hk
    · exact wpAny_Name (wpAny_loadName_cell I.ok.kind hk hc hcell fin) hd
    · exact wpAny_Name (wpAny_loadName_free I.ok.kind hk hc hcell fin hcd) hd
theorem pe_int {i j pos} : PE X (.Constant (.int i) j pos) (tC (.int i)) := fun _ _ _ H _ I h => wpAny_Constant_int ⟨.int i, H, I.tok _, ⟨_, rfl⟩, h⟩
theorem pe_bl {b j pos} : PE X (.Constant (.bool b) j pos) (tC (.bl b)) := fun _ _ _ H _ I h => Constant_bool ⟨.bl b, H, I, rfl, h⟩
theorem pe_non {j pos} : PE X (.Constant .none j pos) (tC .non) := fun _ _ _ H _ I h => Constant_none ⟨.non, H, I, rfl, h⟩
def Gl (X : Cx) (x : Str) : Prop := X.env.kindOf x = some .globalImplicit
theorem ld_glob {E : Value → Shared → Prop} {pins : List (Addr × Obj)} {s : Shared} {σ : St} {H : Hp} {x : Str} {u : Value} {pos : Pos} {Q : Value → Shared → Prop} (I : Inv X pins σ H s) (hg : Gl X x) (hm : X.mg x = some u) (h : Q u s)
    (hd : (x == ("__debug__" : Str)) = false := by decide) : wpAny (model X.prog X.w) X.A (eval (.Name x pos) X.env) Q E s :=
  Calls.Name_function_global I.ok.kind hg (Calls.loadGlobal_global (by rw [I.ok.glob]; exact I.mod.glob.keeps I.bk) hm h) hd
theorem ld_blt {E : Value → Shared → Prop} {pins : List (Addr × Obj)} {s : Shared} {σ : St} {H : Hp} {x : Str} {u : Value} {pos : Pos} {Q : Value → Shared → Prop} (I : Inv X pins σ H s) (hg : Gl X x) (hm : X.mg x = none) (hv : bootBuiltins x = some u) (h : Q u s)
    (hn : x ≠ "__name__" := by decide) (hd : (x == ("__debug__" : Str)) = false := by decide) : wpAny (model X.prog X.w) X.A (eval (.Name x pos) X.env) Q E s := by
  obtain ⟨mb, h1, h2⟩ := I.mod.blt
  exact Calls.Name_function_global I.ok.kind hg (Calls.loadGlobal_builtin (by rw [I.ok.glob]; exact I.mod.glob.keeps I.bk) hm (by rw [I.ok.blt]; exact h1.keeps I.bk) ((h2 x hn).trans hv) h) hd
theorem pe_glob {x : Str} {v : V} {u : Value} {pos : Pos} (hg : Gl X x) (hm : X.mg x = some u) (r : RelV v u) (hd : (x == ("__debug__" : Str)) = false := by decide) : PE X (.Name x pos) (tC v) :=
  fun _ _ _ H _ I h => ld_glob I hg hm ⟨v, H, I, r, h⟩ hd
theorem pe_bltn {x : Str} {v : V} {u : Value} {pos : Pos} (hg : Gl X x) (hm : X.mg x = none) (hv : bootBuiltins x = some u) (r : RelV v u) (hn : x ≠ "__name__" := by decide) (hd : (x == ("__debug__" : Str)) = false := by decide) : PE X (.Name x pos) (tC v) :=
  fun _ _ _ H _ I h => ld_blt I hg hm hv ⟨v, H, I, r, h⟩ hn hd
variable {a b : Expr} {ta tb : TE} {pos : Pos}
def tB (t : TE) : TT := fun σ H Q => t σ H fun x H1 => ∃ c, x = .bl c ∧ Q c H1
theorem pt_val {e : Expr} {t : TE} (h : PE X e t) (he : ∀ whole, isTrue e X.env whole = (do let v ← whole; standAt e.pos; holding [v] (truthy v)) := by intro _; rfl) : PT X e (tB t) := by
  intro pins s σ H Q I hw
  refine isTrue_plain (thn (h pins s σ H _ I hw) fun v s1 ⟨x, H1, I1, r1, q1⟩ => ?_) (he _)
  obtain ⟨d, rfl, q⟩ := q1
  cases r1
  exact wpAny_truthy_bool ⟨H1, I1, q⟩
variable {tA tB' : TT} {rest : List Expr}
def tAnd (t u : TT) : TT := fun σ H Q => t σ H fun c H1 => if c = true then u σ H1 Q else Q false H1
def tOr (t u : TT) : TT := fun σ H Q => t σ H fun c H1 => if c = true then Q true H1 else u σ H1 Q
def tNot (t : TT) : TT := fun σ H Q => t σ H fun c H1 => Q (!c) H1
theorem pw_and1 (ha : PT X a tA) : PW X (.BoolOp .And [a] pos) tA := by
  intro wh pins s σ H Q I h
  refine isTrue_and (thn (ha pins s σ H Q I h) fun c s1 e => ?_)
  cases c with
  | true => exact isTrue_and_nil e
  | false => exact e
theorem pw_or1 (ha : PT X a tA) : PW X (.BoolOp .Or [a] pos) tA := by
  intro wh pins s σ H Q I h
  refine isTrue_or (thn (ha pins s σ H Q I h) fun c s1 e => ?_)
  cases c with
  | false => exact isTrue_or_nil e
  | true => exact e
theorem pw_and (ha : PT X a tA) (hb : PW X (.BoolOp .And (b :: rest) pos) tB') : PW X (.BoolOp .And (a :: b :: rest) pos) (tAnd tA tB') := by
  intro wh pins s σ H Q I h
  refine isTrue_and (thn (ha pins s σ H _ I h) fun c s1 ⟨H1, I1, q1⟩ => ?_)
  cases c with
  | true => exact hb wh pins s1 σ H1 Q I1 q1
  | false => exact ⟨H1, I1, q1⟩
theorem pw_or (ha : PT X a tA) (hb : PW X (.BoolOp .Or (b :: rest) pos) tB') : PW X (.BoolOp .Or (a :: b :: rest) pos) (tOr tA tB') := by
  intro wh pins s σ H Q I h
  refine isTrue_or (thn (ha pins s σ H _ I h) fun c s1 ⟨H1, I1, q1⟩ => ?_)
  cases c with
  | true => exact ⟨H1, I1, q1⟩
  | false => exact hb wh pins s1 σ H1 Q I1 q1
theorem pt_not (ha : PT X a tA) : PT X (.UnaryOp .Not a pos) (tNot tA) := by
  intro pins s σ H Q I h
  exact isTrue_not (ha pins s σ H (fun c H1 => Q (!c) H1) I h)
def tAndV (ta tb : TE) : TE := fun σ H Q => ta σ H fun x H1 => ∃ c, x = .bl c ∧ if c = true then tb σ H1 Q else Q (.bl false) H1
def tOrV (ta tb : TE) : TE := fun σ H Q => ta σ H fun x H1 => ∃ c, x = .bl c ∧ if c = true then Q (.bl true) H1 else tb σ H1 Q
def tNotV (ta : TE) : TE := fun σ H Q => ta σ H fun x H1 => ∃ c, x = .bl c ∧ Q (.bl (!c)) H1
def tIf (t : TT) (ta tb : TE) : TE := fun σ H Q => t σ H fun c H1 => if c = true then ta σ H1 Q else tb σ H1 Q
end
end L2
namespace L2
open PySem PySem.Spec PyProof.Rows
def SqL (K : PySem.W.Frag) (H : Hp) (a : Addr) (xs : List V) : Prop :=
  Rd H a (.lst xs) ∨
    ∃ (o : Obj) (its : Array Value) (n : Nat), K.lookup a = some o ∧ o.cls = .type "list" ∧ o.dict = none ∧ o.data = .seq its n ∧ its.size ≤ sizeLine ∧ Vals xs its.toList
def SqT (K : PySem.W.Frag) (H : Hp) (a : Addr) (xs : List V) : Prop :=
  Rd H a (.tup xs) ∨
    ∃ (o : Obj) (its : Array Value) (n : Nat), K.lookup a = some o ∧ o.cls = .type "tuple" ∧ o.data = .seq its n ∧ its.size ≤ sizeLine ∧ Vals xs its.toList
def absV : Value → Option V
  | .none => some .non
  | .bool b => some (.bl b)
  | .int i _ => some (.int i)
  | .str x _ => some (.str x)
  | .bytes b _ => some (.byt b)
  | .float b _ => some (.flt b)
  | .ref a => some (.ref a)
  | .type n => some (.ty n)
  | _ => none
theorem RelV.abs {x : V} {u : Value} (r : RelV x u) : absV u = some x := by
  cases x with
  | non => cases r; rfl
  | bl _ => cases r; rfl
  | int _ => obtain ⟨t, rfl⟩ := r; rfl
  | str _ => obtain ⟨t, rfl⟩ := r; rfl
  | byt _ => obtain ⟨t, rfl⟩ := r; rfl
  | flt _ => obtain ⟨t, rfl⟩ := r; rfl
  | ref _ => cases r; rfl
  | ty _ => cases r; rfl
theorem RelV.inj {x y : V} {u : Value} (r : RelV x u) (q : RelV y u) : x = y := Option.some.inj (r.abs.symm.trans q.abs)
theorem Vals.inj : ∀ {xs ys : List V} {us : List Value}, Vals xs us → Vals ys us → xs = ys
  | _, _, _, .nil, .nil => rfl
  | _, _, _, .cons r t, .cons r' t' => by rw [r.inj r', Vals.inj t t']
section
variable {X : Cx} {pins : List (Addr × Obj)} {σ : St} {H : Hp} {s : Shared} {a : Addr} {xs ys : List V}
theorem SqL.of {K : PySem.W.Frag} (h : H a = some (.lst xs)) : SqL K H a xs := .inl (.inl h)
theorem SqT.of {K : PySem.W.Frag} (h : H a = some (.tup xs)) : SqT K H a xs := .inl (.inl h)
theorem Inv.list (I : Inv X pins σ H s) (h : SqL X.K H a xs) : ∃ its : List Value, Vals xs its ∧ PlainL s.heap a its.toArray ∧ xs.length ≤ sizeLine := by
  rcases h with h | ⟨o, its, n, hk, hc, hd, hs, hz, r⟩
  · obtain ⟨z, its, n, r, e⟩ := h.ok I.hok
    exact ⟨its, r, ⟨_, n, e, rfl, rfl, rfl⟩, z⟩
  · refine ⟨its.toList, r, ⟨o, n, I.kIn a o hk, hc, hd, by simpa using hs⟩, ?_⟩
    have e := r.length
    simp only [Array.length_toList] at e
    omega
theorem Inv.tuple (I : Inv X pins σ H s) (h : SqT X.K H a xs) : ∃ its : List Value, Vals xs its ∧ IsTup s.heap a its.toArray ∧ xs.length ≤ sizeLine := by
  rcases h with h | ⟨o, its, n, hk, hc, hs, hz, r⟩
  · obtain ⟨z, its, r, p⟩ := h.ok I.hok
    exact ⟨its, r, p, z⟩
  · refine ⟨its.toList, r, ⟨o, I.kIn a o hk, hc, n, by simpa using hs⟩, ?_⟩
    have e := r.length
    simp only [Array.length_toList] at e
    omega
theorem Inv.list_inj (I : Inv X pins σ H s) (h : SqL X.K H a xs) (h' : SqL X.K H a ys) : xs = ys := by
  obtain ⟨its, r, ⟨o, n, e, _, _, d⟩, _⟩ := I.list h
  obtain ⟨its', r', ⟨o', n', e', _, _, d'⟩, _⟩ := I.list h'
  rw [e] at e'; cases e'
  rw [d] at d'
  injection d' with d1 _
  have : its = its' := by simpa using congrArg Array.toList d1
  subst this
  exact r.inj r'
theorem Inv.tuple_inj (I : Inv X pins σ H s) (h : SqT X.K H a xs) (h' : SqT X.K H a ys) : xs = ys := by
  obtain ⟨its, r, ⟨o, e, _, n, d⟩, _⟩ := I.tuple h
  obtain ⟨its', r', ⟨o', e', _, n', d'⟩, _⟩ := I.tuple h'
  rw [e] at e'; cases e'
  rw [d] at d'
  injection d' with d1 _
  have : its = its' := by simpa using congrArg Array.toList d1
  subst this
  exact r.inj r'
end
abbrev Cx.wish (X : Cx) (E : Value → Shared → Prop) : Cx := { X with xe := E }
abbrev Cx.nox (X : Cx) : Cx := X.wish fun _ _ => False
theorem Cx.Ok.wish {X : Cx} (ok : X.Ok) (E : Value → Shared → Prop) : (X.wish E).Ok :=
  ⟨ok.mod, ok.kind, ok.glob, ok.blt, ok.above, ok.inj, ok.has, ok.cab, ok.hd, ok.frames, ok.stk, ok.exf, ok.bs, ok.bsz, ok.noex, ok.exfs, ok.funs, ok.frf⟩
theorem Cx.Ok.unwish {X : Cx} {E : Value → Shared → Prop} (ok : (X.wish E).Ok) : X.Ok :=
  ⟨ok.mod, ok.kind, ok.glob, ok.blt, ok.above, ok.inj, ok.has, ok.cab, ok.hd, ok.frames, ok.stk, ok.exf, ok.bs, ok.bsz, ok.noex, ok.exfs, ok.funs, ok.frf⟩
section
variable {X : Cx} {pins : List (Addr × Obj)} {σ : St} {H : Hp} {s : Shared} {E : Value → Shared → Prop}
theorem Inv.wish (I : Inv X pins σ H s) (E : Value → Shared → Prop) : Inv (X.wish E) pins σ H s := ⟨I.ok.wish E, I.os, I.bare, I.base, I.loc, I.cell, I.free, I.freeC, I.pin, I.hok, I.len⟩
theorem Inv.unwish (I : Inv (X.wish E) pins σ H s) : Inv X pins σ H s := ⟨I.ok.unwish, I.os, I.bare, I.base, I.loc, I.cell, I.free, I.freeC, I.pin, I.hok, I.len⟩
theorem SP.unwish {D : Ends} {f : Flow} {s' : Shared} (h : SP (X.wish E) pins D f s') : SP X pins D f s' := by
  cases f with
  | next => obtain ⟨σ', H', I, q⟩ := h; exact ⟨σ', H', I.unwish, q⟩
  | brk => obtain ⟨σ', H', I, q⟩ := h; exact ⟨σ', H', I.unwish, q⟩
  | cont => obtain ⟨σ', H', I, q⟩ := h; exact ⟨σ', H', I.unwish, q⟩
  | ret u => obtain ⟨v, σ', H', I, r, q⟩ := h; exact ⟨v, σ', H', I.unwish, r, q⟩
theorem PSs.nox {st : List Stmt} {t : TS} (h : PSs X.nox st t) : PSs X st t := fun pins s σ H D I hw =>
  wpAny_mono (h pins s σ H D (I.wish _) hw) (fun _ _ q => q.unwish) fun _ _ z => False.elim z
end
section
variable {X : Cx} {st : Stmt} {rest : List Stmt} {t u : TS} {e : Expr} {te : TE} {pos : Pos}
def tNext : TS := fun D σ H => D.nx σ H
def tSeq (t u : TS) : TS := fun D σ H => t { D with nx := u D } σ H
theorem pss_nil : PSs X [] tNext := fun _ _ σ H _ I h => wpAny_execs_nil ⟨σ, H, I, h⟩
theorem pss_cons (h1 : PS X st t) (h2 : PSs X rest u) : PSs X (st :: rest) (tSeq t u) := by
  intro pins s σ H D I h
  refine wpAny_execs_cons (thn (h1 pins s σ H { D with nx := u D } I h) fun f s1 q => ?_)
  cases f with
  | next =>
    obtain ⟨σ', H', I', q⟩ := q
    exact h2 pins s1 σ' H' D I' q
  | ret v => exact q
  | brk => exact q
  | cont => exact q
theorem pss_one (h1 : PS X st t) : PSs X [st] t := by
  intro pins s σ H D I h
  refine wpAny_execs_cons (thn (h1 pins s σ H D I h) fun f s1 q => ?_)
  cases f with
  | next => exact wpAny_execs_nil q
  | ret v => exact q
  | brk => exact q
  | cont => exact q
theorem Inv.quiet {pins : List (Addr × Obj)} {σ : St} {H : Hp} {s : Shared} (I : Inv X pins σ H s) : interactive X.env = false := by simp [interactive, I.ok.kind]
def tDrop (te : TE) : TS := fun D σ H => te σ H fun _ H1 => D.nx σ H1
theorem ps_expr (he : PE X e te) (hs : swapsWith e none pos.line X.env = pure false := by rfl) : PS X (.Expr e pos) (tDrop te) := by
  intro pins s σ H D I h
  exact wpAny_Expr_any (thn (he pins s σ H _ I h) fun v s1 ⟨x, H1, I1, r1, q1⟩ => ⟨σ, H1, I1, q1⟩) I.quiet hs
def tRet (te : TE) : TS := fun D σ H => te σ H D.rt
theorem ps_ret (he : PE X e te) : PS X (.Return (some e) pos) (tRet te) := by
  intro pins s σ H D I h
  exact wpAny_Return_some (thn (he pins s σ H _ I h) fun v s1 ⟨x, H1, I1, r1, q1⟩ => ⟨x, σ, H1, I1, r1, q1⟩)
def tRetN : TS := fun D _ H => D.rt .non H
def tIfS (c : TT) (t u : TS) : TS := fun D σ H => c σ H fun b H1 => if b = true then t D σ H1 else u D σ H1
theorem ps_if {c : Expr} {a b : List Stmt} {tc : TT} (hc : PT X c tc) (ha : PSs X a t) (hb : PSs X b u) : PS X (.If c a b pos) (tIfS tc t u) := by
  intro pins s σ H D I h
  refine wpAny_If (thn (hc pins s σ H _ I h) fun d s1 ⟨H1, I1, q1⟩ => ?_)
  cases d with
  | true => exact ha pins s1 σ H1 D I1 q1
  | false => exact hb pins s1 σ H1 D I1 q1
def tNever : TS := fun _ _ _ => False
theorem ps_never : PS X st tNever := fun _ _ _ _ _ _ h => h.elim
theorem pss_never {sts : List Stmt} : PSs X sts tNever := fun _ _ _ _ _ _ h => h.elim
end
abbrev TG := V → St → Hp → (St → Hp → Prop) → Prop
abbrev TGs := List V → St → Hp → (St → Hp → Prop) → Prop
def PG (X : Cx) (target : Expr) (t : TG) : Prop :=
  ∀ (pins : List (Addr × Obj)) (s : Shared) (σ : St) (H : Hp) (v : V) (u : Value) (Q : St → Hp → Prop), Inv X pins σ H s → RelV v u → t v σ H Q →
    wpAny (model X.prog X.w) X.A (assign target X.env u) (fun _ s' => ∃ σ' H', Inv X pins σ' H' s' ∧ Q σ' H') X.xe s
def PGs (X : Cx) (ts : List Expr) (t : TGs) : Prop :=
  ∀ (pins : List (Addr × Obj)) (s : Shared) (σ : St) (H : Hp) (vs : List V) (us : List Value) (Q : St → Hp → Prop), Inv X pins σ H s → Vals vs us → t vs σ H Q →
    wpAny (model X.prog X.w) X.A (assignInOrder ((assignEach ts X.env).map (·.2)) us) (fun _ s' => ∃ σ' H', Inv X pins σ' H' s' ∧ Q σ' H') X.xe s
abbrev TSet := V → V → V → Hp → (Hp → Prop) → Prop
def PSet (X : Cx) (t : TSet) : Prop :=
  ∀ (pins : List (Addr × Obj)) (s : Shared) (σ : St) (H : Hp) (o i v : V) (ov iv u : Value) (Q : Hp → Prop), Inv X pins σ H s → RelV o ov → RelV i iv → RelV v u → t o i v H Q →
    wpAny (model X.prog X.w) X.A (setItem ov iv u) (fun _ s' => ∃ H', Inv X pins σ H' s' ∧ Q H') X.xe s
abbrev TIp := V → V → Hp → VK → Prop
def PIp (X : Cx) (op : Operator) (t : TIp) : Prop :=
  ∀ (pins : List (Addr × Obj)) (s : Shared) (σ : St) (H : Hp) (x y : V) (v u : Value) (Q : VK), Inv X pins σ H s → RelV x v → RelV y u → t x y H Q →
    wpAny (model X.prog X.w) X.A (inplaceOp op v u) (EP X pins σ Q) X.xe s
section
variable {X : Cx} {pos : Pos}
def gName (i : Nat) : TG := fun v σ H Q => Q (σ.set i (some v)) H
theorem pg_name {i : Nat} {x : Str} (hN : X.N.Nodup) (hi : X.N[i]? = some x) (hx : Loc X.env.scope x) (hf : X.fn x = true ∨ X.env.scope.names.lookup x = some .local := by first | exact .inl rfl | exact .inr rfl | assumption) : PG X (.Name x pos) (gName i) := by
  intro pins s σ H v u Q I r h
  exact wpAny_assign_Name (store_ok I hN hi hx r (fun s' I' => ⟨_, H, I', h⟩) hf)
def gNil : TGs := fun vs σ H Q => vs = [] ∧ Q σ H
def gCons (t : TG) (u : TGs) : TGs := fun vs σ H Q => ∃ v r, vs = v :: r ∧ t v σ H fun σ' H' => u r σ' H' Q
theorem pgs_nil : PGs X [] gNil := by
  intro pins s σ H vs us Q I r h
  obtain ⟨e, h⟩ := h
  subst e
  cases r
  exact assignInOrder_nil ⟨σ, H, I, h⟩
theorem pgs_cons {e : Expr} {es : List Expr} {t : TG} {u : TGs} (h1 : PG X e t) (h2 : PGs X es u)
    (hs : (assignEach (e :: es) X.env).map (·.2) = assign e X.env :: (assignEach es X.env).map (·.2) := by rfl) : PGs X (e :: es) (gCons t u) := by
  intro pins s σ H vs us Q I r h
  obtain ⟨v, vr, e1, h⟩ := h
  subst e1
  cases r with
  | cons r rr =>
    rw [hs]
    refine assignInOrder_cons (thn (h1 pins s σ H _ _ _ I r h) fun _ s1 ⟨σ1, H1, I1, q1⟩ => ?_)
    exact h2 pins s1 σ1 H1 _ _ Q I1 rr q1
def gTup (K : PySem.W.Frag) (n : Nat) (t : TGs) : TG := fun v σ H Q => ∃ a xs, v = .ref a ∧ SqT K H a xs ∧ xs.length = n ∧ t xs σ H Q
theorem pg_tup {es : List Expr} {k : Nat} {t : TGs} {n : Nat} (hc : X.calm = true) (h : PGs X es t)
    (hn : (assignEach es X.env).length = n := by rfl) (hst : (assignEach es X.env).findIdx? (·.1) = none := by rfl) : PG X (.Tuple es k pos) (gTup X.K n t) := by
  intro pins s σ H v u Q I r hw
  obtain ⟨a, xs, e1, hq, hl, hw⟩ := hw
  subst e1
  cases r
  obtain ⟨its, rv, ht, hz⟩ := I.tuple hq
  refine assign_Tuple_tuple (I.ok.hd hc) ht (by simp [hn, ← hl, rv.length]) hst fun h' hx => ?_
  have I1 : Inv X pins σ H { s with heap := h' } := I.kept (t' := s.toks) fun b o e => hx b o (Nat.ne_of_lt (Heap.lt_size e)) e
  exact h pins _ σ H xs _ Q I1 (by simpa using rv) hw
def gSub (to ti : TE) (t : TSet) : TG := fun v σ H Q => to σ H fun o H1 => ti σ H1 fun i H2 => t o i v H2 fun H3 => Q σ H3
theorem pg_sub {o i : Expr} {to ti : TE} {t : TSet} (ho : PE X o to) (hi : PE X i ti) (hs : PSet X t)
    (ha : ∀ v, assign (.Subscript o i pos) X.env v = (do
      let ov ← holding [v] (eval o X.env)
      let iv ← holding [v, ov] (eval i X.env)
      standAt pos
      holding [v, ov, iv] (setItem ov iv v)
      release [v, ov, iv] []) := by intro _; rfl) : PG X (.Subscript o i pos) (gSub to ti t) := by
  intro pins s σ H v u Q I r h
  rw [ha]
  refine wpAny_bind (wpAny_holding (thn (ho pins s σ H _ I h) fun ov s1 ⟨x, H1, I1, r1, q1⟩ => ?_))
  refine wpAny_bind (wpAny_holding (thn (hi pins s1 σ H1 _ I1 q1) fun iv s2 ⟨y, H2, I2, r2, q2⟩ => ?_))
  refine wpAny_bind (wpAny_standAt (wpAny_bind (wpAny_holding (thn (hs pins s2 σ H2 x y v ov iv u _ I2 r1 r2 r q2) fun _ s3 ⟨H3, I3, q3⟩ => ?_))))
  exact wpAny_release ⟨σ, H3, I3, q3⟩
def tAsg (te : TE) (g : TG) : TS := fun D σ H => te σ H fun x H1 => g x σ H1 D.nx
theorem ps_asg {tg e : Expr} {te : TE} {g : TG} (he : PE X e te) (hg : PG X tg g) (hs : swapsWithSole [tg] e pos.line X.env = pure false := by rfl) (hw : swappedStores [tg] e X.env = pure none := by rfl)
    (h1 : (assignEach [tg] X.env).map (·.2) = [assign tg X.env] := by rfl) : PS X (.Assign [tg] e pos) (tAsg te g) := by
  intro pins s σ H D I h
  refine wpAny_Assign_stores (thn (he pins s σ H _ I h) fun v s1 ⟨x, H1, I1, r1, q1⟩ => ?_) hs hw
  rw [h1]
  exact thn (hg pins s1 σ H1 x v _ I1 r1 q1) fun _ s2 q => q
theorem ps_set {i : Nat} {x : Str} {e : Expr} {te : TE} {pos' : Pos} (hN : X.N.Nodup) (hi : X.N[i]? = some x) (hx : Loc X.env.scope x) (he : PE X e te) (hs : swapsWith e (some (.Name x pos')) pos.line X.env = pure false := by rfl) (hf : X.fn x = true ∨ X.env.scope.names.lookup x = some .local := by first | exact .inl rfl | exact .inr rfl | assumption) :
    PS X (.Assign [.Name x pos'] e pos) (tAsg te (gName i)) := by
  intro pins s σ H D I h
  refine wpAny_Assign_Name (thn (he pins s σ H _ I h) fun v s1 ⟨y, H1, I1, r1, q1⟩ => ?_) hs
  exact store_ok I1 hN hi hx r1 (fun s2 I2 => ⟨_, H1, I2, q1⟩) hf
def tAug (i : Nat) (te : TE) (ti : TIp) : TS := fun D σ H => ∃ x, σ[i]? = some (some x) ∧ te σ H fun y H1 => ti x y H1 fun z H2 => D.nx (σ.set i (some z)) H2
theorem ps_aug {i : Nat} {x : Str} {e : Expr} {te : TE} {op : Operator} {ti : TIp} {pos' : Pos} (hN : X.N.Nodup) (hi : X.N[i]? = some x) (hx : Loc X.env.scope x) (he : PE X e te) (ho : PIp X op ti) (hf : X.fn x = true ∨ X.env.scope.names.lookup x = some .local := by first | exact .inl rfl | exact .inr rfl | assumption) :
    PS X (.AugAssign (.Name x pos') op e pos) (tAug i te ti) := by
  intro pins s σ H D I h
  obtain ⟨v, e1, h⟩ := h
  obtain ⟨m, hn, hl⟩ := I.loc
  have vis : Vis X.env.scope x := by rcases hx with k | k; exact .inl k; exact .inr (.inl k)
  obtain ⟨u, r, l⟩ := hl i x v hi e1 vis
  refine wpAny_AugAssign_Name ?_
  have go : wpAny (model X.prog X.w) X.A (eval e X.env) (fun w s₂ => wpAny (model X.prog X.w) X.A (inplaceOp op u w) (fun r s₃ => wpAny (model X.prog X.w) X.A (storeName X.env x r) (fun _ => SP X pins D .next) X.xe s₃) X.xe s₂) X.xe s := by
    refine thn (he pins s σ H _ I h) fun w s1 ⟨y, H1, I1, r1, q1⟩ => ?_
    refine thn (ho pins s1 σ H1 v y u w _ I1 r r1 q1) fun z s2 ⟨zv, H2, I2, r2, q2⟩ => ?_
    exact store_ok I2 hN hi hx r2 (fun s3 I3 => ⟨_, H2, I3, q2⟩) hf
  rcases l with ⟨hk, hm⟩ | ⟨hk, c, hc, hcell⟩
  · exact wpAny_loadName_local I.ok.kind hk hn hm go
  · rcases hk with hk | hk
    · exact wpAny_loadName_cell I.ok.kind hk hc hcell go
    · rcases hx with k | k
      · have : X.env.scope.names.lookup x = some .free := hk
        rw [k] at this; cases this
      · have : X.env.scope.names.lookup x = some .free := hk
        rw [k] at this; cases this
def tAugS (to ti te : TE) (tget : V → V → Hp → VK → Prop) (tip : TIp) (tset : TSet) : TS := fun D σ H => to σ H fun o H1 => ti σ H1 fun i H2 => tget o i H2 fun x H3 => te σ H3 fun y H4 => tip x y H4 fun z H5 => tset o i z H5 fun H6 => D.nx σ H6
def ipI (f : Int → Int → Int) : TIp := fun x y H Q => ∃ i j, x = .int i ∧ y = .int j ∧ Q (.int (f i j)) H
theorem ip_add : PIp X .Add (ipI fun i j => i + j) := by
  intro pins s σ H x y v u Q I r1 r2 h
  obtain ⟨i, j, e1, e2, q⟩ := h
  subst e1; subst e2
  obtain ⟨t, rfl⟩ := r1
  obtain ⟨t', rfl⟩ := r2
  exact iadd_int ⟨.int _, H, I.tok _, ⟨_, rfl⟩, q⟩
end
section
variable {X : Cx} {pos : Pos}
def tWhile (c : TT) (tb : TS) : TS := fun D σ H => ∃ W : Nat → St → Hp → Prop, (∃ m, W m σ H) ∧ ∀ m σ H, W m σ H →
  c σ H fun b H1 => if b = true then ∃ N : St → Hp → Prop, (∀ σ' H', N σ' H' → ∃ m', m' < m ∧ W m' σ' H') ∧ tb { D with nx := N, ct := N, bk := D.nx } σ H1 else D.nx σ H1
theorem ps_while {c : Expr} {body : List Stmt} {tc : TT} {tb : TS} (hp : PassesOwn (model X.prog X.w) X.A X.env X.xe) (hc : PT X c tc) (hb : PSs X body tb) : PS X (.While c body [] pos) (tWhile tc tb) := by
  intro pins s σ H D I h
  obtain ⟨W, ⟨m0, w0⟩, turn⟩ := h
  refine wpAny_While (codeAny_whileLoop (fun n s' => ∃ σ' H', Inv X pins σ' H' s' ∧ W n σ' H') ?_ m0 ⟨σ, H, I, w0⟩)
  rintro n s1 ⟨σ1, H1, I1, w1⟩
  refine wpAny_passesOwn hp (thn (hc pins s1 σ1 H1 _ I1 (turn n σ1 H1 w1)) fun b s2 ⟨H2, I2, q2⟩ => ?_)
  cases b with
  | true =>
    obtain ⟨N, hN, q2⟩ := q2
    rw [if_pos rfl]
    refine wpAny_passesOwn hp (thn (hb pins s2 σ1 H2 _ I2 q2) fun f s3 q3 => ?_)
    cases f with
    | next =>
      obtain ⟨σ3, H3, I3, n3⟩ := q3
      obtain ⟨m', hm, w3⟩ := hN σ3 H3 n3
      exact ⟨m', hm, σ3, H3, I3, w3⟩
    | cont =>
      obtain ⟨σ3, H3, I3, n3⟩ := q3
      obtain ⟨m', hm, w3⟩ := hN σ3 H3 n3
      exact ⟨m', hm, σ3, H3, I3, w3⟩
    | brk => exact q3
    | ret v => exact q3
  | false =>
    rw [if_neg Bool.false_ne_true]
    exact wpAny_execs_nil ⟨σ1, H2, I2, q2⟩
end
structure It where
  go : Nat → Hp → Prop
  yld : Nat → Hp → V → Hp → Prop
  stop : Nat → Hp → Prop
def FpOk (X : Cx) (pins : List (Addr × Obj)) (H : Hp) (b : Addr) : Prop :=
  H b = none ∧ b ≠ X.env.locals ∧ b ∉ X.fs ∧ (b ∈ X.ex ∨ X.s₀.heap.objs.size ≤ b) ∧ (∀ x c, X.env.cells.lookup x = some c → c ≠ b) ∧ ∀ p ∈ X.pn ++ pins, p.1 ≠ b
theorem Inv.fpOk {X : Cx} {pins : List (Addr × Obj)} {σ : St} {H H' : Hp} {s : Shared} {b : Addr} (I : Inv X pins σ H s) (hb : s.heap.objs.size ≤ b) (hn : H' b = none) : FpOk X pins H' b := by
  refine ⟨hn, Nat.ne_of_gt (Nat.lt_of_lt_of_le I.lt hb), I.nofs hb, .inr (Nat.le_trans I.sz hb), fun x c e z => ?_, fun p hp z => ?_⟩
  · obtain ⟨v, q⟩ := I.cell x c e
    exact absurd (Nat.lt_of_lt_of_le q.lt (by rw [z]; exact hb)) (Nat.lt_irrefl _)
  · exact absurd (Nat.lt_of_lt_of_le (Heap.lt_size (I.pin p hp).1) (by rw [z]; exact hb)) (Nat.lt_irrefl _)
structure Turn (P : Program) (w : World) (K : PySem.W.Frag) (tg : Expr) (J : It) (fp : List Addr) (it : Addr) (tn : Nat → Heap → Prop) : Prop where
  mem : it ∈ fp
  obj : ∀ i h, tn i h → ∀ b ∈ fp, ∃ o, h.get? b = some o ∧ ∀ v, o.data ≠ .cell v
  keep : ∀ i h h', tn i h → (∀ b ∈ fp, ∀ o, h.get? b = some o → h'.get? b = some o) → tn i h'
  item : ∀ (X : Cx), X.prog = P → X.w = w → X.K = K → X.calm = true → ∀ (i : Nat) (pins : List (Addr × Obj)) (s : Shared) (σ : St) (H : Hp) (E : Value → Shared → Prop), Inv X pins σ H s → (∀ b ∈ fp, FpOk X pins H b) → tn i s.heap → J.go i H →
    wpAny (model P w) X.A (pyNext (.ref it)) (fun r s1 => ∃ u, r = some u ∧
      wpAny (model P w) X.A (letOwnedTupleGo tg (.ref it) u) (fun _ s2 => ∃ x H', Inv X pins σ H' s2 ∧ RelV x u ∧ J.yld i H x H' ∧ tn (i + 1) s2.heap ∧ ∀ b ∈ fp, H' b = none) E s1) E s
  done : ∀ (X : Cx), X.prog = P → X.w = w → X.K = K → X.calm = true → ∀ (i : Nat) (pins : List (Addr × Obj)) (s : Shared) (σ : St) (H : Hp) (E : Value → Shared → Prop), Inv X pins σ H s → (∀ b ∈ fp, FpOk X pins H b) → tn i s.heap → J.stop i H →
    wpAny (model P w) X.A (pyNext (.ref it)) (fun r s1 => r = none ∧ Inv X pins σ H s1) E s
  self : ∀ (A : Around) (i : Nat) (s : Shared) (Q : Value → Shared → Prop) (E : Value → Shared → Prop), tn i s.heap → Q (.ref it) s → wpAny (model P w) A (pyIter (.ref it)) Q E s
abbrev TI := St → Hp → (It → Hp → Prop) → Prop
def PIE (X : Cx) (pins : List (Addr × Obj)) (σ : St) (tg : Expr) (R : It → Hp → Prop) (itv : Value) (s2 : Shared) : Prop :=
  ∃ (it : Addr) (fp : List Addr) (tn : Nat → Heap → Prop) (J : It) (H' : Hp), itv = .ref it ∧ Inv X pins σ H' s2 ∧ Turn X.prog X.w X.K tg J fp it tn ∧ tn 0 s2.heap ∧ (∀ b ∈ fp, FpOk X pins H' b) ∧ R J H'
def PI (X : Cx) (tg iter : Expr) (wi : TI) : Prop :=
  ∀ (pins : List (Addr × Obj)) (s : Shared) (σ : St) (H : Hp) (R : It → Hp → Prop), Inv X pins σ H s → wi σ H R →
    wpAny (model X.prog X.w) X.A (eval iter X.env) (fun v s1 => wpAny (model X.prog X.w) X.A (pyIter v) (PIE X pins σ tg R) X.xe s1) X.xe s
theorem go_of {M : Model} {A : Around} {E : Value → Shared → Prop} {s : Shared} {tg : Expr} {it : Addr} {u : Value} {o : Obj} {n : String} {vs : Array Value} {Q : Unit → Shared → Prop} (ho : s.heap.get? it = some o) (hc : o.cls = .type n) (hd : o.data = .fields vs)
    (hn : ["enumerate", "zip", "dict_itemiterator", "dict_reverseitemiterator", "odict_iterator", "itertools.zip_longest", "itertools.pairwise"].contains n = false) (hQ : Q () s) : wpAny M A (letOwnedTupleGo tg (.ref it) u) Q E s := by
  unfold letOwnedTupleGo
  cases tg <;> first
    | exact wpAny_pure hQ
    | (cases u <;> first
        | exact wpAny_pure hQ
        | (refine wpAny_bind (wpAny_load ho ?_)
           rw [hc, hd]
           show wpAny M A (if (["enumerate", "zip", "dict_itemiterator", "dict_reverseitemiterator", "odict_iterator", "itertools.zip_longest", "itertools.pairwise"].contains n && vs[0]? == some (rawInt _)) = true then _ else _) Q E s
           rw [if_neg (by intro h; rw [hn, Bool.false_and] at h; cases h)]
           exact wpAny_pure hQ))
def Itl (K : PySem.W.Frag) (a : Addr) : It :=
  ⟨fun i H => ∃ xs x, SqL K H a xs ∧ xs[i]? = some x, fun i H x H' => H' = H ∧ ∀ xs, SqL K H a xs → xs[i]? = some x, fun i H => ∃ xs, SqL K H a xs ∧ xs.length ≤ i⟩
def Itr (lo : Int) (n : Nat) : It := ⟨fun i _ => i < n, fun i H x H' => H' = H ∧ x = .int (lo + i), fun i _ => n ≤ i⟩
theorem turn_list {P : Program} {w : World} {K : PySem.W.Frag} {tg : Expr} (a it : Addr) : Turn P w K tg (Itl K a) [it] it (fun i h => h.IsListIter it a i) where
  mem := by simp
  obj := fun i h st b hb => by
    have e : b = it := by simpa using hb
    subst e
    obtain ⟨o, e, c, d⟩ := st
    exact ⟨o, e, fun v z => by rw [d] at z; cases z⟩
  keep := fun i h h' st k => st.at fun o e => k it (by simp) o e
  item := by
    intro X hP hw hK hc i pins s σ H E I hf st hg
    subst hP hw hK
    obtain ⟨xs, x, hq, hx⟩ := hg
    obtain ⟨its, rv, p, hz⟩ := I.list hq
    obtain ⟨u, hu, ru⟩ := rv.get hx
    obtain ⟨f0, f1, f2, f3, f4, f5⟩ := hf it (by simp)
    refine wpAny_pyNext_list_item st p.isList (x := u) (by simpa using hu) fun h' st' sb => ?_
    have I1 : Inv X pins σ H { s with heap := h' } := I.turned (t' := s.toks) (fun b o hb e => (sb.2 b hb).trans e) f0 f1 f3 f4 f5
    obtain ⟨o, e, c, d⟩ := id st'
    exact ⟨u, rfl, go_of (s := { s with heap := h' }) e c d (by decide) ⟨x, H, I1, ru, ⟨rfl, fun ys hy => by rw [I.list_inj hy hq]; exact hx⟩, st', fun b hb => (hf b hb).1⟩⟩
  done := by
    intro X hP hw hK hc i pins s σ H E I hf st hg
    subst hP hw hK
    obtain ⟨xs, hq, hx⟩ := hg
    obtain ⟨its, rv, p, hz⟩ := I.list hq
    obtain ⟨f0, f1, f2, f3, f4, f5⟩ := hf it (by simp)
    have hl := rv.length
    exact wpAny_pyNext_list_end (I.ok.hd hc) st p.isList (by simp; omega) fun h' eb => ⟨rfl, I.turned (t' := s.toks) (fun b o hb e => eb b o hb e) f0 f1 f3 f4 f5⟩
  self := fun _ _ _ _ _ st h => wpAny_pyIter_listiter st h
theorem turn_range {P : Program} {w : World} {K : PySem.W.Frag} {tg : Expr} (it : Addr) (lo : Int) (n : Nat) : Turn P w K tg (Itr lo n) [it] it (fun i h => IsRangeIter h it (lo + (i : Nat) * 1) ((n : Int) - (i : Nat)) 1) where
  mem := by simp
  obj := fun i h st b hb => by
    have e : b = it := by simpa using hb
    subst e
    exact ⟨_, st, fun v z => by
      have z' : Data.fields _ = Data.cell v := z
      cases z'⟩
  keep := fun i h h' st k => k it (by simp) _ st
  item := by
    intro X hP hw hK hc i pins s σ H E I hf st hg
    subst hP hw hK
    obtain ⟨f0, f1, f2, f3, f4, f5⟩ := hf it (by simp)
    have W := Walks.range (prog := X.prog) (w := X.w) (I.ok.hd hc) it lo 1 n
    refine W.item i s _ _ hg st fun v h' tk hv st' kk => ?_
    obtain ⟨t, rfl⟩ := hv
    have I1 : Inv X pins σ H { s with heap := h', toks := tk } := I.turned (fun b o hb e => kk b o (by simpa using hb) e) f0 f1 f3 f4 f5
    refine ⟨_, rfl, go_of (s := { s with heap := h', toks := tk }) (n := "range_iterator") st' rfl rfl (by decide) ⟨.int (lo + i), H, I1, ⟨t, ?_⟩, ⟨rfl, rfl⟩, st', fun b hb => (hf b hb).1⟩⟩
    rw [Int.mul_one]
  done := by
    intro X hP hw hK hc i pins s σ H E I hf st hg
    subst hP hw hK
    obtain ⟨f0, f1, f2, f3, f4, f5⟩ := hf it (by simp)
    exact wpAny_pyNext_range_end (I.ok.hd hc) st (by have : n ≤ i := hg; omega) fun h' eb => ⟨rfl, I.turned (t' := s.toks) (fun b o hb e => eb b o hb e) f0 f1 f3 f4 f5⟩
  self := fun _ _ _ _ _ st h => wpAny_pyIter_rangeiter st h
end L2
namespace L2
open PySem PySem.Spec PyProof.Rows
section
variable {X : Cx} {tg : Expr}
def iList (K : PySem.W.Frag) (tl : TE) : TI := fun σ H R => tl σ H fun x H1 => ∃ a, x = .ref a ∧ (∃ xs, SqL K H1 a xs) ∧ R (Itl K a) H1
theorem pi_list {l : Expr} {tl : TE} (hl : PE X l tl) : PI X tg l (iList X.K tl) := by
  intro pins s σ H R I h
  refine thn (hl pins s σ H _ I h) fun v s1 ⟨x, H1, I1, r1, q1⟩ => ?_
  obtain ⟨a, e, ⟨xs, hq⟩, q⟩ := q1
  subst e
  cases r1
  obtain ⟨its, rv, p, hz⟩ := I1.list hq
  refine wpAny_pyIter_list p.isList ?_
  refine ⟨s1.heap.objs.size, [s1.heap.objs.size], _, _, H1, rfl, I1.kept (t' := s1.toks) fun b o e => Heap.get?_push_of_some _ e, turn_list a _, ⟨_, Heap.get?_push_size _ rfl, rfl, rfl⟩, fun b hb => ?_, q⟩
  have e : b = s1.heap.objs.size := by simpa using hb
  subst e
  exact I1.fpOk (Nat.le_refl _) (I1.hok.fresh (Nat.le_refl _))
theorem range_it {pins : List (Addr × Obj)} {σ : St} {H : Hp} {s : Shared} {R : It → Hp → Prop} {E : Value → Shared → Prop} {lo hi : Int} {t u v : Tok} {tk : Nat} (I : Inv X pins σ H s) (h1 : -(2 ^ 62) ≤ lo) (h2 : lo < 2 ^ 62) (h3 : -(2 ^ 62) ≤ hi) (h4 : hi < 2 ^ 62)
    (q : R (Itr lo (hi - lo).toNat) H) : wpAny (model X.prog X.w) X.A (pyIter (.ref s.heap.objs.size)) (PIE X pins σ tg R) E { s with heap := s.heap.push { cls := .type "range", data := .fields #[.int lo t, .int hi u, .int 1 v] }, toks := tk } := by
  refine wpAny_pyIter_range (IsRange.new ..) (small_one h1 h2 h3 h4) ?_
  have I1 : Inv X pins σ H { s with heap := s.heap.push { cls := .type "range", data := .fields #[.int lo t, .int hi u, .int 1 v] }, toks := tk } := I.kept fun b o e => Heap.get?_push_of_some _ e
  refine ⟨(s.heap.push { cls := .type "range", data := .fields #[.int lo t, .int hi u, .int 1 v] }).objs.size, [(s.heap.push { cls := .type "range", data := .fields #[.int lo t, .int hi u, .int 1 v] }).objs.size], _, _, H, rfl,
    I1.kept (t' := tk) fun b o e => Heap.get?_push_of_some _ e, turn_range _ lo (hi - lo).toNat, ?_, fun b hb => ?_, q⟩
  · have e1 : lo + ((0 : Nat) : Int) * 1 = lo := by simp
    have e2 : (((hi - lo).toNat : Nat) : Int) - ((0 : Nat) : Int) = Builtin.Range.rangeSize lo hi 1 := by rw [rangeSize_one]; split <;> omega
    show IsRangeIter _ _ (lo + ((0 : Nat) : Int) * 1) ((((hi - lo).toNat : Nat) : Int) - ((0 : Nat) : Int)) 1
    rw [e1, e2]
    exact Heap.get?_push_size _ rfl
  · have e : b = (s.heap.push { cls := .type "range", data := .fields #[.int lo t, .int hi u, .int 1 v] }).objs.size := by simpa using hb
    subst e
    exact I1.fpOk (Nat.le_refl _) (I1.hok.fresh (Nat.le_refl _))
def iRng1 (ta : TA) : TI := fun σ H R => ta σ H fun vs H1 => ∃ j : Int, vs = [.int j] ∧ -(2 ^ 62) ≤ j ∧ j < 2 ^ 62 ∧ R (Itr 0 j.toNat) H1
def iRng2 (ta : TA) : TI := fun σ H R => ta σ H fun vs H1 => ∃ i j : Int, vs = [.int i, .int j] ∧ (-(2 ^ 62) ≤ i ∧ i < 2 ^ 62 ∧ -(2 ^ 62) ≤ j ∧ j < 2 ^ 62) ∧ R (Itr i (j - i).toNat) H1
theorem pi_range1 {a : Expr} {ta : TA} {p pos : Pos} (hg : Gl X "range") (hm : X.mg "range" = none) (ha : PA X [a] ta) (hs : starEach [a] X.env = [(false, eval a X.env)] := by rfl) : PI X tg (.Call (.Name "range" p) [a] [] pos) (iRng1 ta) := by
  intro pins s σ H R I h
  refine Call_ (ld_blt I hg hm boot_range (PyProof.Rows.callWith_type1 (thn (ha pos pins s σ H _ I h) fun us s1 ⟨vs, H1, I1, r1, q1⟩ => ?_) hs rfl))
  obtain ⟨j, e, q1, q2, q⟩ := q1
  subst e
  cases r1 with
  | cons r rr =>
    cases rr
    obtain ⟨t, rfl⟩ := r
    exact call_range_1 (range_it I1 (by omega) (by omega) q1 q2 (by simpa using q))
theorem pi_range2 {a b : Expr} {ta : TA} {p pos : Pos} (hg : Gl X "range") (hm : X.mg "range" = none) (ha : PA X [a, b] ta) (hs : starEach [a, b] X.env = [(false, eval a X.env), (false, eval b X.env)] := by rfl) (hs2 : starEach [b] X.env = [(false, eval b X.env)] := by rfl) :
    PI X tg (.Call (.Name "range" p) [a, b] [] pos) (iRng2 ta) := by
  intro pins s σ H R I h
  refine Call_ (ld_blt I hg hm boot_range (PyProof.Rows.callWith_type1 (thn (ha pos pins s σ H _ I h) fun us s1 ⟨vs, H1, I1, r1, q1⟩ => ?_) (by rw [hs, hs2]) (by rw [hs2]; rfl)))
  obtain ⟨i, j, e, ⟨q1, q2, q3, q4⟩, q⟩ := q1
  subst e
  cases r1 with
  | cons r rr =>
    cases rr with
    | cons r' rr =>
      cases rr
      obtain ⟨t, rfl⟩ := r
      obtain ⟨t', rfl⟩ := r'
      exact call_range_2 (range_it I1 q1 q2 q3 q4 q)
def tFor (wi : TI) (g : TG) (tb : TS) : TS := fun D σ H => wi σ H fun J H1 => ∃ W : Nat → Nat → St → Hp → Prop, (∃ m, W 0 m σ H1) ∧ ∀ i m σ H, W i m σ H →
  (J.stop i H ∧ D.nx σ H) ∨ (J.go i H ∧ ∃ N : St → Hp → Prop, (∀ σ' H', N σ' H' → ∃ m', m' < m ∧ W (i + 1) m' σ' H') ∧ ∀ x H', J.yld i H x H' → g x σ H' fun σ2 H2 => tb { D with nx := N, ct := N, bk := D.nx } σ2 H2)
def pinsAt (fp : List Addr) (h : Heap) : List (Addr × Obj) := fp.filterMap fun b => (h.get? b).map fun o => (b, o)
theorem mem_pinsAt {fp : List Addr} {h : Heap} {b : Addr} {o : Obj} (hb : b ∈ fp) (e : h.get? b = some o) : (b, o) ∈ pinsAt fp h := List.mem_filterMap.mpr ⟨b, hb, by rw [e]; rfl⟩
theorem of_pinsAt {fp : List Addr} {h : Heap} {p : Addr × Obj} (hp : p ∈ pinsAt fp h) : p.1 ∈ fp ∧ h.get? p.1 = some p.2 := by
  obtain ⟨b, hb, e⟩ := List.mem_filterMap.mp hp
  cases q : h.get? b with
  | none => rw [q] at e; cases e
  | some o =>
    rw [q] at e
    have e' : (b, o) = p := Option.some.inj e
    subst e'
    exact ⟨hb, q⟩
theorem Inv.pinned {pins : List (Addr × Obj)} {σ : St} {H : Hp} {s : Shared} {fp : List Addr} (I : Inv X pins σ H s) (hf : ∀ b ∈ fp, FpOk X pins H b) (ho : ∀ b ∈ fp, ∃ o, s.heap.get? b = some o ∧ ∀ v, o.data ≠ .cell v) : Inv X (pins ++ pinsAt fp s.heap) σ H s :=
  I.pins_of fun p hp => (List.mem_append.mp hp).elim (fun z => I.pin p (List.mem_append_right _ z)) fun z => by
    obtain ⟨hb, e⟩ := of_pinsAt z
    obtain ⟨f0, f1, f2, _⟩ := hf p.1 hb
    obtain ⟨o, e', d⟩ := ho p.1 hb
    rw [e] at e'; cases e'
    exact ⟨e, f0, f1, f2, d⟩
theorem Inv.unpinned {pins pl : List (Addr × Obj)} {σ : St} {H : Hp} {s : Shared} (I : Inv X (pins ++ pl) σ H s) : Inv X pins σ H s := I.pins_of fun p hp => I.pin p (List.mem_append_right _ (List.mem_append_left _ hp))
theorem ps_for {iter : Expr} {body : List Stmt} {wi : TI} {g : TG} {tb : TS} {pos : Pos} (hp : PassesOwn (model X.prog X.w) X.A X.env X.xe) (hc : X.calm = true) (hi : PI X tg iter wi) (hg : PG X tg g) (hb : PSs X body tb)
    (hs : ∀ x, foldedSetIterable iter X.env x = pure x := by intro _; rfl) : PS X (.For tg iter body [] pos) (tFor wi g tb) := by
  intro pins s σ H D I h
  refine wpAny_For (thn (hi pins s σ H _ I h) fun v s1 h1 => thn h1 fun itv s2 h2 => ?_) hs
  obtain ⟨it, fp, tn, J, H2, e, I2, T, st2, f2, W, ⟨m0, w0⟩, turn⟩ := h2
  subst e
  have stat : ∀ {H' : Hp}, (∀ b ∈ fp, H' b = none) → ∀ b ∈ fp, FpOk X pins H' b := fun hn b hb => ⟨hn b hb, (f2 b hb).2⟩
  refine codeAny_forLoop_any (fun n s' => ∃ i σ' H', Inv X pins σ' H' s' ∧ tn i s'.heap ∧ (∀ b ∈ fp, H' b = none) ∧ W i n σ' H') ?_ m0 ⟨0, σ, H2, I2, st2, fun b hb => (f2 b hb).1, w0⟩
  rintro n s3 ⟨i, σ3, H3, I3, st3, fr3, w3⟩
  rcases turn i n σ3 H3 w3 with ⟨stop, qn⟩ | ⟨go, N, hN, step⟩
  · refine wpAny_passesOwn hp (thn (T.done X rfl rfl rfl hc i pins s3 σ3 H3 X.xe I3 (stat fr3) st3 stop) fun r s4 ⟨hr, I4⟩ => ?_)
    subst hr
    exact wpAny_execs_nil ⟨σ3, H3, I4, qn⟩
  · refine wpAny_passesOwn hp (thn (T.item X rfl rfl rfl hc i pins s3 σ3 H3 X.xe I3 (stat fr3) st3 go) fun r s4 ⟨u, hr, h4⟩ => ?_)
    subst hr
    refine wpAny_passesOwn hp (thn h4 fun _ s5 ⟨x, H5, I5, r5, y5, st5, fr5⟩ => ?_)
    have I5' := I5.pinned (stat fr5) (T.obj _ _ st5)
    refine wpAny_passesOwn hp (thn (hg _ s5 σ3 H5 x u _ I5' r5 (step x H5 y5)) fun _ s6 ⟨σ6, H6, I6, q6⟩ => ?_)
    refine wpAny_passesOwn hp (thn (hb _ s6 σ6 H6 _ I6 q6) fun f s7 q7 => ?_)
    have again : ∀ {σ7 : St} {H7 : Hp}, Inv X (pins ++ pinsAt fp s5.heap) σ7 H7 s7 → N σ7 H7 → ∃ m, m < n ∧ ∃ i σ' H', Inv X pins σ' H' s7 ∧ tn i s7.heap ∧ (∀ b ∈ fp, H' b = none) ∧ W i m σ' H' := fun {σ7 H7} I7 n7 => by
      obtain ⟨m', hm, w7⟩ := hN σ7 H7 n7
      refine ⟨m', hm, i + 1, σ7, H7, I7.unpinned, T.keep _ _ _ st5 fun b hb o e => (I7.pin (b, o) (List.mem_append_right _ (List.mem_append_right _ (mem_pinsAt hb e)))).1, fun b hb => ?_, w7⟩
      obtain ⟨o, e, d⟩ := T.obj _ _ st5 b hb
      exact (I7.pin (b, o) (List.mem_append_right _ (List.mem_append_right _ (mem_pinsAt hb e)))).2.1
    cases f with
    | next => obtain ⟨σ7, H7, I7, n7⟩ := q7; exact again I7 n7
    | cont => obtain ⟨σ7, H7, I7, n7⟩ := q7; exact again I7 n7
    | brk => obtain ⟨σ7, H7, I7, q7⟩ := q7; exact ⟨σ7, H7, I7.unpinned, q7⟩
    | ret v => obtain ⟨x7, σ7, H7, I7, r7, q7⟩ := q7; exact ⟨x7, σ7, H7, I7.unpinned, r7, q7⟩
end
theorem for_list {K : PySem.W.Frag} {a : Addr} {xs : List V} {g : TG} {tb : TS} {D : Ends} {σ : St} {H : Hp} (Pv : Nat → St → Hp → Prop) (h0 : Pv 0 σ H) (hl : ∀ i σ H, i ≤ xs.length → Pv i σ H → SqL K H a xs)
    (hs : ∀ i x σ H, xs[i]? = some x → Pv i σ H → g x σ H fun σ2 H2 => tb { D with nx := Pv (i + 1), ct := Pv (i + 1), bk := D.nx } σ2 H2) (hd : ∀ σ H, Pv xs.length σ H → D.nx σ H) :
    ∃ W : Nat → Nat → St → Hp → Prop, (∃ m, W 0 m σ H) ∧ ∀ i m σ H, W i m σ H →
      ((Itl K a).stop i H ∧ D.nx σ H) ∨ ((Itl K a).go i H ∧ ∃ N : St → Hp → Prop, (∀ σ' H', N σ' H' → ∃ m', m' < m ∧ W (i + 1) m' σ' H') ∧ ∀ x H', (Itl K a).yld i H x H' → g x σ H' fun σ2 H2 => tb { D with nx := N, ct := N, bk := D.nx } σ2 H2) := by
  refine ⟨fun i m σ H => m = xs.length - i ∧ i ≤ xs.length ∧ Pv i σ H, ⟨xs.length, by simp, Nat.zero_le _, h0⟩, ?_⟩
  rintro i m σ H ⟨rfl, hi, p⟩
  have q := hl i σ H hi p
  by_cases hlt : i < xs.length
  · refine .inr ⟨⟨xs, xs[i], q, by simp [hlt]⟩, Pv (i + 1), fun σ' H' p' => ⟨xs.length - (i + 1), by omega, rfl, hlt, p'⟩, fun x H' y => ?_⟩
    obtain ⟨e, y⟩ := y
    subst e
    exact hs i x σ _ (y xs q) p
  · have e : i = xs.length := by omega
    subst e
    exact .inl ⟨⟨xs, q, Nat.le_refl _⟩, hd σ H p⟩
theorem for_range {lo : Int} {n : Nat} {g : TG} {tb : TS} {D : Ends} {σ : St} {H : Hp} (Pv : Nat → St → Hp → Prop) (h0 : Pv 0 σ H)
    (hs : ∀ i σ H, i < n → Pv i σ H → g (.int (lo + i)) σ H fun σ2 H2 => tb { D with nx := Pv (i + 1), ct := Pv (i + 1), bk := D.nx } σ2 H2) (hd : ∀ σ H, Pv n σ H → D.nx σ H) :
    ∃ W : Nat → Nat → St → Hp → Prop, (∃ m, W 0 m σ H) ∧ ∀ i m σ H, W i m σ H →
      ((Itr lo n).stop i H ∧ D.nx σ H) ∨ ((Itr lo n).go i H ∧ ∃ N : St → Hp → Prop, (∀ σ' H', N σ' H' → ∃ m', m' < m ∧ W (i + 1) m' σ' H') ∧ ∀ x H', (Itr lo n).yld i H x H' → g x σ H' fun σ2 H2 => tb { D with nx := N, ct := N, bk := D.nx } σ2 H2) := by
  refine ⟨fun i m σ H => m = n - i ∧ i ≤ n ∧ Pv i σ H, ⟨n, by simp, Nat.zero_le _, h0⟩, ?_⟩
  rintro i m σ H ⟨rfl, hi, p⟩
  by_cases hlt : i < n
  · refine .inr ⟨hlt, Pv (i + 1), fun σ' H' p' => ⟨n - (i + 1), by omega, rfl, hlt, p'⟩, fun x H' y => ?_⟩
    obtain ⟨e, y⟩ := y
    subst e y
    exact hs i σ _ hlt p
  · have e : i = n := by omega
    subst e
    exact .inl ⟨Nat.le_refl _, hd σ H p⟩
end L2
namespace L2
open PySem PySem.Spec PyProof.Rows
abbrev R2 := V → V → Hp → VK → Prop
def OpR (X : Cx) (f : Value → Value → Sem Value) (r : R2) : Prop :=
  ∀ (pins : List (Addr × Obj)) (s : Shared) (σ : St) (H : Hp) (x y : V) (v u : Value) (Q : VK), Inv X pins σ H s → RelV x v → RelV y u → r x y H Q →
    wpAny (model X.prog X.w) X.A (f v u) (EP X pins σ Q) X.xe s
def UnR (X : Cx) (f : Value → Sem Value) (r : V → Hp → VK → Prop) : Prop :=
  ∀ (pins : List (Addr × Obj)) (s : Shared) (σ : St) (H : Hp) (x : V) (v : Value) (Q : VK), Inv X pins σ H s → RelV x v → r x H Q →
    wpAny (model X.prog X.w) X.A (f v) (EP X pins σ Q) X.xe s
def CallR (X : Cx) (f : Value) (r : List V → Hp → VK → Prop) : Prop :=
  ∀ (pins : List (Addr × Obj)) (s : Shared) (σ : St) (H : Hp) (xs : List V) (us : List Value) (Q : VK), Inv X pins σ H s → Vals xs us → r xs H Q →
    wpAny (model X.prog X.w) X.A (call f us) (EP X pins σ Q) X.xe s
def tOp (r : R2) (ta tb : TE) : TE := fun σ H Q => ta σ H fun x H1 => tb σ H1 fun y H2 => r x y H2 Q
def tUn (r : V → Hp → VK → Prop) (ta : TE) : TE := fun σ H Q => ta σ H fun x H1 => r x H1 Q
def rI (C : Int → Int → Prop) (g : Int → Int → V) : R2 := fun x y H Q => ∃ i j, x = .int i ∧ y = .int j ∧ C i j ∧ Q (g i j) H
def rI0 (g : Int → Int → V) : R2 := fun x y H Q => ∃ i j, x = .int i ∧ y = .int j ∧ Q (g i j) H
def rU (g : Int → V) : V → Hp → VK → Prop := fun x H Q => ∃ i, x = .int i ∧ Q (g i) H
section
variable {X : Cx} {a b c : Expr} {ta tb tc : TE} {pos : Pos}
theorem binT (ha : PE X a ta) (hb : PE X b tb) {pins : List (Addr × Obj)} {s : Shared} {σ : St} {H : Hp} {R : V → V → Hp → Prop} (I : Inv X pins σ H s)
    (h : ta σ H fun x H1 => tb σ H1 fun y H2 => R x y H2) {Q : Value → Shared → Prop} {f : Value → Value → Sem Value}
    (hf : ∀ v u s2 x y H2, Inv X pins σ H2 s2 → RelV x v → RelV y u → R x y H2 → wpAny (model X.prog X.w) X.A (f v u) Q X.xe s2) :
    wpAny (model X.prog X.w) X.A (eval a X.env) (fun v s₁ => wpAny (model X.prog X.w) X.A (eval b X.env) (fun u s₂ => wpAny (model X.prog X.w) X.A (f v u) Q X.xe s₂) X.xe s₁) X.xe s := by
  refine thn (ha pins s σ H _ I h) fun v s1 ⟨x, H1, I1, r1, q1⟩ => ?_
  refine thn (hb pins s1 σ H1 _ I1 q1) fun u s2 ⟨y, H2, I2, r2, q2⟩ => ?_
  exact hf v u s2 x y H2 I2 r1 r2 q2
theorem pe_op {op : Operator} {r : R2} (ho : OpR X (binaryOp op) r) (ha : PE X a ta) (hb : PE X b tb) : PE X (.BinOp a op b pos) (tOp r ta tb) := by
  intro pins s σ H Q I h
  exact wpAny_BinOp (binT ha hb I h fun v u s2 x y H2 I2 rx ry q => ho pins s2 σ H2 x y v u Q I2 rx ry q)
theorem pe_un {op : UnaryOp} {r : V → Hp → VK → Prop} (ho : UnR X (unaryOp op) r) (ha : PE X a ta) : PE X (.UnaryOp op a pos) (tUn r ta) := by
  intro pins s σ H Q I h
  exact UnaryOp_ (thn (ha pins s σ H _ I h) fun v s1 ⟨x, H1, I1, r1, q1⟩ => ho pins s1 σ H1 x v Q I1 r1 q1)
theorem opI {f : Value → Value → Sem Value} {C : Int → Int → Prop} {g : Int → Int → Int}
    (rule : ∀ (i j : Int) (t u : Tok) (s : Shared) (Q : Value → Shared → Prop) (E : Value → Shared → Prop), C i j → Q (.int (g i j) s.toks) { s with toks := s.toks + 1 } → wpAny (model X.prog X.w) X.A (f (.int i t) (.int j u)) Q E s) :
    OpR X f (rI C fun i j => .int (g i j)) := by
  intro pins s σ H x y v u Q I rx ry h
  obtain ⟨i, j, rfl, rfl, hc, q⟩ := h
  obtain ⟨t, rfl⟩ := rx
  obtain ⟨t', rfl⟩ := ry
  exact rule i j t t' s _ _ hc ⟨.int (g i j), H, I.tok _, ⟨_, rfl⟩, q⟩
theorem opI0 {f : Value → Value → Sem Value} {g : Int → Int → Int}
    (rule : ∀ (i j : Int) (t u : Tok) (s : Shared) (Q : Value → Shared → Prop) (E : Value → Shared → Prop), Q (.int (g i j) s.toks) { s with toks := s.toks + 1 } → wpAny (model X.prog X.w) X.A (f (.int i t) (.int j u)) Q E s) :
    OpR X f (rI0 fun i j => .int (g i j)) := by
  intro pins s σ H x y v u Q I rx ry h
  obtain ⟨i, j, rfl, rfl, q⟩ := h
  obtain ⟨t, rfl⟩ := rx
  obtain ⟨t', rfl⟩ := ry
  exact rule i j t t' s _ _ ⟨.int (g i j), H, I.tok _, ⟨_, rfl⟩, q⟩
theorem opB0 {f : Value → Value → Sem Value} {g : Int → Int → Bool}
    (rule : ∀ (i j : Int) (t u : Tok) (s : Shared) (Q : Value → Shared → Prop) (E : Value → Shared → Prop), Q (.bool (g i j)) s → wpAny (model X.prog X.w) X.A (f (.int i t) (.int j u)) Q E s) :
    OpR X f (rI0 fun i j => .bl (g i j)) := by
  intro pins s σ H x y v u Q I rx ry h
  obtain ⟨i, j, rfl, rfl, q⟩ := h
  obtain ⟨t, rfl⟩ := rx
  obtain ⟨t', rfl⟩ := ry
  exact rule i j t t' s _ _ ⟨.bl (g i j), H, I, rfl, q⟩
def CDiv (i j : Int) : Prop := 0 < j ∧ j < 1073741824
def CPow (i j : Int) : Prop := 0 ≤ j ∧ j ≤ 1000000 ∧ i.natAbs < 2 ^ 64
def CMul (i j : Int) : Prop := (-(2 ^ 64) < i ∧ i < 2 ^ 64) ∨ (-(2 ^ 64) < j ∧ j < 2 ^ 64)
theorem CMul.ok {i j : Int} (h : CMul i j) : IntMulOk i j := by
  rcases h with ⟨h1, h2⟩ | ⟨h1, h2⟩
  · exact .of_left (intBits_le_64 h1 h2)
  · exact .of_right (intBits_le_64 h1 h2)
theorem two_pow_nn (k : Nat) : (0 : Int) ≤ 2 ^ k := by
  rw [two_pow_cast]
  exact Int.natCast_nonneg _
theorem op_add : OpR X (binaryOp .Add) (rI0 fun i j => .int (i + j)) := opI0 fun _ _ _ _ _ _ _ q => add_int q
theorem op_sub : OpR X (binaryOp .Sub) (rI0 fun i j => .int (i - j)) := opI0 fun _ _ _ _ _ _ _ q => sub_int q
theorem op_fdiv : OpR X (binaryOp .FloorDiv) (rI CDiv fun i j => .int (i / j)) := opI fun i j _ _ _ _ _ hc q => by
  have h1 : (0 : Int) < j := hc.1
  have h2 : j < 1073741824 := hc.2
  exact floordiv_int (by omega) (by rw [Int.fdiv_eq_ediv_of_nonneg i (by omega)]; exact q) (.inl (PyProof.noPylong_small (by omega)))
theorem op_mod : OpR X (binaryOp .Mod) (rI (fun _ j => 0 < j) fun i j => .int (i % j)) := opI fun i j _ _ _ _ _ hc q => by
  have h1 : (0 : Int) < j := hc
  exact mod_int' (by omega) (by rw [Int.fmod_eq_emod_of_nonneg i (by omega)]; exact q)
theorem op_pow : OpR X (binaryOp .Pow) (rI CPow fun i j => .int (i ^ j.toNat)) := opI fun _ _ _ _ _ _ _ hc q => pow_int_small hc.1 hc.2.1 hc.2.2 q
theorem op_shl : OpR X (binaryOp .LShift) (rI CPow fun i j => .int (i * 2 ^ j.toNat)) := opI fun _ _ _ _ _ _ _ hc q => lshift_int_small hc.1 hc.2.1 hc.2.2 q
theorem op_shr : OpR X (binaryOp .RShift) (rI (fun _ j => 0 ≤ j) fun i j => .int (i / 2 ^ j.toNat)) := opI fun i j _ _ _ _ _ hc q =>
  rshift_int hc (by rw [Int.fdiv_eq_ediv_of_nonneg i (two_pow_nn _)]; exact q)
theorem op_and : OpR X (binaryOp .BitAnd) (rI0 fun i j => .int (Builtin.bitAnd i j)) := opI0 fun _ _ _ _ _ _ _ q => and_int q
theorem op_or : OpR X (binaryOp .BitOr) (rI0 fun i j => .int (Builtin.bitOr i j)) := opI0 fun _ _ _ _ _ _ _ q => or_int q
theorem iop_or : OpR X (inplaceOp .BitOr) (rI0 fun i j => .int (Builtin.bitOr i j)) := opI0 fun _ _ _ _ _ _ _ q => ior_int q
theorem unI {f : Value → Sem Value} {g : Int → Int}
    (rule : ∀ (i : Int) (t : Tok) (s : Shared) (Q : Value → Shared → Prop) (E : Value → Shared → Prop), Q (.int (g i) s.toks) { s with toks := s.toks + 1 } → wpAny (model X.prog X.w) X.A (f (.int i t)) Q E s) :
    UnR X f (rU fun i => .int (g i)) := by
  intro pins s σ H x v Q I rx h
  obtain ⟨i, rfl, q⟩ := h
  obtain ⟨t, rfl⟩ := rx
  exact rule i t s _ _ ⟨.int (g i), H, I.tok _, ⟨_, rfl⟩, q⟩
theorem un_neg : UnR X (unaryOp .USub) (rU fun i => .int (-i)) := unI fun _ _ _ _ _ q => neg_int q
theorem un_inv : UnR X (unaryOp .Invert) (rU fun i => .int (Builtin.bitNot i)) := unI fun _ _ _ _ _ q => invert_int q
end
def scal : V → V → Bool
  | .non, .non => true | .non, .int _ => true | .int _, .non => true | .non, .bl _ => true | .bl _, .non => true | .non, .str _ => true | .str _, .non => true
  | .int _, .int _ => true | .bl _, .bl _ => true | .str _, .str _ => true | .byt _, .byt _ => true
  | .int _, .str _ => true | .str _, .int _ => true | .bl _, .str _ => true | .str _, .bl _ => true
  | _, _ => false
def rEq : R2 := fun x y H Q => scal x y = true ∧ Q (.bl (decide (x = y))) H
def rNe : R2 := fun x y H Q => scal x y = true ∧ Q (.bl (!decide (x = y))) H
theorem dec_int {i j : Int} : decide (V.int i = V.int j) = (i == j) := by
  rw [Bool.eq_iff_iff]
  simp
theorem dec_bl {i j : Bool} : decide (V.bl i = V.bl j) = (i == j) := by
  rw [Bool.eq_iff_iff]
  simp
theorem dec_str {i j : Str} : decide (V.str i = V.str j) = (i == j) := by
  rw [Bool.eq_iff_iff]
  simp
theorem dec_byt {i j : Array UInt8} : decide (V.byt i = V.byt j) = (i.toList == j.toList) := by
  rw [Bool.eq_iff_iff]
  cases i
  cases j
  simp
section
variable {X : Cx} {a b c : Expr} {ta tb tc : TE} {pos : Pos}
theorem fin_bl {pins : List (Addr × Obj)} {σ : St} {H : Hp} {s : Shared} {Q : VK} {k k' : Bool} (I : Inv X pins σ H s) (q : Q (.bl k) H) (e : k = k') : EP X pins σ Q (.bool k') s := by
  subst e
  exact ⟨.bl k, H, I, rfl, q⟩
theorem op_eq : OpR X (compareOp .Eq) rEq := by
  intro pins s σ H x y v u Q I rx ry h
  obtain ⟨hs, q⟩ := h
  cases x with
  | non =>
    cases rx
    cases y with
    | non => cases ry; exact PySem.EqNone.eq_none_none (fin_bl I q (by simp))
    | bl j => cases ry; exact PySem.EqNone.eq_none_bool (fin_bl I q (by simp))
    | int j => obtain ⟨t', rfl⟩ := ry; exact PySem.EqNone.eq_none_int (fin_bl I q (by simp))
    | str j => obtain ⟨t', rfl⟩ := ry; exact PySem.EqNone.eq_none_str (fin_bl I q (by simp))
    | _ => exact absurd (show false = true from hs) Bool.false_ne_true
  | bl i =>
    cases rx
    cases y with
    | non => cases ry; exact PySem.EqNone.eq_bool_none (fin_bl I q (by simp))
    | bl j => cases ry; exact eq_bool (fin_bl I q dec_bl)
    | str j => obtain ⟨t', rfl⟩ := ry; exact PySem.EqMixed.eq_bool_str (fin_bl I q (by simp))
    | _ => exact absurd (show false = true from hs) Bool.false_ne_true
  | int i =>
    obtain ⟨t, rfl⟩ := rx
    cases y with
    | non => cases ry; exact PySem.EqNone.eq_int_none (fin_bl I q (by simp))
    | int j => obtain ⟨t', rfl⟩ := ry; exact eq_int (fin_bl I q dec_int)
    | str j => obtain ⟨t', rfl⟩ := ry; exact PySem.EqMixed.eq_int_str (fin_bl I q (by simp))
    | _ => exact absurd (show false = true from hs) Bool.false_ne_true
  | str i =>
    obtain ⟨t, rfl⟩ := rx
    cases y with
    | non => cases ry; exact PySem.EqNone.eq_str_none (fin_bl I q (by simp))
    | bl j => cases ry; exact PySem.EqMixed.eq_str_bool (fin_bl I q (by simp))
    | int j => obtain ⟨t', rfl⟩ := ry; exact PySem.EqMixed.eq_str_int (fin_bl I q (by simp))
    | str j => obtain ⟨t', rfl⟩ := ry; exact eq_str (fin_bl I q dec_str)
    | _ => exact absurd (show false = true from hs) Bool.false_ne_true
  | byt i =>
    obtain ⟨t, rfl⟩ := rx
    cases y with
    | byt j => obtain ⟨t', rfl⟩ := ry; exact PySem.W.eq_bytes (fin_bl I q dec_byt)
    | _ => exact absurd (show false = true from hs) Bool.false_ne_true
  | _ => cases y <;> exact absurd (show false = true from hs) Bool.false_ne_true
theorem op_ne : OpR X (compareOp .NotEq) rNe := by
  intro pins s σ H x y v u Q I rx ry h
  obtain ⟨hs, q⟩ := h
  cases x with
  | non =>
    cases rx
    cases y with
    | non => cases ry; exact PySem.EqNone.ne_none_none (fin_bl I q (by simp))
    | bl j => cases ry; exact PySem.EqNone.ne_none_bool (fin_bl I q (by simp))
    | int j => obtain ⟨t', rfl⟩ := ry; exact PySem.EqNone.ne_none_int (fin_bl I q (by simp))
    | str j => obtain ⟨t', rfl⟩ := ry; exact PySem.EqNone.ne_none_str (fin_bl I q (by simp))
    | _ => exact absurd (show false = true from hs) Bool.false_ne_true
  | bl i =>
    cases rx
    cases y with
    | non => cases ry; exact PySem.EqNone.ne_bool_none (fin_bl I q (by simp))
    | bl j => cases ry; exact ne_bool (fin_bl I q (congrArg not dec_bl))
    | str j => obtain ⟨t', rfl⟩ := ry; exact PySem.EqMixed.ne_bool_str (fin_bl I q (by simp))
    | _ => exact absurd (show false = true from hs) Bool.false_ne_true
  | int i =>
    obtain ⟨t, rfl⟩ := rx
    cases y with
    | non => cases ry; exact PySem.EqNone.ne_int_none (fin_bl I q (by simp))
    | int j => obtain ⟨t', rfl⟩ := ry; exact ne_int (fin_bl I q (congrArg not dec_int))
    | str j => obtain ⟨t', rfl⟩ := ry; exact PySem.EqMixed.ne_int_str (fin_bl I q (by simp))
    | _ => exact absurd (show false = true from hs) Bool.false_ne_true
  | str i =>
    obtain ⟨t, rfl⟩ := rx
    cases y with
    | non => cases ry; exact PySem.EqNone.ne_str_none (fin_bl I q (by simp))
    | bl j => cases ry; exact PySem.EqMixed.ne_str_bool (fin_bl I q (by simp))
    | int j => obtain ⟨t', rfl⟩ := ry; exact PySem.EqMixed.ne_str_int (fin_bl I q (by simp))
    | str j => obtain ⟨t', rfl⟩ := ry; exact ne_str (fin_bl I q (congrArg not dec_str))
    | _ => exact absurd (show false = true from hs) Bool.false_ne_true
  | byt i =>
    obtain ⟨t, rfl⟩ := rx
    cases y with
    | byt j => obtain ⟨t', rfl⟩ := ry; exact PySem.W.ne_bytes (fin_bl I q (congrArg not dec_byt))
    | _ => exact absurd (show false = true from hs) Bool.false_ne_true
  | _ => cases y <;> exact absurd (show false = true from hs) Bool.false_ne_true
theorem op_lt : OpR X (compareOp .Lt) (rI0 fun i j => .bl (decide (i < j))) := opB0 fun _ _ _ _ _ _ _ q => lt_int q
theorem op_le : OpR X (compareOp .LtE) (rI0 fun i j => .bl (decide (i ≤ j))) := opB0 fun _ _ _ _ _ _ _ q => le_int q
theorem op_gt : OpR X (compareOp .Gt) (rI0 fun i j => .bl (decide (j < i))) := opB0 fun _ _ _ _ _ _ _ q => gt_int q
theorem op_ge : OpR X (compareOp .GtE) (rI0 fun i j => .bl (decide (j ≤ i))) := opB0 fun _ _ _ _ _ _ _ q => ge_int q
theorem op_isN : OpR X (compareOp .Is) (fun x y H Q => y = .non ∧ Q (.bl (decide (x = .non))) H) := by
  intro pins s σ H x y v u Q I rx ry h
  obtain ⟨rfl, q⟩ := h
  cases ry
  refine is_none_gen (fin_bl I q ?_)
  cases x <;> first
    | (cases rx; rfl)
    | (obtain ⟨t, rfl⟩ := rx; rfl)
theorem OpR.or {f : Value → Value → Sem Value} {r r' : R2} (h : OpR X f r) (h' : OpR X f r') : OpR X f (fun x y H Q => r x y H Q ∨ r' x y H Q) := by
  intro pins s σ H x y v u Q I rx ry q
  rcases q with q | q
  · exact h pins s σ H x y v u Q I rx ry q
  · exact h' pins s σ H x y v u Q I rx ry q
theorem nomark (b : Expr) {op : CmpOp} (h : op ≠ .In := by decide) (h2 : op ≠ .NotIn := by decide) : behindInMarks op b = false := by
  have e1 : (op == CmpOp.In) = false := by cases op <;> first | rfl | exact absurd rfl h
  have e2 : (op == CmpOp.NotIn) = false := by cases op <;> first | rfl | exact absurd rfl h2
  cases b <;> simp [behindInMarks, e1, e2]
theorem pe_cmpR {op : CmpOp} {r : R2} (ho : OpR X (compareOp op) r) (ha : PE X a ta) (hb : PE X b tb) (hm : behindInMarks op b = false) : PE X (.Compare a [op] [b] pos) (tOp r ta tb) := by
  intro pins s σ H Q I h
  exact wpAny_Compare1 (binT ha hb I h fun v u s2 x y H2 I2 rx ry q => ho pins s2 σ H2 x y v u Q I2 rx ry q) hm
def tTest (t : TE) : TT := fun σ H Q => t σ H fun x H' => ∃ k, x = .bl k ∧ Q k H'
theorem pt_cmpR {op : CmpOp} {r : R2} (ho : OpR X (compareOp op) r) (ha : PE X a ta) (hb : PE X b tb) (hm : behindInMarks op b = false) : PT X (.Compare a [op] [b] pos) (tTest (tOp r ta tb)) := by
  intro pins s σ H Q I h
  refine wpAny_isTrue_Compare1 (thn (ha pins s σ H _ I h) fun v s1 ⟨x, H1, I1, r1, q1⟩ => thn (hb pins s1 σ H1 _ I1 q1) fun u s2 ⟨y, H2, I2, r2, q2⟩ =>
    thn (ho pins s2 σ H2 x y v u _ I2 r1 r2 q2) fun c s3 ⟨z, H3, I3, r3, k, e, q3⟩ => ?_) hm
  subst e
  cases r3
  exact wpAny_truthy_bool ⟨H3, I3, q3⟩
theorem line63 : (sizeLine : Nat) < 2 ^ 63 := by rw [sizeLine_eq]; decide
theorem vals1 {x : V} {us : List Value} (r : Vals [x] us) : ∃ u, us = [u] ∧ RelV x u := by
  cases r with
  | cons r1 r2 => cases r2; exact ⟨_, rfl, r1⟩
theorem vals2 {x y : V} {us : List Value} (r : Vals [x, y] us) : ∃ u w', us = [u, w'] ∧ RelV x u ∧ RelV y w' := by
  cases r with
  | cons r1 r2 =>
    cases r2 with
    | cons r3 r4 => cases r4; exact ⟨_, _, rfl, r1, r3⟩
theorem call_max2 (hc : X.calm = true) : CallR X (.builtin "max") (fun xs H Q => ∃ i j, xs = [.int i, .int j] ∧ Q (.int (if j > i then j else i)) H) := by
  intro pins s σ H xs us Q I r h
  obtain ⟨i, j, rfl, q⟩ := h
  obtain ⟨u, w', rfl, ⟨t, rfl⟩, ⟨t', rfl⟩⟩ := vals2 r
  refine max_two_ints (I.ok.hd hc) fun h' tk k => ⟨_, H, I.kept k, ?_, q⟩
  by_cases hj : j > i
  · rw [if_pos hj, if_pos hj]; exact ⟨_, rfl⟩
  · rw [if_neg hj, if_neg hj]; exact ⟨_, rfl⟩
theorem call_min2 (hc : X.calm = true) : CallR X (.builtin "min") (fun xs H Q => ∃ i j, xs = [.int i, .int j] ∧ Q (.int (if j < i then j else i)) H) := by
  intro pins s σ H xs us Q I r h
  obtain ⟨i, j, rfl, q⟩ := h
  obtain ⟨u, w', rfl, ⟨t, rfl⟩, ⟨t', rfl⟩⟩ := vals2 r
  refine min_two_ints (I.ok.hd hc) fun h' tk k => ⟨_, H, I.kept k, ?_, q⟩
  by_cases hj : j < i
  · rw [if_pos hj, if_pos hj]; exact ⟨_, rfl⟩
  · rw [if_neg hj, if_neg hj]; exact ⟨_, rfl⟩
end
end L2
namespace L2
open PySem PySem.Spec PyProof.Rows
section
variable {prog : Program} {w : World} {A : Around} {E : Value → Shared → Prop} {s : Shared} {K : PySem.W.Frag} {x dx C f : Addr} {mA : Str → Option Value} {name : Str} {v : Value}
end
theorem RelO.some_of {v : V} {o : Option Value} (r : RelO (some v) o) : ∃ u, o = some u ∧ RelV v u := by
  cases o with
  | none => exact (show False from r).elim
  | some u => exact ⟨u, rfl, r⟩
section
variable {P : Program} {w : World} {H H' : Hp} {h h' : Heap} {a C dx : Addr} {fs fs' : List (Str × V)}
end
structure Cls (K : PySem.W.Frag) (C : Addr) : Prop where
  pg : PySem.W.plainGet K C Str.empty = true
  hd : PySem.W.hasDictIn K C = true
  po : PySem.W.plainOver K C = true
  sa : PySem.W.findIn K (.ref C) "__setattr__" = some (some (.builtin "object.__setattr__"))
section
variable {X : Cx} {pins : List (Addr × Obj)} {σ : St} {H : Hp} {s : Shared} {a C dx : Addr} {fs : List (Str × V)} {f : Str} {v : V} {A : Around} {E : Value → Shared → Prop}
end
section
variable {X : Cx} {o e value : Expr} {f : Str} {pos pos' tpos : Pos} {ta tv : TE}
end
section
variable {X : Cx} {pins : List (Addr × Obj)} {σ : St} {H : Hp} {s : Shared} {A : Around} {E : Value → Shared → Prop} {Q : Value → Shared → Prop} {c : Value} {b : Bool}
inductive TyOf (K : PySem.W.Frag) (H : Hp) : V → Value → Prop where
  | non : TyOf K H .non (.type "NoneType")
  | bl (x : Bool) : TyOf K H (.bl x) (.type "bool")
  | int (i : Int) : TyOf K H (.int i) (.type "int")
  | str (x : Str) : TyOf K H (.str x) (.type "str")
  | flt (x : UInt64) : TyOf K H (.flt x) (.type "float")
  | lst {a : Addr} {xs : List V} (e : H a = some (.lst xs)) : TyOf K H (.ref a) (.type "list")
  | frz {a : Addr} {o : Obj} {xs : List V} (e : H a = some (.frz o (.lst xs))) : TyOf K H (.ref a) (.type "list")
  | tup {a : Addr} {xs : List V} (e : H a = some (.tup xs)) : TyOf K H (.ref a) (.type "tuple")
  | dK {a : Addr} {kvs : List (Key × V)} (e : H a = some (.dK kvs)) : TyOf K H (.ref a) (.type "dict")
  | dT {a : Addr} {kvs : List (List Key × V)} (e : H a = some (.dT kvs)) : TyOf K H (.ref a) (.type "dict")
  | ins {a C dx : Addr} {fs : List (Str × V)} (e : H a = some (.ins C dx fs)) (cl : Cls K C) (ha : PySem.W.findIn K (.ref C) "__class__" = some (some (.builtin "object.__class__")))
      (hn : PySem.W.specialIn K (.builtin "object.__class__") "__get__" = some (some (.builtin "getset_descriptor.__get__"))) (htk : PySem.W.takesIn K (.builtin "object.__class__") = some true)
      (hm : PySem.W.mroIn K C (.type "object") = some true) : TyOf K H (.ref a) (.ref C)
end
end L2
namespace L2
open PySem PySem.Spec PyProof.Rows
structure Room (k : Nat) (A : Around) : Prop where
  hd : A.handled = none
  dp : A.depth + 3 * k + 5 < recursionLimit
  un : A.units + 16 * k + 200 < cLine
  gd : A.guards = some []
theorem Room.mono {j k : Nat} {A : Around} (r : Room k A) (h : j ≤ k) : Room j A := ⟨r.hd, by have := r.dp; omega, by have := r.un; omega, r.gd⟩
theorem Room.deeper {k : Nat} {A : Around} (r : Room (k + 1) A) (env : Env) : Room k (A.deeper env) :=
  ⟨r.hd, by have := r.dp; show A.depth + 1 + 3 * k + 5 < _; omega, by have := r.un; show A.units + 3 + 16 * k + 200 < _; omega, r.gd⟩
theorem Room.depth {k : Nat} {A : Around} (r : Room k A) : A.depth < recursionLimit := by have := r.dp; omega
theorem Room.units {k : Nat} {A : Around} (r : Room k A) : A.units + 64 < cLine := by have := r.un; omega
def tNil : TA := fun _ H Q => Q [] H
def tCons (ta : TE) (tr : TA) : TA := fun σ H Q => ta σ H fun x H1 => tr σ H1 fun xs H2 => Q (x :: xs) H2
section
variable {X : Cx} {e : Expr} {es : List Expr} {te : TE} {t : TA} {pos : Pos}
theorem pa_nil : PA X [] tNil := fun _ _ _ _ H Q I h => Calls.spliced_nil ⟨[], H, I, .nil, h⟩
theorem pa_cons (ha : PE X e te) (hr : PA X es t) (hs : starEach (e :: es) X.env = (false, eval e X.env) :: starEach es X.env := by rfl) : PA X (e :: es) (tCons te t) := by
  intro pos pins s σ H Q I h
  rw [hs]
  show wpAny _ _ (spliced ((false, eval e X.env) :: backTo pos (starEach es X.env))) _ _ s
  refine Calls.spliced_cons (thn (ha pins s σ H _ I h) fun u s1 ⟨x, H1, I1, r1, q1⟩ => ?_)
  exact thn (hr pos pins s1 σ H1 _ I1 q1) fun us s2 ⟨xs, H2, I2, r2, q2⟩ => ⟨x :: xs, H2, I2, .cons r1 r2, q2⟩
def tTup (t : TA) : TE := fun σ H Q => t σ H fun xs H1 => xs.length ≤ sizeLine ∧ ∀ p, H1 p = none → Q (.ref p) (upd H1 p (.tup xs))
def tLst (t : TA) : TE := fun σ H Q => t σ H fun xs H1 => xs.length ≤ sizeLine ∧ ∀ p, H1 p = none → Q (.ref p) (upd H1 p (.lst xs))
theorem pe_tup {x1} (h : PA X es t) : PE X (.Tuple es x1 pos) (tTup t) := by
  intro pins s σ H Q I hq
  refine wpAny_Tuple_spliced (thn (h pos pins s σ H _ I hq) fun us s1 ⟨xs, H1, I1, r, z, q⟩ => ⟨by rw [← r.length]; exact z, ?_⟩)
  have hf : H1 s1.heap.objs.size = none := I1.hok.fresh (Nat.le_refl _)
  refine ⟨.ref s1.heap.objs.size, upd H1 s1.heap.objs.size (.tup xs), I1.laid (t' := s1.toks) (fun b u e => Heap.get?_push_of_some _ e) (Nat.le_refl _) ?_, rfl, q _ hf⟩
  exact ⟨z, us, r, ⟨_, Heap.get?_push_size _ rfl, rfl, _, rfl⟩⟩
theorem pe_lst (h : PA X es t) : PE X (.List es pos) (tLst t) := by
  intro pins s σ H Q I hq
  refine wpAny_List_spliced (thn (h pos pins s σ H _ I hq) fun us s1 ⟨xs, H1, I1, r, z, q⟩ => ⟨by rw [← r.length]; exact z, ?_⟩)
  have hf : H1 s1.heap.objs.size = none := I1.hok.fresh (Nat.le_refl _)
  refine ⟨.ref s1.heap.objs.size, upd H1 s1.heap.objs.size (.lst xs), I1.laid (t' := s1.toks) (fun b u e => Heap.get?_push_of_some _ e) (Nat.le_refl _) ?_, rfl, q _ hf⟩
  exact ⟨z, us, 0, r, Heap.get?_push_size _ rfl⟩
end
abbrev Sp := List V → Hp → VK → XK → Prop
abbrev CXT := List Env → Hp → Shared → XK → Value → Shared → Prop
structure Env0 (P : Program) (w : World) (K : PySem.W.Frag) (mg : Str → Option Value) (base : Heap) (A : Around) (outer : List Env) (s : Shared) (H : Hp) : Prop where
  frames : A.frames = some outer
  mod : Mod K mg base
  bs : ∀ b o, base.get? b = some o → s.heap.get? b = some o ∧ H b = none
  bsz : base.objs.size ≤ s.heap.objs.size
  funs : s.heap.FunFrames base outer
  frf : ∀ b ∈ frs outer, H b = none
  hok : HOk P w H s.heap
  bare : AllBare s.gens
def CE (outer : List Env) (P : Program) (w : World) (H : Hp) (s : Shared) (Q : VK) (u : Value) (s' : Shared) : Prop :=
  ∃ v H', s'.os = s.os ∧ AllBare s'.gens ∧ Un (frs outer) [] H H' s.heap s'.heap ∧ HOk P w H' s'.heap ∧ RelV v u ∧ Q v H'
def CR (CX : CXT) (outer : List Env) (P : Program) (w : World) (H : Hp) (s : Shared) (Q : VK) (E : XK) (r : Result) (s' : Shared) : Prop :=
  match r with
  | .ok (.ret u) => CE outer P w H s Q u s'
  | .ok _ => False
  | .error e => CX outer H s E e s'
structure FnOk (P : Program) (w : World) (K : PySem.W.Frag) (mg : Str → Option Value) (base : Heap) (CX : CXT) (k : Nat) (f : Addr) (fd : FuncData) (ps : List Str) (sp : Sp) : Prop where
  len : ∀ vs H Q E, sp vs H Q E → vs.length = ps.length
  run : ∀ (A : Around) (outer : List Env) (s : Shared) (H : Hp) (args : Args) (us : List Value) (vs : List V) (Q : VK) (E : XK), Room k A → Env0 P w K mg base A outer s H → BindsTo s fd args (ps.zip us) → Vals vs us → sp vs H Q E →
    codeAny (model P w) A (.call (.ref f) args) (CR CX outer P w H s Q E) s
section
variable {X : Cx} {pins : List (Addr × Obj)} {σ : St} {H : Hp} {s s' : Shared}
theorem Inv.env0 (I : Inv X pins σ H s) : Env0 X.prog X.w X.K X.mg X.base X.A X.stack s H :=
  ⟨I.ok.frames, I.ok.mod, I.bs, Nat.le_trans I.ok.bsz I.sz, I.stack, I.stkFree, I.hok, I.bare⟩
theorem Inv.after {Q : VK} {u : Value} (I : Inv X pins σ H s) (h : CE X.stack X.prog X.w H s Q u s') : EP X pins σ Q u s' := by
  obtain ⟨v, H', os, bare, un, hok, r, q⟩ := h
  obtain ⟨hh, g, d, t, os'⟩ := s'
  obtain rfl : os' = s.os := os
  exact ⟨v, H', I.call (h' := hh) (g' := g) (d' := d) (t' := t) (ch := []) un hok bare (fun b z => absurd z (by simp)), r, q⟩
end
def tCall (sp : Sp) (dvs : List V) (E : XK) (t : TA) : TE := fun σ H Q => t σ H fun vs H1 => sp (vs ++ dvs) H1 Q E
def Binds (K : PySem.W.Frag) (fd : FuncData) (ps : List Str) (ds : List Value) : Prop :=
  ∀ (s : Shared) (us : List Value), K.In s.heap → (us ++ ds).length = ps.length → BindsTo s fd ⟨us, []⟩ (ps.zip (us ++ ds))
theorem Binds.all {K : PySem.W.Frag} {fd : FuncData} {ps : List Str} (h : ∀ us : List Value, us.length = ps.length → bindArgs fd ⟨us, []⟩ = pure (ps.zip us)) : Binds K fd ps [] := fun s us _ hl => by
  rw [List.append_nil] at hl ⊢
  exact .of_eq (h us hl)
def Passes (CX : CXT) (X : Cx) (E : XK) : Prop := ∀ (pins : List (Addr × Obj)) (σ : St) (H : Hp) (s : Shared) (e : Value) (s' : Shared), Inv X pins σ H s → CX X.stack H s E e s' → X.xe e s'
section
variable {X : Cx} {CX : CXT} {k : Nat} {f C : Addr} {fd : FuncData} {ps : List Str} {sp : Sp} {dvs : List V} {ds : List Value} {E : XK} {x m : Str} {p pos apos : Pos} {e o : Expr} {es : List Expr} {ta : TE} {t : TA}
theorem run_fn {pins : List (Addr × Obj)} {σ : St} {H : Hp} {s : Shared} {Q : VK} {us : List Value} {vs : List V} (F : FnOk X.prog X.w X.K X.mg X.base CX k f fd ps sp) (hr : Room k X.A) (hb : Binds X.K fd ps ds) (hd : Vals dvs ds) (hx : Passes CX X E)
    (I : Inv X pins σ H s) (r : Vals vs us) (h : sp (vs ++ dvs) H Q E) : wpAny (model X.prog X.w) X.A (call (.ref f) us) (EP X pins σ Q) X.xe s := by
  have r2 : Vals (vs ++ dvs) (us ++ ds) := r.append hd
  have hl : (us ++ ds).length = ps.length := by rw [← r2.length]; exact F.len _ _ _ _ h
  refine wpAny_call (codeAny_mono (F.run X.A X.stack s H ⟨us, []⟩ (us ++ ds) (vs ++ dvs) Q E hr I.env0 (hb s us I.kIn hl) r2 h) fun r s' hq => ?_)
  cases r with
  | error e => exact hx pins σ H s e s' I hq
  | ok fl =>
    cases fl with
    | ret u => exact I.after hq
    | next => exact False.elim hq
    | brk => exact False.elim hq
    | cont => exact False.elim hq
theorem pe_call (F : FnOk X.prog X.w X.K X.mg X.base CX k f fd ps sp) (hr : Room k X.A) (hg : Gl X x) (hm : X.mg x = some (.ref f)) (hk : PySem.W.keepIn X.K (.ref f) = true) (hb : Binds X.K fd ps ds) (hd : Vals dvs ds) (hx : Passes CX X E)
    (ha : PA X (e :: es) t) (hdb : (x == ("__debug__" : Str)) = false := by decide) (he : starEach (e :: es) X.env = (false, eval e X.env) :: starEach es X.env := by rfl) (hpl : (backTo pos (starEach es X.env)).any (·.1) = false := by rfl) :
    PE X (.Call (.Name x p) (e :: es) [] pos) (tCall sp dvs E t) := by
  intro pins s σ H Q I h
  refine wpAny_Call_Name_kw (ld_glob I hg hm ?_ hdb)
  refine PySem.W.callWith_K (h₀ := X.base) I.ok.mod.kin hk (thn (ha pos pins s σ H _ I h) fun us s1 ⟨vs, H1, I1, r, q⟩ => ⟨I1.kIn, ?_⟩) he hpl
  exact run_fn F hr hb hd hx I1 r q
end
section
variable {X : Cx} {CX : CXT} {k : Nat} {f C : Addr} {fd : FuncData} {ps ks : List Str} {sp : Sp} {E : XK} {x m : Str} {p pos apos kpos : Pos} {e o : Expr} {es : List Expr} {kws : List Keyword} {te ta : TE} {t tk : TA} {nm : Option Str}
variable {g : List Value → List Value → List Value} {gV : List V → List V → List V}
end
structure FnScope (N P : List Str) (sc : Scope) : Prop where
  kind : sc.kind = .function
  co : sc.isCoroutine = false
  gen : sc.isGenerator = false
  nd : N.Nodup
  pre : N.take P.length = P
  par : ∀ x ∈ P, sc.names.lookup x = some .local ∨ sc.names.lookup x = some .cell
  nofree : ∀ y ∈ sc.names, y.2 ≠ .free
theorem bindL_out {kindOf : Str → Option NameKind} {x : Str} : ∀ {binds : List (Str × Value)} {m : Str → Option Value}, (∀ v, (x, v) ∉ binds) → bindL kindOf binds m x = m x
  | [], _, _ => rfl
  | (n, v) :: r, m, h => by
    unfold bindL
    rw [bindL_out fun w hw => h w (List.mem_cons_of_mem _ hw)]
    split
    · have : x ≠ n := by rintro rfl; exact h v List.mem_cons_self
      simp [this]
    · rfl
theorem bindC_out {kindOf : Str → Option NameKind} {x : Str} : ∀ {binds : List (Str × Value)} {m : Str → Option Value}, (∀ v, (x, v) ∉ binds) → bindC kindOf binds m x = m x
  | [], _, _ => rfl
  | (n, v) :: r, m, h => by
    unfold bindC
    rw [bindC_out fun w hw => h w (List.mem_cons_of_mem _ hw)]
    split
    · rfl
    · have : x ≠ n := by rintro rfl; exact h v List.mem_cons_self
      simp [this]
theorem bindL_get {kindOf : Str → Option NameKind} {x : Str} {v : Value} : ∀ {P : List Str} {vs : List Value} {i : Nat} {m : Str → Option Value}, P.Nodup → P[i]? = some x → vs[i]? = some v → kindOf x = some .local →
    bindL kindOf (P.zip vs) m x = some v
  | [], _, _, _, _, h, _, _ => by simp at h
  | _ :: _, [], _, _, _, _, h, _ => by simp at h
  | p :: P, w :: vs, 0, m, nd, h1, h2, hk => by
    simp at h1 h2; subst h1; subst h2
    show bindL kindOf ((p, w) :: P.zip vs) m p = _
    unfold bindL
    rw [bindL_out fun v hv => (List.nodup_cons.mp nd).1 (List.of_mem_zip hv).1, if_pos hk]
    simp
  | p :: P, w :: vs, i + 1, m, nd, h1, h2, hk => by
    show bindL kindOf ((p, w) :: P.zip vs) m x = _
    unfold bindL
    exact bindL_get (i := i) (List.nodup_cons.mp nd).2 (by simpa using h1) (by simpa using h2) hk
theorem bindC_get {kindOf : Str → Option NameKind} {x : Str} {v : Value} : ∀ {P : List Str} {vs : List Value} {i : Nat} {m : Str → Option Value}, P.Nodup → P[i]? = some x → vs[i]? = some v → kindOf x ≠ some .local →
    bindC kindOf (P.zip vs) m x = some v
  | [], _, _, _, _, h, _, _ => by simp at h
  | _ :: _, [], _, _, _, _, h, _ => by simp at h
  | p :: P, w :: vs, 0, m, nd, h1, h2, hk => by
    simp at h1 h2; subst h1; subst h2
    show bindC kindOf ((p, w) :: P.zip vs) m p = _
    unfold bindC
    rw [bindC_out fun v hv => (List.nodup_cons.mp nd).1 (List.of_mem_zip hv).1, if_neg hk]
    simp
  | p :: P, w :: vs, i + 1, m, nd, h1, h2, hk => by
    show bindC kindOf ((p, w) :: P.zip vs) m x = _
    unfold bindC
    exact bindC_get (i := i) (List.nodup_cons.mp nd).2 (by simpa using h1) (by simpa using h2) hk
def start (N : List Str) (vs : List V) : St := vs.map some ++ List.replicate (N.length - vs.length) none
def cxOf (CX : CXT) (P : Program) (w : World) (K : PySem.W.Frag) (mg : Str → Option Value) (base : Heap) (N : List Str) (qual : Str) (scope : Scope) (f : Addr) (cd : Value) (A : Around) (outer : List Env) (s : Shared) (H : Hp) (E : XK) : Cx where
  prog := P
  w := w
  K := K
  mg := mg
  base := base
  A := A.deeper (envOfC qual scope s.heap.objs.size f cd)
  N := N
  s₀ := s
  H₀ := H
  env := envOfC qual scope s.heap.objs.size f cd
  outer := outer
  stack := envOfC qual scope s.heap.objs.size f cd :: outer
  ex := []
  calm := true
  fn := fun _ => true
  pn := []
  xe := fun e s' => wpAny (model P w) (A.deeper (envOfC qual scope s.heap.objs.size f cd)) (leaving (envOfC qual scope s.heap.objs.size f cd) e) (fun _ s'' => CX outer H s E e s'') (fun e' s'' => CX outer H s E e' s'') s'
theorem cell_has {sc : Scope} {n : Nat} {x : Str} (h : sc.names.lookup x = some .cell) : ∃ c, (cellsFrom n sc.names []).lookup x = some c := by
  have q := PySem.W.cellsFrom_some sc.names n [] (.inl h)
  exact Option.isSome_iff_exists.mp q
theorem inv_start {CX : CXT} {P : Program} {w : World} {K : PySem.W.Frag} {mg : Str → Option Value} {base : Heap} {N ps : List Str} {qual : Str} {scope : Scope} {f : Addr} {cd : Value} {A : Around} {outer : List Env} {s s1 : Shared} {H : Hp} {E : XK} {us : List Value} {vs : List V}
    (S : FnScope N ps scope) (hd : A.handled = none) (e0 : Env0 P w K mg base A outer s H) (hl : vs.length = ps.length) (r : Vals vs us)
    (x : InCallC s s.heap.objs.size (bindL (envOfC qual scope s.heap.objs.size f cd).kindOf (ps.zip us) fun _ => none) (cellsFrom (s.heap.objs.size + 1) scope.names []) (bindC (envOfC qual scope s.heap.objs.size f cd).kindOf (ps.zip us) fun _ => none) s1) :
    Inv (cxOf CX P w K mg base N qual scope f cd A outer s H E) [] (start N vs) H s1 := by
  have hpl : ps.length ≤ N.length := by have := congrArg List.length S.pre; rw [List.length_take] at this; omega
  obtain ⟨h1, tk, rfl, hk⟩ := x.done
  have noA : ∀ b : Addr, b ∉ (cxOf CX P w K mg base N qual scope f cd A outer s H E).ex := fun b z => absurd (show b ∈ ([] : List Addr) from z) (by simp)
  refine ⟨⟨e0.mod, S.kind, rfl, rfl, Nat.le_refl _, fun y z c h1 h2 => ?_, fun y hy => ?_, fun y c _ h => ?_, fun _ => hd, Around.frames_deeper e0.frames, .inr ⟨rfl, rfl⟩, fun b z => absurd z (noA b), e0.bs, e0.bsz, fun b _ _ => noA b, fun b z => absurd z (noA b), e0.funs, e0.frf⟩,
    rfl, e0.bare, Un.kept hk, ⟨_, x.toInCall.ns, fun i y v h1 h2 h3 => ?_⟩, fun y c h => ⟨_, x.cell y c h⟩, e0.hok.fresh (Nat.le_refl _), fun y c h => ?_, fun p hp => absurd (show p ∈ ([] : List (Addr × Obj)) from hp) (by simp), e0.hok.kept hk, ?_⟩
  · exact name_of_addr x.apart (PySem.mem_of_lookup h1) (PySem.mem_of_lookup h2)
  · have hy : scope.names.lookup y = some .cell ∨ scope.names.lookup y = some .free := hy
    rcases hy with hy | hy
    · exact cell_has hy
    · exact absurd rfl (S.nofree _ (PySem.mem_of_lookup hy))
  · exact Nat.le_of_lt (x.above y c (PySem.mem_of_lookup h))
  · have hi : i < vs.length := by
      unfold start at h2
      by_cases hi : i < vs.length
      · exact hi
      · rw [List.getElem?_append_right (by simpa using hi)] at h2
        rw [List.getElem?_replicate] at h2
        split at h2 <;> cases h2
    have ha : vs[i]? = some v := by
      unfold start at h2
      rw [List.getElem?_append_left (by simpa using hi), List.getElem?_map] at h2
      cases e : vs[i]? with
      | none => rw [e] at h2; cases h2
      | some a => rw [e] at h2; cases h2; rfl
    obtain ⟨u, hu, rv⟩ := r.get ha
    have hp : ps[i]? = some y := by
      rw [← S.pre, List.getElem?_take_of_lt (by omega)]; exact h1
    have ndP : ps.Nodup := by rw [← S.pre]; exact S.nd.sublist (List.take_sublist _ _)
    refine ⟨u, rv, ?_⟩
    rcases S.par y (List.mem_of_getElem? hp) with k | k
    · exact .inl ⟨k, bindL_get ndP hp hu k⟩
    · obtain ⟨c, e⟩ := cell_has (n := s.heap.objs.size + 1) k
      refine .inr ⟨.inl k, c, e, ?_⟩
      have q := x.cell y c e
      rw [bindC_get ndP hp hu (by show scope.names.lookup y ≠ _; rw [k]; decide)] at q
      exact q
  · exact e0.hok.fresh (Nat.le_of_lt (x.above y c (PySem.mem_of_lookup h)))
  · unfold start
    show _ = N.length
    rw [List.length_append, List.length_map, List.length_replicate]
    omega
theorem fn_of {CX : CXT} {P : Program} {w : World} {K : PySem.W.Frag} {mg : Str → Option Value} {base : Heap} {k : Nat} {f : Addr} {name qual : Str} {params : Arguments} {body : List Stmt} {scope : Scope} {dV kV doc pm cdv ct oc : Value} {an od : Option Addr}
    {osl : Array (Option Value)} {N ps : List Str} {sp : Sp} (lk : K.lookup f = some ⟨oc, od, .func (PySem.W.fnOf name qual params body scope dV kV doc pm an cdv ct), osl⟩) (hcd : PySem.W.codeIn K cdv qual = true) (S : FnScope N ps scope)
    (len : ∀ vs H Q E, sp vs H Q E → vs.length = ps.length)
    (hbody : ∀ (A : Around) (outer : List Env) (s : Shared) (H : Hp) (vs : List V) (Q : VK) (E : XK), Room k (A.deeper (envOfC qual scope s.heap.objs.size f cdv)) → sp vs H Q E →
      ∃ t, PSs (cxOf CX P w K mg base N qual scope f cdv A outer s H E) body t ∧ t { nx := fun _ H' => Q .non H', rt := Q } (start N vs) H) :
    FnOk P w K mg base CX (k + 1) f (PySem.W.fnOf name qual params body scope dV kV doc pm an cdv ct) ps sp := by
  refine ⟨len, fun A outer s H args us vs Q E hr e0 hb r hsp => ?_⟩
  have hl := len _ _ _ _ hsp
  have KX : K.In s.heap := e0.mod.kin.keeps fun b o e => (e0.bs b o e).1
  have lim : s.heap.NoLimit := e0.mod.nolimit.keeps fun b o e => (e0.bs b o e).1
  have hkind : ∀ y ∈ ps.zip us, scope.names.lookup y.1 = some .local ∨ (scope.names.lookup y.1 = some .cell ∧ ((cellsFrom (s.heap.objs.size + 1) scope.names []).lookup y.1).isSome = true) := fun ⟨n, v⟩ hy => by
    rcases S.par n (List.of_mem_zip hy).1 with q | q
    · exact .inl q
    · exact .inr ⟨q, PySem.W.cellsFrom_some _ _ _ (.inl q)⟩
  refine codeAny_call_function hr.depth (KX _ _ lk) rfl S.co S.gen rfl (PySem.W.codeRec_of KX hcd) (hb _ _ _ _ ?_)
  refine wpAny_newFunctionEnv_cells S.kind hkind fun env he s1 x => ?_
  subst he
  refine ⟨lim.keeps x.toInCall.keep, codeAny_func ?_⟩
  obtain ⟨t, ht, hq⟩ := hbody A outer s H vs Q E (hr.deeper _) hsp
  have I : Inv (cxOf CX P w K mg base N qual scope f cdv A outer s H E) [] (start N vs) H s1 := inv_start S hr.hd e0 hl r x
  refine wpAny_mono (ht [] s1 (start N vs) H _ I hq) (fun fl s' hs => ?_) fun e s' hs => hs
  have fin : ∀ {σ' : St} {H' : Hp} {v : V} {u : Value}, Inv (cxOf CX P w K mg base N qual scope f cdv A outer s H E) [] σ' H' s' → RelV v u → Q v H' → CE outer P w H s Q u s' :=
    fun {σ' H' v u} J rv q => ⟨v, H', J.os, J.bare, J.base, J.hok, rv, q⟩
  cases fl with
  | ret u =>
    obtain ⟨v, σ', H', J, rv, q⟩ := hs
    exact fin J rv q
  | next =>
    obtain ⟨σ', H', J, q⟩ := hs
    exact fin (v := V.non) (u := Value.none) J rfl q
  | brk =>
    obtain ⟨_, _, _, q⟩ := hs
    exact False.elim q
  | cont =>
    obtain ⟨_, _, _, q⟩ := hs
    exact False.elim q
end L2
namespace L2
open PySem PySem.Spec PyProof.Rows
section
variable {X : Cx} {x : Str} {p pos : Pos} {e : Expr} {es : List Expr} {t : TA} {id T : String} {r : List V → Hp → VK → Prop}
def tCB (r : List V → Hp → VK → Prop) (t : TA) : TE := fun σ H Q => t σ H fun vs H1 => r vs H1 Q
theorem pe_callB (hc : CallR X (.builtin id) r) (hg : Gl X x) (hm : X.mg x = none) (hv : bootBuiltins x = some (.builtin id)) (ha : PA X (e :: es) t) (hn : x ≠ "__name__" := by decide) (hdb : (x == ("__debug__" : Str)) = false := by decide)
    (he : starEach (e :: es) X.env = (false, eval e X.env) :: starEach es X.env := by rfl) (hpl : (backTo pos (starEach es X.env)).any (·.1) = false := by rfl) : PE X (.Call (.Name x p) (e :: es) [] pos) (tCB r t) := by
  intro pins s σ H Q I h
  refine wpAny_Call_Name_kw (ld_blt I hg hm hv ?_ hn hdb)
  exact PyProof.Rows.callWith_builtin1 (thn (ha pos pins s σ H _ I h) fun us s1 ⟨vs, H1, I1, r1, q1⟩ => hc pins s1 σ H1 vs us Q I1 r1 q1) he hpl
theorem pe_callTy (hc : CallR X (.type T) r) (hg : Gl X x) (hm : X.mg x = none) (hv : bootBuiltins x = some (.type T)) (ha : PA X (e :: es) t) (hn : x ≠ "__name__" := by decide) (hdb : (x == ("__debug__" : Str)) = false := by decide)
    (he : starEach (e :: es) X.env = (false, eval e X.env) :: starEach es X.env := by rfl) (hpl : (backTo pos (starEach es X.env)).any (·.1) = false := by rfl) : PE X (.Call (.Name x p) (e :: es) [] pos) (tCB r t) := by
  intro pins s σ H Q I h
  refine wpAny_Call_Name_kw (ld_blt I hg hm hv ?_ hn hdb)
  exact PyProof.Rows.callWith_type1 (thn (ha pos pins s σ H _ I h) fun us s1 ⟨vs, H1, I1, r1, q1⟩ => hc pins s1 σ H1 vs us Q I1 r1 q1) he hpl
end
end L2
namespace HT
open PySem PyProof.Rows
section
open PySem.SeqAt
open PySem.AutoSeq1 (wpAny_loadPart')
open PySem.MeetsSeq PySem.MeetsSeq2 PySem.MeetsSeq3
end
section
variable {prog : Program} {w : World} {A : Around} {E : Value → Shared → Prop} {s : Shared}
def sIx (n d : Nat) : Option Int → Nat
  | none => d
  | some v => if v < 0 then (v + (n : Int)).toNat else min v.toNat n
theorem sIx_none (n d : Nat) : sIx n d none = d := rfl
theorem sIx_nat (n d k : Nat) : sIx n d (some (k : Int)) = min k n := by
  show (if (k : Int) < 0 then ((k : Int) + (n : Int)).toNat else min (k : Int).toNat n) = min k n
  rw [if_neg (by omega), Int.toNat_natCast]
end
end HT
namespace L2
open PySem PySem.Spec PyProof.Rows
abbrev TO := St → Hp → (Option Int → Hp → Prop) → Prop
def PO (X : Cx) (e : Option Expr) (t : TO) : Prop :=
  ∀ (pins : List (Addr × Obj)) (s : Shared) (σ : St) (H : Hp) (Q : Option Int → Hp → Prop), Inv X pins σ H s → t σ H Q →
    wpAny (model X.prog X.w) X.A (evalPart e X.env) (fun u s' => ∃ o H', Inv X pins σ H' s' ∧ IsPart u o ∧ Q o H') X.xe s
def tNoPart : TO := fun _ H Q => Q none H
def tPart (t : TE) : TO := fun σ H Q => t σ H fun x H1 => ∃ i, x = .int i ∧ Q (some i) H1
theorem intsAre_of {ns : List Int} : ∀ {us : List Value}, Vals (ns.map V.int) us → IntsAre us ns := by
  induction ns with
  | nil => intro us r; rw [List.map_nil] at r; cases r; exact .nil
  | cons n ns ih =>
    intro us r
    rw [List.map_cons] at r
    cases r with
    | cons r1 r2 =>
      obtain ⟨t, e⟩ := r1
      subst e
      exact .cons n t (ih r2)
section
variable {X : Cx} {e : Expr} {te : TE} {lo hi : Option Expr} {tl th : TO} {pos p2 : Pos}
theorem po_none : PO X none tNoPart := by
  intro pins s σ H Q I h
  rw [evalPart_none]
  exact wpAny_pure ⟨none, H, I, .none, h⟩
theorem po_some (h : PE X e te) : PO X (some e) (tPart te) := by
  intro pins s σ H Q I hw
  rw [evalPart_some]
  refine thn (h pins s σ H _ I hw) fun u s1 ⟨x, H1, I1, r1, q1⟩ => ?_
  obtain ⟨i, rfl, q⟩ := q1
  obtain ⟨t, rfl⟩ := r1
  exact ⟨some i, H1, I1, .int i t, q⟩
def SlR (X : Cx) (r : V → Option Int → Option Int → Hp → VK → Prop) : Prop :=
  ∀ (pins : List (Addr × Obj)) (s : Shared) (σ : St) (H : Hp) (x : V) (v vl vu : Value) (lo hi : Option Int) (sl : Addr) (Q : VK), Inv X pins σ H s → RelV x v → s.heap.IsSliceOf sl vl vu .none → IsPart vl lo → IsPart vu hi → r x lo hi H Q →
    ∃ T id, typeLookup (.type T) "__getitem__" = pure (some (.builtin id)) ∧ s.TypeIs v T ∧ wpAny (model X.prog X.w) X.A (getItem v (.ref sl)) (EP X pins σ Q) X.xe s
def tSl (r : V → Option Int → Option Int → Hp → VK → Prop) (te : TE) (tl th : TO) : TE := fun σ H Q => te σ H fun x H1 => tl σ H1 fun l H2 => th σ H2 fun u H3 => r x l u H3 Q
theorem pe_slice {r : V → Option Int → Option Int → Hp → VK → Prop} (hr : SlR X r) (he : PE X e te) (hl : PO X lo tl) (hu : PO X hi th) : PE X (.Subscript e (.Slice lo hi none p2) pos) (tSl r te tl th) := by
  intro pins s σ H Q I h
  refine Subscript_ (thn (he pins s σ H _ I h) fun v s1 ⟨x, H1, I1, r1, q1⟩ => ?_)
  refine wpAny_Slice (thn (hl pins s1 σ H1 _ I1 q1) fun vl s2 ⟨l, H2, I2, pl, q2⟩ => thn (hu pins s2 σ H2 _ I2 q2) fun vu s3 ⟨u, H3, I3, pu, q3⟩ => ?_)
  rw [evalPart_none]
  refine wpAny_pure ?_
  have I4 : Inv X pins σ H3 { s3 with heap := s3.heap.push { cls := .type "slice", data := .fields #[vl, vu, .none] } } := I3.kept (t' := s3.toks) fun b ob q => Heap.get?_push_of_some _ q
  obtain ⟨T, id, hT, ht, hg⟩ := hr pins { s3 with heap := s3.heap.push { cls := .type "slice", data := .fields #[vl, vu, .none] } } σ H3 x v vl vu l u s3.heap.objs.size Q I4 r1 (Heap.IsSliceOf.new ..) pl pu q3
  show wpAny (model X.prog X.w) X.A (subscriptTail e (.Slice lo hi none p2) v (.ref s3.heap.objs.size)) (EP X pins σ Q) X.xe { s3 with heap := s3.heap.push { cls := .type "slice", data := .fields #[vl, vu, .none] } }
  exact tail_any (ops := [.ref s3.heap.objs.size, v]) ht hT hg (by with_unfolding_all rfl)
def cutV (xs : List V) (lo hi : Option Int) : List V := (xs.drop (HT.sIx xs.length 0 lo)).take (HT.sIx xs.length xs.length hi - HT.sIx xs.length 0 lo)
theorem cutV_length (xs : List V) (lo hi : Option Int) : (cutV xs lo hi).length ≤ xs.length := by
  unfold cutV
  rw [List.length_take, List.length_drop]
  omega
end
end L2
namespace L2
open PySem PySem.Spec PyProof.Rows
def ixN (n : Nat) (i : Int) : Option Nat := if 0 ≤ i then (if i < n then some i.toNat else none) else if -(n : Int) ≤ i then some (i + n).toNat else none
def atI {α : Type} (xs : List α) (i : Int) : Option α := (ixN xs.length i).bind fun j => xs[j]?
theorem ixN_seq {n : Nat} {i : Int} {j : Nat} (h : ixN n i = some j) : seqIndex? i n = some j ∧ j < n ∧ -(n : Int) ≤ i ∧ i < n := by
  unfold ixN at h
  by_cases h0 : 0 ≤ i
  · rw [if_pos h0] at h
    by_cases h1 : i < n
    · rw [if_pos h1] at h
      have e : i.toNat = j := Option.some.inj h
      exact ⟨by rw [seqIndex_of h0 h1, e], by omega, by omega, h1⟩
    · rw [if_neg h1] at h; cases h
  · rw [if_neg h0] at h
    by_cases h1 : -(n : Int) ≤ i
    · rw [if_pos h1] at h
      have e : (i + n).toNat = j := Option.some.inj h
      exact ⟨by rw [seqIndex_neg (by omega) h1, e], by omega, h1, by omega⟩
    · rw [if_neg h1] at h; cases h
theorem atI_get {α : Type} {xs : List α} {i : Int} {v : α} (h : atI xs i = some v) : ∃ j, seqIndex? i xs.length = some j ∧ xs[j]? = some v ∧ j < xs.length ∧ -(xs.length : Int) ≤ i ∧ i < xs.length := by
  unfold atI at h
  cases e : ixN xs.length i with
  | none => rw [e] at h; cases h
  | some j =>
    rw [e] at h
    obtain ⟨h1, h2, h3, h4⟩ := ixN_seq e
    exact ⟨j, h1, h, h2, h3, h4⟩
theorem atI_nat {α : Type} {xs : List α} {j : Nat} {v : α} (h : xs[j]? = some v) : atI xs (j : Int) = some v := by
  have hj : j < xs.length := (List.getElem?_eq_some_iff.mp h).1
  have e : ixN xs.length (j : Int) = some j := by
    unfold ixN
    rw [if_pos (by omega), if_pos (by omega)]; simp
  unfold atI; rw [e]; exact h
theorem atI_last {α : Type} (xs : List α) (v : α) : atI (xs ++ [v]) (-1) = some v := by
  have hl : (xs ++ [v]).length = xs.length + 1 := by simp
  have e : ixN (xs ++ [v]).length (-1) = some xs.length := by
    unfold ixN
    rw [hl, if_neg (by decide), if_pos (by omega)]
    congr 1
    omega
  unfold atI
  rw [e]
  show (xs ++ [v])[xs.length]? = some v
  simp
def PlainIx (b : Expr) : Prop := ∀ o i, subscripted b false o i = operate [o, i] (getItem o i)
def IxR (X : Cx) (r : R2) : Prop :=
  ∀ (value slice : Expr) (pins : List (Addr × Obj)) (s : Shared) (σ : St) (H : Hp) (x y : V) (v u : Value) (Q : VK), Inv X pins σ H s → RelV x v → RelV y u → r x y H Q →
    subscripted slice false v u = operate [v, u] (getItem v u) → wpAny (model X.prog X.w) X.A (subscriptTail value slice v u) (EP X pins σ Q) X.xe s
def MtR (X : Cx) (id : String) (r : V → List V → Hp → VK → Prop) : Prop :=
  ∀ (pins : List (Addr × Obj)) (s : Shared) (σ : St) (H : Hp) (x : V) (xs : List V) (v : Value) (us : List Value) (Q : VK), Inv X pins σ H s → RelV x v → Vals xs us → r x xs H Q →
    wpAny (model X.prog X.w) X.A (call (.builtin id) (v :: us)) (EP X pins σ Q) X.xe s
section
variable {X : Cx} {a b : Expr} {ta tb : TE} {pos : Pos}
theorem pe_ix {r : R2} (hr : IxR X r) (ha : PE X a ta) (hb : PE X b tb) (hs : PlainIx b) : PE X (.Subscript a b pos) (tOp r ta tb) := by
  intro pins s σ H Q I h
  exact Subscript_ (binT ha hb I h fun v u s2 x y H2 I2 rx ry q => hr a b pins s2 σ H2 x y v u Q I2 rx ry q (hs _ _))
def rIxL (K : PySem.W.Frag) : R2 := fun x y H Q => ∃ p xs i v, x = .ref p ∧ y = .int i ∧ SqL K H p xs ∧ atI xs i = some v ∧ Q v H
def rIxT (K : PySem.W.Frag) : R2 := fun x y H Q => ∃ p xs i v, x = .ref p ∧ y = .int i ∧ SqT K H p xs ∧ atI xs i = some v ∧ Q v H
theorem ix_list : IxR X (rIxL X.K) := by
  intro value slice pins s σ H x y v u Q I rx ry h hs
  obtain ⟨p, xs, i, z, rfl, rfl, hq, he, q⟩ := h
  cases rx
  obtain ⟨t, rfl⟩ := ry
  obtain ⟨its, r, pl, hz⟩ := I.list hq
  obtain ⟨j, h1, h2, h3, h4, h5⟩ := atI_get he
  obtain ⟨w, ew, rw'⟩ := r.get h2
  have hl := r.length
  have hn := line63
  have fin : EP X pins σ Q w s := ⟨z, H, I, rw', q⟩
  by_cases h0 : 0 ≤ i
  · have hj : i.toNat = j := by
      rw [seqIndex_of h0 h5] at h1
      exact Option.some.inj h1
    exact item_listR pl.isList h0 (by omega) (by rw [hj]; simpa using ew) fin hs
  · have hj : (i + (its.toArray.size : Int)).toNat = j := by
      rw [seqIndex_neg (by omega) h4] at h1
      rw [List.size_toArray, ← hl]
      exact Option.some.inj h1
    exact subscriptTail_builtinR (x := w) pl.isList.typeIs slot_list_getitem.lookup
      (wpAny_getItem_list_neg (Q := fun r s' => r = w ∧ EP X pins σ Q r s') pl.isList (by omega) (by rw [List.size_toArray] <;> omega) (by omega) (by rw [hj]; simpa using ew) ⟨rfl, fin⟩) hs
theorem mapSeq_set (its : List Value) (n j : Nat) (u : Value) : Obj.mapSeq (·.setIfInBounds j u) { cls := .type "list", data := .seq its.toArray n } = { cls := .type "list", data := .seq (its.set j u).toArray n } := by
  simp [Obj.mapSeq]
theorem Inv.lst {pins : List (Addr × Obj)} {σ : St} {H : Hp} {s : Shared} {p : Addr} {xs : List V} (I : Inv X pins σ H s) (h : H p = some (.lst xs)) :
    ∃ (its : List Value) (n : Nat), Vals xs its ∧ s.heap.get? p = some { cls := .type "list", data := .seq its.toArray n } ∧ xs.length ≤ sizeLine := by
  obtain ⟨z, its, n, r, e⟩ := I.hok p _ h
  exact ⟨its, n, r, e, z⟩
theorem Inv.lstUpd {pins : List (Addr × Obj)} {σ : St} {H : Hp} {s : Shared} {p : Addr} {xs ys : List V} {its its' : List Value} {n n' : Nat} {f : Obj → Obj} (I : Inv X pins σ H s) (h : H p = some (.lst xs))
    (ho : s.heap.get? p = some { cls := .type "list", data := .seq its.toArray n }) (hf : f { cls := .type "list", data := .seq its.toArray n } = { cls := .type "list", data := .seq its'.toArray n' }) (r : Vals ys its') (hz : ys.length ≤ sizeLine) (t : Nat) :
    Inv X pins σ (upd H p (.lst ys)) { s with heap := s.heap.update p f, toks := t } := by
  have e : (s.heap.update p f).get? p = some { cls := .type "list", data := .seq its'.toArray n' } := by
    rw [Heap.get?_update_self f ho (by rw [hf] <;> rfl), hf]
  refine I.write (x := p) (e := p) (by rw [h]; trivial) (.inl rfl) (fun b u hb q => (Heap.get?_update_other _ _ (Ne.symm hb)).trans q) ⟨_, e⟩ ?_
  exact ⟨hz, its', n', r, e⟩
def rSetL : V → V → V → Hp → (Hp → Prop) → Prop := fun o i v H Q => ∃ p xs k j, o = .ref p ∧ i = .int k ∧ H p = some (.lst xs) ∧ ixN xs.length k = some j ∧ Q (upd H p (.lst (xs.set j v)))
theorem set_list : PSet X rSetL := by
  intro pins s σ H o i v ov iv u Q I ro ri rv h
  obtain ⟨p, xs, k, j, rfl, rfl, hp, hj, q⟩ := h
  cases ro
  obtain ⟨t, rfl⟩ := ri
  obtain ⟨its, n, r, ho, hz⟩ := I.lst hp
  obtain ⟨h1, h2, h3, h4⟩ := ixN_seq hj
  have hl := r.length
  have hn := line63
  have I' : Inv X pins σ (upd H p (.lst (xs.set j v))) { s with heap := s.heap.update p (Obj.mapSeq (·.setIfInBounds j u)) } :=
    I.lstUpd hp ho (mapSeq_set its n j u) (r.set rv j) (by rw [List.length_set]; exact hz) s.toks
  by_cases h0 : 0 ≤ k
  · have hk : k.toNat = j := by
      rw [seqIndex_of h0 h4] at h1
      exact Option.some.inj h1
    exact PySem.W.ki_setAt ho h0 (by omega) (by rw [List.size_toArray, ← hl]; exact h4) (by rw [hk]; exact ⟨_, I', q⟩)
  · have hk : (k + (its.toArray.size : Int)).toNat = j := by
      rw [seqIndex_neg (by omega) h3] at h1
      rw [List.size_toArray, ← hl]
      exact Option.some.inj h1
    exact PySem.W.ki_setBack ho (by omega) (by rw [List.size_toArray, ← hl]; exact h3) (by omega) (by rw [hk]; exact ⟨_, I', q⟩)
theorem slice_bounds (lo hi : Option Int) (n : Nat) : (sliceBounds lo hi none n).1 = ((HT.sIx n 0 lo : Nat) : Int) ∧ (sliceBounds lo hi none n).2.1 = ((HT.sIx n n hi : Nat) : Int) ∧ (sliceBounds lo hi none n).2.2 = 1 := by
  refine ⟨?_, ?_, rfl⟩
  · cases lo with
    | none => simp [sliceBounds, HT.sIx]
    | some i =>
      simp only [sliceBounds, HT.sIx, Option.getD_none, show (1 : Int) > 0 by decide, if_true]
      by_cases h : i < 0
      · simp only [h, if_true] <;> omega
      · simp only [h, if_false] <;> omega
  · cases hi with
    | none => simp [sliceBounds, HT.sIx]
    | some i =>
      simp only [sliceBounds, HT.sIx, Option.getD_none, show (1 : Int) > 0 by decide, if_true]
      by_cases h : i < 0
      · simp only [h, if_true] <;> omega
      · simp only [h, if_false] <;> omega
theorem slicePick_cut (its : List Value) (lo hi : Option Int) : slicePick its.toArray lo hi none = ((its.drop (HT.sIx its.length 0 lo)).take (HT.sIx its.length its.length hi - HT.sIx its.length 0 lo)).toArray := by
  obtain ⟨h1, h2, h3⟩ := slice_bounds lo hi its.toArray.size
  unfold slicePick
  rw [h1, h2, h3]
  simp only [sliceRange_one, pick_run, List.size_toArray] <;> rfl
def rSlL (K : PySem.W.Frag) : V → Option Int → Option Int → Hp → VK → Prop := fun x lo hi H Q => ∃ a xs, x = .ref a ∧ SqL K H a xs ∧ ∀ p, H p = none → Q (.ref p) (upd H p (.lst (cutV xs lo hi)))
theorem sl_list : SlR X (rSlL X.K) := by
  intro pins s σ H x v vl vu lo hi sl Q I rx hs pl pu h
  obtain ⟨a, xs, rfl, hx, q⟩ := h
  cases rx
  obtain ⟨its, r, ht, hz⟩ := I.list hx
  have hlen := r.length
  refine ⟨"list", _, slot_list_getitem.lookup, ht.isList.typeIs, ?_⟩
  refine wpAny_getItem_list_slice ht.isList hs pl pu .none (by simp) ?_ (by rw [List.size_toArray] <;> omega)
  rw [slicePick_cut, ← hlen]
  refine ⟨.ref s.heap.objs.size, _, I.laid (t' := s.toks) (o := .lst (cutV xs lo hi)) (fun b ob q => Heap.get?_push_of_some _ q) (Nat.le_refl _) ?_, rfl, q _ (I.hok.fresh (Nat.le_refl _))⟩
  exact ⟨Nat.le_trans (cutV_length xs lo hi) hz, _, 0, (r.drop (HT.sIx xs.length 0 lo)).take (HT.sIx xs.length xs.length hi - HT.sIx xs.length 0 lo), Heap.get?_push_size _ rfl⟩
def flatV : V → Bool
  | .non => true
  | .bl _ => true
  | .int _ => true
  | .str _ => true
  | _ => false
def eqV : V → V → Bool
  | .non, .non => true
  | .bl a, .bl b => a == b
  | .bl a, .int b => (if a then 1 else 0) == b
  | .int a, .bl b => a == (if b then 1 else 0)
  | .int a, .int b => a == b
  | .str a, .str b => a == b
  | _, _ => false
theorem eqAt_V {A : Around} {s : Shared} {y x : V} {u v : Value} (ry : RelV y u) (rx : RelV x v) (fy : flatV y = true) (fx : flatV x = true) : SeqAt.EqAt A s u v (eqV y x) := by
  cases y with
  | non =>
    cases ry
    cases x with
    | non => cases rx; exact SeqAt.EqAt.same _
    | bl b => cases rx; exact SeqAt.EqAt.none_bool b
    | int b => obtain ⟨t, rfl⟩ := rx; exact SeqAt.EqAt.none_int b t
    | str b => obtain ⟨t, rfl⟩ := rx; exact SeqAt.EqAt.none_str b t
    | _ => exact absurd (show false = true from fx) Bool.false_ne_true
  | bl a =>
    cases ry
    cases x with
    | non => cases rx; exact SeqAt.EqAt.bool_none a
    | bl b => cases rx; exact SeqAt.EqAt.bool_bool a b
    | int b => obtain ⟨t, rfl⟩ := rx; exact SeqAt.EqAt.bool_int a b t
    | str b => obtain ⟨t, rfl⟩ := rx; exact SeqAt.EqAt.bool_str a b t
    | _ => exact absurd (show false = true from fx) Bool.false_ne_true
  | int a =>
    obtain ⟨t', rfl⟩ := ry
    cases x with
    | non => cases rx; exact SeqAt.EqAt.int_none a t'
    | bl b => cases rx; exact SeqAt.EqAt.int_bool a t' b
    | int b => obtain ⟨t, rfl⟩ := rx; exact SeqAt.EqAt.int_int a t' b t
    | str b => obtain ⟨t, rfl⟩ := rx; exact SeqAt.EqAt.int_str a t' b t
    | _ => exact absurd (show false = true from fx) Bool.false_ne_true
  | str a =>
    obtain ⟨t', rfl⟩ := ry
    cases x with
    | non => cases rx; exact SeqAt.EqAt.str_none a t'
    | bl b => cases rx; exact SeqAt.EqAt.str_bool a t' b
    | int b => obtain ⟨t, rfl⟩ := rx; exact SeqAt.EqAt.str_int a t' b t
    | str b => obtain ⟨t, rfl⟩ := rx; exact SeqAt.EqAt.str_str a t' b t
    | _ => exact absurd (show false = true from fx) Bool.false_ne_true
  | _ => exact absurd (show false = true from fy) Bool.false_ne_true
def eqU (x : V) (u : Value) : Bool := match u with
  | .none => eqV .non x
  | .bool b => eqV (.bl b) x
  | .int i _ => eqV (.int i) x
  | .str z _ => eqV (.str z) x
  | _ => false
theorem eqU_of {x y : V} {u : Value} (r : RelV y u) (f : flatV y = true) : eqU x u = eqV y x := by
  cases y with
  | non => cases r; rfl
  | bl b => cases r; rfl
  | int i => obtain ⟨t, rfl⟩ := r; rfl
  | str z => obtain ⟨t, rfl⟩ := r; rfl
  | _ => exact absurd (show false = true from f) Bool.false_ne_true
theorem any_eqU {x : V} : ∀ {xs : List V} {us : List Value}, Vals xs us → xs.all flatV = true → us.any (eqU x) = xs.any fun y => eqV y x
  | _, _, .nil, _ => rfl
  | y :: xs, u :: us, .cons r t, f => by
    rw [List.all_cons, Bool.and_eq_true] at f
    rw [List.any_cons, List.any_cons, eqU_of r f.1, any_eqU t f.2]
theorem mem_eqAt {A : Around} {s : Shared} {x : V} {v : Value} (rx : RelV x v) (fx : flatV x = true) : ∀ {xs : List V} {us : List Value}, Vals xs us → xs.all flatV = true → ∀ u ∈ us, SeqAt.EqAt A s u v (eqU x u)
  | _, _, .nil, _ => fun u hu => by cases hu
  | y :: xs, u :: us, .cons r t, f => fun u' hu => by
    rw [List.all_cons, Bool.and_eq_true] at f
    rcases List.mem_cons.mp hu with rfl | hu
    · rw [eqU_of r f.1]; exact eqAt_V r rx f.1 fx
    · exact mem_eqAt rx fx t f.2 u' hu
def inV (x : V) (xs : List V) : Bool := xs.any fun y => eqV y x
def rIn (K : PySem.W.Frag) (neg : Bool) : R2 := fun x y H Q => ∃ p xs, y = .ref p ∧ (SqL K H p xs ∨ SqT K H p xs) ∧ flatV x = true ∧ xs.all flatV = true ∧ Q (.bl (if neg then !inV x xs else inV x xs)) H
theorem op_notIn_seq : OpR X (compareOp .NotIn) (rIn X.K true) := by
  intro pins s σ H x y v u Q I rx ry h
  obtain ⟨p, xs, rfl, hq, fx, fs, q⟩ := h
  cases ry
  rcases hq with hq | hq
  · obtain ⟨its, r, pl, hz⟩ := I.list hq
    refine SeqAt.notIn_listAt (eqU x) pl.isList (fun w hw => mem_eqAt rx fx r fs w (by simpa using hw)) ⟨.bl _, H, I, rfl, ?_⟩
    rw [show its.toArray.any (eqU x) = its.any (eqU x) by simp, any_eqU r fs]
    exact q
  · obtain ⟨its, r, pl, hz⟩ := I.tuple hq
    refine SeqAt.notIn_tupleAt (eqU x) pl (fun w hw => mem_eqAt rx fx r fs w (by simpa using hw)) ⟨.bl _, H, I, rfl, ?_⟩
    rw [show its.toArray.any (eqU x) = its.any (eqU x) by simp, any_eqU r fs]
    exact q
theorem call_len_seq : CallR X (.builtin "len") (fun xs H Q => ∃ p ys, xs = [.ref p] ∧ (SqL X.K H p ys ∨ SqT X.K H p ys) ∧ Q (.int ys.length) H) := by
  intro pins s σ H xs us Q I r h
  obtain ⟨p, ys, rfl, hq, q⟩ := h
  obtain ⟨u, rfl, rx⟩ := vals1 r
  cases rx
  have hn := line63
  rcases hq with hq | hq
  · obtain ⟨its, r', pl, hz⟩ := I.list hq
    have hlen := r'.length
    exact Calls.call_len_list pl.isList (by simp only [List.size_toArray] <;> omega) ⟨.int ys.length, H, I.tok _, ⟨s.toks + 1, by rw [List.size_toArray, hlen]⟩, q⟩
  · obtain ⟨its, r', pl, hz⟩ := I.tuple hq
    have hlen := r'.length
    exact len_tuple pl (by simp only [List.size_toArray] <;> omega) ⟨.int ys.length, H, I.tok _, ⟨s.toks + 1, by rw [List.size_toArray, hlen]⟩, q⟩
theorem call_list_of : CallR X (.type "list") (fun xs H Q => ∃ p ys, xs = [.ref p] ∧ (SqL X.K H p ys ∨ SqT X.K H p ys) ∧ ∀ l, H l = none → Q (.ref l) (upd H l (.lst ys))) := by
  intro pins s σ H xs us Q I r h
  obtain ⟨p, ys, rfl, hq, q⟩ := h
  obtain ⟨u, rfl, rx⟩ := vals1 r
  cases rx
  have fin : ∀ (its : List Value), Vals ys its → ys.length ≤ sizeLine → ∀ (h' : Heap) (c' : Nat), (∀ b o', s.heap.get? b = some o' → h'.get? b = some o') →
      h'.get? s.heap.objs.size = some { cls := .type "list", dict := none, data := .seq its.toArray c', slots := #[] } → EP X pins σ Q (.ref s.heap.objs.size) { s with heap := h' } := fun its r' hz h' c' kp e =>
    ⟨.ref s.heap.objs.size, _, I.laid (t' := s.toks) kp (Nat.le_refl _) (show ObjOk X.prog X.w _ h' _ (.lst ys) from ⟨hz, its, c', r', e⟩), rfl, q _ (I.hok.fresh (Nat.le_refl _))⟩
  rcases hq with hq | hq
  · obtain ⟨its, r', pl, hz⟩ := I.list hq
    have hlen := r'.length
    obtain ⟨o, ho, hc, n, hd⟩ := pl.isList
    exact call_list_seq p (.inl rfl) ho hc hd (fun h' c' kp e => fin its r' hz h' c' kp e) (by simp only [List.size_toArray] <;> omega)
  · obtain ⟨its, r', pl, hz⟩ := I.tuple hq
    have hlen := r'.length
    obtain ⟨o, ho, hc, n, hd⟩ := pl
    exact call_list_seq p (.inr rfl) ho hc hd (fun h' c' kp e => fin its r' hz h' c' kp e) (by simp only [List.size_toArray] <;> omega)
def tyV (K : PySem.W.Frag) (T : String) (x : V) (H : Hp) : Prop := match x with
  | .str _ => T = "str"
  | .int _ => T = "int"
  | .ref p => (T = "list" ∧ ∃ xs, SqL K H p xs) ∨ (T = "tuple" ∧ ∃ o, K.lookup p = some o ∧ o.cls = .type "tuple" ∧ o.dict = none) ∨
      (T = "dict" ∧ ((∃ kvs, H p = some (.dK kvs)) ∨ ∃ kvs, H p = some (.dT kvs))) ∨ (T = "set" ∧ ∃ S n, H p = some (.set S n))
  | _ => False
theorem tyV_is {pins : List (Addr × Obj)} {σ : St} {H : Hp} {s : Shared} {T : String} {x : V} {v : Value} (I : Inv X pins σ H s) (r : RelV x v) (ty : tyV X.K T x H) :
    s.TypeIs v T ∧ ∀ a, v = .ref a → ∃ ob, s.heap.get? a = some ob ∧ ob.dict = none := by
  cases x with
  | str z =>
    obtain ⟨t, rfl⟩ := r
    cases (show T = "str" from ty)
    exact ⟨typeIs_str s z t, fun _ e => nomatch e⟩
  | int i =>
    obtain ⟨t, rfl⟩ := r
    cases (show T = "int" from ty)
    exact ⟨typeIs_int s i t, fun _ e => nomatch e⟩
  | ref p =>
    cases r
    rcases ty with ⟨rfl, xs, hq⟩ | ⟨rfl, o, hk, hc, hd⟩ | ⟨rfl, hk⟩ | ⟨rfl, S, n, hk⟩
    · obtain ⟨its, _, pl, _⟩ := I.list hq
      refine ⟨pl.isList.typeIs, fun a e => ?_⟩
      cases e
      obtain ⟨o, n, e, c, hd, _⟩ := pl
      exact ⟨o, e, hd⟩
    · refine ⟨⟨o, I.kIn p o hk, hc⟩, fun a e => ?_⟩
      cases e
      exact ⟨o, I.kIn _ o hk, hd⟩
    · have z : ∃ o, s.heap.get? p = some o ∧ o.ExactDict := by
        rcases hk with ⟨kvs, hk⟩ | ⟨kvs, hk⟩
        · obtain ⟨_, _, _, _, o, _, _, e, ex, _⟩ := I.hok p _ hk
          exact ⟨o, e, ex⟩
        · obtain ⟨_, _, _, _, o, _, _, e, ex, _⟩ := I.hok p _ hk
          exact ⟨o, e, ex⟩
      obtain ⟨o, e, ex⟩ := z
      refine ⟨⟨o, e, ex.1⟩, fun a e2 => ?_⟩
      cases e2
      exact ⟨o, e, ex.2.1⟩
    · obtain ⟨o, _, _, _, e, ex, _⟩ := I.hok p _ hk
      refine ⟨⟨o, e, ex.1⟩, fun a e2 => ?_⟩
      cases e2
      exact ⟨o, e, ex.2.1⟩
  | _ => exact False.elim ty
def tBM0 (K : PySem.W.Frag) (T : String) (r : V → List V → Hp → VK → Prop) (to : TE) : TE := fun σ H Q => to σ H fun x H1 => tyV K T x H1 ∧ r x [] H1 Q
def tBM (K : PySem.W.Frag) (T : String) (r : V → List V → Hp → VK → Prop) (to : TE) (t : TA) : TE := fun σ H Q => to σ H fun x H1 => tyV K T x H1 ∧ t σ H1 fun xs H2 => r x xs H2 Q
variable {o e : Expr} {es : List Expr} {to : TE} {t : TA} {name : Str} {apos cpos : Pos} {T id : String} {r : V → List V → Hp → VK → Prop}
theorem pe_bm0 (pa : PlainAttrs T) (slot : Slot T name id) (hty : typeOf (.builtin id) = pure (.type "method_descriptor")) (hm : MtR X id r) (ho : PE X o to)
    (hbase : attributeBase o name X.env (eval o X.env) = eval o X.env := by rfl) (hline : (apos.endLine == cpos.line) = true := by rfl) : PE X (.Call (.Attribute o name apos) [] [] cpos) (tBM0 X.K T r to) := by
  intro pins s σ H Q I h
  refine wpAny_Call_method0_late hbase hline (thn (ho pins s σ H _ I h) fun v s1 ⟨x, H1, I1, r1, ty, q1⟩ => ?_)
  obtain ⟨h1, h2⟩ := tyV_is I1 r1 ty
  exact ⟨T, id, pa, slot, hty, h1, h2, Calls.callWith_builtin rfl (PySem.evalArgs_none (hm pins s1 σ H1 x [] v [] Q I1 r1 .nil q1))⟩
theorem pe_bm (pa : PlainAttrs T) (slot : Slot T name id) (hty : typeOf (.builtin id) = pure (.type "method_descriptor")) (hm : MtR X id r) (ho : PE X o to) (ha : PA X (e :: es) t)
    (hbase : attributeBase o name X.env (eval o X.env) = eval o X.env := by rfl)
    (hfew : ((backTo cpos (starEach (e :: es) X.env)).all (fun x => !x.1) && (backToKw cpos (keywordEach [] X.env)).all (fun x => x.1.isSome)
      && decide ((e :: es).length + ([] : List Keyword).length + (if ([] : List Keyword).isEmpty then 0 else 1) < 30)) = true := by rfl)
    (hline : (apos.endLine == cpos.line) = true := by rfl) (hs : starEach (e :: es) X.env = (false, eval e X.env) :: starEach es X.env := by rfl) (hplain : (backTo cpos (starEach es X.env)).any (·.1) = false := by rfl) :
    PE X (.Call (.Attribute o name apos) (e :: es) [] cpos) (tBM X.K T r to t) := by
  intro pins s σ H Q I h
  refine wpAny_Call_method_late hbase hfew hline rfl (thn (ho pins s σ H _ I h) fun v s1 ⟨x, H1, I1, r1, ty, q1⟩ => ?_)
  obtain ⟨h1, h2⟩ := tyV_is I1 r1 ty
  refine ⟨T, id, pa, slot, hty, h1, h2, ?_⟩
  have hA := ha cpos pins s1 σ H1 _ I1 q1
  rw [hs] at hA ⊢
  refine Calls.callWith_builtin (by show (false || (backTo cpos (starEach es X.env)).any (·.1)) = false; rw [hplain] <;> rfl) (Calls.evalArgs_plain ?_)
  exact thn hA fun us s2 ⟨vs, H2, I2, r2, q2⟩ => hm pins s2 σ H2 x vs v us Q I2 r1 r2 q2
/- xs.append(e), list.index on a module's tuple .. are MtR facts of 06m -/
end
end L2
namespace L2
open PySem PySem.Spec PyProof.Rows
def MtM (X : Cx) (id : String) (r : V → List V → Hp → VK → Prop) : Prop :=
  ∀ (pins : List (Addr × Obj)) (s : Shared) (σ : St) (H : Hp) (x : V) (xs : List V) (v : Value) (us : List Value) (Q : VK), Inv X pins σ H s → RelV x v → Vals xs us → r x xs H Q →
    wpAny (model X.prog X.w) X.A (call (.builtin id) (v :: us)) (EP X pins σ Q) X.xe s
theorem Vals.one : ∀ {x : V} {us : List Value}, Vals [x] us → ∃ u, us = [u] ∧ RelV x u
  | _, _, .cons r .nil => ⟨_, rfl, r⟩
theorem Vals.two {x y : V} {us : List Value} (h : Vals [x, y] us) : ∃ u v, us = [u, v] ∧ RelV x u ∧ RelV y v := by
  cases h with
  | cons r t =>
    cases t with
    | cons q t =>
      cases t
      exact ⟨_, _, rfl, r, q⟩
theorem Vals.zero : ∀ {us : List Value}, Vals [] us → us = []
  | _, .nil => rfl
theorem Vals.eraseIdx : ∀ {xs : List V} {us : List Value} (i : Nat), Vals xs us → Vals (xs.eraseIdx i) (us.eraseIdx i)
  | _, _, _, .nil => .nil
  | _, _, 0, .cons _ t => t
  | _, _, i + 1, .cons r t => .cons r (Vals.eraseIdx i t)
theorem Vals.rep {xs : List V} {us : List Value} (h : Vals xs us) : ∀ k : Nat, Vals (List.replicate k xs).flatten (List.replicate k us).flatten
  | 0 => .nil
  | k + 1 => by
    rw [List.replicate_succ, List.replicate_succ, List.flatten_cons, List.flatten_cons]
    exact Vals.append h (Vals.rep h k)
theorem len_erase {α : Type} : ∀ (l : List α) (i : Nat), (l.eraseIdx i).length ≤ l.length
  | [], _ => Nat.le_refl _
  | _ :: _, 0 => Nat.le_succ _
  | _ :: r, i + 1 => Nat.succ_le_succ (len_erase r i)
theorem foldl_rep (its : List Value) : ∀ (k : Nat) (acc : List Value),
    List.foldl (fun x1 x2 => x1 ++ x2) acc.toArray (List.replicate k its.toArray) = (acc ++ (List.replicate k its).flatten).toArray
  | 0, acc => by simp
  | k + 1, acc => by
    have e : acc.toArray ++ its.toArray = (acc ++ its).toArray := by simp
    have e2 : (acc ++ its) ++ (List.replicate k its).flatten = acc ++ (List.replicate (k + 1) its).flatten := by
      rw [List.replicate_succ, List.flatten_cons, List.append_assoc]
    rw [← e2, ← foldl_rep its k (acc ++ its), ← e, List.replicate_succ, List.foldl_cons]
section
variable {X : Cx} {pins : List (Addr × Obj)} {σ : St} {H : Hp} {s : Shared} {l b : Addr} {xs ys zs : List V}
theorem Inv.lset {its its' : List Value} {n : Nat} {f : Array Value → Array Value} {t' : Nat} (I : Inv X pins σ H s) (hH : H l = some (.lst xs))
    (e : s.heap.get? l = some { cls := .type "list", data := .seq its.toArray n }) (hf : f its.toArray = its'.toArray) (hv : Vals ys its') (hz : ys.length ≤ sizeLine) :
    Inv X pins σ (upd H l (.lst ys)) { s with heap := s.heap.update l (Obj.mapSeq f), toks := t' } := by
  have q := PySem.IsL.update e f
  rw [hf] at q
  refine I.write (x := l) (e := l) (by rw [hH]; exact trivial) (.inl rfl) (fun b' u hb hu => (Heap.get?_update_other s.heap (Obj.mapSeq f) (Ne.symm hb)).trans hu) ⟨_, q⟩ ?_
  exact ⟨hz, its', _, hv, q⟩
theorem Inv.lnew {its : List Value} {t' : Nat} (I : Inv X pins σ H s) (hv : Vals ys its) (hz : ys.length ≤ sizeLine) :
    Inv X pins σ (upd H s.heap.objs.size (.lst ys)) { s with heap := s.heap.push { cls := .type "list", data := .seq its.toArray }, toks := t' } :=
  I.laid (fun _ _ q => Heap.get?_push_of_some _ q) (Nat.le_refl _) ⟨hz, its, 0, hv, Heap.get?_push_size _ rfl⟩
theorem Inv.fresh (I : Inv X pins σ H s) : H s.heap.objs.size = none := I.hok.fresh (Nat.le_refl _)
theorem Inv.lstM (I : Inv X pins σ H s) (hH : H l = some (.lst xs)) : xs.length ≤ sizeLine ∧ ∃ (its : List Value) (n : Nat), Vals xs its ∧ xs.length = its.length ∧ s.heap.get? l = some { cls := .type "list", data := .seq its.toArray n } := by
  obtain ⟨z, its, n, r, e⟩ := I.hok l _ hH
  exact ⟨z, its, n, r, r.length, e⟩
theorem notLongL {n : Nat} (h : n ≤ sizeLine) : Builtin.List.listTooLong n = false := by
  unfold Builtin.List.listTooLong
  exact decide_eq_false (by omega)
end
section
variable {X : Cx}
def rAppend : V → List V → Hp → VK → Prop := fun x vs H Q => ∃ l xs y, x = .ref l ∧ vs = [y] ∧ H l = some (.lst xs) ∧ xs.length < sizeLine ∧ Q .non (upd H l (.lst (xs ++ [y])))
theorem mt_append : MtM X "list.append" rAppend := by
  intro pins s σ H x vs v us Q I rx rv h
  obtain ⟨l, xs, y, rfl, rfl, hH, hz, q⟩ := h
  cases rx
  obtain ⟨u, rfl, ru⟩ := rv.one
  obtain ⟨z, its, n, r, hl, e⟩ := I.lstM hH
  refine call_meets F.slot_list_append ⟨_, e, rfl⟩ F.entry_list_append (F.args_list_append_2 _ _) (PySem.list_append l its.toArray n u (by rw [List.size_toArray]; omega)) ⟨e, ?_⟩
  refine ⟨.non, _, I.lset (its' := its ++ [u]) hH e (by simp) (r.append (.cons ru .nil)) ?_, rfl, q⟩
  rw [List.length_append, List.length_singleton]
  omega
def rPop : V → List V → Hp → VK → Prop := fun x vs H Q => ∃ l xs y, x = .ref l ∧ vs = [] ∧ H l = some (.lst xs) ∧ xs[xs.length - 1]? = some y ∧ Q y (upd H l (.lst xs.dropLast))
def rPopAt : V → List V → Hp → VK → Prop := fun x vs H Q => ∃ l xs i k y, x = .ref l ∧ vs = [.int i] ∧ H l = some (.lst xs) ∧ -(2 ^ 63) ≤ i ∧ i < 2 ^ 63 ∧ seqIndex? i xs.length = some k ∧ xs[k]? = some y ∧ Q y (upd H l (.lst (xs.eraseIdx k)))
theorem mt_popAt : MtM X "list.pop" rPopAt := by
  intro pins s σ H x vs v us Q I rx rv h
  obtain ⟨l, xs, i, k, y, rfl, rfl, hH, h1, h2, hk, hy, q⟩ := h
  cases rx
  obtain ⟨u, rfl, ru⟩ := rv.one
  obtain ⟨t, rfl⟩ := ru
  obtain ⟨z, its, n, r, hl, e⟩ := I.lstM hH
  obtain ⟨w, hw, rw'⟩ := r.get hy
  refine call_meets F.slot_list_pop ⟨_, e, rfl⟩ F.entry_list_pop (F.args_list_pop_2 _ _)
    (MeetsSeq.list_pop_at l its.toArray n i t k w (fitsIndex_both h1 h2) (by rw [List.size_toArray, ← hl]; exact hk) (by rw [← Array.getElem?_toList]; exact hw) (by rw [List.size_toArray]; omega)) ⟨e, ?_⟩
  refine ⟨y, _, I.lset (its' := its.eraseIdx k) hH e ?_ (r.eraseIdx k) ?_, rw', q⟩
  · show its.toArray.eraseIdxIfInBounds k = (its.eraseIdx k).toArray
    rw [List.eraseIdxIfInBounds_toArray]
  · have := len_erase xs k
    omega
def rClear : V → List V → Hp → VK → Prop := fun x vs H Q => ∃ l xs, x = .ref l ∧ vs = [] ∧ H l = some (.lst xs) ∧ Q .non (upd H l (.lst []))
def rCat : R2 := fun x y H Q => ∃ l b xs zs, x = .ref l ∧ y = .ref b ∧ H l = some (.lst xs) ∧ H b = some (.lst zs) ∧ xs.length + zs.length ≤ sizeLine ∧ ∀ p, H p = none → Q (.ref p) (upd H p (.lst (xs ++ zs)))
theorem op_cat : OpR X (binaryOp .Add) rCat := by
  intro pins s σ H x y v u Q I rx ry h
  obtain ⟨l, b, xs, zs, rfl, rfl, hH, hB, hz, q⟩ := h
  cases rx
  cases ry
  obtain ⟨z, its, n, r, hl, e⟩ := I.lstM hH
  obtain ⟨z2, its2, n2, r2, hl2, e2⟩ := I.lstM hB
  refine PySem.P.add_list e e2 ?_ (by rw [List.size_toArray, List.size_toArray]; omega)
  have ea : its.toArray ++ its2.toArray = (its ++ its2).toArray := by simp
  rw [ea]
  exact ⟨.ref _, _, I.lnew (t' := s.toks) (r.append r2) (by rw [List.length_append]; omega), rfl, q _ I.fresh⟩
def rRep : R2 := fun x y H Q => ∃ l k xs, x = .ref l ∧ y = .int k ∧ H l = some (.lst xs) ∧ -(2 ^ 63) ≤ k ∧ k < 2 ^ 63 ∧ xs.length * k.toNat ≤ sizeLine ∧
  ∀ p, H p = none → Q (.ref p) (upd H p (.lst (List.replicate k.toNat xs).flatten))
theorem len_rep {α : Type} (xs : List α) (k : Nat) : (List.replicate k xs).flatten.length = k * xs.length := by
  induction k with
  | zero => simp
  | succ k ih => rw [List.replicate_succ, List.flatten_cons, List.length_append, ih, Nat.succ_mul, Nat.add_comm]
theorem op_rep : OpR X (binaryOp .Mult) rRep := by
  intro pins s σ H x y v u Q I rx ry h
  obtain ⟨l, k, xs, rfl, rfl, hH, h1, h2, hz, q⟩ := h
  cases rx
  obtain ⟨t, rfl⟩ := ry
  obtain ⟨z, its, n, r, hl, e⟩ := I.lstM hH
  have hlen : its.toArray.size * k.toNat ≤ sizeLine := by rw [List.size_toArray, ← hl]; exact hz
  have hcap : ¬ its.toArray.size * k.toNat > (2 ^ 63 - 1) / 8 := by
    have : (sizeLine : Nat) ≤ (2 ^ 63 - 1) / 8 := by decide
    omega
  have hfit : ¬ (!Builtin.List.listFitsIndex k) = true := by
    rw [fitsIndex_both h1 h2]
    exact Bool.false_ne_true
  have hlong : ¬ Builtin.List.listTooLong (its.toArray.size * k.toNat) = true := by
    rw [notLongL hlen]
    exact Bool.false_ne_true
  have hnew : List.foldl (fun x1 x2 => x1 ++ x2) #[] (List.replicate (if its.toArray.isEmpty = true then 0 else k.toNat) its.toArray) = (List.replicate k.toNat its).flatten.toArray := by
    have f0 : ∀ m : Nat, List.foldl (fun x1 x2 => x1 ++ x2) #[] (List.replicate m its.toArray) = (List.replicate m its).flatten.toArray := fun m => by
      have := foldl_rep its m []
      rw [List.nil_append] at this
      exact this
    rw [f0]
    cases its with
    | nil => simp
    | cons a r' => rw [if_neg (by simp)]
  refine wpAny_binaryOp_repeat_ref (T := "list") (U := "int") (by decide) ⟨_, e, rfl⟩ (fun s' => typeIs_int s' k t) noFill_list_mul F.fills_int_mul F.slot_int_rmul repeat_list F.slot_int_index.lookup
    (call_meets F.slot_int_rmul (typeIs_int s k t) F.entry_int_rmul (F.args_int_rmul_2 _ _) (int___rmul___int_list k t l its.toArray n)
      ⟨e, rfl, ⟨_, e, rfl⟩, call_meets F.slot_list_mul ⟨_, e, rfl⟩ F.entry_list_mul (F.args_list_mul_2 _ _) (AutoListH.list___mul___list_int_3 l its.toArray n k t hfit hcap hlong) ⟨e, ?_⟩⟩)
  rw [hnew]
  exact ⟨.ref _, _, I.lnew (t' := s.toks) (r.rep k.toNat) (by rw [len_rep, Nat.mul_comm]; exact hz), rfl, q _ I.fresh⟩
end
section
variable {prog : Program} {w : World} {A : Around} {E : Value → Shared → Prop} {s : Shared}
end
section
variable {X : Cx}
end
end L2
namespace Att
open PySem PySem.W PySem.Calls PyProof.Rows
theorem ints_of_wellAll {P : Params} {h : Heap} : ∀ (ns : List Int) (vs : List Value), WellAll P h vs (ns.map WData.int) → IntsAre vs ns := by
  intro ns
  induction ns with
  | nil =>
    intro vs w
    rw [List.map_nil] at w
    cases w
    exact .nil
  | cons n ns ih =>
    intro vs w
    rw [List.map_cons] at w
    cases w with
    | cons a b =>
      cases a
      exact .cons _ _ (ih _ b)
theorem script_of {l : OpenLaw} {n : Nat} (hn : l.most = some n) {P : Params} {h : Heap} {args : List WData} {vals : List Value}
    (hpre : l.row.toRowW.claim.pre args = true) (hwl : WellAll P h vals args) :
    ∃ a vs ns, vals = [Value.ref a] ∧ args = [WData.list (ns.map WData.int)] ∧ h.get? a = some { cls := .type "list", data := .seq vs.toArray } ∧ IntsAre vs ns ∧ ns.length ≤ n := by
  have hsh : WShape.hasAll [] args [.list .int] = true := (pre_splitW hpre).1
  have hc : l.pre.holds [] { args := args } = true := (pre_splitW hpre).2
  obtain ⟨d, r, rfl, h1, h2⟩ := hasAllW_cons hsh
  obtain rfl := hasAllW_nil h2
  obtain ⟨xs, rfl, h3⟩ := hasW_list h1
  obtain ⟨ns, rfl⟩ := items_int h3
  have hlen : ns.length ≤ n := by
    unfold OpenLaw.pre at hc
    have h4 : (WTm.not (.lt (.lit (.int (n : Int))) (.len (.arg 0)))).holds [] { args := [.list (ns.map .int)] } = true := by
      have h4 := (holds_andW hc).1
      rw [hn] at h4
      exact h4
    have h5 := condW_of h4 (w_not (w_lt w_lit (w_len_list (w_arg rfl))))
    rw [List.length_map] at h5
    refine Nat.le_of_not_lt fun q => ?_
    have q' : (n : Int) < ((ns.length : Nat) : Int) := by omega
    first
      | (rw [decide_eq_true q'] at h5; exact absurd h5 (by decide))
      | (simp at h5; omega)
  cases hwl with
  | cons w1 w2 =>
    cases w2
    cases w1 with
    | list ho hall => exact ⟨_, _, ns, rfl, rfl, ho, ints_of_wellAll ns _ hall, hlen⟩
theorem post_true (l : OpenLaw) (args : List WData) : l.row.toRowW.claim.post args (.bool true) args = true :=
  postW_of (r := l.row.toRowW) (X := (true == true))
    (show WShape.has [] (.bool true) .bool = true by first | rfl | decide | simp [WShape.has, WShape.arms, WShape.armsAll])
    (show (WTm.eq .res (.lit (.bool true))).value [] { args := args, res := some (.bool true), after := args } = some (.bool (true == true)) from w_eq_bool (w_res rfl) w_lit) rfl
theorem attach_call {l : OpenLaw} {n : Nat} {q : Program} {loose : List Str} {XP : (Str → Option Value) → Heap → Prop} {YP : World → Heap → Prop} {d : DefRec}
    (hn : l.most = some n) (hdf : d.params.defaults = [])
    (call : ∀ (w : World) (s₀ s₁ : Shared) (mg mb : Str → Option Value) (fa : Addr) (o : Obj) (pm cd doc : Value) (a : Addr) (vs : List Value) (ns : List Int),
      Ground q loose [] XP w s₀ mg mb s₁.heap → YP w s₁.heap →
      s₁.heap.get? fa = some o → o.data = .func (docDef d.name d.params d.body d.scope pm cd doc) → s₁.heap.CodeRec cd d.name → mg d.name = some (.ref fa) →
      s₁.heap.get? a = some { cls := .type "list", data := .seq vs.toArray } → IntsAre vs ns → ns.length ≤ n → s₁.gens = #[] →
      codeAny (model l.prog w) callerA (.call (.ref fa) ⟨[.ref a], []⟩) (fun r s' => r = .ok (.ret (.bool true)) ∧ OldK s₁.heap s'.heap ∧ s'.os = s₁.os ∧ AllBare s'.gens) s₁) :
    WalkO q loose XP YP l.row.toRowW d [] (fun f vs => PySem.call f vs) := by
  intro w s₀ s₁ mg mb G Y fa o pm cd doc dV kV ho hd hcd hD hmg hg args vals as hpre hlay hrd hwl hlo
  obtain rfl : dV = .none := Dflts.none hD hdf
  obtain rfl : kV = .none := Dflts.noKw hD
  obtain ⟨a, vs, ns, rfl, rfl, hobj, hints, hlen⟩ := script_of hn hpre hwl
  refine enter_call (codeAny_mono (call w s₀ s₁ mg mb fa o pm cd doc a vs ns G Y ho (fd_plain hd) hcd hmg hobj hints hlen hg) fun r s' hq => ?_)
  obtain ⟨rfl, h2, h3, h4⟩ := hq
  exact ⟨.inl ⟨.bool true, .bool true, [], rfl, fun _ => rfl, .bool true, post_true l _, fun _ => ⟨List.Pairwise.nil, fun _ hm => (nomatch hm)⟩⟩, h2, h3, h4⟩
section
variable {prog : Program} {w : World} {A : Around} {E : Value → Shared → Prop} {s : Shared} {K : Frag}
def ledger (h : Heap) (L d : Addr) : List (Addr × Obj) := (List.range h.objs.size).filterMap fun a => if a = L ∨ a = d then none else (h.get? a).map fun o => (a, o)
end
end Att
namespace L2
open PySem PySem.Spec PyProof.Rows
theorem vals_ints : ∀ {vs : List Value} {ns : List Int}, IntsAre vs ns → Vals (ns.map V.int) vs
  | _, _, .nil => .nil
  | _, _, .cons n t h => .cons ⟨t, rfl⟩ (vals_ints h)
def Only (H : Hp) : Prop := ∀ b, H b = none ∨ ∃ o xs, H b = some (.frz o (.lst xs))
theorem law_call {P : Program} {w : World} {K : PySem.W.Frag} {mg mb : Str → Option Value} {CX : CXT} {k : Nat} {fa a : Addr} {fd : FuncData} {x : Str} {sp : Sp} {s₁ : Shared} {vs : List Value} {ns : List Int}
    (KX : K.In s₁.heap) (hns : s₁.heap.Ns mainGlobals mg) (hb : s₁.heap.Ns builtinsNs mb) (hbb : ∀ x : Str, x ≠ "__name__" → mb x = bootBuiltins x) (hlim : s₁.heap.NoLimit) (hg : s₁.gens = #[])
    (ha : s₁.heap.get? a = some { cls := .type "list", data := .seq vs.toArray }) (hi : IntsAre vs ns) (hl : ns.length ≤ sizeLine) (hr : Room k callerA)
    (F : ∀ base : Heap, K.In base → base.Ns mainGlobals mg → FnOk P w K mg base CX k fa fd [x] sp) (hbind : ∀ (s : Shared) (u : Value), BindsTo s fd ⟨[u], []⟩ [(x, u)])
    (hsp : ∀ H : Hp, Only H → SqL K H a (ns.map V.int) → sp [.ref a] H (fun v _ => v = .bl true) fun _ _ _ => False)
    (hCX : ∀ H e s', CX [] H s₁ (fun _ _ _ => False) e s' → False) :
    codeAny (model P w) callerA (.call (.ref fa) ⟨[.ref a], []⟩) (fun r s' => r = .ok (.ret (.bool true)) ∧ OldK s₁.heap s'.heap ∧ s'.os = s₁.os ∧ AllBare s'.gens) s₁ := by
  have rv := vals_ints hi
  have lenV := hi.length
  have core : ∀ H : Hp, Only H → SqL K H a (ns.map V.int) → HOk P w H s₁.heap → (∀ b, H b ≠ none → b = a) → (H a ≠ none → K.lookup a = none) →
      codeAny (model P w) callerA (.call (.ref fa) ⟨[.ref a], []⟩) (fun r s' => r = .ok (.ret (.bool true)) ∧ OldK s₁.heap s'.heap ∧ s'.os = s₁.os ∧ AllBare s'.gens) s₁ := by
    intro H hO hS hok hA hK
    have base_of : ∀ {b : Addr} {o : Obj}, s₁.heap.get? b = some o → H b = none → (hidT s₁.heap H).get? b = some o := fun e n => hidT_get e n
    have noA : ∀ {b : Addr} {o : Obj} {es : Array DictEntry} {ep : Nat}, s₁.heap.get? b = some o → o.data = .dict es ep → H b = none := fun {b o es ep} e d => by
      cases q : H b with
      | none => rfl
      | some u =>
        have e' : b = a := hA b (by rw [q]; simp)
        subst e'
        rw [ha] at e; cases e
        have d' : Data.seq vs.toArray _ = Data.dict es ep := d
        cases d'
    have nsK : ∀ {b : Addr} {m : Str → Option Value}, s₁.heap.Ns b m → (hidT s₁.heap H).Ns b m := fun {b m} ⟨o, es, ep, e, d, r⟩ => ⟨o, es, ep, base_of e (noA e d), d, r⟩
    have hKb : K.In (hidT s₁.heap H) := fun b o e => base_of (KX b o e) (by
      cases q : H b with
      | none => rfl
      | some u =>
        have e' : b = a := hA b (by rw [q]; simp)
        subst e'
        rw [hK (by rw [q]; simp)] at e; cases e)
    have hM : Mod K mg (hidT s₁.heap H) := ⟨hKb, nsK hns, ⟨mb, nsK hb, hbb⟩, let ⟨mc, h1, h2⟩ := hlim; ⟨mc, nsK h1, h2⟩⟩
    have e0 : Env0 P w K mg (hidT s₁.heap H) callerA [] s₁ H := ⟨rfl, hM, fun b o e => of_hidT e, Nat.le_of_eq (hidT_size _ _), trivial, fun b hb => absurd (show b ∈ ([] : List Addr) from hb) (by simp), hok, .of_eq hg⟩
    refine codeAny_mono ((F _ hKb (nsK hns)).run callerA [] s₁ H ⟨[.ref a], []⟩ [.ref a] [.ref a] _ _ hr e0 (hbind s₁ (.ref a)) (.cons rfl .nil) (hsp H hO hS)) fun r s' h => ?_
    cases r with
    | error e => exact (hCX H e s' h).elim
    | ok fl =>
      cases fl with
      | next => exact False.elim h
      | brk => exact False.elim h
      | cont => exact False.elim h
      | ret u =>
        obtain ⟨v, H', os, bare, un, hok', r', q⟩ := h
        have q' : v = .bl true := q
        subst q'
        obtain rfl : u = Value.bool true := r'
        refine ⟨rfl, OldK.of_keep fun b o e => ?_, os, bare⟩
        cases q : H b with
        | none => exact un.keep b o e q (by intro z; exact absurd (show b ∈ ([] : List Addr) from z) (by simp)) (by simp)
        | some u =>
          rcases hO b with z | ⟨ob, xs, z⟩
          · rw [q] at z; cases z
          · have z2 := un.frzs b ob _ z
            obtain ⟨e1, _⟩ := hok b _ z
            obtain ⟨e2, _⟩ := hok' b _ z2
            rw [e] at e1; cases e1
            exact e2
  cases hk : K.lookup a with
  | some o =>
    have e := KX a o hk
    rw [ha] at e
    cases e
    refine core (fun _ => none) (fun _ => .inl rfl) (.inr ⟨_, vs.toArray, _, hk, rfl, rfl, rfl, by rw [List.size_toArray, lenV]; exact hl, by simpa using rv⟩) (fun b u z => by have z' : (none : Option HO) = some u := z; cases z') (fun b z => absurd rfl z) fun z => absurd rfl z
  | none =>
    refine core (fun b => if b = a then some (.frz { cls := .type "list", data := .seq vs.toArray } (.lst (ns.map V.int))) else none) (fun b => ?_) (.inl (.inr ⟨{ cls := .type "list", data := .seq vs.toArray }, if_pos rfl⟩)) (fun b u z => ?_) (fun b z => ?_) fun _ => hk
    · by_cases hb : b = a
      · exact .inr ⟨_, _, if_pos hb⟩
      · exact .inl (if_neg hb)
    · by_cases hb : b = a
      · have z' := (if_pos hb).symm.trans z
        cases z'
        subst hb
        exact ⟨ha, by rw [List.length_map]; exact hl, vs, _, rv, ha⟩
      · have z' := (if_neg hb).symm.trans z
        cases z'
    · by_cases hb : b = a
      · exact hb
      · exact absurd (if_neg hb) z
end L2
namespace L2
open PySem PySem.Spec PyProof.Rows
abbrev KOf {K : PySem.W.Frag} {h : Heap} (_ : K.In h) : PySem.W.Frag := K
theorem walk_of {l : PySem.W.OpenLaw} {n k : Nat} {q : Program} {loose : List Str} {XP : (Str → Option Value) → Heap → Prop} {YP : World → Heap → Prop} {d : DefRec} {K : Params → PySem.W.Frag} {CX : World → CXT} {sp : World → Sp} {x : Str}
    (hn : l.most = some n) (hn2 : n ≤ sizeLine) (hdf : d.params.defaults = []) (hr : Room k callerA)
    (hY : ∀ (w : World) (h : Heap), YP w h → (K w.params).In h)
    (F : ∀ (w : World) (mg : Str → Option Value) (fa : Addr) (h : Heap), (K w.params).In h → h.Ns mainGlobals mg → mg d.name = some (.ref fa) →
      ∃ fd : FuncData, (∀ (s : Shared) (u : Value), BindsTo s fd ⟨[u], []⟩ [(x, u)]) ∧
        ∀ base : Heap, (K w.params).In base → base.Ns mainGlobals mg → FnOk l.prog w (K w.params) mg base (CX w) k fa fd [x] (sp w))
    (hsp : ∀ (w : World) (H : Hp) (a : Addr) (ns : List Int), ns.length ≤ n → Only H → SqL (K w.params) H a (ns.map V.int) → sp w [.ref a] H (fun v _ => v = .bl true) fun _ _ _ => False)
    (hCX : ∀ (w : World) (H : Hp) (s : Shared) (e : Value) (s' : Shared), CX w [] H s (fun _ _ _ => False) e s' → False) :
    PySem.W.WalkO q loose XP YP l.row.toRowW d [] (fun f vs => PySem.call f vs) := by
  refine Att.attach_call hn hdf fun w s₀ s₁ mg mb fa o pm cd doc a vs ns G Y ho hd hcd hmg hobj hints hlen hg => ?_
  have KX := hY w _ Y
  obtain ⟨fd, hb, hF⟩ := F w mg fa _ KX G.T.g hmg
  exact law_call KX G.T.g G.T.b G.T.builtins G.T.nolimit hg hobj hints (Nat.le_trans hlen hn2) hr hF hb (fun H hO hS => hsp w H a ns hlen hO hS) fun H e s' => hCX w H s₁ e s'
end L2
/- THE LAST THEOREM (shape; LID, My.* are yours):
   My.Adr: a structure of the addresses that your layer names (classes, functions); My.Txt K t: a structure (Prop) of the equations over K;
   My.txt_mk : {K} {implicit addresses ..} (e1 : nsIn K mainGlobals "law" = some (some (.ref f))) (e2 : K.lookup f = some ⟨oc, od, .func (fnOf "law" "law" params body scope dV kV doc pm an cdv ct), sl⟩) (e3 : codeIn K cdv "law" = true) .. : ∃ t, My.Txt K t
set_option maxRecDepth 100000 in
set_option maxHeartbeats 0 in
theorem PySem.Challenge.cw_LID_holds : PySem.Challenge.rw_LID.Holds := by
  w_on; o_law; k_head; (case hw => w_witness2)
  k_fill
  refine L2.walk_of (l := PySem.Challenge.rw_LID) (n := 63) (k := 40) (x := "script") (CX := fun w => ..) (sp := fun _ => My.sp_law) rfl (by decide) rfl ⟨rfl, by decide, by decide⟩ (fun w h Y => PySem.W.kIn_of Y) ?F ?S ?C
  case F =>
    intro w mg fa h KX G hmg
    have T : ∃ t, My.Txt (L2.KOf KX) t := by
      dsimp only [L2.KOf]                          -- K must stand as «<heap const> w.params» for k_is
      refine' My.txt_mk ?e1 ?e2 ?e3 ..
      (case e1 => PySem.W.k_is)                    -- in the order: a name -> its address -> its object -> its parts
      (case e2 => PySem.W.k_is)
      ..
    obtain ⟨t, T⟩ := T
    have e0 := hmg.symm.trans (PySem.W.mg_of KX G T.law)
    cases e0                                       -- fa is the law's own address
    exact ⟨_, fun s u => .of_eq rfl, fun base kb nb => My.law_fn T kb nb⟩     -- if «.of_eq rfl» comes too early: refine' ⟨_, ?b, fun base kb nb => My.law_fn T kb nb⟩; exact fun s u => .of_eq rfl
  case S => exact fun w H a ns hl hO hS => ..
  case C => exact ..
(the tactic k_is has no namespace: write k_is) -/
namespace L2
open PySem PySem.Spec PyProof.Rows
def defArgs (s : Stmt) : Arguments := match s with
  | .FunctionDef _ a _ _ _ _ _ _ _ _ => a
  | _ => { posonlyargs := [], args := [], vararg := none, kwonlyargs := [], kw_defaults := [], kwarg := none, defaults := [] }
def defBody (s : Stmt) : List Stmt := match s with
  | .FunctionDef _ _ b _ _ _ _ _ _ _ => b
  | _ => []
def defScope (s : Stmt) : Scope := match s with
  | .FunctionDef _ _ _ _ _ _ sc _ _ _ => sc
  | _ => { kind := .function, names := [], isGenerator := false, isCoroutine := false }
abbrev CX0 : CXT := fun _ _ _ _ _ _ => False
abbrev E0 : XK := fun _ _ _ => False
theorem pass0 {X : Cx} : Passes CX0 X E0 := fun _ _ _ _ _ _ _ h => h.elim
structure Fun (K : PySem.W.Frag) (x qual : Str) (st : Stmt) (f : Addr) (fd : FuncData) : Prop where
  ex : ∃ (oc : Value) (od : Option Addr) (kV doc pm : Value) (an : Option Addr) (cdv ct : Value) (osl : Array (Option Value)),
    fd = PySem.W.fnOf x qual (defArgs st) (defBody st) (defScope st) .none kV doc pm an cdv ct ∧ K.lookup f = some ⟨oc, od, .func fd, osl⟩ ∧ PySem.W.codeIn K cdv qual = true
  kp : PySem.W.keepIn K (.ref f) = true
section
variable {P : Program} {w : World} {K : PySem.W.Frag} {mg : Str → Option Value} {base : Heap}
theorem Fun.ok {x qual : Str} {st : Stmt} {f : Addr} {fd : FuncData} {N ps : List Str} {k : Nat} {sp : Sp} (F : Fun K x qual st f fd) (S : FnScope N ps (defScope st)) (len : ∀ vs H Q E, sp vs H Q E → vs.length = ps.length)
    (hbody : ∀ (cdv : Value) (A : Around) (outer : List Env) (s : Shared) (H : Hp) (vs : List V) (Q : VK) (E : XK), Room k (A.deeper (envOfC qual (defScope st) s.heap.objs.size f cdv)) → sp vs H Q E →
      ∃ t, PSs (cxOf CX0 P w K mg base N qual (defScope st) f cdv A outer s H E).nox (defBody st) t ∧ t { nx := fun _ H' => Q .non H', rt := Q } (start N vs) H) : FnOk P w K mg base CX0 (k + 1) f fd ps sp := by
  obtain ⟨oc, od, kV, doc, pm, an, cdv, ct, osl, rfl, lk, hcd⟩ := F.ex
  refine fn_of lk hcd S len fun A outer s H vs Q E hr hsp => ?_
  obtain ⟨t, h, q⟩ := hbody cdv A outer s H vs Q E hr hsp
  exact ⟨t, h.nox, q⟩
theorem Fun.binds {x qual : Str} {st : Stmt} {f : Addr} {fd : FuncData} {ps : List Str} (F : Fun K x qual st f fd)
    (h : ∀ (kV doc pm : Value) (an : Option Addr) (cdv ct : Value) (us : List Value), us.length = ps.length → bindArgs (PySem.W.fnOf x qual (defArgs st) (defBody st) (defScope st) .none kV doc pm an cdv ct) ⟨us, []⟩ = pure (ps.zip us)) : Binds K fd ps [] := by
  obtain ⟨oc, od, kV, doc, pm, an, cdv, ct, osl, rfl, lk, hcd⟩ := F.ex
  exact .all (h kV doc pm an cdv ct)
theorem fun_mk {x qual : Str} {st : Stmt} {f : Addr} {oc : Value} {od an : Option Addr} {osl : Array (Option Value)} {kV doc pm cdv ct : Value} (l : K.lookup f = some ⟨oc, od, .func (PySem.W.fnOf x qual (defArgs st) (defBody st) (defScope st) .none kV doc pm an cdv ct), osl⟩)
    (c : PySem.W.codeIn K cdv qual = true) (k : PySem.W.keepIn K (.ref f) = true) : Fun K x qual st f (PySem.W.fnOf x qual (defArgs st) (defBody st) (defScope st) .none kV doc pm an cdv ct) := ⟨⟨oc, od, kV, doc, pm, an, cdv, ct, osl, rfl, l, c⟩, k⟩
end
theorem small1000 {n : Nat} (h : n ≤ 1000) : n < sizeLine := Nat.lt_of_le_of_lt h (by decide)
section
variable {X : Cx}
theorem pv (i : Nat) {x : Str} {pos : Pos} (hN : X.N[i]? = some x := by rfl) (hv : Vis X.env.scope x := by first | exact Or.inl rfl | exact Or.inr (Or.inl rfl) | exact Or.inr (Or.inr rfl)) (hd : (x == ("__debug__" : Str)) = false := by decide)
    (hcd : (x == ("__classdict__" : Str)) = false := by decide) : PE X (.Name x pos) (tVar i) := pe_var hN hv hd hcd
end
theorem iteF {A B : Prop} (h : B) : if false = true then A else B := by
  rw [if_neg Bool.false_ne_true]
  exact h
def Same (H H' : Hp) : Prop := ∀ b o, H b = some o → H' b = some o
theorem Same.refl (H : Hp) : Same H H := fun _ _ h => h
theorem Same.trans {H H1 H2 : Hp} (a : Same H H1) (b : Same H1 H2) : Same H H2 := fun c o h => b c o (a c o h)
theorem Same.free {H H' : Hp} (e : Same H H') {l : Addr} (h : H' l = Option.none) : H l = Option.none := by
  cases q : H l with
  | none => rfl
  | some o =>
    rw [e l o q] at h
    cases h
theorem Same.seq {K : PySem.W.Frag} {H H' : Hp} {a : Addr} {xs : List V} (e : Same H H') (h : SqL K H a xs) : SqL K H' a xs := by
  rcases h with (h | ⟨o, h⟩) | h
  · exact .inl (.inl (e _ _ h))
  · exact .inl (.inr ⟨o, e _ _ h⟩)
  · exact .inr h
end L2
namespace L2
open PySem PySem.Spec PyProof.Rows
section
variable {prog : Program} {w : World} {A : Around} {R : Result → Shared → Prop} {s : Shared}
theorem comp_loop_any {elt target iter : Expr} {ifs : List Expr} {scope : Scope} {pos : Pos} {it acc : Value} {env : Env} (I : Nat → Shared → Prop)
    (turn : ∀ n s, I n s → wpAny (model prog w) A (pyNext it) (fun r s₁ => match r with
      | none => R (.ok .next) s₁
      | some v => wpAny (model prog w) A (letOwnedTupleGo target it v) (fun _ s₂ => wpAny (model prog w) A (assign target env v) (fun _ s₂ =>
          wpAny (model prog w) A (forIn ifs true fun c r => if r = true then do let ok ← isTrue c env (eval c env); pure (ForInStep.yield ok) else pure (ForInStep.yield r)) (fun ok s₃ =>
            if ok = true then wpAny (model prog w) A (eval elt env) (fun x s₄ =>
              wpAny (model prog w) A (call (.builtin "list.append") [acc, x]) (fun _ s₅ => ∃ m, m < n ∧ I m s₅) (fun _ _ => False) s₄) (fun _ _ => False) s₃
            else ∃ m, m < n ∧ I m s₃) (fun _ _ => False) s₂) (fun _ _ => False) s₂) (fun _ _ => False) s₁) (fun _ _ => False) s)
    (n : Nat) (h : I n s) :
    codeAny (model prog w) A (.compLoop (.ListComp elt [⟨target, iter, ifs, 0⟩] scope pos) 0 it acc env) R s := by
  refine codeAny_loop rfl I (fun n s hI => ?_) n h
  show wpAny _ A ((compTurn (.ListComp elt [⟨target, iter, ifs, 0⟩] scope pos) 0 it acc env).onRaise (fun x => do noteFrame x env; theTreesLotGoes x)) _ _ s
  refine wpAny_noted ?_
  rw [compTurn_list]
  refine wpAny_bind (wpAny_standAt (wpAny_bind (wpAny_mono (turn n s hI) (fun r s₁ h₁ => ?_) fun _ _ h' => h'.elim)))
  cases r with
  | none => exact wpAny_pure h₁
  | some v =>
    refine wpAny_bind (wpAny_mono h₁ (fun _ s₂ h₁ => ?_) fun _ _ h' => h'.elim)
    refine wpAny_bind (wpAny_mono h₁ (fun _ s₂ h₂ => wpAny_bind (wpAny_mono h₂ (fun ok s₃ h₃ => ?_) fun _ _ h' => h'.elim)) fun _ _ h' => h'.elim)
    cases ok with
    | false => exact wpAny_pure ⟨rfl, h₃⟩
    | true =>
      exact wpAny_bind (wpAny_bind (wpAny_mono h₃ (fun x s₄ h₄ => wpAny_bind (wpAny_mono h₄ (fun _ s₅ h₅ => wpAny_pure (wpAny_pure ⟨rfl, h₅⟩)) fun _ _ h' => h'.elim)) fun _ _ h' => h'.elim))
end
theorem closure_of {env : Env} : ∀ (names : List (Str × NameKind)) (acc : List (Str × Addr)), (∀ y ∈ names, y.2 = NameKind.free → ∃ c, env.cells.lookup y.1 = some c) →
    (∀ x c, acc.lookup x = some c → env.cells.lookup x = some c) →
    ∃ cl : List (Str × Addr), (forIn names acc (fun (x : Str × NameKind) (cs : List (Str × Addr)) => (do
        if x.2 == .free then pure (ForInStep.yield ((x.1, ← cellOf env x.1) :: cs)) else pure (ForInStep.yield cs) : Sem (ForInStep (List (Str × Addr))))) : Sem (List (Str × Addr))) = pure cl ∧
      (∀ x c, cl.lookup x = some c → env.cells.lookup x = some c) ∧ (∀ x c, acc.lookup x = some c → ∃ c, cl.lookup x = some c) ∧ ∀ y ∈ names, y.2 = NameKind.free → ∃ c, cl.lookup y.1 = some c := by
  intro names
  induction names with
  | nil => intro acc _ ha; exact ⟨acc, by simp, ha, fun x c h => ⟨c, h⟩, fun y hy => nomatch hy⟩
  | cons y r ih =>
    intro acc hf ha
    obtain ⟨n, k⟩ := y
    by_cases hk : k = NameKind.free
    · subst hk
      obtain ⟨c, hc⟩ := hf (n, .free) List.mem_cons_self rfl
      obtain ⟨cl, h1, h2, h3, h4⟩ := ih ((n, c) :: acc) (fun y hy => hf y (List.mem_cons_of_mem _ hy)) (fun x c' h => by
        rw [List.lookup_cons] at h
        split at h
        · rename_i e
          have e' : x = n := by simpa using e
          subst e'; cases h; exact hc
        · exact ha x c' h)
      refine ⟨cl, ?_, h2, fun x c' h => ?_, fun y hy hy2 => ?_⟩
      · rw [List.forIn_cons]
        simp only [beq_self_eq_true, if_true]
        have hq : cellOf env n = pure c := by unfold cellOf; rw [hc]
        rw [hq]
        simpa using h1
      · by_cases e : x = n
        · subst e; exact h3 x c (by simp [List.lookup_cons])
        · have e' : (x == n) = false := by simpa using e
          exact h3 x c' (by simpa [List.lookup_cons, e'] using h)
      · rcases List.mem_cons.mp hy with rfl | hy
        · exact h3 n c (by simp [List.lookup_cons])
        · exact h4 y hy hy2
    · obtain ⟨cl, h1, h2, h3, h4⟩ := ih acc (fun y hy => hf y (List.mem_cons_of_mem _ hy)) ha
      refine ⟨cl, ?_, h2, h3, fun y hy hy2 => ?_⟩
      · rw [List.forIn_cons]
        have hb : (k == NameKind.free) = false := by simpa using hk
        simpa [hb] using h1
      · rcases List.mem_cons.mp hy with rfl | hy
        · exact absurd hy2 hk
        · exact h4 y hy hy2
theorem closureFor_ok {scope : Scope} {env : Env} (hf : ∀ y ∈ scope.names, y.2 = NameKind.free → ∃ c, env.cells.lookup y.1 = some c) :
    ∃ cl : List (Str × Addr), closureFor scope env = pure cl ∧ (∀ x c, cl.lookup x = some c → env.cells.lookup x = some c) ∧ ∀ y ∈ scope.names, y.2 = NameKind.free → ∃ c, cl.lookup y.1 = some c := by
  obtain ⟨cl, h1, h2, _, h4⟩ := closure_of scope.names [] hf (fun x c h => by simp at h)
  exact ⟨cl, by unfold closureFor; simpa using h1, h2, h4⟩
theorem lookup_relabel_free {env : Env} : ∀ {names : List (Str × NameKind)} {x : Str}, names.lookup x = some .free →
    (names.map fun (n, k) => if (k == NameKind.free && env.scope.kind == .function && env.kindOf n == some .cell) then (n, NameKind.cell) else (n, k)).lookup x = some .cell ∨
    (names.map fun (n, k) => if (k == NameKind.free && env.scope.kind == .function && env.kindOf n == some .cell) then (n, NameKind.cell) else (n, k)).lookup x = some .free
  | [], _, h => by simp at h
  | (n, k) :: r, x, h => by
    have ih := @lookup_relabel_free env r x
    show List.lookup x ((if (k == NameKind.free && env.scope.kind == .function && env.kindOf n == some .cell) = true then (n, NameKind.cell) else (n, k)) :: _) = _ ∨
      List.lookup x ((if (k == NameKind.free && env.scope.kind == .function && env.kindOf n == some .cell) = true then (n, NameKind.cell) else (n, k)) :: _) = _
    cases hx : x == n with
    | true =>
      simp only [List.lookup_cons, hx] at h
      cases h
      by_cases hc : (NameKind.free == NameKind.free && env.scope.kind == .function && env.kindOf n == some .cell) = true
      · rw [if_pos hc]; simp [List.lookup_cons, hx]
      · rw [if_neg hc]; simp [List.lookup_cons, hx]
    | false =>
      simp only [List.lookup_cons, hx] at h
      by_cases hc : (k == NameKind.free && env.scope.kind == .function && env.kindOf n == some .cell) = true
      · rw [if_pos hc]; simp only [List.lookup_cons, hx]; exact ih h
      · rw [if_neg hc]; simp only [List.lookup_cons, hx]; exact ih h
theorem mem_relabel {env : Env} {names : List (Str × NameKind)} {x : Str} (h : (names.map fun (n, k) => if (k == NameKind.free && env.scope.kind == .function && env.kindOf n == some .cell) then (n, NameKind.cell) else (n, k)).lookup x = some .cell ∨
    (names.map fun (n, k) => if (k == NameKind.free && env.scope.kind == .function && env.kindOf n == some .cell) then (n, NameKind.cell) else (n, k)).lookup x = some .free) (hc : ∀ y ∈ names, y.2 ≠ .cell) : (x, NameKind.free) ∈ names := by
  have key : ∀ k, (k = NameKind.cell ∨ k = .free) → (names.map fun (n, k) => if (k == NameKind.free && env.scope.kind == .function && env.kindOf n == some .cell) then (n, NameKind.cell) else (n, k)).lookup x = some k → (x, NameKind.free) ∈ names := by
    intro k hk h
    obtain ⟨⟨n, k'⟩, hm, e⟩ := List.mem_map.mp (PySem.mem_of_lookup h)
    dsimp only at e
    split at e
    · rename_i hq
      cases e
      have : k' = NameKind.free := by simp at hq; exact hq.1.1
      subst this; exact hm
    · cases e
      rcases hk with rfl | rfl
      · exact absurd rfl (hc _ hm)
      · exact hm
  rcases h with h | h
  · exact key _ (.inl rfl) h
  · exact key _ (.inr rfl) h
def cxComp (X : Cx) (M : List Str) (scope : Scope) (cl : List (Str × Addr)) (C : Addr) (fp : List Addr) (s₃ : Shared) (H₃ : Hp) : Cx where
  prog := X.prog
  w := X.w
  K := X.K
  mg := X.mg
  base := X.base
  A := X.A
  N := M
  s₀ := s₃
  H₀ := H₃
  env := compEnvC scope cl C X.env
  outer := X.stack
  stack := X.stack
  ex := fp
  fn := fun _ => false
  calm := X.calm
  pn := []
  xe := fun _ _ => False
structure CompOk (X : Cx) (scope : Scope) (M : List Str) (nt : Nat) (cap : List Nat) : Prop where
  kind : scope.kind = .function
  cells : ∀ y ∈ scope.names, y.2 ≠ .cell
  names : ∀ y ∈ scope.names, y.2 = .local → scope.names.lookup y.1 = some .local
  free : ∀ y ∈ scope.names, y.2 = .free → X.env.scope.names.lookup y.1 = some .cell ∨ X.env.scope.names.lookup y.1 = some .free
  caps : ∀ j, j < cap.length → ∃ x k, cap[j]? = some k ∧ M[nt + j]? = some x ∧ X.N[k]? = some x ∧ scope.names.lookup x = some .free
  len : M.length = nt + cap.length
def capS (nt : Nat) (cap : List Nat) (σ : St) : St := List.replicate nt none ++ cap.map fun k => (σ[k]?).join
def tComp (wi : TI) (nt : Nat) (cap : List Nat) (g : TG) (tt : TT) (te : TE) : TE := fun σ H Q => wi σ H fun J H1 => ∀ l, H1 l = none →
  ∃ W : Nat → Nat → St → Hp → Prop, (∃ m, W 0 m (capS nt cap σ) (upd H1 l (.lst []))) ∧ ∀ i m σ' H', W i m σ' H' →
    (J.stop i H' ∧ Q (.ref l) H') ∨ (J.go i H' ∧ ∀ x H2, J.yld i H' x H2 → g x σ' H2 fun σ2 H3 => tt σ2 H3 fun b H4 =>
      if b = true then te σ2 H4 fun y H5 => ∃ xs, H5 l = some (.lst xs) ∧ xs.length < sizeLine ∧ ∃ m', m' < m ∧ W (i + 1) m' σ2 (upd H5 l (.lst (xs ++ [y])))
      else ∃ m', m' < m ∧ W (i + 1) m' σ2 H4)
def PTs (X : Cx) (ifs : List Expr) (t : TT) : Prop :=
  ∀ (pins : List (Addr × Obj)) (s : Shared) (σ : St) (H : Hp) (Q : Bool → Hp → Prop), Inv X pins σ H s → t σ H Q →
    wpAny (model X.prog X.w) X.A (forIn ifs true fun c r => if r = true then do let ok ← isTrue c X.env (eval c X.env); pure (ForInStep.yield ok) else pure (ForInStep.yield r)) (TP X pins σ Q) X.xe s
def tYes : TT := fun _ H Q => Q true H
theorem pts_nil {X : Cx} : PTs X [] tYes := fun _ _ _ H _ I h => wpAny_tests_nil ⟨H, I, h⟩
theorem pts_one {X : Cx} {c : Expr} {t : TT} (h : PT X c t) : PTs X [c] t := fun pins s σ H Q I hw => wpAny_tests_one (h pins s σ H Q I hw)
section
variable {X : Cx} {pins : List (Addr × Obj)} {σ : St} {H : Hp} {s : Shared} {scope : Scope} {M : List Str} {nt : Nat} {cap : List Nat} {target elt iter : Expr} {ifs : List Expr} {pos : Pos} {wi : TI} {g : TG} {tt : TT} {te : TE}
theorem comp_core {Q : VK} {cl : List (Str × Addr)} {RR : Value → Addr → Result → Shared → Prop} (S : CompOk X scope M nt cap) (hc : X.calm = true)
    (hcl1 : ∀ x c, cl.lookup x = some c → X.env.cells.lookup x = some c) (hcl2 : ∀ y ∈ scope.names, y.2 = NameKind.free → ∃ c, cl.lookup y.1 = some c)
    (hi : PI X target iter wi) (hg : ∀ C fp s H, PG (cxComp X M scope cl C fp s H) target g) (ht : ∀ C fp s H, PTs (cxComp X M scope cl C fp s H) ifs tt) (he : ∀ C fp s H, PE (cxComp X M scope cl C fp s H) elt te)
    (I : Inv X pins σ H s) (h : tComp wi nt cap g tt te σ H Q)
    (fin : ∀ l C s' H' m, Inv X pins σ H' s' → Q (.ref l) H' → s'.heap.Ns C m → H' C = none → C ≠ X.env.locals → X.s₀.heap.objs.size ≤ C → (∀ x c, X.env.cells.lookup x = some c → c ≠ C) → (∀ p ∈ X.pn ++ pins, p.1 ≠ C) → RR (.ref l) C (.ok .next) s') :
    wpAny (model X.prog X.w) X.A (eval iter X.env) (fun xv s₁ => wpAny (model X.prog X.w) X.A (pyIter xv) (fun it s₂ => wpAny (model X.prog X.w) X.A (newList []) (fun acc s₃ =>
      wpAny (model X.prog X.w) X.A (newFunctionEnv scope X.env.globals cl [] X.env.qual none .none (some X.env)) (fun cenv s₄ =>
        codeAny (model X.prog X.w) X.A (.compStart (.ListComp elt [⟨target, iter, ifs, 0⟩] scope pos) 0 it acc { cenv with scope := relabel scope X.env }) (RR acc cenv.locals) s₄) X.xe s₃) X.xe s₂) X.xe s₁) X.xe s := by
  refine thn (hi pins s σ H _ I h) fun v s1 h1 => thn h1 fun itv s2 h2 => ?_
  obtain ⟨it, fp, tn, J, H2, e, I2, T, st2, f2, h2⟩ := h2
  subst e
  refine wpAny_newObj_type ?_
  have I3 : Inv X pins σ (upd H2 s2.heap.objs.size (.lst [])) { s2 with heap := s2.heap.push { cls := .type "list", dict := none, data := .seq ([] : List Value).toArray } } :=
    I2.laid (t' := s2.toks) (fun b o e => Heap.get?_push_of_some _ e) (Nat.le_refl _) ⟨by simp, [], _, .nil, Heap.get?_push_size _ rfl⟩
  obtain ⟨W, ⟨m0, w0⟩, turn⟩ := h2 s2.heap.objs.size (I2.hok.fresh (Nat.le_refl _))
  generalize hl : s2.heap.objs.size = l at I3 w0 turn
  generalize hs3 : ({ s2 with heap := s2.heap.push { cls := .type "list", dict := none, data := .seq ([] : List Value).toArray } } : Shared) = s3 at I3
  have hk23 : ∀ b o, s2.heap.get? b = some o → s3.heap.get? b = some o := fun b o e => by rw [← hs3]; exact Heap.get?_push_of_some _ e
  have hfpl : ∀ b ∈ fp, b < s2.heap.objs.size := fun b hb => by
    obtain ⟨o, e, _⟩ := T.obj _ _ st2 b hb
    exact Heap.lt_size e
  have hls : l < s3.heap.objs.size := by
    have := I3.hok.lt (a := l) (o := .lst []) upd_same
    exact this
  generalize hH3 : upd H2 l (.lst []) = H3 at I3 w0
  have f3 : ∀ b ∈ fp, FpOk X pins H3 b := fun b hb => ⟨by rw [← hH3, upd_ne (by rw [← hl]; exact Nat.ne_of_lt (hfpl b hb))]; exact (f2 b hb).1, (f2 b hb).2⟩
  have st3 : tn 0 s3.heap := T.keep _ _ _ st2 fun b _ o e => hk23 b o e
  refine wpAny_newFunctionEnv S.cells (by intro y hy; simp at hy) (fun h4 hns4 hsb4 => ?_) S.kind
  generalize hC : s3.heap.objs.size = C at hns4 hsb4 ⊢
  have hnC : ∀ b o, s3.heap.get? b = some o → b ≠ C := fun b o e => by rw [← hC]; exact Nat.ne_of_lt (Heap.lt_size e)
  have old : ∀ b o, s3.heap.get? b = some o → h4.get? b = some o := fun b o e => hsb4.extBut b o (hnC b o e) (Heap.get?_push_of_some _ e)
  have hC3 : H3 C = none := I3.hok.fresh (Nat.le_of_eq hC)
  have fC : ∀ b ∈ fp, b ≠ C := fun b hb => by
    obtain ⟨o, e, _⟩ := T.obj _ _ st3 b hb
    exact hnC b o e
  have cC : ∀ x c, X.env.cells.lookup x = some c → c ≠ C := fun x c e => by
    obtain ⟨v, o, ho, _⟩ := I3.cell x c e
    exact hnC c o ho
  have LC : X.env.locals ≠ C := by rw [← hC]; exact Nat.ne_of_lt I3.lt
  have pC : ∀ p ∈ X.pn ++ pins, p.1 ≠ C := fun p hp => hnC _ _ (I3.pin p hp).1
  have sC : X.s₀.heap.objs.size ≤ C := by rw [← hC]; exact I3.sz
  have okY : (cxComp X M scope cl C fp s3 H3).Ok := by
    refine ⟨I3.ok.mod, ?_, I3.ok.glob, I3.ok.blt, ?_, fun x y c e1 e2 => I3.ok.inj x y c (hcl1 x c e1) (hcl1 y c e2), fun x hx => ?_, (fun x c z => nomatch z), fun _ => I3.ok.hd hc, I3.ok.frames, .inl rfl, fun b hb => ⟨fC b hb, fun x c e => (f3 b hb).2.2.2.2.1 x c (hcl1 x c e)⟩, ?_, ?_, fun b o e hb => ?_, fun b hb hb2 => ?_, ?_, ?_⟩
    · show (relabel scope X.env).kind = .function
      unfold relabel; exact S.kind
    · show s3.heap.objs.size ≤ C
      exact Nat.le_of_eq hC
    · have hx' := mem_relabel (env := X.env) hx S.cells
      exact hcl2 _ hx' rfl
    · exact fun b o e => I3.bs b o e
    · exact Nat.le_trans I3.ok.bsz I3.sz
    · have q := I3.ok.bs b o e
      rcases (f3 b hb).2.2.2.1 with z | z
      · exact I3.ok.noex b o e z
      · exact absurd (Nat.lt_of_lt_of_le (Heap.lt_size q.1) z) (Nat.lt_irrefl _)
    · rcases List.mem_cons.mp (I3.stkSub b hb2) with z | z
      · exact (f3 b hb).2.1 z
      · exact (f3 b hb).2.2.1 z
    · exact I3.stack
    · exact fun b hb => I3.stkFree b hb
  have I4 : Inv (cxComp X M scope cl C fp s3 H3) [] (capS nt cap σ) H3 { s3 with heap := h4, toks := s3.toks + ([] : List (Str × Value)).length } := by
    refine ⟨okY, rfl, I3.bare, Un.kept old, ⟨_, hns4, fun i x v e1 e2 e3 => ?_⟩, fun x c e => ?_, hC3, fun x c e => I3.freeC x c (hcl1 x c e), (fun p hp => nomatch hp), I3.hok.kept old, ?_⟩
    · have hi2 : nt ≤ i := by
        by_cases hlt : i < nt
        · unfold capS at e2
          rw [List.getElem?_append_left (by simpa using hlt), List.getElem?_replicate, if_pos hlt] at e2
          cases e2
        · omega
      obtain ⟨j, rfl⟩ : ∃ j, i = nt + j := ⟨i - nt, by omega⟩
      unfold capS at e2
      rw [List.getElem?_append_right (by simp), List.length_replicate, Nat.add_sub_cancel_left, List.getElem?_map] at e2
      have hj : j < cap.length := by
        by_cases hj : j < cap.length
        · exact hj
        · rw [List.getElem?_eq_none (by omega)] at e2; cases e2
      obtain ⟨y, k, ek, eM, eN, ef⟩ := S.caps j hj
      rw [ek] at e2
      have e2' : (σ[k]?).join = some v := by simpa using e2
      have eσ : σ[k]? = some (some v) := by
        cases q : σ[k]? with
        | none => rw [q] at e2'; cases e2'
        | some z => rw [q] at e2'; have : z = some v := e2'; rw [this]
      have exy : y = x := by
        have e1' : M[nt + j]? = some x := e1
        rw [eM] at e1'; exact Option.some.inj e1'
      subst exy
      obtain ⟨m, hn, hl'⟩ := I3.loc
      have hfr := S.free _ (PySem.mem_of_lookup ef) rfl
      have hvis : Vis X.env.scope y := by
        rcases hfr with z | z
        · exact .inr (.inl z)
        · exact .inr (.inr z)
      obtain ⟨u, ru, lk⟩ := hl' k y v eN eσ hvis
      refine ⟨u, ru, .inr ⟨?_, ?_⟩⟩
      · exact lookup_relabel_free ef
      · rcases lk with ⟨z, _⟩ | ⟨_, c, ec, hcell⟩
        · have z' : X.env.scope.names.lookup y = some .local := z
          rcases hfr with q | q <;> rw [q] at z' <;> cases z'
        · obtain ⟨c', ec'⟩ := hcl2 _ (PySem.mem_of_lookup ef) rfl
          have := hcl1 y c' ec'
          rw [ec] at this
          cases this
          obtain ⟨o, ho, hd⟩ := hcell
          exact ⟨c, ec', o, old c o ho, hd⟩
    · obtain ⟨v, o, ho, hd⟩ := I3.cell x c (hcl1 x c e)
      exact ⟨v, o, old c o ho, hd⟩
    · show (capS nt cap σ).length = M.length
      unfold capS
      rw [List.length_append, List.length_replicate, List.length_map, S.len]
  have st4 : tn 0 h4 := T.keep _ _ _ st3 fun b _ o e => old b o e
  have fY : ∀ {H' : Hp}, (∀ b ∈ fp, H' b = none) → ∀ b ∈ fp, FpOk (cxComp X M scope cl C fp s3 H3) [] H' b := fun hn b hb => ⟨hn b hb, fC b hb, fun hb2 => by
      rcases List.mem_cons.mp (I3.stkSub b hb2) with z | z
      · exact (f3 b hb).2.1 z
      · exact (f3 b hb).2.2.1 z, .inl hb, fun x c e => (f3 b hb).2.2.2.2.1 x c (hcl1 x c e), (fun p hp => nomatch hp)⟩
  have loop : ∀ s₄ : Shared, s₄ = { s3 with heap := h4, toks := s3.toks + ([] : List (Str × Value)).length } →
      codeAny (model X.prog X.w) X.A (.compLoop (.ListComp elt [⟨target, iter, ifs, 0⟩] scope pos) 0 (.ref it) (.ref l) (compEnvC scope cl C X.env)) (RR (.ref l) C) s₄ := by
    rintro s₄ rfl
    refine comp_loop_any (fun n s' => ∃ i σ' H', Inv (cxComp X M scope cl C fp s3 H3) [] σ' H' s' ∧ tn i s'.heap ∧ (∀ b ∈ fp, H' b = none) ∧ W i n σ' H') ?_ m0 ⟨0, _, H3, I4, st4, fun b hb => (f3 b hb).1, w0⟩
    rintro n s5 ⟨i, σ5, H5, I5, st5, fr5, w5⟩
    rcases turn i n σ5 H5 w5 with ⟨stop, q⟩ | ⟨go, step⟩
    · refine thn (T.done (cxComp X M scope cl C fp s3 H3) rfl rfl rfl hc i [] s5 σ5 H5 _ I5 (fY fr5) st5 stop) fun r s6 ⟨hr, I6⟩ => ?_
      subst hr
      obtain ⟨m6, hn6, _⟩ := I6.loc
      refine fin l C s6 H5 m6 (I3.call' I6.os I6.base I6.hok I6.bare fun b hb => ?_) q hn6 I6.free (Ne.symm LC) sC cC pC
      obtain ⟨_, z1, _, z3, z4, z5⟩ := f3 b hb
      exact ⟨z3, z1, z4, z5⟩
    · refine thn (T.item (cxComp X M scope cl C fp s3 H3) rfl rfl rfl hc i [] s5 σ5 H5 _ I5 (fY fr5) st5 go) fun r s6 ⟨u, hr, h6⟩ => ?_
      subst hr
      refine thn h6 fun _ s7 ⟨x, H7, I7, r7, y7, st7, fr7⟩ => ?_
      have I7' := I7.pinned (fY fr7) (T.obj _ _ st7)
      refine thn (hg C fp s3 H3 _ s7 σ5 H7 x u _ I7' r7 (step x H7 y7)) fun _ s8 ⟨σ8, H8, I8, q8⟩ => ?_
      refine thn (ht C fp s3 H3 _ s8 σ8 H8 _ I8 q8) fun ok s9 ⟨H9, I9, q9⟩ => ?_
      have again : ∀ {σ' : St} {H' : Hp} {s' : Shared} {m' : Nat}, Inv (cxComp X M scope cl C fp s3 H3) ([] ++ pinsAt fp s7.heap) σ' H' s' → m' < n → W (i + 1) m' σ' H' → ∃ m, m < n ∧ ∃ i σ' H', Inv (cxComp X M scope cl C fp s3 H3) [] σ' H' s' ∧ tn i s'.heap ∧ (∀ b ∈ fp, H' b = none) ∧ W i m σ' H' := fun {σ' H' s' m'} I' hm w' => by
        refine ⟨m', hm, i + 1, σ', H', I'.unpinned, T.keep _ _ _ st7 fun b hb o e => (I'.pin (b, o) (List.mem_append_right _ (List.mem_append_right _ (mem_pinsAt hb e)))).1, fun b hb => ?_, w'⟩
        obtain ⟨o, e, d⟩ := T.obj _ _ st7 b hb
        exact (I'.pin (b, o) (List.mem_append_right _ (List.mem_append_right _ (mem_pinsAt hb e)))).2.1
      cases ok with
      | false =>
        rw [if_neg Bool.false_ne_true]
        rw [if_neg Bool.false_ne_true] at q9
        obtain ⟨m', hm, w'⟩ := q9
        exact again I9 hm w'
      | true =>
        rw [if_pos rfl]
        rw [if_pos rfl] at q9
        refine thn (he C fp s3 H3 _ s9 σ8 H9 _ I9 q9) fun v10 s10 ⟨y, H10, I10, r10, xs, hxs, hz, m', hm, w'⟩ => ?_
        refine thn (mt_append _ s10 σ8 H10 (.ref l) [y] (.ref l) [v10] (fun _ H' => H' = upd H10 l (.lst (xs ++ [y]))) I10 rfl (.cons r10 .nil) ⟨l, xs, y, rfl, rfl, hxs, hz, rfl⟩) fun _ s11 ⟨_, H11, I11, _, e11⟩ => ?_
        subst e11
        exact again I11 hm w'
  exact codeAny_compStart_list (loop _ rfl) (T.self X.A 0 _ _ _ st4 (loop _ rfl))
theorem pe_comp (S : CompOk X scope M nt cap) (hc : X.calm = true) (hi : PI X target iter wi)
    (hg : ∀ cl C fp s H, PG (cxComp X M scope cl C fp s H) target g) (ht : ∀ cl C fp s H, PTs (cxComp X M scope cl C fp s H) ifs tt) (he : ∀ cl C fp s H, PE (cxComp X M scope cl C fp s H) elt te)
    (hs : ∀ x, foldedSetIterable iter X.env x = pure x := by intro _; rfl) : PE X (.ListComp elt [⟨target, iter, ifs, 0⟩] scope pos) (tComp wi nt cap g tt te) := by
  intro pins s σ H Q I h
  obtain ⟨cl, h1, h2, h3⟩ := closureFor_ok (scope := scope) (env := X.env) fun y hy hf => I.ok.has y.1 (S.free y hy hf)
  rw [eval_ListComp]
  refine wpAny_comprehension_free (use := none) rfl hs h1 S.kind S.names ?_
  refine comp_core S hc h2 h3 hi (hg cl) (ht cl) (he cl) I h fun l C s' H' m I' q hn hC hL hsz hcc hp => ?_
  refine ⟨m, hn, fun h' hs' => ⟨.ref l, H', I'.turned (t' := s'.toks) (fun b o hb e => (hs'.2 b hb).trans e) hC hL (.inr hsz) hcc hp, rfl, q⟩⟩
theorem ps_setC {i : Nat} {x : Str} {pos' pos2 : Pos} (hN : X.N.Nodup) (hi' : X.N[i]? = some x) (hx : Loc X.env.scope x) (S : CompOk X scope M nt cap) (hc : X.calm = true) (hi : PI X target iter wi)
    (hg : ∀ cl C fp s H, PG (cxComp X M scope cl C fp s H) target g) (ht : ∀ cl C fp s H, PTs (cxComp X M scope cl C fp s H) ifs tt) (he : ∀ cl C fp s H, PE (cxComp X M scope cl C fp s H) elt te)
    (hsw : swapsWith (.ListComp elt [⟨target, iter, ifs, 0⟩] scope pos) (some (.Name x pos')) pos2.line X.env = pure true := by rfl)
    (hf : X.fn x = true ∨ X.env.scope.names.lookup x = some .local := by first | exact .inl rfl | exact .inr rfl | assumption)
    (hs : ∀ x, foldedSetIterable iter X.env x = pure x := by intro _; rfl) : PS X (.Assign [.Name x pos'] (.ListComp elt [⟨target, iter, ifs, 0⟩] scope pos) pos2) (tAsg (tComp wi nt cap g tt te) (gName i)) := by
  intro pins s σ H D I h
  obtain ⟨cl, h1, h2, h3⟩ := closureFor_ok (scope := scope) (env := X.env) fun y hy hf => I.ok.has y.1 (S.free y hy hf)
  rw [exec_Assign_Name_used _ _ _ _ hsw]
  refine wpAny_bind (wpAny_standAt (wpAny_bind ?_))
  show wpAny _ X.A (do let _ ← comprehension (.ListComp elt [⟨target, iter, ifs, 0⟩] scope pos) scope X.env _ (newList []) false (eval iter X.env) (some (assign (.Name x pos') X.env))) _ _ s
  refine wpAny_bind (wpAny_mono (wpAny_comprehension_free (use := some (assign (.Name x pos') X.env)) (Q := fun _ s' => SP X pins D .next s') rfl hs h1 S.kind S.names ?_) (fun _ s' hq => wpAny_pure (wpAny_pure hq)) fun _ _ e => e)
  refine comp_core S hc h2 h3 hi (hg cl) (ht cl) (he cl) I h fun l C s' H' m I' q hn hC hL hsz hcc hp => ?_
  show wpAny _ X.A (assign (.Name x pos') X.env (.ref l)) _ _ _
  refine wpAny_assign_Name (store_ok2 I' hN hi' hx (v := .ref l) rfl (fun s'' I'' hsb => ?_) hf)
  have hn'' : s''.heap.Ns C m := by
    obtain ⟨a, hs', ha⟩ := hsb
    refine hn.sameBut hs' ?_
    rcases ha with ha | ha
    · rw [ha]; exact hL
    · exact (hcc x a ha).symm
  refine ⟨m, hn'', fun h' hs' => ⟨_, H', I''.turned (t' := s''.toks) (fun b o hb e => (hs'.2 b hb).trans e) hC hL (.inr hsz) hcc hp, q⟩⟩
end
end L2
namespace L2
open PySem PySem.Spec PyProof.Rows
section
variable {X : Cx}
inductive EqD (K : PySem.W.Frag) (H : Hp) : Nat → V → V → Bool → Prop where
  | flat {n : Nat} {x y : V} (fx : flatV x = true) (fy : flatV y = true) : EqD K H n x y (eqV x y)
  | lst {n : Nat} {a b : Addr} {xs ys : List V} {e : Nat → Bool} (hx : SqL K H a xs) (hy : SqL K H b ys) (hl : xs.length = ys.length) (h : ∀ (i : Nat) (x y : V), xs[i]? = some x → ys[i]? = some y → EqD K H n x y (e i)) :
      EqD K H (n + 1) (.ref a) (.ref b) ((List.range xs.length).all e)
  | lsl {n : Nat} {a b : Addr} {xs ys : List V} (hx : SqL K H a xs) (hy : SqL K H b ys) (hl : xs.length ≠ ys.length) : EqD K H (n + 1) (.ref a) (.ref b) false
  | tup {n : Nat} {a b : Addr} {xs ys : List V} {e : Nat → Bool} (hx : SqT K H a xs) (hy : SqT K H b ys) (h : ∀ (i : Nat) (x y : V), xs[i]? = some x → ys[i]? = some y → EqD K H n x y (e i)) :
      EqD K H (n + 1) (.ref a) (.ref b) ((List.range (min xs.length ys.length)).all e && xs.length == ys.length)
theorem eqV_self {x : V} (f : flatV x = true) : eqV x x = true := by
  cases x with
  | non => rfl
  | bl b => exact beq_self_eq_true b
  | int i => exact beq_self_eq_true i
  | str z => exact beq_self_eq_true z
  | _ => cases (show false = true from f)
theorem eqV_ii {a b : Int} : eqV (.int a) (.int b) = (a == b) := rfl
theorem EqD.self {K : PySem.W.Frag} {H : Hp} {pins : List (Addr × Obj)} {σ : St} {s : Shared} (I : Inv X pins σ H s) (hK : X.K = K) : ∀ {n : Nat} {x y : V} {b : Bool}, EqD K H n x y b → x = y → b = true := by
  intro n x y b h
  induction h with
  | flat fx fy => intro e; subst e; exact eqV_self fx
  | lst hx hy hl h ih =>
    intro e
    cases e
    subst hK
    have := I.list_inj hx hy
    subst this
    rw [List.all_eq_true]
    intro i hi
    have hi' := List.mem_range.mp hi
    exact ih i _ _ (List.getElem?_eq_getElem hi') (List.getElem?_eq_getElem hi') rfl
  | lsl hx hy hl =>
    intro e
    cases e
    subst hK
    exact absurd (congrArg List.length (I.list_inj hx hy)) hl
  | tup hx hy h ih =>
    intro e
    cases e
    subst hK
    have := I.tuple_inj hx hy
    subst this
    rw [Bool.and_eq_true]
    refine ⟨?_, by simp⟩
    rw [List.all_eq_true]
    intro i hi
    have hi' := List.mem_range.mp hi
    rw [Nat.min_self] at hi'
    exact ih i _ _ (List.getElem?_eq_getElem hi') (List.getElem?_eq_getElem hi') rfl
theorem Vals.at {xs : List V} {us : List Value} (r : Vals xs us) {i : Nat} (h : i < us.length) : ∃ x, xs[i]? = some x ∧ RelV x us[i] := by
  have hl := r.length
  have hx : xs[i]? = some xs[i] := List.getElem?_eq_getElem (by omega)
  obtain ⟨u, e, ru⟩ := r.get hx
  rw [List.getElem?_eq_getElem h] at e
  cases e
  exact ⟨_, hx, ru⟩
theorem EqD.at {pins : List (Addr × Obj)} {σ : St} {H : Hp} {s : Shared} (I : Inv X pins σ H s) : ∀ {n : Nat} {x y : V} {b : Bool}, EqD X.K H n x y b → ∀ {A : Around} {u v : Value}, A.units + n < cLine → RelV x u → RelV y v → SeqAt.EqAt A s u v b := by
  intro n x y b h
  induction h with
  | flat fx fy => intro A u v _ rx ry; exact eqAt_V rx ry fx fy
  | @lst n a b xs ys e hx hy hl h ih =>
    intro A u v hu rx ry
    cases rx; cases ry
    by_cases hab : a = b
    · have t := (EqD.lst hx hy hl h).self I rfl (by rw [hab])
      rw [t, hab]
      exact SeqAt.EqAt.same _
    · obtain ⟨us, ru, pl, _⟩ := I.list hx
      obtain ⟨vs, rv, pl2, _⟩ := I.list hy
      have l1 := ru.length
      have l2 := rv.length
      have := SeqAt.RcAt.lists (A := A) (s := s) (e := e) pl.isList pl2.isList (by simp; omega) (by omega) fun j h1 h2 => by
        obtain ⟨x, ex, rx⟩ := ru.at (i := j) (by simpa using h1)
        obtain ⟨y, ey, ry⟩ := rv.at (i := j) (by simpa using h2)
        exact ih j x y ex ey (A := A.in1) (by show A.units + 1 + n < cLine; omega) (by simpa using rx) (by simpa using ry)
      have e1 : us.toArray.size = xs.length := by simp; omega
      rw [e1] at this
      exact SeqAt.EqAt.of_refs hab this
  | @lsl n a b xs ys hx hy hl =>
    intro A u v hu rx ry
    cases rx; cases ry
    obtain ⟨us, ru, pl, _⟩ := I.list hx
    obtain ⟨vs, rv, pl2, _⟩ := I.list hy
    have l1 := ru.length
    have l2 := rv.length
    have hab : a ≠ b := fun z => by subst z; exact hl (congrArg List.length (I.list_inj hx hy))
    exact SeqAt.EqAt.of_refs hab (SeqAt.RcAt.lists_lengths pl.isList pl2.isList (by simp; omega) (by omega))
  | @tup n a b xs ys e hx hy h ih =>
    intro A u v hu rx ry
    cases rx; cases ry
    by_cases hab : a = b
    · have t := (EqD.tup hx hy h).self I rfl (by rw [hab])
      rw [t, hab]
      exact SeqAt.EqAt.same _
    · obtain ⟨us, ru, pl, _⟩ := I.tuple hx
      obtain ⟨vs, rv, pl2, _⟩ := I.tuple hy
      have l1 := ru.length
      have l2 := rv.length
      have := SeqAt.RcAt.tuples (A := A) (s := s) (e := e) (show s.heap.IsTuple a us.toArray from pl) (show s.heap.IsTuple b vs.toArray from pl2) (by omega) fun j h1 h2 => by
        obtain ⟨x, ex, rx⟩ := ru.at (i := j) (by simpa using h1)
        obtain ⟨y, ey, ry⟩ := rv.at (i := j) (by simpa using h2)
        exact ih j x y ex ey (A := A.in1) (by show A.units + 1 + n < cLine; omega) (by simpa using rx) (by simpa using ry)
      have e1 : us.toArray.size = xs.length := by simp; omega
      have e2 : vs.toArray.size = ys.length := by simp; omega
      rw [e1, e2] at this
      exact SeqAt.EqAt.of_refs hab this
def rEqD (K : PySem.W.Frag) (neg : Bool) : R2 := fun x y H Q => ∃ a b k, x = .ref a ∧ y = .ref b ∧ EqD K H 60 x y k ∧ Q (.bl (if neg then !k else k)) H
theorem op_eqD (hu : X.A.units + 60 < cLine) : OpR X (compareOp .Eq) (rEqD X.K false) := by
  intro pins s σ H x y v u Q I rx ry h
  obtain ⟨a, b, k, rfl, rfl, hE, q⟩ := h
  cases rx; cases ry
  cases hE with
  | flat fx fy => exact absurd fx (by simp [flatV])
  | @lst _ _ _ xs ys e hx hy hl h =>
    obtain ⟨us, ru, pl, _⟩ := I.list hx
    obtain ⟨vs, rv, pl2, _⟩ := I.list hy
    have l1 := ru.length
    have l2 := rv.length
    refine SeqAt.eq_listAt (e := e) pl.isList pl2.isList (by simp; omega) (by omega) (fun j h1 h2 => ?_) ⟨.bl _, H, I, rfl, ?_⟩
    · obtain ⟨x, ex, rx⟩ := ru.at (i := j) (by simpa using h1)
      obtain ⟨y, ey, ry⟩ := rv.at (i := j) (by simpa using h2)
      exact (h j x y ex ey).at I (A := X.A.in1) (by show X.A.units + 1 + 59 < cLine; omega) (by simpa using rx) (by simpa using ry)
    · have e1 : us.toArray.size = xs.length := by simp; omega
      rw [e1]
      exact q
  | @lsl _ _ _ xs ys hx hy hl =>
    obtain ⟨us, ru, pl, _⟩ := I.list hx
    obtain ⟨vs, rv, pl2, _⟩ := I.list hy
    have l1 := ru.length
    have l2 := rv.length
    exact SeqAt.eq_list_lengthsAt pl.isList pl2.isList (by simp; omega) (by omega) ⟨.bl _, H, I, rfl, q⟩
  | @tup _ _ _ xs ys e hx hy h =>
    obtain ⟨us, ru, pl, _⟩ := I.tuple hx
    obtain ⟨vs, rv, pl2, _⟩ := I.tuple hy
    have l1 := ru.length
    have l2 := rv.length
    refine SeqAt.eq_tupleAt (e := e) (show s.heap.IsTuple a us.toArray from pl) (show s.heap.IsTuple b vs.toArray from pl2) (by omega) (fun j h1 h2 => ?_) ⟨.bl _, H, I, rfl, ?_⟩
    · obtain ⟨x, ex, rx⟩ := ru.at (i := j) (by simpa using h1)
      obtain ⟨y, ey, ry⟩ := rv.at (i := j) (by simpa using h2)
      exact (h j x y ex ey).at I (A := X.A.in1) (by show X.A.units + 1 + 59 < cLine; omega) (by simpa using rx) (by simpa using ry)
    · have e1 : us.toArray.size = xs.length := by simp; omega
      have e2 : vs.toArray.size = ys.length := by simp; omega
      rw [e1, e2]
      exact q
theorem op_neD (hu : X.A.units + 60 < cLine) : OpR X (compareOp .NotEq) (rEqD X.K true) := by
  intro pins s σ H x y v u Q I rx ry h
  obtain ⟨a, b, k, rfl, rfl, hE, q⟩ := h
  cases rx; cases ry
  cases hE with
  | flat fx fy => exact absurd fx (by simp [flatV])
  | @lst _ _ _ xs ys e hx hy hl h =>
    obtain ⟨us, ru, pl, _⟩ := I.list hx
    obtain ⟨vs, rv, pl2, _⟩ := I.list hy
    have l1 := ru.length
    have l2 := rv.length
    refine SeqAt.RcNeAt.lists (A := X.A) (s := s) (e := e) pl.isList pl2.isList (by simp; omega) (by omega) (fun j h1 h2 => ?_) X.prog X.w X.xe _ ⟨.bl _, H, I, rfl, ?_⟩
    · obtain ⟨x, ex, rx⟩ := ru.at (i := j) (by simpa using h1)
      obtain ⟨y, ey, ry⟩ := rv.at (i := j) (by simpa using h2)
      exact (h j x y ex ey).at I (A := X.A.in1) (by show X.A.units + 1 + 59 < cLine; omega) (by simpa using rx) (by simpa using ry)
    · have e1 : us.toArray.size = xs.length := by simp; omega
      rw [e1]
      exact q
  | @lsl _ _ _ xs ys hx hy hl =>
    obtain ⟨us, ru, pl, _⟩ := I.list hx
    obtain ⟨vs, rv, pl2, _⟩ := I.list hy
    have l1 := ru.length
    have l2 := rv.length
    exact SeqAt.RcNeAt.lists_lengths pl.isList pl2.isList (by simp; omega) (by omega) X.prog X.w X.xe _ ⟨.bl _, H, I, rfl, q⟩
  | @tup _ _ _ xs ys e hx hy h =>
    obtain ⟨us, ru, pl, _⟩ := I.tuple hx
    obtain ⟨vs, rv, pl2, _⟩ := I.tuple hy
    have l1 := ru.length
    have l2 := rv.length
    refine SeqAt.RcNeAt.tuples (A := X.A) (s := s) (e := e) (show s.heap.IsTuple a us.toArray from pl) (show s.heap.IsTuple b vs.toArray from pl2) (by omega) (fun j h1 h2 => ?_) X.prog X.w X.xe _ ⟨.bl _, H, I, rfl, ?_⟩
    · obtain ⟨x, ex, rx⟩ := ru.at (i := j) (by simpa using h1)
      obtain ⟨y, ey, ry⟩ := rv.at (i := j) (by simpa using h2)
      exact (h j x y ex ey).at I (A := X.A.in1) (by show X.A.units + 1 + 59 < cLine; omega) (by simpa using rx) (by simpa using ry)
    · have e1 : us.toArray.size = xs.length := by simp; omega
      have e2 : vs.toArray.size = ys.length := by simp; omega
      rw [e1, e2]
      exact q
theorem mt_bitlen : MtR X "int.bit_length" (fun x vs H Q => ∃ i, x = .int i ∧ vs = [] ∧ Q (.int (Builtin.Int.intBits i : Nat)) H) := by
  intro pins s σ H x vs v us Q I rx rv h
  obtain ⟨i, rfl, rfl, q⟩ := h
  obtain ⟨t, rfl⟩ := rx
  cases rv.zero
  exact call_int_bit_length ⟨.int _, H, I.tok _, ⟨_, rfl⟩, q⟩
def rInsert : V → List V → Hp → VK → Prop := fun x vs H Q => ∃ l xs i y, x = .ref l ∧ vs = [.int i, y] ∧ H l = some (.lst xs) ∧ xs.length < sizeLine ∧ 0 ≤ i ∧ i < 2 ^ 63 ∧ Q .non (upd H l (.lst (xs.take (min i.toNat xs.length) ++ y :: xs.drop (min i.toNat xs.length))))
theorem mt_insert : MtM X "list.insert" rInsert := by
  intro pins s σ H x vs v us Q I rx rv h
  obtain ⟨l, xs, i, y, rfl, rfl, hH, hz, h0, h63, q⟩ := h
  cases rx
  obtain ⟨u, u', rfl, ru, ru'⟩ := rv.two
  obtain ⟨t, rfl⟩ := ru
  obtain ⟨z, its, n, r, hl, e⟩ := I.lstM hH
  refine call_meets F.slot_list_insert ⟨_, e, rfl⟩ F.entry_list_insert (F.args_list_insert_3 _ _ _) (AutoSeq1.list_insert_list_int_val_1 l its.toArray n i t u' (by simp [Builtin.List.listFitsIndex]; omega) (by rw [List.size_toArray]; omega)) ⟨e, ?_⟩
  refine ⟨.non, _, I.lset (t' := s.toks) (its' := its.take (min i.toNat xs.length) ++ u' :: its.drop (min i.toNat xs.length)) hH e ?_ ((r.take _).append (.cons ru' (r.drop _))) ?_, rfl, q⟩
  · rw [if_neg (by omega), List.size_toArray]
    apply Array.ext'
    simp [hl]
    rw [List.take_of_length_le (by rw [List.length_drop]; omega)]
  · rw [List.length_append, List.length_take, List.length_cons, List.length_drop]
    omega
def tRng1 (ta : TA) : TE := fun σ H Q => ta σ H fun vs H1 => ∃ j : Int, vs = [.int j] ∧ ∀ p, H1 p = none → Q (.ref p) (upd H1 p (.rng 0 j))
theorem ip_or : PIp X .BitOr (rI0 fun i j => .int (Builtin.bitOr i j)) := iop_or
end
section
variable {K : PySem.W.Frag} {nt : Nat} {cap : List Nat} {g : TG} {tt : TT} {te : TE} {σ : St} {H₀ : Hp} {Q : VK} {l : Addr}
def CW (n nt : Nat) (l : Addr) (cs : St) (H₀ : Hp) (P : Nat → List V → Hp → Prop) : Nat → Nat → St → Hp → Prop := fun i m σ H =>
  m = n - i ∧ i ≤ n ∧ ∃ acc pre, acc.length ≤ i ∧ H l = some (.lst acc) ∧ pre.length = nt ∧ σ = pre ++ cs ∧ Same H₀ H ∧ P i acc H
def CYes (n nt : Nat) (l : Addr) (cs : St) (H₀ : Hp) (P : Nat → List V → Hp → Prop) (i m : Nat) (σ2 : St) : VK := fun y H5 =>
  ∃ xs, H5 l = some (.lst xs) ∧ xs.length < sizeLine ∧ ∃ m', m' < m ∧ CW n nt l cs H₀ P (i + 1) m' σ2 (upd H5 l (.lst (xs ++ [y])))
def CNo (n nt : Nat) (l : Addr) (cs : St) (H₀ : Hp) (P : Nat → List V → Hp → Prop) (i m : Nat) (σ2 : St) : Hp → Prop := fun H4 =>
  ∃ m', m' < m ∧ CW n nt l cs H₀ P (i + 1) m' σ2 H4
def Off (l : Addr) (P : Nat → List V → Hp → Prop) : Prop := ∀ i acc H H', (∀ b o, b ≠ l → H b = some o → H' b = some o) → P i acc H → P i acc H'
structure Ct (n nt : Nat) (l : Addr) (cs : St) (H₀ : Hp) (P : Nat → List V → Hp → Prop) (i m : Nat) (acc : List V) (H : Hp) : Prop where
  hi : i < n
  hm : m = n - i
  hn : n ≤ sizeLine
  ha : acc.length ≤ i
  hl : H l = some (.lst acc)
  fr : H₀ l = none
  sm : Same H₀ H
  off : Off l P
  hp : P i acc H
theorem Ct.yes {n i m : Nat} {cs : St} {P : Nat → List V → Hp → Prop} {acc : List V} {H H5 : Hp} {y : V} {σ2 pre : St} (c : Ct n nt l cs H₀ P i m acc H) (s : Same H H5) (p : P (i + 1) (acc ++ [y]) H5) (hp : pre.length = nt) (hσ : σ2 = pre ++ cs) :
    CYes n nt l cs H₀ P i m σ2 y H5 := by
  have := c.hi; have := c.ha; have := c.hn; have := c.hm
  refine ⟨acc, s _ _ c.hl, by omega, n - (i + 1), by omega, rfl, by omega, acc ++ [y], pre, by rw [List.length_append, List.length_singleton]; omega, upd_same, hp, hσ, fun b o e => ?_, c.off _ _ _ _ (fun b o hb e => by rw [upd_ne hb]; exact e) p⟩
  rw [upd_ne (ne_of_none e c.fr)]
  exact s _ _ (c.sm _ _ e)
theorem Ct.no {n i m : Nat} {cs : St} {P : Nat → List V → Hp → Prop} {acc : List V} {H H5 : Hp} {σ2 pre : St} (c : Ct n nt l cs H₀ P i m acc H) (s : Same H H5) (p : P (i + 1) acc H5) (hp : pre.length = nt) (hσ : σ2 = pre ++ cs) :
    CNo n nt l cs H₀ P i m σ2 H5 := by
  have := c.hi; have := c.ha; have := c.hm
  exact ⟨n - (i + 1), by omega, rfl, by omega, acc, pre, by omega, s _ _ c.hl, hp, hσ, c.sm.trans s, p⟩
structure Jw (J : It) (H₀ : Hp) (n : Nat) (R : Nat → V → Hp → Prop) : Prop where
  go : ∀ i H, Same H₀ H → i < n → J.go i H
  yld : ∀ i H x H', Same H₀ H → i < n → J.yld i H x H' → Same H H' ∧ R i x H'
  stop : ∀ i H, Same H₀ H → n ≤ i → J.stop i H
theorem jw_list {a : Addr} {xs : List V} (h : SqL K H₀ a xs) : Jw (Itl K a) H₀ xs.length (fun i x _ => xs[i]? = some x) where
  go := fun i H s hi => ⟨xs, xs[i], s.seq h, List.getElem?_eq_getElem hi⟩
  yld := fun i H x H' s hi y => by
    obtain ⟨rfl, y⟩ := y
    exact ⟨Same.refl _, y xs (s.seq h)⟩
  stop := fun i H s hi => ⟨xs, s.seq h, hi⟩
theorem jw_range {lo : Int} {n : Nat} : Jw (Itr lo n) H₀ n (fun i x _ => x = .int (lo + i)) where
  go := fun i H s hi => hi
  yld := fun i H x H' s hi y => by
    obtain ⟨rfl, y⟩ := y
    exact ⟨Same.refl _, y⟩
  stop := fun i H s hi => hi
theorem Same.tup {H H' : Hp} {a : Addr} {xs : List V} (e : Same H H') (h : SqT K H a xs) : SqT K H' a xs := by
  rcases h with (h | ⟨o, h⟩) | h
  · exact .inl (.inl (e _ _ h))
  · exact .inl (.inr ⟨o, e _ _ h⟩)
  · exact .inr h
theorem Same.upd {H : Hp} {l : Addr} {o : HO} (h : H l = none) : Same H (upd H l o) := fun b u e => by rw [upd_ne (ne_of_none e h)]; exact e
theorem comp_by {J : It} {n : Nat} {R : Nat → V → Hp → Prop} (hJ : Jw J H₀ n R) (P : Nat → List V → Hp → Prop) (hz : n ≤ sizeLine) (off : Off l P) (fr : H₀ l = none) (h0 : P 0 [] H₀)
    (step : ∀ (i m : Nat) (x : V) (acc : List V) (pre : St) (H : Hp), R i x H → pre.length = nt → Ct n nt l (cap.map fun k => (σ[k]?).join) H₀ P i m acc H →
      g x (pre ++ (cap.map fun k => (σ[k]?).join)) H fun σ2 H3 => tt σ2 H3 fun b H4 => if b = true then te σ2 H4 (CYes n nt l (cap.map fun k => (σ[k]?).join) H₀ P i m σ2) else CNo n nt l (cap.map fun k => (σ[k]?).join) H₀ P i m σ2 H4)
    (done : ∀ (acc : List V) (H : Hp), Same H₀ H → H l = some (.lst acc) → P n acc H → Q (.ref l) H) :
    ∃ W : Nat → Nat → St → Hp → Prop, (∃ m, W 0 m (capS nt cap σ) (upd H₀ l (.lst []))) ∧ ∀ i m σ' H', W i m σ' H' →
    (J.stop i H' ∧ Q (.ref l) H') ∨ (J.go i H' ∧ ∀ x H2, J.yld i H' x H2 → g x σ' H2 fun σ2 H3 => tt σ2 H3 fun b H4 =>
      if b = true then te σ2 H4 fun y H5 => ∃ xs, H5 l = some (.lst xs) ∧ xs.length < sizeLine ∧ ∃ m', m' < m ∧ W (i + 1) m' σ2 (upd H5 l (.lst (xs ++ [y])))
      else ∃ m', m' < m ∧ W (i + 1) m' σ2 H4) := by
  refine ⟨CW n nt l (cap.map fun k => (σ[k]?).join) H₀ P, ⟨n, by omega, by omega, [], List.replicate nt none, by simp, upd_same, by simp, rfl, Same.upd fr, off _ _ _ _ (fun b o hb e => by rw [upd_ne hb]; exact e) h0⟩, ?_⟩
  rintro i m σ' H' ⟨rfl, hi, acc, pre, ha, hl, hp, rfl, sm, p⟩
  by_cases hlt : i < n
  · refine .inr ⟨hJ.go i H' sm hlt, fun x H2 y => ?_⟩
    obtain ⟨s2, r⟩ := hJ.yld i H' x H2 sm hlt y
    exact step i (n - i) x acc pre H2 r hp ⟨hlt, rfl, hz, ha, s2 _ _ hl, fr, sm.trans s2, off, off _ _ _ _ (fun b o _ e => s2 _ _ e) p⟩
  · have e : i = n := by omega
    subst e
    exact .inl ⟨hJ.stop i H' sm (Nat.le_refl _), done acc H' sm hl p⟩
end
end L2
namespace L2
open PySem PySem.Spec PyProof.Rows
structure Blt (mg : Str → Option Value) : Prop where
  len : mg "len" = none
  range : mg "range" = none
  list : mg "list" = none
  int : mg "int" = none
  bool : mg "bool" = none
  tuple : mg "tuple" = none
  isinstance : mg "isinstance" = none
  min : mg "min" = none
  max : mg "max" = none
  all : mg "all" = none
  enumerate : mg "enumerate" = none
def FdAt (K : PySem.W.Frag) (f : Addr) (fd : FuncData) : Prop := ∃ oc od osl, K.lookup f = some ⟨oc, od, .func fd, osl⟩
theorem FdAt.one {K : PySem.W.Frag} {f : Addr} {fd fd' : FuncData} (h : FdAt K f fd) (h' : FdAt K f fd') : fd = fd' := by
  obtain ⟨oc, od, osl, e⟩ := h
  obtain ⟨oc', od', osl', e'⟩ := h'
  rw [e] at e'
  cases e'
  rfl
theorem Fun.fd {K : PySem.W.Frag} {x q : Str} {st : Stmt} {f : Addr} {fd : FuncData} (F : Fun K x q st f fd) : FdAt K f fd := by
  obtain ⟨oc, od, kV, doc, pm, an, cdv, ct, osl, rfl, lk, hcd⟩ := F.ex
  exact ⟨oc, od, osl, lk⟩
def Fn (P : Program) (w : World) (K : PySem.W.Frag) (mg : Str → Option Value) (base : Heap) (k : Nat) (x : Str) (ps : List Str) (sp : Sp) : Prop :=
  ∃ f fd, FnOk P w K mg base CX0 k f fd ps sp ∧ mg x = some (.ref f) ∧ PySem.W.keepIn K (.ref f) = true ∧ Binds K fd ps [] ∧ FdAt K f fd
def Src (K : PySem.W.Frag) (mg : Str → Option Value) (x : Str) (st : Stmt) (ps : List Str) : Prop :=
  ∃ f fd, mg x = some (.ref f) ∧ Fun K x x st f fd ∧ Binds K fd ps []
theorem Src.fn {P : Program} {w : World} {K : PySem.W.Frag} {mg : Str → Option Value} {base : Heap} {x : Str} {st : Stmt} {ps N : List Str} {sp : Sp} {k : Nat} (S : Src K mg x st ps) (sc : FnScope N ps (defScope st)) (len : ∀ vs H Q E, sp vs H Q E → vs.length = ps.length)
    (hbody : ∀ (f : Addr) (cdv : Value) (A : Around) (outer : List Env) (s : Shared) (H : Hp) (vs : List V) (Q : VK) (E : XK), Room k (A.deeper (envOfC x (defScope st) s.heap.objs.size f cdv)) → sp vs H Q E →
      ∃ t, PSs (cxOf CX0 P w K mg base N x (defScope st) f cdv A outer s H E).nox (defBody st) t ∧ t { nx := fun _ H' => Q .non H', rt := Q } (start N vs) H) : Fn P w K mg base (k + 1) x ps sp := by
  obtain ⟨f, fd, hm, F, b⟩ := S
  exact ⟨f, fd, F.ok sc len (hbody f), hm, F.kp, b, F.fd⟩
section
variable {X : Cx}
theorem pe_callF {k : Nat} {x : Str} {ps : List Str} {sp : Sp} {p pos : Pos} {e : Expr} {es : List Expr} {t : TA} (F : Fn X.prog X.w X.K X.mg X.base k x ps sp) (hr : Room k X.A) (hg : Gl X x) (ha : PA X (e :: es) t)
    (hdb : (x == ("__debug__" : Str)) = false := by decide) (he : starEach (e :: es) X.env = (false, eval e X.env) :: starEach es X.env := by rfl) (hpl : (backTo pos (starEach es X.env)).any (·.1) = false := by rfl) :
    PE X (.Call (.Name x p) (e :: es) [] pos) (tCall sp [] E0 t) := by
  intro pins s σ H Q I h
  obtain ⟨f, fd, F, hm, hk, hb, _⟩ := F
  exact pe_call F hr hg hm hk hb .nil pass0 ha hdb he hpl pins s σ H Q I h
end
theorem hu60 {A : Around} {k : Nat} (hr : Room k A) : A.units + 60 < cLine := by have := hr.units; omega
section
variable {X : Cx}
def rOr (r r' : R2) : R2 := fun x y H Q => r x y H Q ∨ r' x y H Q
theorem op_addA : OpR X (binaryOp .Add) (rOr (rI0 fun i j => .int (i + j)) rCat) := op_add.or op_cat
theorem op_mulW : OpR X (binaryOp .Mult) (rI IntMulOk fun i j => .int (i * j)) := opI fun _ _ _ _ _ _ _ hc q => mul_int q hc
theorem op_mulA : OpR X (binaryOp .Mult) (rOr (rI IntMulOk fun i j => .int (i * j)) rRep) := op_mulW.or op_rep
variable {a b o e l : Expr} {es : List Expr} {ta tb te tl to : TE} {ti : TA} {pos p apos cpos : Pos}
theorem op_eqA (K : PySem.W.Frag) (hu : X.A.units + 60 < cLine) (hK : X.K = K := by rfl) : OpR X (compareOp .Eq) (rOr rEq (rEqD K false)) := by subst hK; exact op_eq.or (op_eqD hu)
theorem op_neA (K : PySem.W.Frag) (hu : X.A.units + 60 < cLine) (hK : X.K = K := by rfl) : OpR X (compareOp .NotEq) (rOr rNe (rEqD K true)) := by subst hK; exact op_ne.or (op_neD hu)
theorem ixL (K : PySem.W.Frag) (hK : X.K = K := by rfl) : IxR X (rIxL K) := by subst hK; exact ix_list
theorem opNotIn (K : PySem.W.Frag) (hK : X.K = K := by rfl) : OpR X (compareOp .NotIn) (rIn K true) := by subst hK; exact op_notIn_seq
theorem piL (K : PySem.W.Frag) {tg : Expr} (hl : PE X l tl) (hK : X.K = K := by rfl) : PI X tg l (iList K tl) := by subst hK; exact pi_list hl
theorem pgT (K : PySem.W.Frag) {es : List Expr} {k : Nat} {t : TGs} {n : Nat} (hc : X.calm = true) (h : PGs X es t) (hn : (assignEach es X.env).length = n := by rfl) (hst : (assignEach es X.env).findIdx? (·.1) = none := by rfl) (hK : X.K = K := by rfl) : PG X (.Tuple es k pos) (gTup K n t) := by
  subst hK; exact pg_tup hc h hn hst
def rLen (K : PySem.W.Frag) : List V → Hp → VK → Prop := fun xs H Q => ∃ p ys, xs = [.ref p] ∧ (SqL K H p ys ∨ SqT K H p ys) ∧ Q (.int ys.length) H
theorem callLen (K : PySem.W.Frag) (hK : X.K = K := by rfl) : CallR X (.builtin "len") (rLen K) := by subst hK; exact call_len_seq
def rListS (K : PySem.W.Frag) : List V → Hp → VK → Prop := fun xs H Q => ∃ p ys, xs = [.ref p] ∧ (SqL K H p ys ∨ SqT K H p ys) ∧ ∀ l, H l = none → Q (.ref l) (upd H l (.lst ys))
def rListR : List V → Hp → VK → Prop := fun xs H Q => ∃ p j, xs = [.ref p] ∧ H p = some (.rng 0 j) ∧ -(2 ^ 62) ≤ j ∧ j ≤ 2 ^ 20 ∧ ∀ l, H l = none → Q (.ref l) (upd H l (.lst ((List.range j.toNat).map fun (k : Nat) => V.int (k : Int))))
theorem callListS (K : PySem.W.Frag) (hK : X.K = K := by rfl) : CallR X (.type "list") (rListS K) := by subst hK; exact call_list_of
def rAll (K : PySem.W.Frag) : List V → Hp → VK → Prop := fun xs H Q => ∃ p, ∃ bs : List Bool, xs = [.ref p] ∧ SqL K H p (bs.map V.bl) ∧ Q (.bl (bs.all id)) H
def rIsi (K : PySem.W.Frag) : List V → Hp → VK → Prop := fun xs H Q => ∃ x T t b, xs = [x, .ty T] ∧ TyOf K H x t ∧ PySem.W.kitOne K t (.type T) = some b ∧ Q (.bl b) H
theorem slL (K : PySem.W.Frag) (hK : X.K = K := by rfl) : SlR X (rSlL K) := by subst hK; exact sl_list
def tRev (K : PySem.W.Frag) (te : TE) : TE := fun σ H Q => te σ H fun x H1 => ∃ a xs, x = .ref a ∧ SqL K H1 a xs ∧ ∀ p, H1 p = none → Q (.ref p) (upd H1 p (.lst xs.reverse))
section
variable {name : Str} {T id : String} {r : V → List V → Hp → VK → Prop}
theorem peBm0 (K : PySem.W.Frag) (pa : PlainAttrs T) (slot : Slot T name id) (hty : typeOf (.builtin id) = pure (.type "method_descriptor")) (hm : MtR X id r) (ho : PE X o to)
    (hbase : attributeBase o name X.env (eval o X.env) = eval o X.env := by rfl) (hline : (apos.endLine == cpos.line) = true := by rfl) (hK : X.K = K := by rfl) : PE X (.Call (.Attribute o name apos) [] [] cpos) (tBM0 K T r to) := by
  subst hK; exact pe_bm0 pa slot hty hm ho hbase hline
theorem peBm (K : PySem.W.Frag) (pa : PlainAttrs T) (slot : Slot T name id) (hty : typeOf (.builtin id) = pure (.type "method_descriptor")) (hm : MtR X id r) (ho : PE X o to) (ha : PA X (e :: es) ti)
    (hbase : attributeBase o name X.env (eval o X.env) = eval o X.env := by rfl)
    (hfew : ((backTo cpos (starEach (e :: es) X.env)).all (fun x => !x.1) && (backToKw cpos (keywordEach [] X.env)).all (fun x => x.1.isSome)
      && decide ((e :: es).length + ([] : List Keyword).length + (if ([] : List Keyword).isEmpty then 0 else 1) < 30)) = true := by rfl)
    (hline : (apos.endLine == cpos.line) = true := by rfl) (hs : starEach (e :: es) X.env = (false, eval e X.env) :: starEach es X.env := by rfl) (hplain : (backTo cpos (starEach es X.env)).any (·.1) = false := by rfl) (hK : X.K = K := by rfl) :
    PE X (.Call (.Attribute o name apos) (e :: es) [] cpos) (tBM K T r to ti) := by
  subst hK; exact pe_bm pa slot hty hm ho ha hbase hfew hline hs hplain
end
theorem compOk {scope : Scope} {M : List Str} {nt : Nat} {cap : List Nat} (scX : Scope) (N : List Str) (hX : X.env.scope = scX) (hN : X.N = N) (kind : scope.kind = .function) (cells : ∀ y ∈ scope.names, y.2 ≠ .cell)
    (names : ∀ y ∈ scope.names, y.2 = .local → scope.names.lookup y.1 = some .local) (free : ∀ y ∈ scope.names, y.2 = .free → scX.names.lookup y.1 = some .cell ∨ scX.names.lookup y.1 = some .free)
    (caps : ∀ j, j < cap.length → ∃ x k, cap[j]? = some k ∧ M[nt + j]? = some x ∧ N[k]? = some x ∧ scope.names.lookup x = some .free) (len : M.length = nt + cap.length) : CompOk X scope M nt cap := by
  subst hX hN; exact ⟨kind, cells, names, free, caps, len⟩
end
theorem mulOk_small {i j : Int} (h : (-(2 ^ 64) < i ∧ i < 2 ^ 64) ∨ (-(2 ^ 64) < j ∧ j < 2 ^ 64)) : IntMulOk i j := CMul.ok h
section
variable {t u : TS} {D : Ends} {σ : St} {H : Hp} {te ta tb : TE} {tt tu : TT} {ti : TA} {g : TG} {gs : TGs} {Q : VK} {B : Bool → Hp → Prop} {L : List V → Hp → Prop} {r r' : R2} {i : Nat} {v : V} {S : St → Hp → Prop} {K : PySem.W.Frag}
theorem ap_seq : tSeq t u D σ H = t { nx := u D, rt := D.rt, bk := D.bk, ct := D.ct } σ H := rfl
theorem ap_next : tNext D σ H = D.nx σ H := rfl
theorem ap_asg : tAsg te g D σ H = te σ H fun x H1 => g x σ H1 D.nx := rfl
theorem ap_gname : gName i v σ H S = S (σ.set i (some v)) H := rfl
theorem ap_var : tVar i σ H Q = ∃ v, σ[i]? = some (some v) ∧ Q v H := rfl
theorem ap_c : tC v σ H Q = Q v H := rfl
theorem ap_ret : tRet te D σ H = te σ H D.rt := rfl
theorem ap_retN : tRetN D σ H = D.rt .non H := rfl
theorem ap_drop : tDrop te D σ H = te σ H fun _ H1 => D.nx σ H1 := rfl
theorem ap_if : tIfS tt t u D σ H = tt σ H fun b H1 => if b = true then t D σ H1 else u D σ H1 := rfl
theorem ap_ifE : tIf tt ta tb σ H Q = tt σ H fun c H1 => if c = true then ta σ H1 Q else tb σ H1 Q := rfl
theorem ap_op : tOp r ta tb σ H Q = ta σ H fun x H1 => tb σ H1 fun y H2 => r x y H2 Q := rfl
theorem ap_un {r : V → Hp → VK → Prop} : tUn r ta σ H Q = ta σ H fun x H1 => r x H1 Q := rfl
theorem ap_test : tTest te σ H B = te σ H fun x H' => ∃ k, x = .bl k ∧ B k H' := rfl
theorem ap_b : tB te σ H B = te σ H fun x H' => ∃ k, x = .bl k ∧ B k H' := rfl
theorem ap_and : tAnd tt tu σ H B = tt σ H fun c H1 => if c = true then tu σ H1 B else B false H1 := rfl
theorem ap_or : tOr tt tu σ H B = tt σ H fun c H1 => if c = true then B true H1 else tu σ H1 B := rfl
theorem ap_not : tNot tt σ H B = tt σ H fun c H1 => B (!c) H1 := rfl
theorem ap_andV : tAndV ta tb σ H Q = ta σ H fun x H1 => ∃ c, x = .bl c ∧ if c = true then tb σ H1 Q else Q (.bl false) H1 := rfl
theorem ap_orV : tOrV ta tb σ H Q = ta σ H fun x H1 => ∃ c, x = .bl c ∧ if c = true then Q (.bl true) H1 else tb σ H1 Q := rfl
theorem ap_notV : tNotV ta σ H Q = ta σ H fun x H1 => ∃ c, x = .bl c ∧ Q (.bl (!c)) H1 := rfl
theorem ap_nil : tNil σ H L = L [] H := rfl
theorem ap_cons : tCons ta ti σ H L = ta σ H fun x H1 => ti σ H1 fun xs H2 => L (x :: xs) H2 := rfl
theorem ap_lst : tLst ti σ H Q = ti σ H fun xs H1 => xs.length ≤ sizeLine ∧ ∀ p, H1 p = none → Q (.ref p) (upd H1 p (.lst xs)) := rfl
theorem ap_tup : tTup ti σ H Q = ti σ H fun xs H1 => xs.length ≤ sizeLine ∧ ∀ p, H1 p = none → Q (.ref p) (upd H1 p (.tup xs)) := rfl
theorem ap_cb {r : List V → Hp → VK → Prop} : tCB r ti σ H Q = ti σ H fun vs H1 => r vs H1 Q := rfl
theorem ap_call {sp : Sp} : tCall sp [] E0 ti σ H Q = ti σ H fun vs H1 => sp vs H1 Q E0 := by
  unfold tCall; simp only [List.append_nil]
theorem ap_ror {x y : V} : rOr r r' x y H Q = (r x y H Q ∨ r' x y H Q) := rfl
theorem ap_rI0 {f : Int → Int → V} {x y : V} : rI0 f x y H Q = ∃ i j, x = .int i ∧ y = .int j ∧ Q (f i j) H := rfl
theorem ap_rI {C : Int → Int → Prop} {f : Int → Int → V} {x y : V} : rI C f x y H Q = ∃ i j, x = .int i ∧ y = .int j ∧ C i j ∧ Q (f i j) H := rfl
theorem ap_rU {f : Int → V} {x : V} : rU f x H Q = ∃ i, x = .int i ∧ Q (f i) H := rfl
theorem ap_rEq {x y : V} : rEq x y H Q = (scal x y = true ∧ Q (.bl (decide (x = y))) H) := rfl
theorem ap_rNe {x y : V} : rNe x y H Q = (scal x y = true ∧ Q (.bl (!decide (x = y))) H) := rfl
theorem ap_rEqD {neg : Bool} {x y : V} : rEqD K neg x y H Q = ∃ a b k, x = .ref a ∧ y = .ref b ∧ EqD K H 60 x y k ∧ Q (.bl (if neg then !k else k)) H := rfl
theorem ap_rCat {x y : V} : rCat x y H Q = ∃ l b xs zs, x = .ref l ∧ y = .ref b ∧ H l = some (.lst xs) ∧ H b = some (.lst zs) ∧ xs.length + zs.length ≤ sizeLine ∧ ∀ p, H p = none → Q (.ref p) (upd H p (.lst (xs ++ zs))) := rfl
theorem ap_rRep {x y : V} : rRep x y H Q = ∃ l k xs, x = .ref l ∧ y = .int k ∧ H l = some (.lst xs) ∧ -(2 ^ 63) ≤ k ∧ k < 2 ^ 63 ∧ xs.length * k.toNat ≤ sizeLine ∧ ∀ p, H p = none → Q (.ref p) (upd H p (.lst (List.replicate k.toNat xs).flatten)) := rfl
theorem ap_ixL {x y : V} : rIxL K x y H Q = ∃ p xs i v, x = .ref p ∧ y = .int i ∧ SqL K H p xs ∧ atI xs i = some v ∧ Q v H := rfl
theorem ap_ixT {x y : V} : rIxT K x y H Q = ∃ p xs i v, x = .ref p ∧ y = .int i ∧ SqT K H p xs ∧ atI xs i = some v ∧ Q v H := rfl
theorem ap_in {neg : Bool} {x y : V} : rIn K neg x y H Q = ∃ p xs, y = .ref p ∧ (SqL K H p xs ∨ SqT K H p xs) ∧ flatV x = true ∧ xs.all flatV = true ∧ Q (.bl (if neg then !inV x xs else inV x xs)) H := rfl
theorem ap_sl {r : V → Option Int → Option Int → Hp → VK → Prop} {tl th : TO} : tSl r te tl th σ H Q = te σ H fun x H1 => tl σ H1 fun l H2 => th σ H2 fun u H3 => r x l u H3 Q := rfl
theorem ap_part {W : Option Int → Hp → Prop} : tPart te σ H W = te σ H fun x H1 => ∃ i, x = .int i ∧ W (some i) H1 := rfl
theorem ap_nopart {W : Option Int → Hp → Prop} : tNoPart σ H W = W none H := rfl
theorem ap_slL {x : V} {lo hi : Option Int} : rSlL K x lo hi H Q = ∃ a xs, x = .ref a ∧ SqL K H a xs ∧ ∀ p, H p = none → Q (.ref p) (upd H p (.lst (cutV xs lo hi))) := rfl
theorem ap_bm0 {T : String} {r : V → List V → Hp → VK → Prop} : tBM0 K T r te σ H Q = te σ H fun x H1 => tyV K T x H1 ∧ r x [] H1 Q := rfl
theorem ap_bm {T : String} {r : V → List V → Hp → VK → Prop} : tBM K T r te ti σ H Q = te σ H fun x H1 => tyV K T x H1 ∧ ti σ H1 fun xs H2 => r x xs H2 Q := rfl
theorem ap_append {x : V} {vs : List V} : rAppend x vs H Q = ∃ l xs y, x = .ref l ∧ vs = [y] ∧ H l = some (.lst xs) ∧ xs.length < sizeLine ∧ Q .non (upd H l (.lst (xs ++ [y]))) := rfl
theorem ap_insert {x : V} {vs : List V} : rInsert x vs H Q = ∃ l xs i y, x = .ref l ∧ vs = [.int i, y] ∧ H l = some (.lst xs) ∧ xs.length < sizeLine ∧ 0 ≤ i ∧ i < 2 ^ 63 ∧ Q .non (upd H l (.lst (xs.take (min i.toNat xs.length) ++ y :: xs.drop (min i.toNat xs.length)))) := rfl
theorem ap_rng1 : tRng1 ti σ H Q = ti σ H fun vs H1 => ∃ j : Int, vs = [.int j] ∧ ∀ p, H1 p = none → Q (.ref p) (upd H1 p (.rng 0 j)) := rfl
theorem ap_iList {R : It → Hp → Prop} : iList K te σ H R = te σ H fun x H1 => ∃ a, x = .ref a ∧ (∃ xs, SqL K H1 a xs) ∧ R (Itl K a) H1 := rfl
theorem ap_iRng1 {R : It → Hp → Prop} : iRng1 ti σ H R = ti σ H fun vs H1 => ∃ j : Int, vs = [.int j] ∧ -(2 ^ 62) ≤ j ∧ j < 2 ^ 62 ∧ R (Itr 0 j.toNat) H1 := rfl
theorem ap_iRng2 {R : It → Hp → Prop} : iRng2 ti σ H R = ti σ H fun vs H1 => ∃ i j : Int, vs = [.int i, .int j] ∧ (-(2 ^ 62) ≤ i ∧ i < 2 ^ 62 ∧ -(2 ^ 62) ≤ j ∧ j < 2 ^ 62) ∧ R (Itr i (j - i).toNat) H1 := rfl
theorem ap_gtup {n : Nat} : gTup K n gs v σ H S = ∃ a xs, v = .ref a ∧ SqT K H a xs ∧ xs.length = n ∧ gs xs σ H S := rfl
theorem ap_gcons {vs : List V} : gCons g gs vs σ H S = ∃ v r, vs = v :: r ∧ g v σ H fun σ' H' => gs r σ' H' S := rfl
theorem ap_gnil {vs : List V} : gNil vs σ H S = (vs = [] ∧ S σ H) := rfl
theorem ap_gsub {ts : TSet} : gSub ta tb ts v σ H S = ta σ H fun o H1 => tb σ H1 fun i H2 => ts o i v H2 fun H3 => S σ H3 := rfl
theorem ap_setL {o k x : V} {Z : Hp → Prop} : rSetL o k x H Z = ∃ p xs i j, o = .ref p ∧ k = .int i ∧ H p = some (.lst xs) ∧ ixN xs.length i = some j ∧ Z (upd H p (.lst (xs.set j x))) := rfl
theorem ap_aug {tip : TIp} : tAug i te tip D σ H = ∃ x, σ[i]? = some (some x) ∧ te σ H fun y H1 => tip x y H1 fun z H2 => D.nx (σ.set i (some z)) H2 := rfl
theorem ap_augS {tget : V → V → Hp → VK → Prop} {tip : TIp} {ts : TSet} {ti : TE} : tAugS ta ti te tget tip ts D σ H = ta σ H fun o H1 => ti σ H1 fun i H2 => tget o i H2 fun x H3 => te σ H3 fun y H4 => tip x y H4 fun z H5 => ts o i z H5 fun H6 => D.nx σ H6 := rfl
theorem ap_rlen {xs : List V} : rLen K xs H Q = ∃ p ys, xs = [.ref p] ∧ (SqL K H p ys ∨ SqT K H p ys) ∧ Q (.int ys.length) H := rfl
theorem ap_rall {xs : List V} : rAll K xs H Q = ∃ p, ∃ bs : List Bool, xs = [.ref p] ∧ SqL K H p (bs.map V.bl) ∧ Q (.bl (bs.all id)) H := rfl
theorem ap_risi {xs : List V} : rIsi K xs H Q = ∃ x T t b, xs = [x, .ty T] ∧ TyOf K H x t ∧ PySem.W.kitOne K t (.type T) = some b ∧ Q (.bl b) H := rfl
theorem ap_rev : tRev K te σ H Q = te σ H fun x H1 => ∃ a xs, x = .ref a ∧ SqL K H1 a xs ∧ ∀ p, H1 p = none → Q (.ref p) (upd H1 p (.lst xs.reverse)) := rfl
theorem ap_rlistS {xs : List V} : rListS K xs H Q = ∃ p ys, xs = [.ref p] ∧ (SqL K H p ys ∨ SqT K H p ys) ∧ ∀ l, H l = none → Q (.ref l) (upd H l (.lst ys)) := rfl
theorem ap_rlistR {xs : List V} : rListR xs H Q = ∃ p j, xs = [.ref p] ∧ H p = some (.rng 0 j) ∧ -(2 ^ 62) ≤ j ∧ j ≤ 2 ^ 20 ∧ ∀ l, H l = none → Q (.ref l) (upd H l (.lst ((List.range j.toNat).map fun (k : Nat) => V.int (k : Int)))) := rfl
theorem ap_never : tNever D σ H = False := rfl
theorem ap_yes : tYes σ H B = B true H := rfl
theorem ap_start {N : List Str} {vs : List V} : start N vs = vs.map some ++ List.replicate (N.length - vs.length) none := rfl
def FG (J : It) (g : TG) (tb : TS) (D : Ends) (σ : St) (H : Hp) : Prop := ∃ W : Nat → Nat → St → Hp → Prop, (∃ m, W 0 m σ H) ∧ ∀ i m σ H, W i m σ H →
  (J.stop i H ∧ D.nx σ H) ∨ (J.go i H ∧ ∃ N : St → Hp → Prop, (∀ σ' H', N σ' H' → ∃ m', m' < m ∧ W (i + 1) m' σ' H') ∧ ∀ x H', J.yld i H x H' → g x σ H' fun σ2 H2 => tb { D with nx := N, ct := N, bk := D.nx } σ2 H2)
theorem ap_for {wi : TI} : tFor wi g t D σ H = wi σ H fun J H1 => FG J g t D σ H1 := rfl
theorem fg_list {a : Addr} {xs : List V} (Pv : Nat → St → Hp → Prop) (h0 : Pv 0 σ H) (hl : ∀ i σ H, i ≤ xs.length → Pv i σ H → SqL K H a xs)
    (hs : ∀ (i : Nat) x σ H, xs[i]? = some x → Pv i σ H → g x σ H fun σ2 H2 => t { nx := Pv (i + 1), rt := D.rt, ct := Pv (i + 1), bk := D.nx } σ2 H2) (hd : ∀ σ H, Pv xs.length σ H → D.nx σ H) : FG (Itl K a) g t D σ H := for_list Pv h0 hl hs hd
theorem fg_range {lo : Int} {n : Nat} (Pv : Nat → St → Hp → Prop) (h0 : Pv 0 σ H)
    (hs : ∀ (i : Nat) σ H, i < n → Pv i σ H → g (.int (lo + i)) σ H fun σ2 H2 => t { nx := Pv (i + 1), rt := D.rt, ct := Pv (i + 1), bk := D.nx } σ2 H2) (hd : ∀ σ H, Pv n σ H → D.nx σ H) : FG (Itr lo n) g t D σ H := for_range Pv h0 hs hd
def CG (J : It) (nt : Nat) (cap : List Nat) (g : TG) (tt : TT) (te : TE) (σ : St) (H1 : Hp) (Q : VK) (l : Addr) : Prop :=
  ∃ W : Nat → Nat → St → Hp → Prop, (∃ m, W 0 m (capS nt cap σ) (upd H1 l (.lst []))) ∧ ∀ i m σ' H', W i m σ' H' →
    (J.stop i H' ∧ Q (.ref l) H') ∨ (J.go i H' ∧ ∀ x H2, J.yld i H' x H2 → g x σ' H2 fun σ2 H3 => tt σ2 H3 fun b H4 =>
      if b = true then te σ2 H4 fun y H5 => ∃ xs, H5 l = some (.lst xs) ∧ xs.length < sizeLine ∧ ∃ m', m' < m ∧ W (i + 1) m' σ2 (upd H5 l (.lst (xs ++ [y])))
      else ∃ m', m' < m ∧ W (i + 1) m' σ2 H4)
theorem ap_comp {wi : TI} {nt : Nat} {cap : List Nat} : tComp wi nt cap g tt te σ H Q = wi σ H fun J H1 => ∀ l, H1 l = none → CG J nt cap g tt te σ H1 Q l := rfl
theorem cg_by {J : It} {nt n : Nat} {cap : List Nat} {l : Addr} {H₀ : Hp} {R : Nat → V → Hp → Prop} (hJ : Jw J H₀ n R) (P : Nat → List V → Hp → Prop) (hz : n ≤ sizeLine) (off : Off l P) (fr : H₀ l = none) (h0 : P 0 [] H₀)
    (step : ∀ (i m : Nat) (x : V) (acc : List V) (pre : St) (H : Hp), R i x H → pre.length = nt → Ct n nt l (cap.map fun k => (σ[k]?).join) H₀ P i m acc H →
      g x (pre ++ (cap.map fun k => (σ[k]?).join)) H fun σ2 H3 => tt σ2 H3 fun b H4 => if b = true then te σ2 H4 (CYes n nt l (cap.map fun k => (σ[k]?).join) H₀ P i m σ2) else CNo n nt l (cap.map fun k => (σ[k]?).join) H₀ P i m σ2 H4)
    (done : ∀ (acc : List V) (H : Hp), Same H₀ H → H l = some (.lst acc) → P n acc H → Q (.ref l) H) : CG J nt cap g tt te σ H₀ Q l := comp_by hJ P hz off fr h0 step done
theorem wh_ix (W : Nat → St → Hp → Prop) (m0 : Nat) (h0 : W m0 σ H)
    (hs : ∀ m σ H, W m σ H → ∃ b : Bool, (∀ B : Bool → Hp → Prop, B b H → tt σ H B) ∧
      (b = true → ∀ N : St → Hp → Prop, (∀ σ' H' m', m' < m → W m' σ' H' → N σ' H') → t { nx := N, rt := D.rt, ct := N, bk := D.nx } σ H) ∧ (b = false → D.nx σ H)) : tWhile tt t D σ H := by
  refine ⟨W, ⟨m0, h0⟩, fun m σ H w => ?_⟩
  obtain ⟨b, h1, h2, h3⟩ := hs m σ H w
  refine h1 _ ?_
  cases b with
  | true =>
    rw [if_pos rfl]
    exact ⟨fun σ' H' => ∃ m', m' < m ∧ W m' σ' H', fun _ _ h => h, h2 rfl _ fun σ' H' m' h h' => ⟨m', h, h'⟩⟩
  | false =>
    rw [if_neg Bool.false_ne_true]
    exact h3 rfl
theorem cut1 {s1 r : TS} (M : St → Hp → Prop) (h : ∀ N : St → Hp → Prop, (∀ σ' H', M σ' H' → N σ' H') → (s1) { nx := N, rt := D.rt, bk := D.bk, ct := D.ct } σ H) (h2 : ∀ σ' H', M σ' H' → r D σ' H') : (tSeq s1 (r)) D σ H := h (r D) h2
theorem cut2 {s1 s2 r : TS} (M : St → Hp → Prop) (h : ∀ N : St → Hp → Prop, (∀ σ' H', M σ' H' → N σ' H') → (tSeq s1 (s2)) { nx := N, rt := D.rt, bk := D.bk, ct := D.ct } σ H) (h2 : ∀ σ' H', M σ' H' → r D σ' H') : (tSeq s1 (tSeq s2 (r))) D σ H := h (r D) h2
theorem cut3 {s1 s2 s3 r : TS} (M : St → Hp → Prop) (h : ∀ N : St → Hp → Prop, (∀ σ' H', M σ' H' → N σ' H') → (tSeq s1 (tSeq s2 (s3))) { nx := N, rt := D.rt, bk := D.bk, ct := D.ct } σ H) (h2 : ∀ σ' H', M σ' H' → r D σ' H') : (tSeq s1 (tSeq s2 (tSeq s3 (r)))) D σ H := h (r D) h2
end
end L2
namespace OM
open PySem
theorem and_nat (a b : Nat) : Builtin.bitAnd (a : Int) (b : Int) = ((a &&& b : Nat) : Int) := by
  simp [Builtin.bitAnd]
theorem or_nat (a b : Nat) : Builtin.bitOr (a : Int) (b : Int) = ((a ||| b : Nat) : Int) := by
  have h1 : ¬ (0 ≤ Builtin.bitNot (a : Int)) := by unfold Builtin.bitNot; omega
  have h2 : ¬ (0 ≤ Builtin.bitNot (b : Int)) := by unfold Builtin.bitNot; omega
  have e1 : (Builtin.bitNot (Builtin.bitNot (a : Int))).toNat = a := by unfold Builtin.bitNot; omega
  have e2 : (Builtin.bitNot (Builtin.bitNot (b : Int))).toNat = b := by unfold Builtin.bitNot; omega
  unfold Builtin.bitOr Builtin.bitAnd
  simp only [h1, h2, decide_false, e1, e2]
  unfold Builtin.bitNot
  omega
theorem and_one (a : Nat) : Builtin.bitAnd (a : Int) 1 = if a.testBit 0 then 1 else 0 := by
  rw [show (1 : Int) = ((1 : Nat) : Int) from rfl, and_nat, Nat.and_one_is_mod, Nat.testBit_zero]
  by_cases h : a % 2 = 1
  · simp [h]
  · have : a % 2 = 0 := by omega
    simp [this]
theorem shr_nat (a k : Nat) : (a : Int) / 2 ^ (k : Int).toNat = ((a >>> k : Nat) : Int) := by
  rw [Int.toNat_natCast, Nat.shiftRight_eq_div_pow]
  push_cast
  rfl
theorem bit_at (a k : Nat) : Builtin.bitAnd ((a : Int) / 2 ^ (k : Int).toNat) 1 = if a.testBit k then 1 else 0 := by
  rw [shr_nat, and_one, Nat.testBit_shiftRight, Nat.add_zero]
theorem shl_nat (a k : Nat) : (a : Int) * 2 ^ (k : Int).toNat = ((a <<< k : Nat) : Int) := by
  rw [Int.toNat_natCast, Nat.shiftLeft_eq]
  push_cast
  rfl
def len (a : Nat) : Nat := if a = 0 then 0 else a.log2 + 1
theorem lt_len (a : Nat) : a < 2 ^ len a := by
  unfold len
  split
  · omega
  · exact Nat.lt_log2_self
theorem bits_len (a : Nat) : Builtin.Int.intBits (a : Int) = len a := by
  unfold Builtin.Int.intBits len
  by_cases h : a = 0
  · subst h; rfl
  · have : ((a : Int) == 0) = false := by simpa using h
    rw [this, if_neg h]
    rfl
theorem len_le {a m : Nat} (h : a < 2 ^ m) : len a ≤ m := by
  unfold len
  split
  · omega
  · rename_i h0
    exact (Nat.log2_lt h0).mpr h
def places (a : Nat) : List Nat := (List.range (len a)).filter a.testBit
theorem places_of_lt {a m : Nat} (h : a < 2 ^ m) : places a = (List.range m).filter a.testBit := by
  have hl := len_le h
  obtain ⟨d, rfl⟩ : ∃ d, m = len a + d := ⟨m - len a, by omega⟩
  clear hl h
  induction d with
  | zero => rfl
  | succ d ih =>
    rw [← Nat.add_assoc, List.range_succ, List.filter_append, ← ih]
    have : a.testBit (len a + d) = false := Nat.testBit_lt_two_pow (Nat.lt_of_lt_of_le (lt_len a) (Nat.pow_le_pow_right (by decide) (by omega)))
    simp [this]
theorem mem_places {a k : Nat} : k ∈ places a ↔ a.testBit k = true := by
  unfold places
  rw [List.mem_filter, List.mem_range]
  constructor
  · exact fun h => h.2
  · intro h
    refine ⟨?_, h⟩
    apply Nat.lt_of_not_le
    intro hle
    rw [Nat.testBit_lt_two_pow (Nat.lt_of_lt_of_le (lt_len a) (Nat.pow_le_pow_right (by decide) hle))] at h
    cases h
def ones (a : Nat) : Nat := if h : a = 0 then 0 else a % 2 + ones (a / 2)
  termination_by a
  decreasing_by omega
def lies (a b : Nat) : Bool := if h : a = 0 then true else if a % 2 = 1 ∧ b % 2 = 0 then false else lies (a / 2) (b / 2)
  termination_by a
  decreasing_by omega
end OM
namespace OM
open PySem
def bits (ks : List Nat) : Nat := ks.foldl (fun b k => b ||| 1 <<< k) 0
theorem foldl_or (ks : List Nat) : ∀ (b j : Nat), (ks.foldl (fun b k => b ||| 1 <<< k) b).testBit j = (b.testBit j || decide (j ∈ ks)) := by
  induction ks with
  | nil => intro b j; simp
  | cons k ks ih =>
    intro b j
    rw [List.foldl_cons, ih, Nat.testBit_or, Nat.shiftLeft_eq, Nat.one_mul, Nat.testBit_two_pow]
    by_cases h : k = j
    · subst h; simp
    · have h' : ¬ j = k := fun e => h e.symm
      simp [h, h', List.mem_cons]
theorem testBit_bits (ks : List Nat) (j : Nat) : (bits ks).testBit j = decide (j ∈ ks) := by
  unfold bits
  rw [foldl_or]
  simp
theorem bits_snoc (ks : List Nat) (k : Nat) : bits (ks ++ [k]) = bits ks ||| 1 <<< k := by
  unfold bits
  rw [List.foldl_append]
  rfl
def worth (ks : List Nat) : Nat → Nat
  | 0 => 0
  | n + 1 => worth ks n + if n ∈ ks then 2 ^ n else 0
end OM
namespace L2
theorem inV_nat (k : Nat) (ks : List Nat) : inV (.int k) (ks.map fun j : Nat => V.int j) = decide (k ∈ ks) := by
  unfold inV
  rw [Bool.eq_iff_iff, List.any_eq_true, decide_eq_true_iff]
  constructor
  · rintro ⟨x, hx, e⟩
    obtain ⟨j, hj, rfl⟩ := List.mem_map.mp hx
    have : (j : Int) = k := by simpa [eqV_ii] using e
    have : j = k := by omega
    subst this; exact hj
  · intro h
    exact ⟨.int k, List.mem_map.mpr ⟨k, h, rfl⟩, by simp [eqV_ii]⟩
theorem flat_nats (ks : List Nat) : (ks.map fun j : Nat => V.int j).all flatV = true := by
  rw [List.all_eq_true]
  intro x hx
  obtain ⟨j, _, rfl⟩ := List.mem_map.mp hx
  rfl
theorem eqd_ints {K : PySem.W.Frag} {H : Hp} {a b : PySem.Addr} {xs ys : List Int} {n : Nat} (hx : SqL K H a (xs.map V.int)) (hy : SqL K H b (ys.map V.int)) : EqD K H (n + 1) (.ref a) (.ref b) (decide (xs = ys)) := by
  by_cases hl : xs.length = ys.length
  · have e : decide (xs = ys) = (List.range (xs.map V.int).length).all fun i => decide (xs[i]? = ys[i]?) := by
      rw [Bool.eq_iff_iff, decide_eq_true_iff, List.all_eq_true, List.length_map]
      constructor
      · intro h i _; rw [h]; simp
      · intro h
        apply List.ext_getElem?
        intro i
        by_cases hi : i < xs.length
        · exact of_decide_eq_true (h i (List.mem_range.mpr hi))
        · rw [List.getElem?_eq_none (by omega), List.getElem?_eq_none (by omega)]
    rw [e]
    refine .lst hx hy (by simpa using hl) fun i x y ex ey => ?_
    rw [List.getElem?_map] at ex ey
    cases e1 : xs[i]? with
    | none => rw [e1] at ex; cases ex
    | some p =>
      cases e2 : ys[i]? with
      | none => rw [e2] at ey; cases ey
      | some q =>
        rw [e1] at ex; rw [e2] at ey
        cases ex; cases ey
        have := EqD.flat (K := K) (H := H) (n := n) (x := .int p) (y := .int q) rfl rfl
        have e3 : eqV (.int p) (.int q) = decide (some p = some q) := by simp [eqV_ii, Bool.beq_eq_decide_eq]
        rw [← e3]; exact this
  · have e : decide (xs = ys) = false := decide_eq_false fun z => hl (by rw [z])
    rw [e]
    exact .lsl hx hy (by simpa using hl)
theorem nats_ints (ks : List Nat) : (ks.map fun j : Nat => V.int j) = (ks.map fun j : Nat => (j : Int)).map V.int := by rw [List.map_map]; rfl
theorem natlist_inj {xs ys : List Nat} : (xs.map fun j : Nat => (j : Int)) = (ys.map fun j : Nat => (j : Int)) ↔ xs = ys := by
  constructor
  · intro h
    induction xs generalizing ys with
    | nil => cases ys with
      | nil => rfl
      | cons _ _ => cases h
    | cons x xs ih => cases ys with
      | nil => cases h
      | cons y ys =>
        rw [List.map_cons, List.map_cons] at h
        injection h with h1 h2
        rw [ih h2, show x = y by omega]
  · intro h; rw [h]
theorem eqd_nats {K : PySem.W.Frag} {H : Hp} {a b : PySem.Addr} {xs ys : List Nat} {n : Nat} (hx : SqL K H a (xs.map fun j : Nat => V.int j)) (hy : SqL K H b (ys.map fun j : Nat => V.int j)) : EqD K H (n + 1) (.ref a) (.ref b) (decide (xs = ys)) := by
  rw [nats_ints] at hx hy
  have := eqd_ints (n := n) hx hy
  have e : decide (xs = ys) = decide ((xs.map fun j : Nat => (j : Int)) = (ys.map fun j : Nat => (j : Int))) := by rw [decide_eq_decide]; exact natlist_inj.symm
  rw [e]; exact this
theorem cutV_take {xs : List V} (k : Nat) : cutV xs none (some (k : Int)) = xs.take k := by
  unfold cutV
  rw [HT.sIx_none, HT.sIx_nat, List.drop_zero, Nat.sub_zero]
  by_cases h : k ≤ xs.length
  · rw [Nat.min_eq_left h]
  · rw [Nat.min_eq_right (by omega), List.take_length, List.take_of_length_le (by omega)]
end L2
namespace OM
inductive Reach (ps : List (Nat × Nat)) : Nat → Nat → Prop
  | refl (k : Nat) : Reach ps k k
  | step {j k m : Nat} : Reach ps j k → (k, m) ∈ ps → Reach ps j m
theorem Reach.iff {ps : List (Nat × Nat)} {j m : Nat} : Reach ps j m ↔ j = m ∨ ∃ k, (k, m) ∈ ps ∧ Reach ps j k := by
  constructor
  · intro h
    cases h with
    | refl => exact .inl rfl
    | step h1 h2 => exact .inr ⟨_, h2, h1⟩
  · rintro (rfl | ⟨k, h2, h1⟩)
    · exact .refl _
    · exact .step h1 h2
theorem Reach.trans {ps : List (Nat × Nat)} {a b c : Nat} (h : Reach ps a b) (h2 : Reach ps b c) : Reach ps a c := by
  induction h2 with
  | refl => exact h
  | step _ e ih => exact .step ih e
theorem Reach.lt {ps : List (Nat × Nat)} {n : Nat} (hp : ∀ p ∈ ps, p.1 < n ∧ p.2 < n) {j k : Nat} (r : Reach ps j k) (hk : k < n) : j < n := by
  induction r with
  | refl => exact hk
  | step _ e ih => exact ih (hp _ e).1
theorem getD_lt {ds : List Nat} {i : Nat} (h : i < ds.length) : ds.getD i 0 = ds[i] := by simp [List.getD, List.getElem?_eq_getElem h]
theorem getD_set_self {ds : List Nat} {i v : Nat} (h : i < ds.length) : (ds.set i v).getD i 0 = v := by simp [List.getD, List.getElem?_set, h]
theorem getD_set_ne {ds : List Nat} {i j v : Nat} (h : i ≠ j) : (ds.set i v).getD j 0 = ds.getD j 0 := by simp [List.getD, List.getElem?_set, h]
def Downs (n : Nat) (ps : List (Nat × Nat)) (ds : List Nat) : Prop := ds.length = n ∧ ∀ h, h < n → ∀ l, (ds.getD h 0).testBit l = true ↔ Reach ps l h
def Laid (row : List Nat) (ps : List (Nat × Nat)) : Prop := ∀ l h, (l, h) ∈ ps → ∃ i j : Nat, i < j ∧ row[i]? = some l ∧ row[j]? = some h
theorem Laid.lt {row : List Nat} {ps : List (Nat × Nat)} {n : Nat} (h : Laid row ps) (hr : row.Perm (List.range n)) : ∀ p ∈ ps, p.1 < n ∧ p.2 < n := by
  rintro ⟨l, t⟩ hp
  obtain ⟨i, j, _, e1, e2⟩ := h l t hp
  have m1 := hr.mem_iff.mp (List.mem_of_getElem? e1)
  have m2 := hr.mem_iff.mp (List.mem_of_getElem? e2)
  exact ⟨List.mem_range.mp m1, List.mem_range.mp m2⟩
theorem nodup_at {row : List Nat} (h : row.Nodup) {i j x : Nat} (h1 : row[i]? = some x) (h2 : row[j]? = some x) : i = j := by
  obtain ⟨l1, e1⟩ := List.getElem?_eq_some_iff.mp h1
  obtain ⟨l2, e2⟩ := List.getElem?_eq_some_iff.mp h2
  exact (List.getElem_inj h).mp (e1.trans e2.symm)
def dStep (h : Nat) (ds : List Nat) (p : Nat × Nat) : List Nat := if p.2 = h then ds.set h (ds.getD h 0 ||| ds.getD p.1 0) else ds
def dRow (ps : List (Nat × Nat)) (ds : List Nat) (h : Nat) : List Nat := ps.foldl (dStep h) (ds.set h (1 <<< h))
def lawDowns (row : List Nat) (ps : List (Nat × Nat)) : List Nat := row.foldl (dRow ps) (List.replicate row.length 0)
theorem dStep_no {h a b : Nat} {ds : List Nat} (hb : ¬ b = h) : dStep h ds (a, b) = ds := by unfold dStep; rw [if_neg hb]
theorem dStep_len {h : Nat} {ds : List Nat} {p : Nat × Nat} : (dStep h ds p).length = ds.length := by unfold dStep; split <;> simp
theorem dSteps_len {h : Nat} {qs : List (Nat × Nat)} : ∀ {ds : List Nat}, (qs.foldl (dStep h) ds).length = ds.length := by
  induction qs with
  | nil => intro ds; rfl
  | cons q qs ih => intro ds; rw [List.foldl_cons, ih, dStep_len]
theorem dRow_len {ps : List (Nat × Nat)} {ds : List Nat} {h : Nat} : (dRow ps ds h).length = ds.length := by unfold dRow; rw [dSteps_len, List.length_set]
theorem dRows_len {ps : List (Nat × Nat)} {row : List Nat} : ∀ {ds : List Nat}, (row.foldl (dRow ps) ds).length = ds.length := by
  induction row with
  | nil => intro ds; rfl
  | cons q qs ih => intro ds; rw [List.foldl_cons, ih, dRow_len]
theorem dSteps_ne {h j : Nat} (hj : h ≠ j) {qs : List (Nat × Nat)} : ∀ {ds : List Nat}, (qs.foldl (dStep h) ds).getD j 0 = ds.getD j 0 := by
  induction qs with
  | nil => intro ds; rfl
  | cons q qs ih =>
    intro ds
    rw [List.foldl_cons, ih]
    unfold dStep
    split
    · exact getD_set_ne hj
    · rfl
theorem dSteps_bit {h x : Nat} {qs : List (Nat × Nat)} : ∀ {ds : List Nat}, h < ds.length → (∀ l, (l, h) ∈ qs → l ≠ h) →
    (((qs.foldl (dStep h) ds).getD h 0).testBit x = true ↔ (ds.getD h 0).testBit x = true ∨ ∃ l, (l, h) ∈ qs ∧ (ds.getD l 0).testBit x = true) := by
  induction qs with
  | nil => intro ds _ _; simp
  | cons q qs ih =>
    intro ds hl hq
    obtain ⟨a, b⟩ := q
    rw [List.foldl_cons, ih (by rw [dStep_len]; exact hl) fun l m => hq l (List.mem_cons_of_mem _ m)]
    by_cases hb : b = h
    · subst hb
      have ha := hq a List.mem_cons_self
      have e1 : dStep b ds (a, b) = ds.set b (ds.getD b 0 ||| ds.getD a 0) := by unfold dStep; simp
      rw [e1, getD_set_self hl, Nat.testBit_or, Bool.or_eq_true]
      constructor
      · rintro ((h1 | h1) | ⟨l, m, h1⟩)
        · exact .inl h1
        · exact .inr ⟨a, List.mem_cons_self, h1⟩
        · rw [getD_set_ne (fun z => hq l (List.mem_cons_of_mem _ m) z.symm)] at h1
          exact .inr ⟨l, List.mem_cons_of_mem _ m, h1⟩
      · rintro (h1 | ⟨l, m, h1⟩)
        · exact .inl (.inl h1)
        · rcases List.mem_cons.mp m with e | m
          · cases e; exact .inl (.inr h1)
          · refine .inr ⟨l, m, ?_⟩
            rw [getD_set_ne (fun z => hq l (List.mem_cons_of_mem _ m) z.symm)]
            exact h1
    · have e1 : dStep h ds (a, b) = ds := by unfold dStep; simp [hb]
      rw [e1]
      constructor
      · rintro (h1 | ⟨l, m, h1⟩)
        · exact .inl h1
        · exact .inr ⟨l, List.mem_cons_of_mem _ m, h1⟩
      · rintro (h1 | ⟨l, m, h1⟩)
        · exact .inl h1
        · rcases List.mem_cons.mp m with e | m
          · cases e; exact absurd rfl hb
          · exact .inr ⟨l, m, h1⟩
theorem bit_one (h x : Nat) : (1 <<< h).testBit x = true ↔ x = h := by
  rw [Nat.shiftLeft_eq, Nat.one_mul, Nat.testBit_two_pow, decide_eq_true_iff]
  exact eq_comm
theorem lawDowns_upto {row : List Nat} {ps : List (Nat × Nat)} {n : Nat} (hr : row.Perm (List.range n)) (hL : Laid row ps) : ∀ i, i ≤ row.length → ∀ j h, j < i → row[j]? = some h → ∀ x,
    ((((row.take i).foldl (dRow ps) (List.replicate row.length 0)).getD h 0).testBit x = true ↔ Reach ps x h) := by
  have hn : row.length = n := by rw [hr.length_eq, List.length_range]
  have hnd : row.Nodup := hr.nodup_iff.mpr List.nodup_range
  intro i
  induction i with
  | zero => intro _ j h hj; omega
  | succ i ih =>
    intro hi j h hj hrow x
    have hlt : i < row.length := by omega
    rw [List.take_add_one, List.getElem?_eq_getElem hlt, Option.toList_some, List.foldl_append, List.foldl_cons, List.foldl_nil]
    generalize hD : (row.take i).foldl (dRow ps) (List.replicate row.length 0) = D at ih ⊢
    have hDl : D.length = row.length := by rw [← hD, dRows_len, List.length_replicate]
    have hti : row[i]? = some row[i] := List.getElem?_eq_getElem hlt
    generalize ht : row[i] = t at hti ⊢
    have htn : t < n := List.mem_range.mp (hr.mem_iff.mp (List.mem_of_getElem? hti))
    by_cases hji : j = i
    · subst hji
      have : h = t := by rw [hrow] at hti; exact Option.some.inj hti
      subst this
      unfold dRow
      have hlow : ∀ l, (l, h) ∈ ps → ∃ k, k < j ∧ row[k]? = some l := fun l m => by
        obtain ⟨a, b, hab, e1, e2⟩ := hL l h m
        have := nodup_at hnd e2 hrow
        exact ⟨a, by omega, e1⟩
      have hne : ∀ l, (l, h) ∈ ps → l ≠ h := fun l m z => by
        subst z
        obtain ⟨k, hk, e⟩ := hlow l m
        have := nodup_at hnd e hrow
        omega
      rw [dSteps_bit (by rw [List.length_set]; omega) hne, getD_set_self (by omega), bit_one, Reach.iff]
      constructor
      · rintro (h1 | ⟨l, m, h1⟩)
        · exact .inl h1
        · rw [getD_set_ne (fun z => hne l m z.symm)] at h1
          obtain ⟨k, hk, e⟩ := hlow l m
          exact .inr ⟨l, m, (ih (by omega) k l hk e x).mp h1⟩
      · rintro (h1 | ⟨l, m, h1⟩)
        · exact .inl h1
        · obtain ⟨k, hk, e⟩ := hlow l m
          refine .inr ⟨l, m, ?_⟩
          rw [getD_set_ne (fun z => hne l m z.symm)]
          exact (ih (by omega) k l hk e x).mpr h1
    · have hth : t ≠ h := fun z => by
        subst z
        exact hji (nodup_at hnd hrow hti)
      unfold dRow
      rw [dSteps_ne hth, getD_set_ne hth]
      exact ih (by omega) j h (by omega) hrow x
theorem lawDowns_downs {row : List Nat} {ps : List (Nat × Nat)} {n : Nat} (hr : row.Perm (List.range n)) (hL : Laid row ps) : Downs n ps (lawDowns row ps) := by
  have hn : row.length = n := by rw [hr.length_eq, List.length_range]
  refine ⟨by unfold lawDowns; rw [dRows_len, List.length_replicate, hn], fun h hh l => ?_⟩
  obtain ⟨j, hj⟩ := List.mem_iff_getElem?.mp (hr.mem_iff.mpr (List.mem_range.mpr hh))
  have hjl : j < row.length := (List.getElem?_eq_some_iff.mp hj).1
  have := lawDowns_upto hr hL row.length (Nat.le_refl _) j h hjl hj l
  rw [List.take_length] at this
  exact this
def below (ds : List Nat) (ks : List Nat) : Nat := ks.foldl (fun t k => t ||| ds.getD k 0) 0
theorem below_from {ds : List Nat} {x : Nat} {ks : List Nat} : ∀ {t : Nat}, (ks.foldl (fun t k => t ||| ds.getD k 0) t).testBit x = true ↔ t.testBit x = true ∨ ∃ k, k ∈ ks ∧ (ds.getD k 0).testBit x = true := by
  induction ks with
  | nil => intro t; simp
  | cons k ks ih =>
    intro t
    rw [List.foldl_cons, ih, Nat.testBit_or, Bool.or_eq_true]
    constructor
    · rintro ((h | h) | ⟨j, m, h⟩)
      · exact .inl h
      · exact .inr ⟨k, List.mem_cons_self, h⟩
      · exact .inr ⟨j, List.mem_cons_of_mem _ m, h⟩
    · rintro (h | ⟨j, m, h⟩)
      · exact .inl (.inl h)
      · rcases List.mem_cons.mp m with e | m
        · subst e; exact .inl (.inr h)
        · exact .inr ⟨j, m, h⟩
theorem below_bit {ds : List Nat} {b x : Nat} : (below ds (places b)).testBit x = true ↔ ∃ k, b.testBit k = true ∧ (ds.getD k 0).testBit x = true := by
  unfold below
  rw [below_from]
  simp [mem_places]
end OM
namespace OM
structure RO (row : List Nat) (n : Nat) (ds : List Nat) : Prop where
  perm : row.Perm (List.range n)
  len : ds.length = n
  refl : ∀ i, i < n → (ds.getD i 0).testBit i = true
  dom : ∀ i l, i < n → (ds.getD i 0).testBit l = true → l < n
  trans : ∀ i j l, i < n → (ds.getD i 0).testBit j = true → (ds.getD j 0).testBit l = true → (ds.getD i 0).testBit l = true
  up : ∀ i l, i < n → (ds.getD i 0).testBit l = true → l ≠ i → ∃ a b : Nat, a < b ∧ row[a]? = some l ∧ row[b]? = some i
theorem RO.nodup {row ds : List Nat} {n : Nat} (R : RO row n ds) : row.Nodup := R.perm.nodup_iff.mpr List.nodup_range
theorem RO.anti {row ds : List Nat} {n i j : Nat} (R : RO row n ds) (hi : i < n) (h1 : (ds.getD i 0).testBit j = true) (h2 : (ds.getD j 0).testBit i = true) : i = j := by
  apply Classical.byContradiction
  intro hne
  have hj := R.dom i j hi h1
  obtain ⟨a, b, hab, e1, e2⟩ := R.up i j hi h1 (fun z => hne z.symm)
  obtain ⟨c, d, hcd, e3, e4⟩ := R.up j i hj h2 hne
  have := nodup_at R.nodup e1 e4
  have := nodup_at R.nodup e2 e3
  omega
theorem reach_up {row : List Nat} {ps : List (Nat × Nat)} {n : Nat} (hr : row.Perm (List.range n)) (hL : Laid row ps) {l h : Nat} (r : Reach ps l h) : l = h ∨ ∃ a b : Nat, a < b ∧ row[a]? = some l ∧ row[b]? = some h := by
  have hnd : row.Nodup := hr.nodup_iff.mpr List.nodup_range
  induction r with
  | refl => exact .inl rfl
  | @step k m hjk e ih =>
    right
    obtain ⟨c, d, hcd, e3, e4⟩ := hL _ _ e
    rcases ih with rfl | ⟨a, b, hab, e1, e2⟩
    · exact ⟨c, d, hcd, e3, e4⟩
    · have := nodup_at hnd e2 e3
      exact ⟨a, d, by omega, e1, e4⟩
theorem Downs.ro {row ds : List Nat} {ps : List (Nat × Nat)} {n : Nat} (h : Downs n ps ds) (hr : row.Perm (List.range n)) (hL : Laid row ps) : RO row n ds where
  perm := hr
  len := h.1
  refl := fun i hi => (h.2 i hi i).mpr (.refl i)
  dom := fun i l hi hb => ((h.2 i hi l).mp hb).lt (hL.lt hr) hi
  trans := fun i j l hi h1 h2 => by
    have hj := ((h.2 i hi j).mp h1).lt (hL.lt hr) hi
    exact (h.2 i hi l).mpr (((h.2 j hj l).mp h2).trans ((h.2 i hi j).mp h1))
  up := fun i l hi hb hne => by
    rcases reach_up hr hL ((h.2 i hi l).mp hb) with z | z
    · exact absurd z hne
    · exact z
end OM
namespace OM
open PySem
end OM
namespace OM
end OM
namespace OM
def numsIn (tn : List Nat) (b : Nat) : Nat := bits ((List.range tn.length).filter fun k => b.testBit (tn.getD k 0))
def part (ds tn : List Nat) : List Nat := tn.map fun t => numsIn tn (ds.getD t 0)
end OM
namespace L2
open PySem
def nv (ks : List Nat) : List V := ks.map fun k : Nat => V.int k
theorem nv_len (ks : List Nat) : (nv ks).length = ks.length := List.length_map _
theorem nv_get {ks : List Nat} {i : Nat} (h : i < ks.length) : (nv ks)[i]? = some (.int (ks.getD i 0 : Nat)) := by
  unfold nv
  rw [List.getElem?_map, List.getElem?_eq_getElem h, OM.getD_lt h]; rfl
theorem nv_some {ks : List Nat} {i : Nat} {x : V} (h : (nv ks)[i]? = some x) : ∃ k, ks[i]? = some k ∧ x = .int (k : Nat) := by
  unfold nv at h
  rw [List.getElem?_map] at h
  cases e : ks[i]? with
  | none => rw [e] at h; cases h
  | some k => rw [e] at h; cases h; exact ⟨k, rfl, rfl⟩
theorem nv_at {ks : List Nat} {i : Nat} (h : i < ks.length) : atI (nv ks) (i : Int) = some (.int (ks.getD i 0 : Nat)) := atI_nat (nv_get h)
theorem nv_ix {ks : List Nat} {i : Nat} (h : i < ks.length) : ixN (nv ks).length (i : Int) = some i := by
  unfold ixN
  rw [nv_len, if_pos (by omega), if_pos (by omega)]; simp
theorem nv_set (ks : List Nat) (i v : Nat) : (nv ks).set i (.int (v : Nat)) = nv (ks.set i v) := by unfold nv; rw [List.map_set]
theorem nv_app (ks : List Nat) (k : Nat) : nv ks ++ [V.int (k : Nat)] = nv (ks ++ [k]) := by unfold nv; rw [List.map_append]; rfl
theorem nv_rep (n : Nat) : List.replicate n (V.int 0) = nv (List.replicate n 0) := by unfold nv; rw [List.map_replicate]; rfl
theorem nv_ints (ks : List Nat) : nv ks = (ks.map fun j : Nat => (j : Int)).map V.int := nats_ints ks
theorem flat_nv (ks : List Nat) : (nv ks).all flatV = true := flat_nats ks
theorem in_nv (k : Nat) (ks : List Nat) : inV (.int k) (nv ks) = decide (k ∈ ks) := inV_nat k ks
theorem shl1 (j : Nat) : (1 : Int) * (2 : Int) ^ (j : Int).toNat = ((1 <<< j : Nat) : Int) := OM.shl_nat 1 j
theorem Same.write {H H' : Hp} {l : Addr} {o : HO} (s : Same H H') (h : H l = none) : Same H (L2.upd H' l o) := fun b u e => by
  rw [upd_ne (ne_of_none e h)]; exact s _ _ e
def rv (rs : List Addr) : List V := rs.map V.ref
theorem rv_len (rs : List Addr) : (rv rs).length = rs.length := List.length_map _
theorem rv_app (rs : List Addr) (r : Addr) : rv rs ++ [V.ref r] = rv (rs ++ [r]) := by unfold rv; rw [List.map_append]; rfl
theorem rv_some {rs : List Addr} {i : Nat} {x : V} (h : (rv rs)[i]? = some x) : ∃ r, rs[i]? = some r ∧ x = .ref r := by
  unfold rv at h
  rw [List.getElem?_map] at h
  cases e : rs[i]? with
  | none => rw [e] at h; cases h
  | some k => rw [e] at h; cases h; exact ⟨k, rfl, rfl⟩
def PrA (K : PySem.W.Frag) (H : Hp) (rs : List Addr) (ps : List (Int × Int)) : Prop := Paired (fun r (p : Int × Int) => SqT K H r [.int p.1, .int p.2]) rs ps
def np (p : Nat × Nat) : Int × Int := ((p.1 : Int), (p.2 : Int))
section
variable {K : PySem.W.Frag} {H H' : Hp} {rs : List Addr} {ps : List (Int × Int)}
theorem PrA.nil : PrA K H [] [] := Paired.nil
theorem PrA.len (h : PrA K H rs ps) : rs.length = ps.length := Paired.length h
theorem PrA.same (h : PrA K H rs ps) (s : Same H H') : PrA K H' rs ps := Paired.mapP h fun _ _ q => s.tup q
theorem PrA.snoc {r : Addr} {p : Int × Int} (h : PrA K H rs ps) (q : SqT K H r [.int p.1, .int p.2]) : PrA K H (rs ++ [r]) (ps ++ [p]) := Paired.snoc h q
theorem PrA.get (h : PrA K H rs ps) {i : Nat} {r : Addr} (e : rs[i]? = some r) : ∃ p, ps[i]? = some p ∧ SqT K H r [.int p.1, .int p.2] := by
  unfold PrA at h
  induction h generalizing i with
  | nil => simp at e
  | cons a _ ih =>
    cases i with
    | zero => simp at e; subst e; exact ⟨_, rfl, a⟩
    | succ i => exact ih (by simpa using e)
theorem PrA.getN {ps : List (Nat × Nat)} (h : PrA K H rs (ps.map np)) {i : Nat} {r : Addr} (e : rs[i]? = some r) : ∃ p, ps[i]? = some p ∧ SqT K H r [.int (p.1 : Nat), .int (p.2 : Nat)] := by
  obtain ⟨p, e1, q⟩ := h.get e
  rw [List.getElem?_map] at e1
  cases e2 : ps[i]? with
  | none => rw [e2] at e1; cases e1
  | some p' => rw [e2] at e1; cases e1; exact ⟨p', rfl, q⟩
theorem SqT.write {l r : Addr} {xs ys zs : List V} (h : SqT K H r zs) (e : H l = some (.lst xs)) : SqT K (upd H l (.lst ys)) r zs := by
  rcases h with (h | ⟨o, h⟩) | h
  · exact .inl (.inl (by rw [upd_ne (ne_of h e (by intro z; cases z))]; exact h))
  · exact .inl (.inr ⟨o, by rw [upd_ne (ne_of h e (by intro z; cases z))]; exact h⟩)
  · exact .inr h
theorem PrA.write {l : Addr} {xs ys : List V} (h : PrA K H rs ps) (e : H l = some (.lst xs)) : PrA K (upd H l (.lst ys)) rs ps := Paired.mapP h fun _ _ q => SqT.write q e
end
end L2
namespace OM
theorem Laid.nil {row : List Nat} : Laid row [] := fun _ _ h => nomatch h
theorem Laid.snoc {row : List Nat} {ps : List (Nat × Nat)} {i j l t : Nat} (h : Laid row ps) (hij : i < j) (e1 : row[i]? = some l) (e2 : row[j]? = some t) : Laid row (ps ++ [(l, t)]) := by
  intro a b m
  rcases List.mem_append.mp m with m | m
  · exact h a b m
  · rw [List.mem_singleton] at m; cases m; exact ⟨i, j, hij, e1, e2⟩
end OM
namespace L2
open PySem PySem.Spec PyProof.Rows
def Ite (K : PySem.W.Frag) (a : Addr) : It :=
  ⟨fun i H => ∃ xs x, SqL K H a xs ∧ xs[i]? = some x, fun i H x H' => ∃ T y, H T = none ∧ x = .ref T ∧ (∀ xs, SqL K H a xs → xs[i]? = some y) ∧ H' = upd H T (.tup [.int (i : Nat), y]), fun i H => ∃ xs, SqL K H a xs ∧ xs.length ≤ i⟩
theorem turn_enum {P : Program} {w : World} {K : PySem.W.Frag} {es : List Expr} {k : Nat} {tpos : Pos} (a e it : Addr) (hei : e ≠ it) : Turn P w K (.Tuple es k tpos) (Ite K a) [e, it] e (fun i h => (∃ old, IsEnum h e it (i : Nat) old) ∧ h.IsListIter it a i) where
  mem := by simp
  obj := fun i h st b hb => by
    obtain ⟨⟨old, he⟩, hit⟩ := st
    rcases List.mem_cons.mp hb with z | hb
    · subst z
      exact ⟨_, he, fun v z => by
        have z' : Data.fields _ = Data.cell v := z
        cases z'⟩
    · have z : b = it := by simpa using hb
      subst z
      obtain ⟨o, e, c, d⟩ := hit
      exact ⟨o, e, fun v z => by rw [d] at z; cases z⟩
  keep := fun i h h' st k => by
    obtain ⟨⟨old, he⟩, hit⟩ := st
    exact ⟨⟨old, k e (by simp) _ he⟩, hit.at fun o e => k it (by simp) o e⟩
  item := by
    intro X hP hw hK hc i pins s σ H E I hf st hg
    subst hP hw hK
    obtain ⟨⟨old, he⟩, hit⟩ := st
    obtain ⟨xs, x, hq, hx⟩ := hg
    obtain ⟨its, rv, p, hz⟩ := I.list hq
    obtain ⟨u, hu, ru⟩ := rv.get hx
    obtain ⟨f0, f1, f2, f3, f4, f5⟩ := hf e (by simp)
    obtain ⟨g0, g1, g2, g3, g4, g5⟩ := hf it (by simp)
    refine wpAny_pyNext_enum_item he hit p.isList (x := u) (by simpa using hu) hei fun h1 ho hit1 hT hsz hk => ⟨_, rfl, ?_⟩
    refine wpAny_letOwnedTupleGo_enum ho fun h2 he2 hs2 => ?_
    replace hs2 : Heap.SameBut e h1 h2 := hs2
    have hk2 : ∀ b o, b ≠ e → b ≠ it → s.heap.get? b = some o → h2.get? b = some o := fun b o z1 z2 q => hs2.extBut b o z1 (hk b o z1 z2 q)
    have ht2 := hs2.extBut _ _ (Nat.ne_of_gt (Heap.lt_size he)) hT
    have hn : ∀ b o, H b = some o → b ≠ e ∧ b ≠ it := fun b o q => ⟨ne_of_none q f0, ne_of_none q g0⟩
    have hok : HOk X.prog X.w (upd H s.heap.objs.size (.tup [.int (i : Nat), x])) h2 := fun b o q => by
      by_cases hb : b = s.heap.objs.size
      · subst hb
        rw [upd_same] at q
        cases q
        exact ⟨(by show 2 ≤ sizeLine; rw [sizeLine_eq]; decide), [.int i s.toks, u], .cons ⟨_, rfl⟩ (.cons ru .nil), _, ht2, rfl, _, rfl⟩
      · rw [upd_ne hb] at q
        refine (I.hok b o q).stay (fun c v hc r => ?_) (fun c r => by rw [upd_ne (ne_of_none r I.fresh)]; exact r) fun c ys r => by rw [upd_ne (ne_of_none r I.fresh)]; exact r
        rcases hc with z | z
        · subst z; exact hk2 c v (hn c _ q).1 (hn c _ q).2 r
        · exact hk2 c v (hn c _ z).1 (hn c _ z).2 r
    have out : ∀ b, b ∉ [e, it] → b ≠ e ∧ b ≠ it := fun b hb => ⟨fun z => hb (by simp [z]), fun z => hb (by simp [z])⟩
    have I2 : Inv X pins σ (upd H s.heap.objs.size (.tup [.int (i : Nat), x])) { s with heap := h2, toks := s.toks + 1 } := by
      refine I.call (g' := s.gens) (d' := s.drawn) (ch := [e, it]) ⟨fun b o q n _ hx => hk2 b o (out b hx).1 (out b hx).2 q, fun b o q n _ hx => ⟨o.slots, hk2 b o (out b hx).1 (out b hx).2 q⟩, fun b o q n hx => ?_, fun b o q hx => ⟨o, hk2 b o (out b hx).1 (out b hx).2 q⟩,
        fun b ys q => by rw [upd_ne (ne_of_none q I.fresh)]; exact q, fun b o ys q => by rw [upd_ne (ne_of_none q I.fresh)]; exact q, fun b ps q => ⟨#[], by rw [upd_ne (ne_of_none q I.fresh), q]; simp⟩⟩ hok I.bare fun b hb => ?_
      · rw [upd_ne (Nat.ne_of_lt (Heap.lt_size q))]; exact n
      · rcases List.mem_cons.mp hb with z | hb
        · subst z; exact ⟨f3, f1, f4, f5⟩
        · have z : b = it := by simpa using hb
          subst z; exact ⟨g3, g1, g4, g5⟩
    refine ⟨.ref _, _, I2, rfl, ⟨_, x, I.fresh, rfl, fun ys hy => by rw [I.list_inj hy hq]; exact hx, rfl⟩, ⟨⟨_, by simpa using he2⟩, hit1.at fun o q => (hs2.2 it hei.symm).trans q⟩, fun b hb => ?_⟩
    have hbs : b ≠ s.heap.objs.size := by
      rcases List.mem_cons.mp hb with z | hb
      · subst z; exact Nat.ne_of_lt (Heap.lt_size he)
      · have z : b = it := by simpa using hb
        subst z
        obtain ⟨o, q, _⟩ := hit
        exact Nat.ne_of_lt (Heap.lt_size q)
    rw [upd_ne hbs]
    exact (hf b hb).1
  done := by
    intro X hP hw hK hc i pins s σ H E I hf st hg
    subst hP hw hK
    obtain ⟨⟨old, he⟩, hit⟩ := st
    obtain ⟨xs, hq, hx⟩ := hg
    obtain ⟨its, rv, p, hz⟩ := I.list hq
    obtain ⟨g0, g1, g2, g3, g4, g5⟩ := hf it (by simp)
    have hl := rv.length
    exact wpAny_pyNext_enum_end (I.ok.hd hc) he hit p.isList (by simp; omega) fun h' eb => ⟨rfl, I.turned (t' := s.toks) (fun b o hb e => eb b o hb e) g0 g1 g3 g4 g5⟩
  self := fun _ _ _ _ _ st h => by
    obtain ⟨⟨old, he⟩, _⟩ := st
    exact wpAny_pyIter_enum he h
section
variable {X : Cx}
def iEnum (K : PySem.W.Frag) (ta : TA) : TI := fun σ H R => ta σ H fun vs H1 => ∃ a, vs = [.ref a] ∧ (∃ xs, SqL K H1 a xs) ∧ R (Ite K a) H1
theorem piEnum (K : PySem.W.Frag) {l : Expr} {ta : TA} {es : List Expr} {k : Nat} {tpos p pos : Pos} (hg : Gl X "enumerate") (hm : X.mg "enumerate" = none) (ha : PA X [l] ta) (hs : starEach [l] X.env = [(false, eval l X.env)] := by rfl) (hK : X.K = K := by rfl) :
    PI X (.Tuple es k tpos) (.Call (.Name "enumerate" p) [l] [] pos) (iEnum K ta) := by
  subst hK
  intro pins s σ H R I h
  refine Call_ (ld_blt I hg hm boot_enumerate (PyProof.Rows.callWith_type1 (thn (ha pos pins s σ H _ I h) fun us s1 ⟨vs, H1, I1, r1, q1⟩ => ?_) hs rfl))
  obtain ⟨a, e, ⟨xs, hq⟩, q⟩ := q1
  subst e
  obtain ⟨u, rfl, rx⟩ := vals1 r1
  cases rx
  obtain ⟨its, rv, pl, hz⟩ := I1.list hq
  refine call_enumerate_list pl.isList fun h' he hit hsz hk => ?_
  refine wpAny_pyIter_enum he ?_
  refine ⟨s1.heap.objs.size + 1, [s1.heap.objs.size + 1, s1.heap.objs.size], _, _, H1, rfl, I1.kept (t' := s1.toks) hk, turn_enum a _ _ (Nat.succ_ne_self _), ⟨⟨_, he⟩, hit⟩, fun b hb => ?_, q⟩
  have hb2 : s1.heap.objs.size ≤ b := by
    rcases List.mem_cons.mp hb with z | hb
    · subst z; exact Nat.le_succ _
    · have z : b = s1.heap.objs.size := by simpa using hb
      subst z; exact Nat.le_refl _
  exact I1.fpOk hb2 (I1.hok.fresh hb2)
end
section
variable {t : TS} {D : Ends} {σ : St} {H H₀ : Hp} {ti : TA} {g : TG} {K : PySem.W.Frag} {a : Addr} {xs : List V}
theorem ap_iEnum {R : It → Hp → Prop} : iEnum K ti σ H R = ti σ H fun vs H1 => ∃ a, vs = [.ref a] ∧ (∃ xs, SqL K H1 a xs) ∧ R (Ite K a) H1 := rfl
theorem jw_enum (h : SqL K H₀ a xs) : Jw (Ite K a) H₀ xs.length (fun i x H => ∃ T y, x = .ref T ∧ H T = some (.tup [.int (i : Nat), y]) ∧ xs[i]? = some y) where
  go := fun i H s hi => ⟨xs, xs[i], s.seq h, List.getElem?_eq_getElem hi⟩
  yld := fun i H x H' s hi y => by
    obtain ⟨T, y, hT, rfl, hy, rfl⟩ := y
    exact ⟨Same.upd hT, T, y, rfl, upd_same, hy xs (s.seq h)⟩
  stop := fun i H s hi => ⟨xs, s.seq h, hi⟩
end
end L2
namespace L2
open PySem PySem.Spec PyProof.Rows PySem.W
section
variable {prog : Program} {w : World} {A : Around} {E : Value → Shared → Prop} {s : Shared} {I l : Addr} {items : Array Value}
end
end L2
namespace L2
open OM
theorem nodup_len : ∀ (n : Nat) (l : List Nat), l.Nodup → (∀ x ∈ l, x < n) → l.length ≤ n
  | 0, l, _, h => by
    cases l with
    | nil => exact Nat.le_refl _
    | cons a r => exact absurd (h a (List.mem_cons_self)) (Nat.not_lt_zero _)
  | n + 1, l, hd, h => by
    by_cases q : n ∈ l
    · have h1 := nodup_len n (l.erase n) (hd.erase n) (fun x hx => by
        have := (hd.mem_erase_iff).mp hx
        have := h x this.2
        omega)
      rw [List.length_erase_of_mem q] at h1
      have := List.length_pos_of_mem q
      omega
    · have := nodup_len n l hd (fun x hx => by
        have := h x hx
        have : x ≠ n := fun e => q (e ▸ hx)
        omega)
      omega
end L2
namespace L2
open PySem PySem.Spec PyProof.Rows PySem.W
section
variable {X : Cx} {pins : List (Addr × Obj)} {σ : St} {H : Hp} {s : Shared} {h' : Heap}
end
section
variable {X : Cx} {e : Expr} {te : TE} {p1 p2 pos1 pos2 : Pos}
theorem ap_listRev {K : PySem.W.Frag} {σ : St} {H : Hp} {Q : VK} : tRev K te σ H Q = te σ H fun x H1 => ∃ a xs, x = .ref a ∧ SqL K H1 a xs ∧ ∀ p, H1 p = none → Q (.ref p) (upd H1 p (.lst xs.reverse)) := rfl
end
end L2
namespace L2
open PySem PySem.Spec PyProof.Rows PySem.W
def rIndex : V → List V → Hp → VK → Prop := fun x vs H Q => ∃ (l : Addr) (ns : List Int) (i : Int) (k : Nat), x = .ref l ∧ vs = [.int i] ∧ H l = some (.lst (ns.map V.int)) ∧ ns[k]? = some i ∧ (∀ m, m < k → ns[m]? ≠ some i) ∧ ns.length ≤ sizeLine ∧ Q (.int (k : Int)) H
theorem mt_index {X : Cx} : MtM X "list.index" rIndex := by
  intro pins s σ H x vs v us Q I rx rv h
  obtain ⟨l, ns, i, k, rfl, rfl, hH, hk, hno, hz, q⟩ := h
  cases rx
  obtain ⟨u, rfl, ru⟩ := rv.one
  obtain ⟨t, rfl⟩ := ru
  obtain ⟨z, its, n, r, hl, e⟩ := I.lstM hH
  have hkl := (List.getElem?_eq_some_iff.mp hk).1
  have hlen : its.length = ns.length := by rw [← r.length, List.length_map]
  have at1 : ∀ (m : Nat) (hm : m < its.toArray.size), ∃ j tj, ns[m]? = some j ∧ its.toArray[m] = .int j tj := fun m hm => by
    have hm2 : m < ns.length := by rw [← hlen]; simpa using hm
    obtain ⟨w, hw, j, rj⟩ := r.get (i := m) (x := .int ns[m]) (by rw [List.getElem?_map, List.getElem?_eq_getElem hm2]; rfl)
    refine ⟨ns[m], j, List.getElem?_eq_getElem hm2, ?_⟩
    have : its[m]? = some (.int ns[m] j) := by rw [hw, rj]
    simpa [List.getElem?_eq_some_iff] using (List.getElem?_eq_some_iff.mp this).2
  have hks : k < its.toArray.size := by rw [List.size_toArray, hlen]; exact hkl
  refine call_meets PySem.F.slot_list_index ⟨_, e, rfl⟩ PySem.F.entry_list_index (PySem.F.args_list_index_2 _ _)
    (MeetsSeq.list_index l its.toArray n (.int i t) (fun y => match y with | .int j _ => j == i | _ => false) (fun y hy => ?_) k hks (by rw [sizeLine_eq] at hz; omega) ?_ fun m hm hmk => ?_) ⟨e, ⟨.int (k : Int), H, I.tok _, ⟨_, rfl⟩, q⟩⟩
  · obtain ⟨m, hm, rfl⟩ := Array.mem_iff_getElem.mp hy
    obtain ⟨j, tj, _, ej⟩ := at1 m hm
    rw [ej]
    exact MeetsSeq.EqGives.int j i tj t
  · obtain ⟨j, tj, e1, ej⟩ := at1 k hks
    rw [hk] at e1
    cases e1
    rw [ej]
    simp
  · obtain ⟨j, tj, e1, ej⟩ := at1 m hm
    rw [ej]
    have : j ≠ i := fun z => hno m hmk (by rw [e1, z])
    simpa using this
end L2
namespace OM
theorem or_add : ∀ a b : Nat, a &&& b = 0 → a + b = a ||| b := by
  intro a
  induction a using Nat.strongRecOn with
  | _ a ih =>
    intro b h
    by_cases ha : a = 0
    · subst ha; simp
    · have h2 := ih (a / 2) (by omega) (b / 2) (by rw [← Nat.and_div_two, h])
      have e1 : (a ||| b) / 2 = a / 2 ||| b / 2 := Nat.or_div_two ..
      have h0 : (a &&& b) % 2 = 0 := by rw [h]
      have m1 : (a ||| b) % 2 = if a % 2 = 1 ∨ b % 2 = 1 then 1 else 0 := by
        have t0 := Nat.testBit_or a b 0
        rw [Nat.testBit_zero, Nat.testBit_zero, Nat.testBit_zero] at t0
        rcases Nat.mod_two_eq_zero_or_one a with p | p <;> rcases Nat.mod_two_eq_zero_or_one b with q | q <;> rcases Nat.mod_two_eq_zero_or_one (a ||| b) with r | r <;> simp_all
      have m0 : ¬ (a % 2 = 1 ∧ b % 2 = 1) := by
        rintro ⟨p, q⟩
        have t0 := Nat.testBit_and a b 0
        rw [h, Nat.zero_testBit, Nat.testBit_zero, Nat.testBit_zero] at t0
        simp [p, q] at t0
      have hm := Nat.div_add_mod (a ||| b) 2
      rw [e1, ← h2, m1] at hm
      split at hm <;> omega
theorem and_not_add (a b : Nat) : (a ^^^ (a &&& b)) + (a &&& b) = a := by
  rw [or_add]
  · apply Nat.eq_of_testBit_eq
    intro x
    simp only [Nat.testBit_or, Nat.testBit_xor, Nat.testBit_and]
    cases a.testBit x <;> cases b.testBit x <;> rfl
  · apply Nat.eq_of_testBit_eq
    intro x
    simp only [Nat.testBit_xor, Nat.testBit_and, Nat.zero_testBit]
    cases a.testBit x <;> cases b.testBit x <;> rfl
theorem andnot_bit (a b x : Nat) : (a - (a &&& b)).testBit x = (a.testBit x && !b.testBit x) := by
  have : a - (a &&& b) = a ^^^ (a &&& b) := by have := and_not_add a b; omega
  rw [this, Nat.testBit_xor, Nat.testBit_and]
  cases a.testBit x <;> cases b.testBit x <;> rfl
structure PO (n : Nat) (ds : List Nat) : Prop where
  len : ds.length = n
  refl : ∀ i, i < n → (ds.getD i 0).testBit i = true
  dom : ∀ i l, i < n → (ds.getD i 0).testBit l = true → l < n
  trans : ∀ i j l, i < n → (ds.getD i 0).testBit j = true → (ds.getD j 0).testBit l = true → (ds.getD i 0).testBit l = true
  anti : ∀ i j, i < n → (ds.getD i 0).testBit j = true → (ds.getD j 0).testBit i = true → i = j
theorem RO.po {row ds : List Nat} {n : Nat} (R : RO row n ds) : PO n ds := ⟨R.len, R.refl, R.dom, R.trans, fun _ _ h a b => R.anti h a b⟩
theorem PO.less {n i j : Nat} {ds : List Nat} (R : PO n ds) (hi : i < n) (h : (ds.getD i 0).testBit j = true) (hne : j ≠ i) : ds.getD j 0 < ds.getD i 0 := by
  have hle : ds.getD j 0 ≤ ds.getD i 0 := by
    have : ds.getD j 0 &&& ds.getD i 0 = ds.getD j 0 := by
      apply Nat.eq_of_testBit_eq
      intro x
      rw [Nat.testBit_and, Bool.eq_iff_iff, Bool.and_eq_true]
      exact ⟨fun z => z.1, fun z => ⟨z, R.trans i j x hi h z⟩⟩
    rw [← this]
    exact Nat.and_le_right
  rcases Nat.lt_or_eq_of_le hle with h1 | h1
  · exact h1
  · exact absurd (R.anti i j hi h (by rw [h1]; exact R.refl i hi)).symm hne
theorem PO.least {n : Nat} {ds : List Nat} (R : PO n ds) (S : Nat → Prop) : ∀ v k, ds.getD k 0 ≤ v → k < n → S k → ∃ t, t < n ∧ S t ∧ ∀ x, (ds.getD t 0).testBit x = true → x ≠ t → ¬ S x := by
  intro v
  induction v with
  | zero =>
    intro k hv hk hS
    have := R.refl k hk
    rw [Nat.eq_zero_of_le_zero hv, Nat.zero_testBit] at this
    cases this
  | succ v ih =>
    intro k hv hk hS
    by_cases hx : ∃ x, (ds.getD k 0).testBit x = true ∧ x ≠ k ∧ S x
    · obtain ⟨x, h1, h2, h3⟩ := hx
      have := R.less hk h1 h2
      exact ih x (by omega) (R.dom k x hk h1) h3
    · exact ⟨k, hk, hS, fun x h1 h2 h3 => hx ⟨x, h1, h2, h3⟩⟩
def layerOf (n : Nat) (ds : List Nat) (p : Nat) : List Nat := (List.range n).filter fun k => !p.testBit k && lies (ds.getD k 0) (p ||| 1 <<< k)
def placedAt (n : Nat) (ds : List Nat) : Nat → Nat
  | 0 => 0
  | i + 1 => placedAt n ds i ||| bits (layerOf n ds (placedAt n ds i))
def layerAt (n : Nat) (ds : List Nat) (i : Nat) : List Nat := layerOf n ds (placedAt n ds i)
def layers (n : Nat) (ds : List Nat) (m : Nat) : List (List Nat) := (List.range m).map (layerAt n ds)
def longStep (ds : List Nat) (c : List Nat × Nat) (row : List Nat) : List Nat × Nat := (c.1 ++ [(places (bits row &&& c.2)).headD 0], ds.getD ((places (bits row &&& c.2)).headD 0) 0)
def longest (n : Nat) (ds : List Nat) (m : Nat) : List Nat := ((layers n ds m).reverse.foldl (longStep ds) ([], 1 <<< n - 1)).1.reverse
end OM
namespace L2
open PySem PySem.Spec PyProof.Rows
def Itv (K : PySem.W.Frag) (a : Addr) (n : Nat) : It :=
  ⟨fun i H => ∃ xs x, SqL K H a xs ∧ xs.length = n ∧ xs.reverse[i]? = some x, fun i H x H' => H' = H ∧ ∀ xs, SqL K H a xs → xs.reverse[i]? = some x, fun i _ => i = n⟩
theorem turn_rev {P : Program} {w : World} {K : PySem.W.Frag} {tg : Expr} (a it : Addr) (n : Nat) : Turn P w K tg (Itv K a n) [it] it (fun i h => h.IsRevIter it a ((n : Int) - 1 - (i : Nat))) where
  mem := by simp
  obj := fun i h ⟨o, e, c, d⟩ b hb => by
    rw [List.mem_singleton] at hb
    subst hb
    exact ⟨o, e, fun v z => by rw [d] at z; cases z⟩
  keep := fun i h h' st k => st.at fun o e => k it (by simp) o e
  item := by
    rintro X rfl rfl rfl hc i pins s σ H E I hf st ⟨xs, x, hq, hn, hx⟩
    obtain ⟨its, rv, p, hz⟩ := I.list hq
    have hin : i < xs.length := by have := (List.getElem?_eq_some_iff.mp hx).1; rwa [List.length_reverse] at this
    have hx2 : xs[n - 1 - i]? = some x := by rw [List.getElem?_reverse hin, hn] at hx; exact hx
    obtain ⟨u, hu, ru⟩ := rv.get hx2
    obtain ⟨f0, f1, f2, f3, f4, f5⟩ := hf it (by simp)
    rw [show (n : Int) - 1 - (i : Nat) = ((n - 1 - i : Nat) : Int) by omega] at st
    refine wpAny_pyNext_rev_item st p.isList (x := u) (by rw [List.getElem?_toArray]; exact hu) fun h' st' sb => ?_
    rw [show ((n - 1 - i : Nat) : Int) - 1 = (n : Int) - 1 - ((i + 1 : Nat) : Int) by omega] at st'
    have I1 : Inv X pins σ H { s with heap := h' } := I.turned (t' := s.toks) (fun b o hb e => (sb.2 b hb).trans e) f0 f1 f3 f4 f5
    obtain ⟨o, e, c, d⟩ := id st'
    refine ⟨u, rfl, go_of (s := { s with heap := h' }) e c d (by decide) ⟨x, H, I1, ru, ⟨rfl, fun ys hy => ?_⟩, st', fun b hb => (hf b hb).1⟩⟩
    rw [I.list_inj hy hq]
    exact hx
  done := by
    rintro X rfl rfl rfl hc i pins s σ H E I hf st hg
    have hg : i = n := hg
    subst hg
    obtain ⟨f0, f1, f2, f3, f4, f5⟩ := hf it (by simp)
    rw [show (i : Int) - 1 - (i : Nat) = -1 by omega] at st
    exact wpAny_pyNext_rev_end (I.ok.hd hc) st fun h' eb => ⟨rfl, I.turned (t' := s.toks) (fun b o hb e => eb b o hb e) f0 f1 f3 f4 f5⟩
  self := fun _ _ _ _ _ st h => wpAny_pyIter_revIter st h
section
variable {X : Cx} {tg : Expr}
def iRevs (K : PySem.W.Frag) (ta : TA) : TI := fun σ H R => ta σ H fun vs H1 => ∃ a xs, vs = [.ref a] ∧ SqL K H1 a xs ∧ R (Itv K a xs.length) H1
theorem piRevs (K : PySem.W.Frag) {l : Expr} {ta : TA} {p pos : Pos} (hg : Gl X "reversed") (hm : X.mg "reversed" = none) (ha : PA X [l] ta) (hs : starEach [l] X.env = [(false, eval l X.env)] := by rfl) (hK : X.K = K := by rfl) :
    PI X tg (.Call (.Name "reversed" p) [l] [] pos) (iRevs K ta) := by
  subst hK
  intro pins s σ H R I h
  refine Call_ (ld_blt I hg hm boot_reversed (PyProof.Rows.callWith_type1 (thn (ha pos pins s σ H _ I h) fun us s1 ⟨vs, H1, I1, r1, q1⟩ => ?_) hs rfl))
  obtain ⟨a, xs, rfl, hq, q⟩ := q1
  obtain ⟨u, rfl, rx⟩ := vals1 r1
  cases rx
  obtain ⟨its, rv, pl, hz⟩ := I1.list hq
  refine call_reversed_list pl.isList ?_
  have hsz : its.toArray.size = xs.length := by rw [List.size_toArray, ← rv.length]
  have st : (s1.heap.push (revObj a ((its.toArray.size : Int) - 1))).IsRevIter s1.heap.objs.size a ((xs.length : Int) - 1 - ((0 : Nat) : Int)) := ⟨_, Heap.get?_push_size _ rfl, rfl, by rw [hsz]; simp [revObj]⟩
  refine wpAny_pyIter_revIter (s := { s1 with heap := s1.heap.push (revObj a ((its.toArray.size : Int) - 1)) }) st ?_
  refine ⟨s1.heap.objs.size, [s1.heap.objs.size], _, _, H1, rfl, I1.kept (t' := s1.toks) fun b o e => Heap.get?_push_of_some _ e, turn_rev a _ _, st, fun b hb => ?_, q⟩
  rw [List.mem_singleton] at hb
  subst hb
  exact I1.fpOk (Nat.le_refl _) (I1.hok.fresh (Nat.le_refl _))
end
section
variable {t : TS} {D : Ends} {σ : St} {H : Hp} {ti : TA} {g : TG} {K : PySem.W.Frag} {a : Addr} {xs : List V}
theorem ap_iRevs {R : It → Hp → Prop} : iRevs K ti σ H R = ti σ H fun vs H1 => ∃ a xs, vs = [.ref a] ∧ SqL K H1 a xs ∧ R (Itv K a xs.length) H1 := rfl
theorem fg_rev (Pv : Nat → St → Hp → Prop) (h0 : Pv 0 σ H) (hl : ∀ i σ H, i ≤ xs.length → Pv i σ H → SqL K H a xs)
    (hs : ∀ (i : Nat) x σ H, xs.reverse[i]? = some x → Pv i σ H → g x σ H fun σ2 H2 => t { nx := Pv (i + 1), rt := D.rt, ct := Pv (i + 1), bk := D.nx } σ2 H2) (hd : ∀ σ H, Pv xs.length σ H → D.nx σ H) : FG (Itv K a xs.length) g t D σ H := by
  refine ⟨fun i m σ H => m = xs.length - i ∧ i ≤ xs.length ∧ Pv i σ H, ⟨_, rfl, by omega, h0⟩, ?_⟩
  rintro i m σ H ⟨rfl, hi, p⟩
  have hq := hl i σ H hi p
  by_cases hlt : i < xs.length
  · have hx : xs.reverse[i]? = some (xs.reverse[i]'(by rw [List.length_reverse]; exact hlt)) := List.getElem?_eq_getElem _
    refine .inr ⟨⟨xs, _, hq, rfl, hx⟩, Pv (i + 1), fun σ' H' p' => ⟨xs.length - (i + 1), by omega, rfl, by omega, p'⟩, ?_⟩
    rintro x H' ⟨rfl, y⟩
    exact hs i x σ _ (y xs hq) p
  · have e : i = xs.length := by omega
    subst e
    exact .inl ⟨rfl, hd _ _ p⟩
end
end L2
namespace L2
open PySem PySem.Spec PyProof.Rows
def rIntB : List V → Hp → VK → Prop := fun xs H Q => ∃ b : Bool, xs = [.bl b] ∧ Q (.int (if b then 1 else 0)) H
theorem ap_rIntB {xs : List V} {H : Hp} {Q : VK} : rIntB xs H Q = ∃ b : Bool, xs = [.bl b] ∧ Q (.int (if b then 1 else 0)) H := rfl
theorem ap_clear {x : V} {vs : List V} {H : Hp} {Q : VK} : rClear x vs H Q = ∃ l xs, x = .ref l ∧ vs = [] ∧ H l = some (.lst xs) ∧ Q .non (upd H l (.lst [])) := rfl
theorem ap_pop {x : V} {vs : List V} {H : Hp} {Q : VK} : rPop x vs H Q = ∃ l xs y, x = .ref l ∧ vs = [] ∧ H l = some (.lst xs) ∧ xs[xs.length - 1]? = some y ∧ Q y (upd H l (.lst xs.dropLast)) := rfl
theorem andnot_nat (a b : Nat) : Builtin.bitAnd (a : Int) (Builtin.bitNot (b : Int)) = ((a - (a &&& b) : Nat) : Int) := by
  have h1 : ¬ (0 ≤ Builtin.bitNot (b : Int)) := by unfold Builtin.bitNot; omega
  have e1 : (Builtin.bitNot (Builtin.bitNot (b : Int))).toNat = b := by unfold Builtin.bitNot; omega
  have := OM.and_not_add a b
  unfold Builtin.bitAnd
  simp only [h1, decide_false, e1, Int.natCast_nonneg, decide_true, Int.toNat_natCast]
  omega
def LsA (H : Hp) (rs : List Addr) (xss : List (List Nat)) : Prop := rs.length = xss.length ∧ ∀ (i : Nat) (r : Addr) (xs : List Nat), rs[i]? = some r → xss[i]? = some xs → H r = some (.lst (nv xs))
theorem LsA.nil {H : Hp} : LsA H [] [] := ⟨rfl, fun i r xs h => by simp at h⟩
theorem LsA.same {H H' : Hp} {rs : List Addr} {xss : List (List Nat)} (h : LsA H rs xss) (s : Same H H') : LsA H' rs xss := ⟨h.1, fun i r xs a b => s _ _ (h.2 i r xs a b)⟩
theorem LsA.write {H : Hp} {rs : List Addr} {xss : List (List Nat)} (h : LsA H rs xss) {a : Addr} {o : HO} (hn : ∀ r ∈ rs, r ≠ a) : LsA (upd H a o) rs xss :=
  ⟨h.1, fun i r xs e1 e2 => by rw [upd_ne (hn r (List.mem_of_getElem? e1))]; exact h.2 i r xs e1 e2⟩
theorem LsA.snoc {H : Hp} {rs : List Addr} {xss : List (List Nat)} (h : LsA H rs xss) {r : Addr} {xs : List Nat} (e : H r = some (.lst (nv xs))) : LsA H (rs ++ [r]) (xss ++ [xs]) := by
  refine ⟨by rw [List.length_append, List.length_append, h.1]; rfl, fun i q ys e1 e2 => ?_⟩
  rcases Nat.lt_trichotomy i rs.length with z | z | z
  · rw [List.getElem?_append_left z] at e1
    rw [List.getElem?_append_left (by rw [← h.1]; exact z)] at e2
    exact h.2 i q ys e1 e2
  · rw [List.getElem?_append_right (by omega), z, Nat.sub_self] at e1
    rw [List.getElem?_append_right (by rw [← h.1]; omega), ← h.1, z, Nat.sub_self] at e2
    cases e1
    cases e2
    exact e
  · rw [List.getElem?_eq_none (by rw [List.length_append]; simp; omega)] at e1; cases e1
end L2
namespace L2
open PySem PySem.Spec PyProof.Rows
section
variable {κ : Type} [DecidableEq κ]
def valV (kvs : List (κ × V)) (k : κ) : Option V := (kvs.find? fun kv => decide (kv.1 = k)).map (·.2)
def putK (kvs : List (κ × V)) (k : κ) (v : V) : List (κ × V) :=
  if (kvs.any fun kv => decide (kv.1 = k)) = true then kvs.map (fun kv => if kv.1 = k then (kv.1, v) else kv) else kvs ++ [(k, v)]
theorem valV_pos {p : κ × V} {r : List (κ × V)} {k : κ} (e : p.1 = k) : valV (p :: r) k = some p.2 := by simp [valV, List.find?_cons, e]
theorem valV_neg {p : κ × V} {r : List (κ × V)} {k : κ} (e : ¬ p.1 = k) : valV (p :: r) k = valV r k := by simp [valV, List.find?_cons, e]
theorem valV_any (k : κ) : ∀ kvs : List (κ × V), (kvs.any fun kv => decide (kv.1 = k)) = (valV kvs k).isSome
  | [] => rfl
  | p :: r => by
    rw [List.any_cons]
    by_cases e : p.1 = k
    · simp only [valV_pos e, decide_eq_true e, Bool.true_or, Option.isSome_some]
    · rw [valV_neg e, decide_eq_false e, Bool.false_or]; exact valV_any k r
theorem length_putK (kvs : List (κ × V)) (k : κ) (v : V) : (putK kvs k v).length ≤ kvs.length + 1 := by
  unfold putK
  split
  · rw [List.length_map]; omega
  · rw [List.length_append, List.length_cons, List.length_nil]; omega
theorem putK_new {kvs : List (κ × V)} {k : κ} (v : V) (h : valV kvs k = none) : putK kvs k v = kvs ++ [(k, v)] := by
  unfold putK
  rw [valV_any, h]
  exact if_neg (by decide)
theorem RelO.isSome_eq {o : Option V} {u : Option Value} (r : RelO o u) : o.isSome = u.isSome := by
  cases o with
  | none => cases u with
    | none => rfl
    | some _ => exact (show False from r).elim
  | some _ => cases u with
    | none => exact (show False from r).elim
    | some _ => rfl
theorem KV.val {kvs : List (κ × V)} {vs : List (κ × Value)} (r : KV kvs vs) (k : κ) : RelO (valV kvs k) (valueAt vs k) := by
  unfold KV at r
  induction r with
  | nil => exact True.intro
  | @cons p q ps qs h t ih =>
    obtain ⟨h1, h2⟩ := h
    by_cases e : p.1 = k
    · have e' : q.1 = k := h1.symm.trans e
      have b : valueAt (q :: qs) k = some q.2 := by simp [valueAt, List.find?_cons, e']
      rw [valV_pos e, b]; exact h2
    · have e' : ¬ q.1 = k := fun z => e (h1.trans z)
      have b : valueAt (q :: qs) k = valueAt qs k := by simp [valueAt, List.find?_cons, e']
      rw [valV_neg e, b]; exact ih
theorem KV.any {kvs : List (κ × V)} {vs : List (κ × Value)} (r : KV kvs vs) (k : κ) : (kvs.any fun kv => decide (kv.1 = k)) = vs.any fun kv => decide (kv.1 = k) := by
  unfold KV at r
  induction r with
  | nil => rfl
  | cons h t ih => rw [List.any_cons, List.any_cons, ih, h.1]
theorem KV.repl {kvs : List (κ × V)} {vs : List (κ × Value)} (r : KV kvs vs) (k : κ) {y : V} {u : Value} (ry : RelV y u) :
    KV (kvs.map fun kv => if kv.1 = k then (kv.1, y) else kv) (vs.map fun kv => if kv.1 = k then (kv.1, u) else kv) := by
  unfold KV at r ⊢
  induction r with
  | nil => exact .nil
  | @cons p q ps qs h t ih =>
    rw [List.map_cons, List.map_cons]
    refine .cons ?_ ih
    obtain ⟨h1, h2⟩ := h
    by_cases e : p.1 = k
    · rw [if_pos e, if_pos (h1.symm.trans e)]; exact ⟨h1, ry⟩
    · rw [if_neg e, if_neg (fun z => e (h1.trans z))]; exact ⟨h1, h2⟩
theorem KV.put {kvs : List (κ × V)} {vs : List (κ × Value)} (r : KV kvs vs) (k : κ) {y : V} {u : Value} (ry : RelV y u) : KV (putK kvs k y) (stored vs k u) := by
  unfold putK stored
  rw [r.any k]
  by_cases e : (vs.any fun kv => decide (kv.1 = k)) = true
  · rw [if_pos e, if_pos e]; exact r.repl k ry
  · rw [if_neg e, if_neg e]; exact Paired.snoc r ⟨rfl, ry⟩
theorem KV.length {kvs : List (κ × V)} {vs : List (κ × Value)} (r : KV kvs vs) : kvs.length = vs.length := Paired.length r
end
theorem kV_is {P : Program} {w : World} {k : Key} {u : Value} (r : RelV (kV k) u) : (mixKind P w).is k u = true := by
  cases k with
  | inl i => obtain ⟨t, e⟩ := (show ∃ t, u = Value.int i t from r); subst e; exact mixKind_int P w i t
  | inr x => obtain ⟨t, e⟩ := (show ∃ t, u = Value.str x t from r); subst e; exact mixKind_str P w x t
theorem items_are {P : Program} {w : World} : ∀ {ks : List Key} {us : List Value}, Vals (ks.map kV) us → ItemsAre (mixKind P w) ks us
  | [], _, r => by rw [List.map_nil] at r; cases r; exact .nil
  | k :: ks, _, r => by
    rw [List.map_cons] at r
    cases r with
    | cons h t => exact .cons (kV_is h) (items_are t)
abbrev KT (H : Hp) : List (List Key × V) → List (List Key × Addr × Value) → Prop := Paired fun p q => p.1 = q.1 ∧ H q.2.1 = some (.tup (p.1.map kV)) ∧ RelV p.2 q.2.2
theorem KT.val {H : Hp} {kvs : List (List Key × V)} {xs : List (List Key × Addr × Value)} (r : KT H kvs xs) (k : List Key) : RelO (valV kvs k) ((atKey xs k).map (·.2)) := by
  induction r with
  | nil => exact True.intro
  | @cons p q ps qs h t ih =>
    obtain ⟨h1, _, h2⟩ := h
    by_cases e : p.1 = k
    · have e' : q.1 = k := h1.symm.trans e
      have b : atKey (q :: qs) k = some q.2 := by simp [atKey, List.find?_cons, e']
      rw [valV_pos e, b]; exact h2
    · have e' : ¬ q.1 = k := fun z => e (h1.trans z)
      have b : atKey (q :: qs) k = atKey qs k := by simp [atKey, List.find?_cons, e']
      rw [valV_neg e, b]; exact ih
theorem KT.repl {H : Hp} {kvs : List (List Key × V)} {xs : List (List Key × Addr × Value)} (r : KT H kvs xs) (k : List Key) {y : V} {u : Value} (ry : RelV y u) :
    KT H (kvs.map fun kv => if kv.1 = k then (kv.1, y) else kv) (xs.map (putAt k u)) := by
  induction r with
  | nil => exact .nil
  | @cons p q ps qs h t ih =>
    rw [List.map_cons, List.map_cons]
    refine .cons ?_ ih
    obtain ⟨h1, h2, h3⟩ := h
    unfold putAt
    by_cases e : p.1 = k
    · rw [if_pos e, if_pos (h1.symm.trans e)]; exact ⟨h1, h2, ry⟩
    · rw [if_neg e, if_neg (fun z => e (h1.trans z))]; exact ⟨h1, h2, h3⟩
theorem KT.put {H : Hp} {kvs : List (List Key × V)} {xs : List (List Key × Addr × Value)} (r : KT H kvs xs) (k : List Key) {b : Addr} {y : V} {u : Value} (hb : H b = some (.tup (k.map kV))) (ry : RelV y u) :
    KT H (putK kvs k y) (storedH xs k b u) := by
  have e : (kvs.any fun kv => decide (kv.1 = k)) = (atKey xs k).isSome := by
    rw [valV_any, (r.val k).isSome_eq, Option.isSome_map]
  unfold putK storedH
  rw [e]
  by_cases q : (atKey xs k).isSome = true
  · rw [if_pos q, if_pos q]; exact r.repl k ry
  · rw [if_neg q, if_neg q]; exact Paired.snoc r ⟨rfl, hb, ry⟩
theorem KT.keeps {H H' : Hp} {kvs : List (List Key × V)} {xs : List (List Key × Addr × Value)} (r : KT H kvs xs) (ht : ∀ b ys, H b = some (.tup ys) → H' b = some (.tup ys)) : KT H' kvs xs :=
  Paired.mapP r fun _ _ z => ⟨z.1, ht _ _ z.2.1, z.2.2⟩
section
variable {P : Program} {w : World} {H : Hp} {h : Heap} {a : Addr}
theorem rd_of {u : HO} (ok : HOk P w H h) (e : Rd H a u) : ObjOk P w H h a u := e.ok ok
theorem dk_rd {kvs : List (Key × V)} (ok : HOk P w H h) (e : Rd H a (.dK kvs)) : kvs.length ≤ sizeLine ∧ (a == sysModules) = false ∧ ∃ vs, KV kvs vs ∧ h.DictOf (mixKind P w) a vs :=
  show ObjOk P w H h a (.dK kvs) from rd_of ok e
theorem dk_of {kvs : List (Key × V)} (ok : HOk P w H h) (e : H a = some (.dK kvs)) : kvs.length ≤ sizeLine ∧ (a == sysModules) = false ∧ ∃ vs, KV kvs vs ∧ h.DictOf (mixKind P w) a vs := dk_rd ok (.inl e)
theorem key_of {ks : List Key} (ok : HOk P w H h) (e : H a = some (.tup (ks.map kV))) : (tupleKind (mixKind P w)).is h ks a := by
  obtain ⟨_, its, r, o, h1, h2, n, h3⟩ := (show ObjOk P w H h a (.tup (ks.map kV)) from ok a _ e)
  exact ⟨o, its.toArray, n, h1, h2, h3, by simpa using items_are r⟩
theorem dt_rd {kvs : List (List Key × V)} (ok : HOk P w H h) (e : Rd H a (.dT kvs)) : kvs.length ≤ sizeLine ∧ (a == sysModules) = false ∧
    ∃ xs, KT H kvs xs ∧ h.DictOfH (tupleKind (mixKind P w)) a xs := by
  obtain ⟨z, y, xs, r, o, es, ep, h1, h2, h3, h4, h5⟩ := (show ObjOk P w H h a (.dT kvs) from rd_of ok e)
  refine ⟨z, y, xs, r, o, es, ep, h1, h2, h3, h4, fun x hx => ?_, h5⟩
  have all : ∀ {l : List (List Key × V)} {m : List (List Key × Addr × Value)}, KT H l m → ∀ x ∈ m, (tupleKind (mixKind P w)).is h x.1 x.2.1 := by
    intro l m q
    induction q with
    | nil => intro x hx; exact nomatch hx
    | @cons p q ps qs hq t ih =>
      intro x hx
      rcases List.mem_cons.mp hx with e | hx
      · subst e
        exact key_of ok (by rw [← hq.1]; exact hq.2.1)
      · exact ih x hx
  exact all r x hx
theorem dt_of {kvs : List (List Key × V)} (ok : HOk P w H h) (e : H a = some (.dT kvs)) : kvs.length ≤ sizeLine ∧ (a == sysModules) = false ∧
    ∃ xs, KT H kvs xs ∧ h.DictOfH (tupleKind (mixKind P w)) a xs := dt_rd ok (.inl e)
end
def DGet (H : Hp) (a : Addr) (y : V) (r : Option V) : Prop :=
  (∃ kvs k, Rd H a (.dK kvs) ∧ y = kV k ∧ r = valV kvs k) ∨ ∃ kvs k b, Rd H a (.dT kvs) ∧ y = .ref b ∧ H b = some (.tup (k.map kV)) ∧ r = valV kvs k
def DPut (H : Hp) (a : Addr) (y v : V) (H' : Hp) : Prop :=
  (∃ kvs k, H a = some (.dK kvs) ∧ y = kV k ∧ kvs.length < sizeLine ∧ H' = upd H a (.dK (putK kvs k v))) ∨
  ∃ kvs k b, H a = some (.dT kvs) ∧ y = .ref b ∧ H b = some (.tup (k.map kV)) ∧ kvs.length < sizeLine ∧ H' = upd H a (.dT (putK kvs k v))
theorem DGet.k {H : Hp} {a : Addr} {kvs : List (Key × V)} {k : Key} (e : H a = some (.dK kvs)) : DGet H a (kV k) (valV kvs k) := .inl ⟨kvs, k, .inl e, rfl, rfl⟩
theorem DPut.k {H : Hp} {a : Addr} {kvs : List (Key × V)} {k : Key} {v : V} (e : H a = some (.dK kvs)) (hl : kvs.length < sizeLine) : DPut H a (kV k) v (upd H a (.dK (putK kvs k v))) := .inl ⟨kvs, k, e, rfl, hl, rfl⟩
section
variable {X : Cx} {pins : List (Addr × Obj)} {σ : St} {H : Hp} {s : Shared} {a : Addr} {y v : V} {u r : Value} {o : Option V} {A : Around} {E : Value → Shared → Prop}
theorem Inv.big (I : Inv X pins σ H s) : sysModules < s.heap.objs.size := by
  have h : mainGlobals < s.heap.objs.size := (I.mod.glob.keeps I.bk).lt
  exact Nat.lt_trans (by decide) h
theorem d_getItem {Q : Value → Shared → Prop} (hu : A.units + 1 < cLine) (I : Inv X pins σ H s) (g : DGet H a y (some v)) (ry : RelV y u) (h : ∀ w' s', Inv X pins σ H s' → RelV v w' → Q w' s') :
    wpAny (model X.prog X.w) A (getItem (.ref a) u) Q E s := by
  rcases g with ⟨kvs, k, e, ey, l⟩ | ⟨kvs, k, b, e, ey, eb, l⟩
  · subst ey
    obtain ⟨z, hd, vs, rel, dd⟩ := dk_rd I.hok e
    obtain ⟨w', hw, rw'⟩ := RelO.some_of (v := v) (o := valueAt vs k) (by rw [l]; exact rel.val k)
    exact wpAny_getItem_of (kV_is ry) dd.mapOf hw (h w' _ (I.tok _) rw')
  · subst ey
    cases (show u = Value.ref b from ry)
    obtain ⟨z, hd, xs, rel, dd⟩ := dt_rd I.hok e
    obtain ⟨w', hw, rw'⟩ := RelO.some_of (v := v) (o := (atKey xs k).map (·.2)) (by rw [l]; exact rel.val k)
    obtain ⟨p, hp, hp2⟩ := Option.map_eq_some_iff.mp hw
    refine wpAny_getItem_heap (tupleKind_room_in1 hu) (key_of I.hok eb) dd hp ?_
    rw [hp2]
    exact h w' _ (I.tok _) rw'
theorem d_write {h' : Heap} {t' : Nat} {ob : HO} (I : Inv X pins σ H s) (mu : Mut (H a)) (hs : Heap.SameBut a s.heap h') (he : ∃ q, h'.get? a = some q) (new : ObjOk X.prog X.w (upd H a ob) h' a ob) :
    Inv X pins σ (upd H a ob) { s with heap := h', toks := t' } :=
  I.write (x := a) (e := a) mu (.inl rfl) (fun b q hb z => (hs.2 b hb).trans z) he new
theorem dk_new {P : Program} {w : World} {H' : Hp} {h' : Heap} {kvs : List (Key × V)} {vs : List (Key × Value)} (z : kvs.length ≤ sizeLine) (hd : (a == sysModules) = false) (rel : KV kvs vs) (dd : h'.DictOf (mixKind P w) a vs) :
    ObjOk P w H' h' a (.dK kvs) := ⟨z, hd, vs, rel, dd⟩
theorem d_setItem {H' : Hp} {Q : Unit → Shared → Prop} (hu : A.units + 1 < cLine) (I : Inv X pins σ H s) (g : DPut H a y v H') (ry : RelV y u) (rv : RelV v r) (h : ∀ s', Inv X pins σ H' s' → Q () s') :
    wpAny (model X.prog X.w) A (setItem (.ref a) u r) Q E s := by
  rcases g with ⟨kvs, k, e, ey, l, eH⟩ | ⟨kvs, k, b, e, ey, eb, l, eH⟩
  · subst ey eH
    obtain ⟨z, hd, vs, rel, dd⟩ := dk_of I.hok e
    have hz : vs.length ≤ sizeLine := by rw [← rel.length]; exact z
    have hl : (putK kvs k v).length ≤ sizeLine := by have := length_putK kvs k v; omega
    refine wpAny_setItem_pairs (hsz := hz) (kV_is ry) dd fun h' dd' hs => h _ ?_
    have he : ∃ q, h'.get? a = some q := let ⟨q, _, _, hq, _⟩ := dd'; ⟨q, hq⟩
    exact d_write I (by rw [e]; exact True.intro) hs he (dk_new hl hd (rel.put k rv) dd')
  · subst ey eH
    cases (show u = Value.ref b from ry)
    obtain ⟨z, hd, xs, rel, dd⟩ := dt_of I.hok e
    have hz : xs.length ≤ sizeLine := by rw [← Paired.length rel]; exact z
    have hl : (putK kvs k v).length ≤ sizeLine := by have := length_putK kvs k v; omega
    refine wpAny_setItem_heap (hsz := hz) (tupleKind_room_in1 hu) (key_of I.hok eb) dd fun h' dd' hs => h _ ?_
    obtain ⟨q, es, ep, hq, h2, h3, h4, _, h5⟩ := dd'
    refine d_write I (by rw [e]; exact True.intro) hs ⟨q, hq⟩ ⟨hl, hd, _, (rel.put k eb rv).keeps fun c ys ec => ?_, q, es, ep, hq, h2, h3, h4, h5⟩
    rw [upd_ne (ne_of ec e (fun z => nomatch z))]
    exact ec
end
section
variable {X : Cx} {pins : List (Addr × Obj)} {σ : St} {H : Hp} {s : Shared} {a : Addr} {kvs : List (Key × V)} {k : Key} {u : Value} {A : Around} {E : Value → Shared → Prop}
end
def NoSl (i : Expr) : Prop := ∀ ov iv, subscripted i false ov iv = operate [ov, iv] (getItem ov iv)
theorem subD_of {prog : Program} {w : World} {A : Around} {E : Value → Shared → Prop} {s : Shared} {env : Env} {value slice : Expr} {pos : Pos} {T id : String} {Q : Value → Shared → Prop}
    (hl : typeLookup (.type T) "__getitem__" = pure (some (.builtin id))) (hs : NoSl slice)
    (h : wpAny (model prog w) A (eval value env) (fun o s₁ => wpAny (model prog w) A (eval slice env) (fun i s₂ => s₂.TypeIs o T ∧ wpAny (model prog w) A (getItem o i) Q E s₂) E s₁) E s) :
    wpAny (model prog w) A (eval (.Subscript value slice pos) env) Q E s := by
  refine Subscript_ (wpAny_mono h (fun o s₁ h₁ => wpAny_mono h₁ (fun i s₂ h₂ => ?_) fun _ _ x => x) fun _ _ x => x)
  obtain ⟨hT, h₂⟩ := h₂
  unfold subscriptTail
  refine wpAny_bind ?_
  rw [getitemInPython_of_ne hT.not_modules]
  refine wpAny_bind (wpAny_specialOf hT hl ?_)
  have fin : wpAny (model prog w) A (subscripted slice false o i) (fun r s₃ => wpAny (model prog w) A (letTemporaryGo value o r >>= fun _ => pure r) Q E s₃) E s₂ := by
    rw [hs o i]
    exact wpAny_operating (wpAny_mono h₂ (fun r s₃ h₃ => wpAny_bind (wpAny_letTemporaryGo (wpAny_pure h₃))) fun _ _ x => x)
  first
    | exact wpAny_pure (wpAny_bind fin)
    | exact wpAny_bind (wpAny_pure (wpAny_bind fin))
    | exact wpAny_bind fin
theorem dict_typeIs {X : Cx} {pins : List (Addr × Obj)} {σ : St} {H : Hp} {s : Shared} {a : Addr} {y : V} {o : Option V} (I : Inv X pins σ H s) (g : DGet H a y o) : s.TypeIs (.ref a) "dict" := by
  rcases g with ⟨kvs, k, e, _, _⟩ | ⟨kvs, k, b, e, _, _, _⟩
  · obtain ⟨_, _, vs, _, dd⟩ := dk_rd I.hok e
    exact dd.typeIs
  · obtain ⟨_, _, xs, _, dd⟩ := dt_rd I.hok e
    exact dd.typeIs
def tDGet (td ty : TE) : TE := fun σ H Q => td σ H fun x H1 => ty σ H1 fun y H2 => ∃ a v, x = .ref a ∧ DGet H2 a y (some v) ∧ Q v H2
def tDIn (ty td : TE) : TE := fun σ H Q => ty σ H fun y H1 => td σ H1 fun x H2 => ∃ a o, x = .ref a ∧ DGet H2 a y o ∧ Q (.bl o.isSome) H2
def tDNotIn (ty td : TE) : TE := fun σ H Q => ty σ H fun y H1 => td σ H1 fun x H2 => ∃ a o, x = .ref a ∧ DGet H2 a y o ∧ Q (.bl (!o.isSome)) H2
def sDPut (td ty tv : TE) : TS := fun D σ H => tv σ H fun v H1 => td σ H1 fun x H2 => ty σ H2 fun y H3 => ∃ a H4, x = .ref a ∧ DPut H3 a y v H4 ∧ D.nx σ H4
section
variable {X : Cx} {o i e value : Expr} {pos pos' tpos : Pos} {td ty tv : TE}
theorem pe_dget (hu : X.A.units + 1 < cLine) (ho : PE X o td) (hi : PE X i ty) (hs : NoSl i) : PE X (.Subscript o i pos) (tDGet td ty) := by
  intro pins s σ H Q I h
  refine subD_of PySem.F.slot_dict_getitem.lookup hs (thn (ho pins s σ H _ I h) fun u s1 ⟨x, H1, I1, rx, q1⟩ => thn (hi pins s1 σ H1 _ I1 q1) fun iv s2 ⟨y, H2, I2, ry, a, v, ex, g, q2⟩ => ?_)
  subst ex
  obtain rfl : u = Value.ref a := rx
  exact ⟨dict_typeIs I2 g, d_getItem hu I2 g ry fun w' s3 I3 rw' => ⟨v, H2, I3, rw', q2⟩⟩
theorem ps_dput (hu : X.A.units + 1 < cLine) (ho : PE X o td) (hi : PE X i ty) (hv : PE X value tv) (hs : swapsWith value (some (.Subscript o i pos')) pos.line X.env = pure false) :
    PS X (.Assign [.Subscript o i pos'] value pos) (sDPut td ty tv) := by
  intro pins s σ H D I h
  refine wpAny_Assign_Subscript (thn (hv pins s σ H _ I h) fun r s1 ⟨v, H1, I1, rv, q1⟩ => thn (ho pins s1 σ H1 _ I1 q1) fun u s2 ⟨x, H2, I2, rx, q2⟩ => thn (hi pins s2 σ H2 _ I2 q2) fun iv s3 ⟨y, H3, I3, ry, a, H4, ex, g, q3⟩ => ?_) hs
  subst ex
  obtain rfl : u = Value.ref a := rx
  exact d_setItem hu I3 g ry rv fun s4 I4 => ⟨σ, H4, I4, q3⟩
end
theorem dk_empty {P : Program} {w : World} {H : Hp} (h : Heap) (hb : sysModules < h.objs.size) : ObjOk P w H (h.push { cls := .type "dict", data := .dict #[] }) h.objs.size (.dK []) :=
  ⟨Nat.zero_le _, beq_eq_false_iff_ne.mpr (Ne.symm (Nat.ne_of_lt hb)), [], .nil, Heap.DictOf.new h⟩
def tDNewK : TE := fun _ H Q => ∀ p, H p = none → Q (.ref p) (upd H p (.dK []))
section
variable {X : Cx} {pos : Pos}
end
def tPairs : List (TE × TE) → St → Hp → (List (V × V) → Hp → Prop) → Prop
  | [], _, H, Q => Q [] H
  | (tk, tv) :: r, σ, H, Q => tk σ H fun x H1 => tv σ H1 fun y H2 => tPairs r σ H2 fun ps H3 => Q ((x, y) :: ps) H3
abbrev VV : List (V × V) → List (Value × Value) → Prop := Paired fun p q => RelV p.1 q.1 ∧ RelV p.2 q.2
def PPs (X : Cx) (pos : Pos) (keys : List (Option Expr)) (values : List Expr) (trs : List (TE × TE)) : Prop :=
  ∀ (pins : List (Addr × Obj)) (s : Shared) (σ : St) (H : Hp) (Q : List (V × V) → Hp → Prop), Inv X pins σ H s → tPairs trs σ H Q →
    wpAny (model X.prog X.w) X.A (evalPairs (pairTrees keys values X.env pos)) (fun vs s' => ∃ ps H', Inv X pins σ H' s' ∧ VV ps vs ∧ Q ps H') X.xe s
theorem pps_nil {X : Cx} {pos : Pos} : PPs X pos [] [] [] := fun pins s σ H Q I h => pairTrees_nil_walk ⟨[], H, I, .nil, h⟩
theorem pps_cons {X : Cx} {pos : Pos} {k v : Expr} {ks : List (Option Expr)} {vs : List Expr} {tk tv : TE} {trs : List (TE × TE)} (hk : PE X k tk) (hv : PE X v tv) (hr : PPs X pos ks vs trs) :
    PPs X pos (some k :: ks) (v :: vs) ((tk, tv) :: trs) := fun pins s σ H Q I h =>
  pairTrees_cons_walk (thn (hk pins s σ H _ I h) fun u s1 ⟨x, H1, I1, rx, q1⟩ => thn (hv pins s1 σ H1 _ I1 q1) fun w2 s2 ⟨y, H2, I2, ry, q2⟩ =>
    thn (hr pins s2 σ H2 _ I2 q2) fun ws s3 ⟨ps, H3, I3, rel, q3⟩ => ⟨(x, y) :: ps, H3, I3, .cons ⟨rx, ry⟩ rel, q3⟩)
def mergeK (kvs more : List (Key × V)) : List (Key × V) := more.foldl (fun acc kv => putK acc kv.1 kv.2) kvs
theorem KV.merge : ∀ {more : List (Key × V)} {rs : List (Key × Value)} {kvs : List (Key × V)} {vs : List (Key × Value)}, KV more rs → KV kvs vs → KV (mergeK kvs more) (merged vs rs) := by
  intro more rs kvs vs r
  unfold KV at r
  induction r generalizing kvs vs with
  | nil => intro q; exact q
  | @cons p q ps qs h t ih =>
    intro r0
    have e : KV (putK kvs p.1 p.2) (stored vs q.1 q.2) := by
      have := r0.put p.1 h.2
      rw [← h.1]; exact this
    exact ih e
theorem length_mergeK : ∀ (more kvs : List (Key × V)), (mergeK kvs more).length ≤ kvs.length + more.length
  | [], kvs => by show kvs.length ≤ kvs.length + 0; omega
  | p :: r, kvs => by
    have h1 := length_mergeK r (putK kvs p.1 p.2)
    have h2 := length_putK kvs p.1 p.2
    show (mergeK (putK kvs p.1 p.2) r).length ≤ _
    rw [List.length_cons]; omega
theorem carries_of {P : Program} {w : World} : ∀ {kvs : List (Key × V)} {ws : List (Value × Value)}, VV (kvs.map fun kv => (kV kv.1, kv.2)) ws → ∃ rs, Carries (mixKind P w) ws rs ∧ KV kvs rs
  | [], _, r => by rw [List.map_nil] at r; cases r; exact ⟨[], True.intro, .nil⟩
  | p :: kvs, _, r => by
    rw [List.map_cons] at r
    cases r with
    | @cons a b as bs h t =>
      obtain ⟨rs, c, q⟩ := carries_of (P := P) (w := w) t
      obtain ⟨b1, b2⟩ := b
      exact ⟨(p.1, b2) :: rs, ⟨kV_is h.1, rfl, c⟩, .cons ⟨rfl, h.2⟩ q⟩
def tDisp (trs : List (TE × TE)) : TE := fun σ H Q => ∀ p, H p = none → tPairs trs σ (upd H p (.dK [])) fun ps H2 => H2 p = some (.dK []) ∧ ∃ kvs : List (Key × V), ps = kvs.map (fun kv => (kV kv.1, kv.2)) ∧ kvs.length ≤ 15 ∧ Q (.ref p) (upd H2 p (.dK (mergeK [] kvs)))
theorem pe_disp {X : Cx} {pos : Pos} {keys : List (Option Expr)} {values : List Expr} {trs : List (TE × TE)} (h : PPs X pos keys values trs) (hall : keys.all (·.isSome) = true) (hl : keys.length = values.length) (h0 : keys ≠ [])
    (h15 : keys.length ≤ 15) : PE X (.Dict keys values pos) (tDisp trs) := by
  intro pins s σ H Q I q
  have hn := I.hok.fresh (Nat.le_refl s.heap.objs.size)
  have I1 := I.laid (a := s.heap.objs.size) (o := .dK []) (h' := s.heap.push { cls := .type "dict", data := .dict #[] }) (t' := s.toks) (fun _ _ q => Heap.get?_push_of_some _ q) (Nat.le_refl _) (dk_empty s.heap I.big)
  refine wpAny_Dict_walk (knd := mixKind X.prog X.w) hall hl h0 h15 (thn (h pins _ σ _ _ I1 (q _ hn)) fun ws s2 ⟨ps, H2, I2, rel, e, kvs, ep, lk, q2⟩ => ?_)
  subst ep
  obtain ⟨rs, c, rk⟩ := carries_of (P := X.prog) (w := X.w) rel
  obtain ⟨z, hd, vs0, r0, dd⟩ := dk_of I2.hok e
  cases r0
  refine ⟨rs, c, dd, fun h' dd' hs => ⟨.ref s.heap.objs.size, _, ?_, rfl, q2⟩⟩
  have hz : (mergeK [] kvs).length ≤ sizeLine := by
    have h1 := length_mergeK kvs []
    rw [List.length_nil] at h1
    rw [sizeLine_eq]; omega
  have he : ∃ q, h'.get? s.heap.objs.size = some q := let ⟨q, _, _, hq, _⟩ := dd'; ⟨q, hq⟩
  exact d_write I2 (by rw [e]; exact True.intro) hs he (dk_new hz hd (rk.merge .nil) dd')
section
variable {X : Cx} {pins : List (Addr × Obj)} {σ : St} {H : Hp} {s : Shared} {a : Addr} {y d : V} {u r : Value} {o : Option V} {A : Around} {E : Value → Shared → Prop}
end
section
variable {X : Cx} {o e f : Expr} {apos cpos : Pos} {td ty tx : TE}
end
section
variable {X : Cx} {pins : List (Addr × Obj)} {σ : St} {H : Hp} {s : Shared} {a : Addr} {kvs : List (Key × V)} {A : Around} {E : Value → Shared → Prop}
end
section
variable {X : Cx} {pins : List (Addr × Obj)} {σ : St} {H : Hp} {s : Shared} {a : Addr} {y : V} {u : Value} {A : Around} {E : Value → Shared → Prop}
end
end L2
namespace L2
open PySem PySem.Spec PyProof.Rows
section
variable {X : Cx}
end
section
variable {κ : Type} [DecidableEq κ]
end
end L2
namespace OM
structure Src (ties : List Nat) (tk : List (Option Nat)) (lefts : List Nat) (kv : List (Nat × Nat)) : Prop where
  nd : (kv.map (·.1)).Nodup
  src : ∀ (i r l : Nat), kv[i]? = some (r, l) → l < ties.length ∧ (ties.getD l 0).testBit r = true ∧ (l ∈ lefts ∨ ∃ j q m : Nat, j < i ∧ kv[j]? = some (q, m) ∧ tk[l]? = some (some q))
def Reached (kv : List (Nat × Nat)) (r : Nat) : Prop := r ∈ kv.map (·.1)
def taker (tk : List (Option Nat)) (r : Nat) : Option Nat := (List.range tk.length).find? fun l => decide (tk[l]? = some (some r))
def more (tk : List (Option Nat)) (rs : List Nat) : List Nat := rs.filterMap (taker tk)
end OM
namespace OM
instance {kv : List (Nat × Nat)} {r : Nat} : Decidable (Reached kv r) := inferInstanceAs (Decidable (r ∈ kv.map (·.1)))
def srcOf (kv : List (Nat × Nat)) (r : Nat) : Nat := ((kv.find? fun p => decide (p.1 = r)).map (·.2)).getD 0
def told (tk : List (Option Nat)) : List Nat := tk.filterMap id
theorem nodup_le : ∀ {xs ys : List Nat}, xs.Nodup → (∀ x ∈ xs, x ∈ ys) → xs.length ≤ ys.length
  | [], _, _, _ => Nat.zero_le _
  | x :: xs, ys, hn, hs => by
    obtain ⟨h1, h2⟩ := List.nodup_cons.mp hn
    have hx := hs x List.mem_cons_self
    have ih := nodup_le (ys := ys.erase x) h2 fun y hy => by
      have hne : y ≠ x := fun z => h1 (z ▸ hy)
      exact (List.mem_erase_of_ne hne).mpr (hs y (List.mem_cons_of_mem _ hy))
    rw [List.length_erase_of_mem hx] at ih
    have := List.length_pos_of_mem hx
    rw [List.length_cons]
    omega
theorem places_nodup {a : Nat} : (places a).Nodup := List.Nodup.sublist List.filter_sublist List.nodup_range
end OM
namespace OM
section
variable {n : Nat} {ds : List Nat} {tk : List (Option Nat)}
end
end OM
namespace L2
open PySem PySem.Spec PyProof.Rows
def Itd (a : Addr) (o : Obj) (kvs : List (Key × V)) : It :=
  ⟨fun i H => H a = some (.frz o (.dK kvs)) ∧ i < kvs.length, fun i H x H' => H' = H ∧ ∃ k v, kvs[i]? = some (k, v) ∧ x = kV k, fun i H => H a = some (.frz o (.dK kvs)) ∧ kvs.length ≤ i⟩
section
variable {X : Cx} {tg : Expr}
def iDict (td : TE) : TI := fun σ H R => td σ H fun x H1 => ∃ a kvs, x = .ref a ∧ H1 a = some (.dK kvs) ∧ ∀ o, R (Itd a o kvs) (upd H1 a (.frz o (.dK kvs)))
end
section
variable {t : TS} {D : Ends} {σ : St} {H H₀ : Hp} {td : TE} {g : TG} {K : PySem.W.Frag} {a : Addr} {o : Obj} {kvs : List (Key × V)}
theorem ap_iDict {R : It → Hp → Prop} : iDict td σ H R = td σ H fun x H1 => ∃ a kvs, x = .ref a ∧ H1 a = some (.dK kvs) ∧ ∀ o, R (Itd a o kvs) (upd H1 a (.frz o (.dK kvs))) := rfl
theorem ap_dget {ty : TE} {Q : VK} : tDGet td ty σ H Q = td σ H fun x H1 => ty σ H1 fun y H2 => ∃ a v, x = .ref a ∧ DGet H2 a y (some v) ∧ Q v H2 := rfl
theorem ap_din {ty : TE} {Q : VK} : tDIn ty td σ H Q = ty σ H fun y H1 => td σ H1 fun x H2 => ∃ a o, x = .ref a ∧ DGet H2 a y o ∧ Q (.bl o.isSome) H2 := rfl
theorem ap_dnotin {ty : TE} {Q : VK} : tDNotIn ty td σ H Q = ty σ H fun y H1 => td σ H1 fun x H2 => ∃ a o, x = .ref a ∧ DGet H2 a y o ∧ Q (.bl (!o.isSome)) H2 := rfl
theorem ap_dput {ty tv : TE} : sDPut td ty tv D σ H = tv σ H fun v H1 => td σ H1 fun x H2 => ty σ H2 fun y H3 => ∃ a H4, x = .ref a ∧ DPut H3 a y v H4 ∧ D.nx σ H4 := rfl
theorem ap_dnew {Q : VK} : tDNewK σ H Q = ∀ p, H p = none → Q (.ref p) (upd H p (.dK [])) := rfl
end
def dv (kv : List (Nat × Nat)) : List (Key × V) := kv.map fun p => (Sum.inl (p.1 : Int), V.int (p.2 : Nat))
theorem dv_len (kv : List (Nat × Nat)) : (dv kv).length = kv.length := List.length_map ..
theorem dv_val : ∀ (kv : List (Nat × Nat)) (r : Nat), valV (dv kv) (Sum.inl (r : Int)) = if OM.Reached kv r then some (V.int (OM.srcOf kv r : Nat)) else none
  | [], r => rfl
  | p :: kv, r => by
    by_cases e : p.1 = r
    · have h1 : OM.Reached (p :: kv) r := by unfold OM.Reached; rw [List.map_cons, e]; exact List.mem_cons_self
      rw [if_pos h1]
      have h2 : OM.srcOf (p :: kv) r = p.2 := by unfold OM.srcOf; rw [List.find?_cons_of_pos (by simpa using e)]; rfl
      rw [h2]
      exact valV_pos (by show (Sum.inl (p.1 : Int) : Key) = _; rw [e])
    · have h2 : OM.srcOf (p :: kv) r = OM.srcOf kv r := by unfold OM.srcOf; rw [List.find?_cons_of_neg (by simpa using e)]
      have h1 : OM.Reached (p :: kv) r ↔ OM.Reached kv r := by
        unfold OM.Reached
        rw [List.map_cons, List.mem_cons]
        exact ⟨fun z => z.resolve_left fun z => e z.symm, .inr⟩
      have h3 : valV (dv (p :: kv)) (Sum.inl (r : Int)) = valV (dv kv) (Sum.inl (r : Int)) := valV_neg (fun z => e (by
        have z : (Sum.inl (p.1 : Int) : Key) = Sum.inl (r : Int) := z
        injection z with z
        omega))
      rw [h3, dv_val kv r, h2]
      by_cases h : OM.Reached kv r
      · rw [if_pos h, if_pos (h1.mpr h)]
      · rw [if_neg h, if_neg (fun z => h (h1.mp z))]
theorem dv_put {kv : List (Nat × Nat)} {r l : Nat} (h : ¬ OM.Reached kv r) : putK (dv kv) (Sum.inl (r : Int)) (V.int (l : Nat)) = dv (kv ++ [(r, l)]) := by
  rw [putK_new _ (by rw [dv_val, if_neg h])]
  unfold dv
  rw [List.map_append]
  rfl
end L2
namespace L2
open PySem PySem.Spec PyProof.Rows PySem.W
def oV : Option Nat → V
  | none => .non
  | some r => .int (r : Nat)
def ov (tk : List (Option Nat)) : List V := tk.map oV
def rIndexO : V → List V → Hp → VK → Prop := fun x vs H Q => ∃ (l : Addr) (tk : List (Option Nat)) (i k : Nat), x = .ref l ∧ vs = [.int (i : Nat)] ∧ H l = some (.lst (ov tk)) ∧ tk[k]? = some (some i) ∧ (∀ m, m < k → tk[m]? ≠ some (some i)) ∧ tk.length ≤ sizeLine ∧ Q (.int (k : Int)) H
def rListD : List V → Hp → VK → Prop := fun xs H Q => ∃ a kvs, xs = [.ref a] ∧ Rd H a (.dK kvs) ∧ ∀ l, H l = none → Q (.ref l) (upd H l (.lst (kvs.map fun kv => kV kv.1)))
end L2
namespace L2
open PySem
end L2
namespace L2
open PySem
theorem huD {A : Around} (h : A.units + 60 < cLine) : A.units + 1 < cLine := by omega
end L2
namespace L2
open PySem PySem.Spec PyProof.Rows PySem.W
section
variable {X : Cx}
def rSum (K : PySem.W.Frag) : List V → Hp → VK → Prop := fun xs H Q => ∃ a, ∃ ns : List Int, xs = [.ref a] ∧ SqL K H a (ns.map V.int) ∧ Q (.int ns.sum) H
theorem callSum (K : PySem.W.Frag) (hc : X.calm = true) (hK : X.K = K := by rfl) : CallR X (.builtin "sum") (rSum K) := by
  subst hK
  intro pins s σ H xs us Q I r h
  obtain ⟨a, ns, rfl, ha, q⟩ := h
  obtain ⟨u, rfl, ru⟩ := vals1 r
  cases (show u = Value.ref a from ru)
  obtain ⟨its, rv, pl, hz⟩ := I.list ha
  have hi := intsAre_of rv
  obtain ⟨ys, hx⟩ := hi.allInts.items
  have hl : s.heap.IsList a (intItems ys) := by rw [← hx]; exact pl.isList
  refine sum_intListG (I.ok.hd hc) hl fun h' tk t' hk => ?_
  have hns : numsOf its = ns := hi.numsOf
  have e2 : preSum (numAt ys) ys.size = ns.sum := by
    have h3 : ys.toList.map (·.1) = ns := by
      rw [← hns, ← nums_intItems ys, ← hx]
    have h4 : ys.size = (ys.toList.map (·.1)).length := by simp
    rw [preSum_eq ys, h4, List.take_length, h3]
  rw [e2]
  exact ⟨.int ns.sum, H, I.kept hk, ⟨_, rfl⟩, q⟩
end
section
variable {σ : St} {H : Hp} {K : PySem.W.Frag}
theorem ap_sum {xs : List V} {Q : VK} : rSum K xs H Q = ∃ a, ∃ ns : List Int, xs = [.ref a] ∧ SqL K H a (ns.map V.int) ∧ Q (.int ns.sum) H := rfl
theorem ap_disp {trs : List (TE × TE)} {Q : VK} : tDisp trs σ H Q = ∀ p, H p = none → tPairs trs σ (upd H p (.dK [])) fun ps H2 => H2 p = some (.dK []) ∧ ∃ kvs : List (Key × V), ps = kvs.map (fun kv => (kV kv.1, kv.2)) ∧ kvs.length ≤ 15 ∧ Q (.ref p) (upd H2 p (.dK (mergeK [] kvs))) := rfl
theorem ap_pnil {Q : List (V × V) → Hp → Prop} : tPairs [] σ H Q = Q [] H := rfl
theorem ap_pcons {tk tv : TE} {trs : List (TE × TE)} {Q : List (V × V) → Hp → Prop} : tPairs ((tk, tv) :: trs) σ H Q = tk σ H fun x H1 => tv σ H1 fun y H2 => tPairs trs σ H2 fun ps H3 => Q ((x, y) :: ps) H3 := rfl
end
end L2
namespace OM
theorem range_pos {p : Nat → Bool} {i : Nat} (h : p i = true) : (List.range (i + 1)).filter p = (List.range i).filter p ++ [i] := by
  rw [List.range_succ, List.filter_append]; simp [h]
theorem range_neg {p : Nat → Bool} {i : Nat} (h : p i = false) : (List.range (i + 1)).filter p = (List.range i).filter p := by
  rw [List.range_succ, List.filter_append]; simp [h]
end OM
namespace OM
def posOf (x : Nat) : List Nat → Nat
  | [] => 0
  | y :: ys => if y = x then 0 else posOf x ys + 1
theorem posOf_get {x : Nat} : ∀ {l : List Nat}, x ∈ l → l[posOf x l]? = some x
  | [], h => by cases h
  | y :: ys, h => by
    unfold posOf
    by_cases e : y = x
    · rw [if_pos e, List.getElem?_cons_zero, e]
    · rw [if_neg e, List.getElem?_cons_succ]
      exact posOf_get ((List.mem_cons.mp h).resolve_left fun z => e z.symm)
theorem posOf_first {x : Nat} : ∀ {l : List Nat} {m : Nat}, m < posOf x l → l[m]? ≠ some x
  | [], m, h => by unfold posOf at h; omega
  | y :: ys, m, h => by
    unfold posOf at h
    by_cases e : y = x
    · rw [if_pos e] at h; omega
    · rw [if_neg e] at h
      cases m with
      | zero => rw [List.getElem?_cons_zero]; intro z; cases z; exact e rfl
      | succ m => rw [List.getElem?_cons_succ]; exact posOf_first (by omega)
theorem posOf_lt {x : Nat} {l : List Nat} (h : x ∈ l) : posOf x l < l.length := (List.getElem?_eq_some_iff.mp (posOf_get h)).1
theorem posOf_at {x i : Nat} {l : List Nat} (hn : l.Nodup) (h : l[i]? = some x) : posOf x l = i := nodup_at hn (posOf_get (List.mem_of_getElem? h)) h
theorem posOf_inj {x y : Nat} {l : List Nat} (hx : x ∈ l) (hy : y ∈ l) (e : posOf x l = posOf y l) : x = y := by
  have h1 := posOf_get hx
  rw [e, posOf_get hy] at h1
  cases h1; rfl
def inv : List Nat → Nat
  | [] => 0
  | x :: xs => (xs.filter fun y => decide (y < x)).length + inv xs
theorem filter_swap {p : Nat → Bool} {a b : Nat} (l1 l2 : List Nat) : ((l1 ++ b :: a :: l2).filter p).length = ((l1 ++ a :: b :: l2).filter p).length := by
  rw [List.filter_append, List.filter_append, List.length_append, List.length_append, List.filter_cons, List.filter_cons, List.filter_cons, List.filter_cons]
  cases p a <;> cases p b <;> simp
theorem inv_swap {a b : Nat} (h : b < a) : ∀ l1 l2 : List Nat, inv (l1 ++ b :: a :: l2) + 1 = inv (l1 ++ a :: b :: l2)
  | [], l2 => by
    show inv (b :: a :: l2) + 1 = inv (a :: b :: l2)
    simp only [inv, List.filter_cons]
    simp [h, show ¬ a < b by omega]
    omega
  | x :: l1, l2 => by
    rw [List.cons_append, List.cons_append]
    unfold inv
    rw [filter_swap, ← inv_swap h l1 l2]
    omega
theorem sorted_of {xs : List Nat} (h : ∀ (p a b : Nat), xs[p]? = some a → xs[p + 1]? = some b → ¬ b < a) : ∀ i j a b : Nat, i ≤ j → xs[i]? = some a → xs[j]? = some b → a ≤ b := by
  intro i j
  induction j with
  | zero =>
    intro a b hij h1 h2
    have : i = 0 := by omega
    subst this
    rw [h1] at h2; cases h2; exact Nat.le_refl _
  | succ j ih =>
    intro a b hij h1 h2
    by_cases e : i = j + 1
    · subst e; rw [h1] at h2; cases h2; exact Nat.le_refl _
    · have hj : j < xs.length := by have := (List.getElem?_eq_some_iff.mp h2).1; omega
      have h3 : xs[j]? = some xs[j] := List.getElem?_eq_getElem hj
      have := ih a _ (by omega) h1 h3
      have := h j _ b h3 h2
      omega
theorem sorted_id {xs : List Nat} {n : Nat} (hl : xs.length = n) (hlt : ∀ x ∈ xs, x < n) (hnd : xs.Nodup) (h : ∀ (p a b : Nat), xs[p]? = some a → xs[p + 1]? = some b → ¬ b < a) : ∀ i, i < n → xs[i]? = some i := by
  have hs := sorted_of h
  have strict : ∀ i j a b : Nat, i < j → xs[i]? = some a → xs[j]? = some b → a < b := fun i j a b hij h1 h2 => by
    have := hs i j a b (by omega) h1 h2
    rcases Nat.lt_or_eq_of_le this with z | z
    · exact z
    · subst z; have := nodup_at hnd h1 h2; omega
  have low : ∀ i a : Nat, xs[i]? = some a → i ≤ a := by
    intro i
    induction i with
    | zero => intro a _; omega
    | succ i ih =>
      intro a ha
      have hi : i < xs.length := by have := (List.getElem?_eq_some_iff.mp ha).1; omega
      have h3 : xs[i]? = some xs[i] := List.getElem?_eq_getElem hi
      have := ih _ h3
      have := strict i (i + 1) _ a (by omega) h3 ha
      omega
  have high : ∀ d i a : Nat, i + d + 1 = n → xs[i]? = some a → a + d + 1 ≤ n := by
    intro d
    induction d with
    | zero => intro i a hi ha; have := hlt a (List.mem_of_getElem? ha); omega
    | succ d ih =>
      intro i a hi ha
      have h3 : xs[i + 1]? = some (xs[i + 1]'(by omega)) := List.getElem?_eq_getElem _
      have := ih (i + 1) _ (by omega) h3
      have := strict i (i + 1) a _ (by omega) ha h3
      omega
  intro i hi
  have h3 : xs[i]? = some (xs[i]'(by omega)) := List.getElem?_eq_getElem _
  have h1 := low i _ h3
  have h2 := high (n - 1 - i) i _ (by omega) h3
  rw [h3]
  congr 1
  omega
def poss (other row : List Nat) : List Nat := row.map fun x => posOf x other
def Desc (other row : List Nat) (p : Nat) : Prop := ∃ a b : Nat, row[p]? = some a ∧ row[p + 1]? = some b ∧ posOf b other < posOf a other
theorem same_or_desc {other row : List Nat} (hp : row.Perm other) (hn : other.Nodup) : row = other ∨ ∃ p, Desc other row p := by
  apply Classical.byContradiction
  intro hno
  have hne : row ≠ other := fun z => hno (.inl z)
  have hd : ∀ p, ¬ Desc other row p := fun p z => hno (.inr ⟨p, z⟩)
  apply hne
  have hmem : ∀ x, x ∈ row → x ∈ other := fun x h => hp.mem_iff.mp h
  have hl : row.length = other.length := hp.length_eq
  have hid := sorted_id (xs := poss other row) (n := other.length) (by unfold poss; rw [List.length_map, hl]) (fun y hy => by
      obtain ⟨x, hx, rfl⟩ := List.mem_map.mp hy
      exact posOf_lt (hmem x hx)) (by
      unfold poss
      rw [List.nodup_iff_pairwise_ne, List.pairwise_map]
      exact List.Pairwise.imp_of_mem (fun {a b} ma mb z q => z (posOf_inj (hmem a ma) (hmem b mb) q)) (List.nodup_iff_pairwise_ne.mp (hp.nodup_iff.mpr hn))) (fun p a b h1 h2 hlt => by
      unfold poss at h1 h2
      rw [List.getElem?_map] at h1 h2
      cases e1 : row[p]? with
      | none => rw [e1] at h1; cases h1
      | some x =>
        cases e2 : row[p + 1]? with
        | none => rw [e2] at h2; cases h2
        | some y =>
          rw [e1] at h1; rw [e2] at h2
          cases h1; cases h2
          exact hd p ⟨x, y, e1, e2, hlt⟩)
  apply List.ext_getElem? 
  intro i
  by_cases hi : i < other.length
  · have h1 := hid i hi
    unfold poss at h1
    rw [List.getElem?_map] at h1
    have e : row[i]? = some (row[i]'(by omega)) := List.getElem?_eq_getElem _
    rw [e] at h1
    have h2 : posOf (row[i]'(by omega)) other = i := by simpa using h1
    have h3 := posOf_get (hmem _ (List.getElem_mem (show i < row.length by omega)))
    rw [h2] at h3
    rw [e, h3]
  · rw [List.getElem?_eq_none (by omega), List.getElem?_eq_none (by omega)]
def swapAt (row : List Nat) (p a b : Nat) : List Nat := row.take p ++ b :: a :: row.drop (p + 2)
theorem row_at {row : List Nat} {p a b : Nat} (h1 : row[p]? = some a) (h2 : row[p + 1]? = some b) : row = row.take p ++ a :: b :: row.drop (p + 2) := by
  obtain ⟨l1, e1⟩ := List.getElem?_eq_some_iff.mp h1
  obtain ⟨l2, e2⟩ := List.getElem?_eq_some_iff.mp h2
  have := List.take_append_drop p row
  rw [List.drop_eq_getElem_cons l1, List.drop_eq_getElem_cons l2, e1, e2] at this
  exact this.symm
theorem swap_perm {row : List Nat} {p a b : Nat} (h1 : row[p]? = some a) (h2 : row[p + 1]? = some b) : (swapAt row p a b).Perm row := by
  conv => rhs; rw [row_at h1 h2]
  exact List.Perm.append_left _ (List.Perm.swap ..)
theorem swap_inv {other row : List Nat} {p a b : Nat} (h1 : row[p]? = some a) (h2 : row[p + 1]? = some b) (h : posOf b other < posOf a other) : inv (poss other (swapAt row p a b)) + 1 = inv (poss other row) := by
  conv => rhs; rw [row_at h1 h2]
  unfold poss swapAt
  rw [List.map_append, List.map_cons, List.map_cons, List.map_append, List.map_cons, List.map_cons]
  exact inv_swap h _ _
def Lays (ds row : List Nat) : Prop := ∀ (i t x : Nat), row[i]? = some t → (ds.getD t 0).testBit x = true → x ≠ t → ∃ j, j < i ∧ row[j]? = some x
structure Way (n : Nat) (ds row : List Nat) : Prop where
  perm : row.Perm (List.range n)
  lays : Lays ds row
theorem Way.nodup {n : Nat} {ds row : List Nat} (h : Way n ds row) : row.Nodup := h.perm.nodup_iff.mpr List.nodup_range
theorem Way.mem {n : Nat} {ds row : List Nat} (h : Way n ds row) {x : Nat} : x ∈ row ↔ x < n := by rw [h.perm.mem_iff, List.mem_range]
theorem Way.len {n : Nat} {ds row : List Nat} (h : Way n ds row) : row.length = n := by rw [h.perm.length_eq, List.length_range]
theorem swap_at {row : List Nat} {p a b : Nat} (h1 : row[p]? = some a) (h2 : row[p + 1]? = some b) (j : Nat) : (swapAt row p a b)[j]? = if j = p then some b else if j = p + 1 then some a else row[j]? := by
  obtain ⟨l1, _⟩ := List.getElem?_eq_some_iff.mp h1
  have htl : (row.take p).length = p := by rw [List.length_take]; omega
  unfold swapAt
  by_cases hj : j < p
  · rw [List.getElem?_append_left (by omega), List.getElem?_take, if_pos hj, if_neg (by omega), if_neg (by omega)]
  · rw [List.getElem?_append_right (by omega), htl]
    by_cases hj2 : j = p
    · subst hj2; rw [Nat.sub_self, if_pos rfl]; rfl
    · by_cases hj3 : j = p + 1
      · subst hj3; rw [if_neg (by omega), if_pos rfl, show p + 1 - p = 1 by omega]; rfl
      · rw [if_neg hj2, if_neg hj3]
        obtain ⟨d, rfl⟩ : ∃ d, j = p + 2 + d := ⟨j - (p + 2), by omega⟩
        rw [show p + 2 + d - p = d + 2 by omega, List.getElem?_cons_succ, List.getElem?_cons_succ, List.getElem?_drop]
theorem Way.swap {n : Nat} {ds row other : List Nat} {p a b : Nat} (W : Way n ds row) (O : Way n ds other) (h1 : row[p]? = some a) (h2 : row[p + 1]? = some b) (h : posOf b other < posOf a other) : Way n ds (swapAt row p a b) := by
  refine ⟨(swap_perm h1 h2).trans W.perm, fun i t x ht hb hne => ?_⟩
  have at1 := swap_at h1 h2
  rw [at1] at ht
  by_cases hi : i = p
  · rw [if_pos hi] at ht
    cases ht
    obtain ⟨j, hj, ej⟩ := W.lays (p + 1) b x h2 hb hne
    by_cases hjp : j = p
    · subst hjp
      rw [h1] at ej
      cases ej
      have hbo : other[posOf b other]? = some b := posOf_get (O.mem.mpr (W.mem.mp (List.mem_of_getElem? h2)))
      obtain ⟨q, hq, eq⟩ := O.lays _ b a hbo hb hne
      have := posOf_at O.nodup eq
      omega
    · exact ⟨j, by omega, by rw [at1, if_neg hjp, if_neg (by omega)]; exact ej⟩
  · rw [if_neg hi] at ht
    by_cases hi2 : i = p + 1
    · rw [if_pos hi2] at ht
      cases ht
      obtain ⟨j, hj, ej⟩ := W.lays p a x h1 hb hne
      exact ⟨j, by omega, by rw [at1, if_neg (by omega), if_neg (by omega)]; exact ej⟩
    · rw [if_neg hi2] at ht
      obtain ⟨j, hj, ej⟩ := W.lays i t x ht hb hne
      by_cases hjp : j = p
      · subst hjp
        rw [h1] at ej
        cases ej
        exact ⟨j + 1, by omega, by rw [at1, if_neg (by omega), if_pos rfl]⟩
      · by_cases hjp2 : j = p + 1
        · subst hjp2
          rw [h2] at ej
          cases ej
          exact ⟨p, by omega, by rw [at1, if_pos rfl]⟩
        · exact ⟨j, hj, by rw [at1, if_neg hjp, if_neg hjp2]; exact ej⟩
end OM
namespace OM
def wl (rd : Nat → List Nat) : Nat → Nat → List (List Nat)
  | 0, _ => [[]]
  | k + 1, S => (rd S).flatMap fun t => (wl rd k (S ||| 1 <<< t)).map fun r => t :: r
def cw (rd : Nat → List Nat) (k S : Nat) : Nat := (wl rd k S).length
theorem cw_succ {rd : Nat → List Nat} {k S : Nat} : cw rd (k + 1) S = ((rd S).map fun t => cw rd k (S ||| 1 <<< t)).sum := by
  unfold cw
  rw [wl, List.length_flatMap]
  congr 1
  apply List.map_congr_left
  intro t _
  rw [List.length_map]
def pl (rd : Nat → List Nat) : Nat → List (List Nat)
  | 0 => [[]]
  | k + 1 => (pl rd k).flatMap fun r => (rd (bits r)).map fun t => r ++ [t]
def Goes (rd : Nat → List Nat) : Nat → List Nat → Prop
  | _, [] => True
  | S, t :: r => t ∈ rd S ∧ Goes rd (S ||| 1 <<< t) r
theorem mem_wl {rd : Nat → List Nat} : ∀ {k S : Nat} {row : List Nat}, row ∈ wl rd k S ↔ row.length = k ∧ Goes rd S row
  | 0, S, row => by
    rw [wl, List.mem_singleton]
    constructor
    · rintro rfl; exact ⟨rfl, trivial⟩
    · rintro ⟨h, _⟩; exact List.length_eq_zero_iff.mp h
  | k + 1, S, row => by
    rw [wl, List.mem_flatMap]
    constructor
    · rintro ⟨t, ht, hr⟩
      obtain ⟨r, hr2, rfl⟩ := List.mem_map.mp hr
      obtain ⟨h1, h2⟩ := mem_wl.mp hr2
      exact ⟨by rw [List.length_cons, h1], ht, h2⟩
    · rintro ⟨h1, h2⟩
      cases row with
      | nil => cases h1
      | cons t r => exact ⟨t, h2.1, List.mem_map.mpr ⟨r, mem_wl.mpr ⟨by simpa using h1, h2.2⟩, rfl⟩⟩
theorem same_len {α : Type} [DecidableEq α] {xs ys : List α} (h1 : xs.Nodup) (h2 : ys.Nodup) (h : ∀ x, x ∈ xs ↔ x ∈ ys) : xs.length = ys.length := by
  have key : ∀ (xs ys : List α), xs.Nodup → (∀ x ∈ xs, x ∈ ys) → xs.length ≤ ys.length := by
    intro xs
    induction xs with
    | nil => intro ys _ _; exact Nat.zero_le _
    | cons x xs ih =>
      intro ys hn hs
      obtain ⟨hx, hxs⟩ := List.nodup_cons.mp hn
      have hm := hs x List.mem_cons_self
      have := ih (ys.erase x) hxs fun y hy => (List.mem_erase_of_ne (fun z : y = x => hx (z ▸ hy))).mpr (hs y (List.mem_cons_of_mem _ hy))
      rw [List.length_erase_of_mem hm] at this
      have := List.length_pos_of_mem hm
      rw [List.length_cons]
      omega
  exact Nat.le_antisymm (key _ _ h1 fun x hx => (h x).mp hx) (key _ _ h2 fun x hx => (h x).mpr hx)
structure Rd (n : Nat) (ds : List Nat) (rd : Nat → List Nat) : Prop where
  mem : ∀ S t, t ∈ rd S ↔ t < n ∧ ∀ x, ((ds.getD t 0).testBit x = true ∧ S.testBit x = false) ↔ x = t
  nodup : ∀ S, (rd S).Nodup
theorem goes_iff {rd : Nat → List Nat} : ∀ {row : List Nat} {S : Nat}, Goes rd S row ↔ ∀ (i t : Nat), row[i]? = some t → t ∈ rd (S ||| bits (row.take i))
  | [], S => by
    constructor
    · intro _ i t h; simp at h
    · intro _; trivial
  | u :: row, S => by
    have e0 : ∀ i, S ||| 1 <<< u ||| bits (row.take i) = S ||| bits ((u :: row).take (i + 1)) := fun i => by
      apply Nat.eq_of_testBit_eq
      intro x
      rw [Nat.testBit_or, Nat.testBit_or, Nat.testBit_or, Bool.eq_iff_iff, Bool.or_eq_true, Bool.or_eq_true, Bool.or_eq_true, bit_one, testBit_bits, testBit_bits, decide_eq_true_iff, decide_eq_true_iff, List.take_succ_cons, List.mem_cons, or_assoc]
    have b0 : S ||| bits ((u :: row).take 0) = S := by
      apply Nat.eq_of_testBit_eq
      intro x
      rw [Nat.testBit_or, testBit_bits]; simp
    constructor
    · rintro ⟨h1, h2⟩ i t h
      cases i with
      | zero => rw [b0]; simp at h; rw [← h]; exact h1
      | succ i =>
        rw [← e0]
        exact goes_iff.mp h2 i t (by simpa using h)
    · intro h
      refine ⟨by have := h 0 u rfl; rwa [b0] at this, goes_iff.mpr fun i t ht => ?_⟩
      rw [e0]
      exact h (i + 1) t (by simpa using ht)
theorem mem_take_iff {row : List Nat} {i x : Nat} : x ∈ row.take i ↔ ∃ j, j < i ∧ row[j]? = some x := by
  rw [List.mem_iff_getElem?]
  constructor
  · rintro ⟨j, hj⟩
    rw [List.getElem?_take] at hj
    split at hj
    · exact ⟨j, by assumption, hj⟩
    · cases hj
  · rintro ⟨j, h1, h2⟩
    exact ⟨j, by rw [List.getElem?_take, if_pos h1]; exact h2⟩
theorem perm_of_len {row : List Nat} {n : Nat} (h1 : row.Nodup) (h2 : ∀ x ∈ row, x < n) (h3 : row.length = n) : row.Perm (List.range n) := by
  have hm : ∀ x, x < n → x ∈ row := fun x hx => by
    apply Classical.byContradiction
    intro hno
    have := nodup_le (xs := x :: row) (ys := List.range n) (List.nodup_cons.mpr ⟨hno, h1⟩) (fun y hy => List.mem_range.mpr ((List.mem_cons.mp hy).elim (fun z => by rw [z]; exact hx) (h2 y)))
    rw [List.length_cons, List.length_range] at this
    omega
  exact (List.perm_ext_iff_of_nodup h1 List.nodup_range).mpr fun x => ⟨fun hx => List.mem_range.mpr (h2 x hx), fun hx => hm x (List.mem_range.mp hx)⟩
theorem goes_way {n : Nat} {ds : List Nat} {rd : Nat → List Nat} (R : PO n ds) (D : Rd n ds rd) {row : List Nat} : row ∈ wl rd n 0 ↔ Way n ds row := by
  rw [mem_wl, goes_iff]
  constructor
  · rintro ⟨hl, h⟩
    have h' : ∀ i t, row[i]? = some t → t < n ∧ ∀ x, ((ds.getD t 0).testBit x = true ∧ x ∉ row.take i) ↔ x = t := fun i t e => by
      have := (D.mem _ _).mp (h i t e)
      refine ⟨this.1, fun x => ?_⟩
      rw [← this.2 x, Nat.zero_or, testBit_bits, decide_eq_false_iff_not]
    refine ⟨perm_of_len ?_ ?_ hl, fun i t x e hb hne => ?_⟩
    · refine List.pairwise_iff_getElem.mpr fun i j hi hj hij e => ?_
      have et : row[j]? = some row[j] := List.getElem?_eq_getElem hj
      exact ((h' j _ et).2 _ |>.mpr rfl).2 (mem_take_iff.mpr ⟨i, hij, by rw [List.getElem?_eq_getElem hi, e]⟩)
    · intro x hx
      obtain ⟨i, hi⟩ := List.mem_iff_getElem?.mp hx
      exact (h' i x hi).1
    · apply Classical.byContradiction
      intro hno
      exact hne (((h' i t e).2 x).mp ⟨hb, fun z => hno (mem_take_iff.mp z)⟩)
  · intro W
    refine ⟨W.len, fun i t e => (D.mem _ _).mpr ⟨W.mem.mp (List.mem_of_getElem? e), fun x => ?_⟩⟩
    have ht := W.mem.mp (List.mem_of_getElem? e)
    rw [Nat.zero_or, testBit_bits, decide_eq_false_iff_not]
    constructor
    · rintro ⟨h1, h2⟩
      apply Classical.byContradiction
      intro hne
      exact h2 (mem_take_iff.mpr (W.lays i t x e h1 hne))
    · rintro rfl
      refine ⟨R.refl x ht, fun z => ?_⟩
      obtain ⟨j, h1, h2⟩ := mem_take_iff.mp z
      have := nodup_at W.nodup e h2
      omega
def DownS (n : Nat) (ds : List Nat) (S : Nat) : Prop := S < 2 ^ n ∧ ∀ t x, S.testBit t = true → (ds.getD t 0).testBit x = true → S.testBit x = true
theorem downs_iff {n : Nat} {ds : List Nat} (R : PO n ds) {S : Nat} (hS : S < 2 ^ n) : below ds (places S) = S ↔ DownS n ds S := by
  constructor
  · intro e
    refine ⟨hS, fun t x h1 h2 => ?_⟩
    rw [← e]; exact below_bit.mpr ⟨t, h1, h2⟩
  · rintro ⟨_, h⟩
    apply Nat.eq_of_testBit_eq
    intro x
    rw [Bool.eq_iff_iff, below_bit]
    constructor
    · rintro ⟨t, h1, h2⟩; exact h t x h1 h2
    · intro hx
      have hxn : x < n := Classical.byContradiction fun hc => by
        have := Nat.testBit_lt_two_pow (Nat.lt_of_lt_of_le hS (Nat.pow_le_pow_right (by decide) (Nat.le_of_not_lt hc)))
        rw [hx] at this; cases this
      exact ⟨x, hx, R.refl x hxn⟩
theorem Rd.step {n : Nat} {ds : List Nat} {rd : Nat → List Nat} (D : Rd n ds rd) {S t : Nat} (hS : DownS n ds S) (ht : t ∈ rd S) : DownS n ds (S ||| 1 <<< t) ∧ S < S ||| 1 <<< t ∧ (places (S ||| 1 <<< t)).length = (places S).length + 1 := by
  obtain ⟨h1, h2⟩ := (D.mem S t).mp ht
  have hno : S.testBit t = false := ((h2 t).mpr rfl).2
  refine ⟨⟨?_, fun u x hu hx => ?_⟩, ?_, ?_⟩
  · exact Nat.or_lt_two_pow hS.1 (by rw [Nat.one_shiftLeft]; exact Nat.pow_lt_pow_right (by decide) h1)
  · rw [Nat.testBit_or, Bool.or_eq_true, bit_one] at hu ⊢
    rcases hu with hu | rfl
    · exact .inl (hS.2 u x hu hx)
    · cases hb : S.testBit x with
      | true => exact .inl rfl
      | false => exact .inr ((h2 x).mp ⟨hx, hb⟩)
  · refine Nat.lt_of_le_of_ne Nat.left_le_or fun e => ?_
    have : (S ||| 1 <<< t).testBit t = true := by rw [Nat.testBit_or, Bool.or_eq_true, bit_one]; exact .inr rfl
    rw [← e, hno] at this; cases this
  · have e : (places (S ||| 1 <<< t)).length = (t :: places S).length := by
      refine same_len places_nodup (List.nodup_cons.mpr ⟨(fun z => by rw [mem_places, hno] at z; cases z), places_nodup⟩) fun x => ?_
      rw [mem_places, Nat.testBit_or, Bool.or_eq_true, bit_one, List.mem_cons, mem_places, or_comm]
    rw [e, List.length_cons]
theorem places_lt_all {n S : Nat} (h : S < 2 ^ n) : (places S).length ≤ n ∧ (S ≠ 2 ^ n - 1 → (places S).length < n) := by
  have hb : ∀ x, S.testBit x = true → x < n := fun x hx => Classical.byContradiction fun hc => by
    have := Nat.testBit_lt_two_pow (Nat.lt_of_lt_of_le h (Nat.pow_le_pow_right (by decide) (Nat.le_of_not_lt hc)))
    rw [hx] at this; cases this
  have h1 : (places S).length ≤ n := by
    have := nodup_le (xs := places S) (ys := List.range n) places_nodup fun x hx => List.mem_range.mpr (hb x (mem_places.mp hx))
    rwa [List.length_range] at this
  refine ⟨h1, fun hne => Nat.lt_of_le_of_ne h1 fun e => hne ?_⟩
  have hp := perm_of_len places_nodup (fun x hx => hb x (mem_places.mp hx)) e
  apply Nat.eq_of_testBit_eq
  intro x
  rw [Nat.testBit_two_pow_sub_one, Bool.eq_iff_iff, decide_eq_true_iff, ← mem_places, hp.mem_iff, List.mem_range]
def behindN (n : Nat) (rd : Nat → List Nat) (S : Nat) : Nat := cw rd (n - (places S).length) S
theorem behind_step {n : Nat} {ds : List Nat} {rd : Nat → List Nat} (D : Rd n ds rd) {S : Nat} (hS : DownS n ds S) (hne : S ≠ 2 ^ n - 1) : behindN n rd S = ((rd S).map fun t => behindN n rd (S ||| 1 <<< t)).sum := by
  have h1 := (places_lt_all hS.1).2 hne
  unfold behindN
  rw [show n - (places S).length = (n - ((places S).length + 1)) + 1 by omega, cw_succ]
  congr 1
  apply List.map_congr_left
  intro t ht
  rw [(D.step hS ht).2.2]
end OM
namespace L2
open PySem PySem.Spec PyProof.Rows PySem.W
open Sem (wp)
def DK (h h' : Heap) : Prop := ∀ b o, h.get? b = some o → ∃ o', h'.get? b = some o' ∧ o'.dict = o.dict
theorem DK.refl (h : Heap) : DK h h := fun _ o e => ⟨o, e, rfl⟩
theorem DK.trans {h1 h2 h3 : Heap} (x : DK h1 h2) (y : DK h2 h3) : DK h1 h3 := fun b o e =>
  let ⟨o1, e1, d1⟩ := x b o e; let ⟨o2, e2, d2⟩ := y b o1 e1; ⟨o2, e2, d2.trans d1⟩
structure Tame {α : Type} (t : Sem α) : Prop where
  run : ∀ (M : Model) (Γ : PySem.Ctx) (Q : α → Pos → Shared → Prop) (E : Value → Pos → Shared → Prop) (p : Pos) (s : Shared), wp M Γ t Q E p s →
  wp M Γ t (fun a p' s' => Q a p' s' ∧ DK s.heap s'.heap) (fun e p' s' => E e p' s' ∧ DK s.heap s'.heap) p s
section
variable {α β : Type}
theorem tame_pure (a : α) : Tame (pure a : Sem α) := ⟨fun M Γ Q E p s h => by
  rw [Sem.wp_pure'] at h ⊢
  exact ⟨h, .refl _⟩⟩
theorem tame_uns (x : String) : Tame (unsupported x : Sem α) := ⟨fun M Γ Q E p s h => by
  unfold unsupported at h
  rw [Sem.wp_unsupported] at h
  exact False.elim h⟩
theorem tame_bind {m : Sem α} {f : α → Sem β} (hm : Tame m) (hf : ∀ a, Tame (f a)) : Tame (m >>= f) := ⟨fun M Γ Q E p s h => by
  rw [Sem.wp_bind'] at h ⊢
  refine Sem.wp_mono _ _ _ (fun a p' s' x => ?_) (fun e p' s' x => x) _ _ (hm.run M Γ _ _ p s h)
  exact Sem.wp_mono _ _ _ (fun b p2 s2 y => ⟨y.1, x.2.trans y.2⟩) (fun e p2 s2 y => ⟨y.1, x.2.trans y.2⟩) _ _ ((hf a).run M Γ _ _ p' s' x.1)⟩
theorem tame_load (a : Addr) : Tame (load a) := ⟨fun M Γ Q E p s h => by
  unfold load at h ⊢
  rw [Sem.wp_load] at h ⊢
  obtain ⟨o, h1, h2⟩ := h
  refine ⟨o, h1, ?_⟩
  rw [Sem.wp_pure] at h2 ⊢
  exact ⟨h2, .refl _⟩⟩
theorem tame_stack : Tame stack := ⟨fun M Γ Q E p s h => by
  unfold stack at h ⊢
  rw [Sem.wp_stack] at h ⊢
  rw [Sem.wp_pure] at h ⊢
  exact ⟨h, .refl _⟩⟩
theorem tame_alloc (o : Obj) : Tame (alloc o) := ⟨fun M Γ Q E p s h => by
  unfold alloc at h ⊢
  rw [Sem.wp_alloc] at h ⊢
  rw [Sem.wp_pure] at h ⊢
  exact ⟨h, fun b ob e => ⟨ob, Heap.get?_push_of_some _ e, rfl⟩⟩⟩
theorem tame_update {a : Addr} {f : Obj → Obj} (hf : ∀ o : Obj, o.isFreed = false → (f o).isFreed = false ∧ (f o).dict = o.dict) : Tame (update a f) := ⟨fun M Γ Q E p s h => by
  unfold update at h ⊢
  rw [Sem.wp_update] at h ⊢
  refine ⟨h.1, ?_⟩
  have h2 := h.2
  rw [Sem.wp_pure] at h2 ⊢
  refine ⟨h2, fun b ob e => ?_⟩
  by_cases q : b = a
  · subst q
    have z := hf ob (Heap.get?_some_iff.mp e).2
    exact ⟨f ob, Heap.get?_update_self _ e z.1, z.2⟩
  · exact ⟨ob, (Heap.get?_update_other _ _ (Ne.symm q)).trans e, rfl⟩⟩
theorem tame_ite {c : Prop} [Decidable c] {a b : Sem α} (x : Tame a) (y : Tame b) : Tame (if c then a else b) := by split <;> assumption
theorem tame_fieldsOf (v : Value) : Tame (fieldsOf v) := by unfold fieldsOf; repeat (first | intro _ | exact tame_pure _ | exact tame_uns _ | exact tame_load _ | exact tame_stack | exact tame_alloc _ | assumption | with_reducible apply tame_bind | with_reducible apply tame_ite | split)
theorem tame_field (v : Value) (i : Nat) : Tame (field v i) := by
  unfold field
  have := tame_fieldsOf v
  repeat (first | intro _ | exact tame_pure _ | exact tame_uns _ | exact tame_load _ | exact tame_stack | exact tame_alloc _ | assumption | with_reducible apply tame_bind | with_reducible apply tame_ite | split)
theorem tame_mapFields {a : Addr} {g : Array Value → Array Value} : Tame (update a (Obj.mapFields g)) := tame_update fun o ho => by
  obtain ⟨c, d, dt, sl⟩ := o
  cases dt <;> first | exact ⟨rfl, rfl⟩ | exact ⟨ho, rfl⟩
theorem tame_setField (v : Value) (i : Nat) (x : Value) : Tame (setField v i x) := by
  unfold setField updateField
  have : ∀ (a : Addr) (g : Array Value → Array Value), Tame (update a (Obj.mapFields g)) := fun _ _ => tame_mapFields
  repeat (first | intro _ | exact tame_uns _ | exact tame_load _ | exact this _ _ | with_reducible apply tame_bind | with_reducible apply tame_ite | split)
theorem tame_setFlight (v : Value) (f : Option Addr) : Tame (setFlight v f) := by
  unfold setFlight
  have h1 := tame_field v 1
  have h2 := tame_setField
  repeat (first | intro _ | exact tame_pure _ | exact h1 | exact h2 _ _ _ | with_reducible apply tame_bind | with_reducible apply tame_ite | split)
theorem tame_ready : ∀ l : List Env, Tame (readyFrames l)
  | [] => by unfold readyFrames; exact tame_pure _
  | env :: outer => by
    have ih := tame_ready outer
    have hu : ∀ (a : Addr) (g : Obj → Array (Option Value)), Tame (update a fun o => { o with slots := g o }) := fun a g => tame_update fun o ho => ⟨by
      obtain ⟨c, d, dt, sl⟩ := o
      cases dt <;> first | rfl | exact ho, rfl⟩
    have h1 : ∀ e o, Tame (behindIsImport e o) := fun e o => by
      unfold behindIsImport
      have := tame_field
      repeat (first | intro _ | exact tame_pure _ | exact this _ _ | with_reducible apply tame_bind | with_reducible apply tame_ite | split)
    have h2 : ∀ e b o, Tame (keptBack e b o) := fun e b o => by
      unfold keptBack underTheClaimsCaller
      repeat (first | intro _ | exact tame_pure _ | exact tame_uns _ | exact tame_load _ | exact tame_stack | exact tame_alloc _ | assumption | with_reducible apply tame_bind | with_reducible apply tame_ite | split)
    unfold readyFrames
    repeat (first | intro _ | exact tame_pure _ | exact tame_uns _ | exact tame_load _ | exact ih | exact h1 _ _ | exact h2 _ _ _ | exact hu _ _ | with_reducible apply tame_bind | with_reducible apply tame_ite | split)
theorem tame_frameOf (env : Env) : Tame (PySem.frameOf env) := by
  unfold PySem.frameOf frameEnvs frameObject
  have := tame_ready
  repeat (first | intro _ | exact tame_pure _ | exact tame_uns _ | exact tame_stack | exact this _ | with_reducible apply tame_bind | with_reducible apply tame_ite | split)
theorem tame_newEntry (a b c d e : Value) (l : List Value) : Tame (EntryCells.newEntry a b c d e l) := by
  unfold EntryCells.newEntry newFields newObj newObjAsIs
  repeat (first | intro _ | exact tame_pure _ | exact tame_uns _ | exact tame_load _ | exact tame_stack | exact tame_alloc _ | assumption | with_reducible apply tame_bind | with_reducible apply tame_ite | split)
theorem tame_place (f : Addr) (b : Bool) : Tame (entryPlaceOf f b) := by
  unfold entryPlaceOf
  repeat (first | intro _ | exact tame_pure _ | exact tame_uns _ | exact tame_load _ | exact tame_stack | exact tame_alloc _ | assumption | with_reducible apply tame_bind | with_reducible apply tame_ite | split)
theorem tame_note (e : Value) (env : Env) : Tame (noteFrame e env) := by
  unfold noteFrame
  have h1 := tame_field
  have h2 := tame_setField
  have h3 := tame_frameOf
  have h4 := tame_newEntry
  have h5 := tame_place
  repeat (first | intro _ | exact tame_pure _ | exact tame_uns _ | exact h1 _ _ | exact h2 _ _ _ | exact h3 _ | exact h4 _ _ _ _ _ _ | exact h5 _ _ | with_reducible apply tame_bind | with_reducible apply tame_ite | split)
theorem tame_leaving (env : Env) (e : Value) : Tame (leaving env e) := by
  unfold leaving
  exact tame_bind (tame_note e env) fun _ => tame_setFlight e none
theorem Tame.any {t : Sem α} (T : Tame t) {M : Model} {A : Around} {Q : α → Shared → Prop} {E : Value → Shared → Prop} {s : Shared} (h : wpAny M A t (fun a s' => DK s.heap s'.heap → Q a s') (fun e s' => DK s.heap s'.heap → E e s') s) : wpAny M A t Q E s :=
  fun Γ p hΓ => Sem.wp_mono _ _ _ (fun a _ s' x => x.1 x.2) (fun e _ s' x => x.1 x.2) _ _ (T.run M Γ _ _ p s (h Γ p hΓ))
end
end L2
namespace L2
open PySem PySem.Spec PyProof.Rows
structure Fly (P : Program) (w : World) (outer : List Env) (H H' : Hp) (h B : Heap) (ea : Addr) (cls a0 : Value) (dct : Option Addr) (h' : Heap) : Prop where
  fl : Heap.FlyingW B outer ea cls a0 h'
  dd : ∃ oe, h'.get? ea = some oe ∧ oe.dict = dct
  hok : HOk P w H' B
  new : h.get? ea = none
  keep : ∀ b o, h.get? b = some o → H b = none → b ∉ frs outer → B.get? b = some o
  slot : ∀ b o, h.get? b = some o → H b = none → b ∈ frs outer → ∃ sl, h'.get? b = some { o with slots := sl }
  free : ∀ b o, h.get? b = some o → H b = none → H' b = none
  there : ∀ b o, h.get? b = some o → b ∉ frs outer → ∃ o', B.get? b = some o'
  tups : ∀ b xs, H b = some (.tup xs) → H' b = some (.tup xs)
  frzs : ∀ b o u, H b = some (.frz o u) → H' b = some (.frz o u)
  tbls : ∀ b ps, H b = some (.tbl ps) → ∃ more, H' b = some (.tbl (ps ++ more))
section
variable {P : Program} {w : World} {outer : List Env} {H H' : Hp} {h B h' : Heap} {ea : Addr} {cls a0 : Value} {dct : Option Addr}
theorem ObjOk.here {a : Addr} {o : HO} (x : ObjOk P w H h a o) : ∃ ob, h.get? a = some ob := by
  cases o with
  | lst xs => obtain ⟨_, _, _, _, e⟩ := x; exact ⟨_, e⟩
  | tup xs => obtain ⟨_, _, _, ob, e, _⟩ := x; exact ⟨_, e⟩
  | dK kvs => obtain ⟨_, _, _, _, o, _, _, e, _⟩ := x; exact ⟨_, e⟩
  | dT kvs => obtain ⟨_, _, _, _, o, _, _, e, _⟩ := x; exact ⟨_, e⟩
  | set S n => obtain ⟨o, _, _, _, e, _⟩ := x; exact ⟨_, e⟩
  | ins C dx fs => obtain ⟨_, _, _, e, _⟩ := x; exact ⟨_, e⟩
  | own y => exact x
  | xd fs => obtain ⟨_, ⟨_, _, _, e, _⟩, _⟩ := x; exact ⟨_, e⟩
  | rng lo hi => obtain ⟨_, _, _, e⟩ := x; exact ⟨_, e⟩
  | frz ob u => obtain ⟨e, _⟩ := x; exact ⟨_, e⟩
  | tbl ps => exact ⟨_, show h.get? a = some _ from x⟩
  | met f y => exact ⟨_, show h.get? a = some _ from x⟩
  | ext φ => obtain ⟨_, e, _⟩ := x; exact e
theorem HOk.none {a : Addr} (x : HOk P w H h) (e : h.get? a = none) : H a = none := by
  cases q : H a with
  | none => rfl
  | some u =>
    obtain ⟨ob, z⟩ := ObjOk.here (x a u q)
    rw [e] at z; cases z
theorem Fly.nH (F : Fly P w outer H H' h B ea cls a0 dct h') : H' ea = none := F.hok.none F.fl.2.1
theorem Fly.un (F : Fly P w outer H H' h B ea cls a0 dct h') : Un (frs outer) [] H H' h h' where
  keep := fun b o q n hb _ => F.fl.1 b o (F.keep b o q n hb)
  slot := fun b o q n hb _ => F.slot b o q n hb
  free := fun b o q n _ => F.free b o q n
  there := fun b o q _ => by
    by_cases hb : b ∈ frs outer
    · obtain ⟨_, o', ho', _⟩ := F.fl.2.2.1.mem hb
      exact ⟨o', ho'⟩
    · obtain ⟨o', e⟩ := F.there b o q hb
      exact ⟨o', F.fl.1 b o' e⟩
  tups := F.tups
  frzs := F.frzs
  tbls := F.tbls
theorem Fly.hokH (F : Fly P w outer H H' h B ea cls a0 dct h') : HOk P w H' h' := F.hok.kept F.fl.1
end
def XOk (P : Program) (w : World) (outer : List Env) (H : Hp) (s : Shared) (E : XK) (e : Value) (s' : Shared) : Prop :=
  ∃ (ea : Addr) (cls a0 : Value) (dct : Option Addr) (B : Heap) (H' : Hp), e = .ref ea ∧ s'.os = s.os ∧ AllBare s'.gens ∧ Fly P w outer H H' s.heap B ea cls a0 dct s'.heap ∧ E cls dct H'
abbrev CXE (P : Program) (w : World) : CXT := fun outer H s E e s' => XOk P w outer H s E e s'
section
variable {X : Cx} {pins : List (Addr × Obj)} {σ : St} {H H' : Hp} {s s' : Shared} {ea : Addr} {cls a0 : Value} {dct : Option Addr}
structure OnStack (X : Cx) : Prop where
  stk : X.stack = X.env :: X.outer
  fr : X.env.frame = some X.env.locals
  ex : X.ex = []
theorem frs_stack (S : OnStack X) : frs X.stack = X.env.locals :: frs X.outer := by
  unfold frs
  rw [S.stk, List.filterMap_cons, S.fr]
theorem mem_frs {l : List Env} {env : Env} {b : Addr} (h : env ∈ l) (hf : env.frame = some b) : b ∈ frs l := List.mem_filterMap.mpr ⟨env, h, hf⟩
theorem fly_made {args : List Value} {h' : Heap} {Q : Unit → Shared → Prop} {E : Value → Shared → Prop} (S : OnStack X) (I : Inv X pins σ H s) (hx : Heap.MadeExcOf s.heap h' ea cls args)
    (hQ : ∀ h2 B a0, Fly X.prog X.w X.outer X.H₀ H X.s₀.heap B ea cls a0 none h2 → Q () { s with heap := h2 }) :
    wpAny (model X.prog X.w) X.A (leaving X.env (.ref ea)) Q E { s with heap := h' } := by
  have hin : ∀ env ∈ X.stack, ∀ b, env.frame = some b → b ∈ frs X.stack := fun env he b hb => mem_frs he hb
  have hfr : X.A.frames = some (X.env :: X.outer) := by rw [I.ok.frames, S.stk]
  have hff0 := PySem.W.funFrames_hide (as := frs X.stack) I.stack hin
  have hff : s.heap.FunFrames (PySem.W.hideAll s.heap (frs X.stack)) (X.env :: X.outer) := by
    rw [← S.stk]; exact hff0
  have hlt : ∀ b o, X.s₀.heap.get? b = some o → b ≠ X.env.locals := fun b o q z => by
    subst z
    exact absurd (Nat.lt_of_lt_of_le (Heap.lt_size q) I.ok.above) (Nat.lt_irrefl _)
  have hns : ∀ b o, X.s₀.heap.get? b = some o → b ∉ frs X.outer → b ∉ frs X.stack := fun b o q hb hm => by
    rw [frs_stack S] at hm
    rcases List.mem_cons.mp hm with z | z
    · exact hlt b o q z
    · exact hb z
  have hex : ∀ b, b ∉ X.ex := fun b hb => by rw [S.ex] at hb; cases hb
  have hnew : X.s₀.heap.get? ea = none := by
    cases q : X.s₀.heap.get? ea with
    | none => rfl
    | some o =>
      obtain ⟨o', e⟩ := I.base.there ea o q (hex ea)
      rw [hx.new] at e; cases e
  have hdn : ∃ oe, h'.get? ea = some oe ∧ oe.dict = none := by obtain ⟨t, he, _⟩ := hx.there; exact ⟨_, he, rfl⟩
  refine (tame_leaving X.env (.ref ea)).any ?_
  refine wpAny_leaves_madeW (base := PySem.W.hideAll s.heap (frs X.stack)) (h := s.heap) hfr S.fr (fun b o q => PySem.W.of_hideAll _ q) hff hx fun h2 t x1 x2 x3 x4 dk => ?_
  refine hQ h2 _ _ ⟨x1, (by obtain ⟨o, e1, e2⟩ := hdn; obtain ⟨o2, e3, e4⟩ := dk _ _ e1; exact ⟨o2, e3, e4.trans e2⟩), fun b u q => ?_, hnew, fun b o q n hb => ?_, fun b o q n hb => ?_, fun b o q n => I.base.free b o q n (hex b), fun b o q hb => ?_, I.base.tups, I.base.frzs, I.base.tbls⟩
  · refine (I.hok b u q).stay (fun c v hc r => PySem.W.hideAll_get _ r fun hm => ?_) (fun _ q => q) fun _ _ q => q
    have := I.stkFree c hm
    rcases hc with z | z
    · subst z; rw [this] at q; cases q
    · rw [this] at z; cases z
  · exact PySem.W.hideAll_get _ (I.base.keep b o q n hb (hex b)) (hns b o q hb)
  · obtain ⟨sl, e⟩ := I.base.slot b o q n hb (hex b)
    obtain ⟨_, o', ho', hd⟩ := I.stack.mem (show b ∈ frs X.stack by rw [frs_stack S]; exact List.mem_cons_of_mem _ hb)
    rw [e] at ho'
    cases ho'
    exact x4 b { o with slots := sl } (hx.keeps b _ e) hd
  · obtain ⟨o', e⟩ := I.base.there b o q (hex b)
    exact ⟨o', PySem.W.hideAll_get _ e (hns b o q hb)⟩
theorem fly_on {B : Heap} {Q : Unit → Shared → Prop} {E : Value → Shared → Prop} (S : OnStack X) (I : Inv X pins σ H s) (F : Fly X.prog X.w X.stack H H' s.heap B ea cls a0 dct s'.heap)
    (hQ : ∀ h2, Fly X.prog X.w X.outer X.H₀ H' X.s₀.heap B ea cls a0 dct h2 → Q () { s' with heap := h2 }) : wpAny (model X.prog X.w) X.A (leaving X.env (.ref ea)) Q E s' := by
  have hfr : X.A.frames = some (X.env :: X.outer) := by rw [I.ok.frames, S.stk]
  have hlt : ∀ b o, X.s₀.heap.get? b = some o → b ≠ X.env.locals := fun b o q z => by
    subst z
    exact absurd (Nat.lt_of_lt_of_le (Heap.lt_size q) I.ok.above) (Nat.lt_irrefl _)
  have hns : ∀ b o, X.s₀.heap.get? b = some o → b ∉ frs X.outer → b ∉ frs X.stack := fun b o q hb hm => by
    rw [frs_stack S] at hm
    rcases List.mem_cons.mp hm with z | z
    · exact hlt b o q z
    · exact hb z
  have hex : ∀ b, b ∉ X.ex := fun b hb => by rw [S.ex] at hb; cases hb
  have fl := F.fl
  rw [S.stk] at fl
  refine (tame_leaving X.env (.ref ea)).any ?_
  refine wpAny_leaves_onW hfr S.fr fl fun h2 x1 x2 dk => hQ h2 ⟨x1, (by obtain ⟨o, e1, e2⟩ := F.dd; obtain ⟨o2, e3, e4⟩ := dk _ _ e1; exact ⟨o2, e3, e4.trans e2⟩), F.hok, ?_, fun b o q n hb => ?_, fun b o q n hb => ?_, fun b o q n => ?_, fun b o q hb => ?_, fun b xs q => F.tups b xs (I.base.tups b xs q), fun b o u q => F.frzs b o u (I.base.frzs b o u q), fun b ps q => ?_⟩
  · cases q : X.s₀.heap.get? ea with
    | none => rfl
    | some o =>
      obtain ⟨o', e⟩ := I.base.there ea o q (hex ea)
      rw [F.new] at e; cases e
  · exact F.keep b o (I.base.keep b o q n hb (hex b)) (I.base.free b o q n (hex b)) (hns b o q hb)
  · obtain ⟨sl, e⟩ := I.base.slot b o q n hb (hex b)
    have hm : b ∈ frs X.stack := by rw [frs_stack S]; exact List.mem_cons_of_mem _ hb
    obtain ⟨sl2, e2⟩ := F.slot b _ e (I.base.free b o q n (hex b)) hm
    obtain ⟨_, o', ho', hd⟩ := F.fl.2.2.1.mem hm
    rw [e2] at ho'
    cases ho'
    exact x2 b { o with slots := sl2 } e2 hd
  · obtain ⟨o', e⟩ := I.base.there b o q (hex b)
    exact F.free b o' e (I.base.free b o q n (hex b))
  · obtain ⟨o', e⟩ := I.base.there b o q (hex b)
    exact F.there b o' e (hns b o q hb)
  · obtain ⟨m1, e1⟩ := I.base.tbls b ps q
    obtain ⟨m2, e2⟩ := F.tbls b _ e1
    exact ⟨m1 ++ m2, by rw [e2, Array.append_assoc]⟩
end
structure Rz (X : Cx) (E : XK) : Prop where
  on : OnStack X
  calm : X.calm = true
  xe : X.xe = fun e s' => wpAny (model X.prog X.w) X.A (leaving X.env e) (fun _ s'' => XOk X.prog X.w X.outer X.H₀ X.s₀ E e s'') (fun e' s'' => XOk X.prog X.w X.outer X.H₀ X.s₀ E e' s'') s'
theorem rz_of {P : Program} {w : World} {K : PySem.W.Frag} {mg : Str → Option Value} {base : Heap} {N : List Str} {qual : Str} {scope : Scope} {f : Addr} {cd : Value} {A : Around} {outer : List Env} {s : Shared} {H : Hp} {E : XK} :
    Rz (cxOf (CXE P w) P w K mg base N qual scope f cd A outer s H E) E := ⟨⟨rfl, rfl, rfl⟩, rfl, rfl⟩
theorem Rz.passes {X : Cx} {E : XK} (R : Rz X E) : Passes (CXE X.prog X.w) X E := by
  rintro pins σ H s e s' I ⟨ea, cls, a0, dct, B, H', rfl, ho, hb, F, q⟩
  rw [R.xe]
  refine fly_on R.on I F fun h2 F2 => ⟨ea, cls, a0, dct, B, H', rfl, ho.trans I.os, hb, F2, q⟩
structure XCls (K : PySem.W.Frag) (C : Addr) : Prop where
  obj : ∀ h : Heap, K.In h → ∃ bm N nm q bs hdct sn sub ab col dd k0 k1 k2 k3 k5 mN, h.get? C = some (excClassObj nm q C N bs bm hdct sn sub ab col dd k0 k1 k2 k3 k5 "ValueError.__new__") ∧ h.Ns N mN ∧ mN "__init__" = none ∧
    OwnTail h [.type "ValueError", .type "Exception", .type "BaseException", .type "object"] bm
def tRaise (C : Addr) (E : XK) (ta : TA) : TS := fun _ σ H => ta σ H fun vs H1 => vs.length ≤ sizeLine ∧ E (.ref C) none H1
theorem ps_raise {X : Cx} {E : XK} {x : Str} {C : Addr} {np cpos pos : Pos} {e₀ : Expr} {rest : List Expr} {ta : TA} (R : Rz X E) (c : XCls X.K C) (hg : Gl X x) (hm : X.mg x = some (.ref C)) (ha : PA X (e₀ :: rest) ta)
    (hdb : (x == ("__debug__" : Str)) = false := by decide) (he : starEach (e₀ :: rest) X.env = (false, eval e₀ X.env) :: starEach rest X.env := by rfl) (hpl : (backTo cpos (starEach rest X.env)).any (·.1) = false := by rfl) :
    PS X (.Raise (some (.Call (.Name x np) (e₀ :: rest) [] cpos)) none pos) (tRaise C E ta) := by
  intro pins s σ H D I h
  obtain ⟨tl, N, nm, q, bs, hdct, sn, sub, ab, col, dd, k0, k1, k2, k3, k5, mN, hC, hN, hni, T⟩ := c.obj X.base I.ok.mod.kin
  have FB := PySem.F.excBase_ValueError
  refine wpAny_Raise_call_subU (C := C) (nm := nm) (q := q) (N := N) (bs := bs) (bm := tl) (hdct := hdct) (sn := sn) (sub := sub) (ab := ab) (col := col) (dd := dd) (k0 := k0) (k1 := k1) (k2 := k2) (k3 := k3) (k5 := k5)
    FB FB.hasB FB (mN := mN) (T.hasType FB.hasBase) (I.ok.hd R.calm) (by rw [he]; show (false || (backTo cpos (starEach rest X.env)).any (·.1)) = false; rw [hpl]; rfl) hni (ld_glob I hg hm ⟨rfl, ?_⟩ hdb)
  have h' := ha cpos pins s σ H _ I h
  rw [he] at h' ⊢
  refine Calls.evalArgs_plain (thn h' fun us s2 ⟨vs, H2, I2, r, hz, q⟩ => ⟨rfl, by rw [← r.length]; exact hz, I2.bk _ _ hC, hN.keeps I2.bk, T.keeps I2.bk, fun h2 e hx => ?_⟩)
  rw [R.xe]
  exact fly_made R.on I2 hx fun h3 B a0 F => ⟨e, _, a0, none, B, H2, rfl, I2.os, I2.bare, F, q⟩
end L2
namespace L2
open PySem PySem.Spec PyProof.Rows
section
variable {P : Program} {w : World} {outer : List Env} {H H' : Hp} {h B h' h2 : Heap} {ea : Addr} {cls a0 : Value} {dct : Option Addr}
theorem Fly.again (F : Fly P w outer H H' h B ea cls a0 dct h') (x : Heap.FlyingW B outer ea cls a0 h2) (u : h'.UpToSlots h2) (dk : DK h' h2) : Fly P w outer H H' h B ea cls a0 dct h2 :=
  ⟨x, (by obtain ⟨o, e1, e2⟩ := F.dd; obtain ⟨o2, e3, e4⟩ := dk _ _ e1; exact ⟨o2, e3, e4.trans e2⟩), F.hok, F.new, F.keep, fun b o q n hb => by
    obtain ⟨sl, e⟩ := F.slot b o q n hb
    obtain ⟨_, o', ho', hd⟩ := F.fl.2.2.1.mem hb
    rw [e] at ho'
    cases ho'
    exact u b { o with slots := sl } e hd, F.free, F.there, F.tups, F.frzs, F.tbls⟩
def XIs (ea : Addr) (cls : Value) (dct : Option Addr) : Heap → Prop := fun h => ∃ o vs, h.get? ea = some o ∧ o.cls = cls ∧ o.data = .fields vs ∧ o.dict = dct
theorem Fly.unX (F : Fly P w outer H H' h B ea cls a0 dct h') (o : HO) : Un (frs outer) [] H (upd H' ea o) h h' where
  keep := F.un.keep
  slot := F.un.slot
  free := fun b ob q n hx => by
    rw [upd_ne (fun z => by rw [z, F.new] at q; cases q)]
    exact F.un.free b ob q n hx
  there := F.un.there
  tups := fun b xs q => by rw [upd_ne (ne_of_none (F.tups b xs q) F.nH)]; exact F.tups b xs q
  frzs := fun b ob u q => by rw [upd_ne (ne_of_none (F.frzs b ob u q) F.nH)]; exact F.frzs b ob u q
  tbls := fun b ps q => by
    obtain ⟨m, e⟩ := F.tbls b ps q
    exact ⟨m, by rw [upd_ne (ne_of_none e F.nH)]; exact e⟩
theorem Fly.hokX (F : Fly P w outer H H' h B ea cls a0 dct h') : HOk P w (upd H' ea (.ext (XIs ea cls dct))) h' := fun b u q => by
  by_cases hb : b = ea
  · subst hb
    rw [upd_same] at q
    cases q
    obtain ⟨oe, vs, he, hc, hd, _⟩ := F.fl.first
    obtain ⟨oe', he', hdd⟩ := F.dd
    rw [he] at he'
    cases he'
    refine ⟨⟨oe, vs, he, hc, hd, hdd⟩, ⟨oe, he⟩, ?_⟩
    rintro h1 h2 ⟨o, vs, e1, e2, e3⟩ k
    exact ⟨o, vs, k o e1, e2, e3⟩
  · rw [upd_ne hb] at q
    exact (F.hokH b u q).stay (fun c v _ r => r) (fun c r => by rw [upd_ne (ne_of_none r F.nH)]; exact r) fun c ys r => by rw [upd_ne (ne_of_none r F.nH)]; exact r
end
def cxSuite (X : Cx) (e : Value) : Cx := { X with A := X.A.mark (some e), calm := false, xe := fun _ _ => False }
section
variable {X : Cx} {pins : List (Addr × Obj)} {σ : St} {H H' : Hp} {s s' : Shared} {ea : Addr} {cls a0 : Value} {dct : Option Addr}
theorem Cx.Ok.suite (ok : X.Ok) (e : Value) : (cxSuite X e).Ok :=
  ⟨ok.mod, ok.kind, ok.glob, ok.blt, ok.above, ok.inj, ok.has, ok.cab, (fun z => nomatch z), ok.frames, ok.stk, ok.exf, ok.bs, ok.bsz, ok.noex, ok.exfs, ok.funs, ok.frf⟩
theorem Inv.suite (I : Inv X pins σ H s) (e : Value) : Inv (cxSuite X e) pins σ H s := ⟨I.ok.suite e, I.os, I.bare, I.base, I.loc, I.cell, I.free, I.freeC, I.pin, I.hok, I.len⟩
theorem Inv.unsuite {e : Value} (I : Inv (cxSuite X e) pins σ H s) (ok : X.Ok) : Inv X pins σ H s := ⟨ok, I.os, I.bare, I.base, I.loc, I.cell, I.free, I.freeC, I.pin, I.hok, I.len⟩
theorem Inv.goes {i : Nat} {n : Str} {v : Option Value} {m : Str → Option Value} {h2 : Heap} {t' : Nat} (I : Inv X pins σ H s) (hN : X.N.Nodup) (hi : X.N[i]? = some n) (hn : X.env.scope.names.lookup n = some .local)
    (hm : s.heap.Ns X.env.locals m) (hm2 : h2.Ns X.env.locals (fun x => if x = n then v else m x)) (hs : Heap.SameBut X.env.locals s.heap h2) : Inv X pins (σ.set i none) H { s with heap := h2, toks := t' } := by
  obtain ⟨m', hn', hl⟩ := id I.loc
  have em : m' = m := by
    funext x
    obtain ⟨o, es, ep, ho, hd, hk, hmm⟩ := hm
    obtain ⟨o', es', ep', ho', hd', hk', hmm'⟩ := hn'
    rw [ho] at ho'
    cases ho'
    rw [hd] at hd'
    cases hd'
    rw [← hmm x, ← hmm' x]
  subst em
  have cne := I.cne
  obtain ⟨oL, _, _, hoL, _⟩ := id hm
  refine ⟨I.ok, I.os, I.bare, ⟨fun b o e n hb hx => ?_, fun b o e n hb hx => ?_, I.base.free, fun b o e hx => ?_, I.base.tups, I.base.frzs, I.base.tbls⟩, ⟨_, hm2, fun j y v' e1 e2 e3 => ?_⟩, fun y c e => ?_, I.free, I.freeC, fun p hp => ?_, fun b ob e => ?_, by simpa using I.len⟩
  · exact (hs.2 b (Nat.ne_of_lt (Nat.lt_of_lt_of_le (Heap.lt_size e) I.ok.above))).trans (I.base.keep b o e n hb hx)
  · obtain ⟨sl, e1⟩ := I.base.slot b o e n hb hx
    exact ⟨sl, (hs.2 b (Nat.ne_of_lt (Nat.lt_of_lt_of_le (Heap.lt_size e) I.ok.above))).trans e1⟩
  · obtain ⟨o', e1⟩ := I.base.there b o e hx
    exact ⟨o', (hs.2 b (Nat.ne_of_lt (Nat.lt_of_lt_of_le (Heap.lt_size e) I.ok.above))).trans e1⟩
  · by_cases hj : j = i
    · subst hj
      rw [List.getElem?_set] at e2
      simp at e2
    · rw [List.getElem?_set_ne (Ne.symm hj)] at e2
      obtain ⟨u', r', q⟩ := hl j y v' e1 e2 e3
      refine ⟨u', r', ?_⟩
      rcases q with ⟨k, e⟩ | ⟨k, c, e, z⟩
      · refine .inl ⟨k, ?_⟩
        have : y ≠ n := fun e => hj (nodup_ix hN e1 (e ▸ hi))
        simp [this, e]
      · exact .inr ⟨k, c, e, z.sameBut hs (cne y c e)⟩
  · obtain ⟨w', z⟩ := I.cell y c e
    exact ⟨w', z.sameBut hs (cne y c e)⟩
  · obtain ⟨e, n, ne, nf, d⟩ := I.pin p hp
    exact ⟨(hs.2 p.1 ne).trans e, n, ne, nf, d⟩
  · refine (I.hok b ob e).stay (fun c w' hc q => (hs.2 c ?_).trans q) (fun _ q => q) fun _ _ q => q
    rintro rfl
    rcases hc with z | z
    · rw [← z, I.free] at e; cases e
    · rw [I.free] at z; cases z
end
def XObj (K : PySem.W.Frag) (C : Addr) (bm : List Value) : Prop := ∃ nm q N bs hdct sn sub ab col dd k0 k1 k2 k3 k5 newId, K.lookup C = some (excClassObj nm q C N bs bm hdct sn sub ab col dd k0 k1 k2 k3 k5 newId)
section
variable {M : Model} {A : Around} {E : Value → Shared → Prop} {K : PySem.W.Frag} {s : Shared}
end
section
variable {X : Cx} {sp : Sp} {ta : TA} {t2 : TS} {k : Nat} {f : Str} {ps : List Str}
def FnX (P : Program) (w : World) (K : PySem.W.Frag) (mg : Str → Option Value) (base : Heap) (k : Nat) (x : Str) (ps : List Str) (sp : Sp) : Prop :=
  ∃ f fd, FnOk P w K mg base (CXE P w) k f fd ps sp ∧ mg x = some (.ref f) ∧ PySem.W.keepIn K (.ref f) = true ∧ Binds K fd ps [] ∧ FdAt K f fd
def tTryCall (K : PySem.W.Frag) (sp : Sp) (ta : TA) (i : Nat) (t2 : TS) (Dc : Addr) : TS := fun D σ H => ta σ H fun vs H1 => sp vs H1 (fun _ H2 => D.nx σ H2) fun cls dct H2 =>
  ∃ C bm, cls = .ref C ∧ XObj K C bm ∧ (Value.ref C :: bm).contains (.ref Dc) = true ∧ ∀ ea, H2 ea = none → t2 { nx := fun σ3 H3 => D.nx (σ3.set i none) H3, rt := fun _ _ => False } (σ.set i (some (.ref ea))) (upd H2 ea (.ext (XIs ea cls dct)))
end
end L2
namespace L2
open PySem PySem.Spec PyProof.Rows
theorem Src.fnX {P : Program} {w : World} {K : PySem.W.Frag} {mg : Str → Option Value} {base : Heap} {x : Str} {st : Stmt} {ps N : List Str} {sp : Sp} {k : Nat} (S : Src K mg x st ps) (sc : FnScope N ps (defScope st)) (len : ∀ vs H Q E, sp vs H Q E → vs.length = ps.length)
    (hbody : ∀ (f : Addr) (cdv : Value) (A : Around) (outer : List Env) (s : Shared) (H : Hp) (vs : List V) (Q : VK) (E : XK), Room k (A.deeper (envOfC x (defScope st) s.heap.objs.size f cdv)) → sp vs H Q E →
      ∃ t, PSs (cxOf (CXE P w) P w K mg base N x (defScope st) f cdv A outer s H E) (defBody st) t ∧ t { nx := fun _ H' => Q .non H', rt := Q } (start N vs) H) : FnX P w K mg base (k + 1) x ps sp := by
  obtain ⟨f, fd, hm, F, b⟩ := S
  have kp := F.kp
  have fa := F.fd
  obtain ⟨oc, od, kV, doc, pm, an, cdv, ct, osl, rfl, lk, hcd⟩ := F.ex
  exact ⟨f, _, fn_of lk hcd sc len fun A outer s H vs Q E hr h => hbody f cdv A outer s H vs Q E hr h, hm, kp, b, fa⟩
theorem FnX.or {P : Program} {w : World} {K : PySem.W.Frag} {mg : Str → Option Value} {base : Heap} {x : Str} {ps : List Str} {sp sp' : Sp} {j k : Nat} (F : Fn P w K mg base j x ps sp) (F' : FnX P w K mg base k x ps sp') : FnX P w K mg base (max j k) x ps (fun vs H Q E => sp vs H Q E ∨ sp' vs H Q E) := by
  obtain ⟨f, fd, F, hm, hk, hb, ha⟩ := F
  obtain ⟨f', fd', F', hm', hk', hb', ha'⟩ := F'
  rw [hm] at hm'
  cases hm'
  cases ha.one ha'
  refine ⟨f, fd, ⟨fun vs H Q E h => h.elim (F.len vs H Q E) (F'.len vs H Q E), fun A outer s H args us vs Q E hr he hbd hv h => ?_⟩, hm, hk, hb, ha⟩
  rcases h with h | h
  · refine codeAny_mono (F.run A outer s H args us vs Q E (hr.mono (Nat.le_max_left _ _)) he hbd hv h) fun r s' q => ?_
    cases r with
    | ok fl => cases fl <;> exact q
    | error e => exact False.elim q
  · exact F'.run A outer s H args us vs Q E (hr.mono (Nat.le_max_right _ _)) he hbd hv h
section
variable {X : Cx} {E : XK}
theorem pe_callX {k : Nat} {x : Str} {ps : List Str} {sp : Sp} {p pos : Pos} {e : Expr} {es : List Expr} {t : TA} (R : Rz X E) (F : FnX X.prog X.w X.K X.mg X.base k x ps sp) (hr : Room k X.A) (hg : Gl X x) (ha : PA X (e :: es) t)
    (hdb : (x == ("__debug__" : Str)) = false := by decide) (he : starEach (e :: es) X.env = (false, eval e X.env) :: starEach es X.env := by rfl) (hpl : (backTo pos (starEach es X.env)).any (·.1) = false := by rfl) :
    PE X (.Call (.Name x p) (e :: es) [] pos) (tCall sp [] E t) := by
  intro pins s σ H Q I h
  obtain ⟨f, fd, F, hm, hk, hb, _⟩ := F
  exact pe_call F hr hg hm hk hb .nil R.passes ha hdb he hpl pins s σ H Q I h
theorem ap_callX {sp : Sp} {ti : TA} {σ : St} {H : Hp} {Q : VK} : tCall sp [] E ti σ H Q = ti σ H fun vs H1 => sp vs H1 Q E := by
  unfold tCall; simp only [List.append_nil]
theorem ap_raise {C : Addr} {ti : TA} {D : Ends} {σ : St} {H : Hp} : tRaise C E ti D σ H = ti σ H fun vs H1 => vs.length ≤ sizeLine ∧ E (.ref C) none H1 := rfl
theorem ap_try {K : PySem.W.Frag} {sp : Sp} {ti : TA} {i : Nat} {t2 : TS} {Dc : Addr} {D : Ends} {σ : St} {H : Hp} : tTryCall K sp ti i t2 Dc D σ H = ti σ H fun vs H1 => sp vs H1 (fun _ H2 => D.nx σ H2) fun cls dct H2 =>
  ∃ C bm, cls = .ref C ∧ XObj K C bm ∧ (Value.ref C :: bm).contains (.ref Dc) = true ∧ ∀ ea, H2 ea = none → t2 { nx := fun σ3 H3 => D.nx (σ3.set i none) H3, rt := fun _ _ => False } (σ.set i (some (.ref ea))) (upd H2 ea (.ext (XIs ea cls dct))) := rfl
abbrev TJ := St → Hp → (Hp → Prop) → Prop
def PJ (X : Cx) (es : List Expr) (n : Nat) (t : TJ) : Prop := ∀ (acc : Str) (pins : List (Addr × Obj)) (s : Shared) (σ : St) (H : Hp) (Q : Hp → Prop), acc.length + n * 2000 ≤ sizeLine → Inv X pins σ H s → t σ H Q →
  wpAny (model X.prog X.w) X.A (joinParts acc (evalEach es X.env)) (EP X pins σ fun v H' => (∃ z, v = .str z) ∧ Q H') X.xe s
def jNil : TJ := fun _ H Q => Q H
def jInt (te : TE) (t : TJ) : TJ := fun σ H Q => te σ H fun x H1 => ∃ i, x = .int i ∧ i.natAbs.log2 < 1920 ∧ t σ H1 Q
theorem pj_nil : PJ X [] 0 jNil := fun acc _ s σ H Q hz I h => joinParts_nil ⟨.str acc, H, I.tok _, ⟨_, rfl⟩, ⟨acc, rfl⟩, h⟩ (by omega)
theorem pj_str {x : Str} {j : Nat} {pos : Pos} {es : List Expr} {n : Nat} {t : TJ} (h : PJ X es n t) (hx : x.length ≤ 2000 := by decide) : PJ X (.Constant (.str x) j pos :: es) (n + 1) t := by
  intro acc pins s σ H Q hz I hw
  refine joinParts_cons (Calls.Constant_str ?_)
  have hl := strLen_append acc x
  exact ⟨by omega, h (acc ++ x) pins _ σ H Q (by omega) (I.tok _) hw⟩
theorem pj_int {e : Expr} {te : TE} {pos : Pos} {es : List Expr} {n : Nat} {t : TJ} (he : PE X e te) (h : PJ X es n t) : PJ X (.FormattedValue e (-1) none pos :: es) (n + 1) (jInt te t) := by
  intro acc pins s σ H Q hz I hw
  refine joinParts_cons (FormattedValue_plain (thn (he pins s σ H _ I hw) fun v s1 ⟨x, H1, I1, r1, i, ex, hi, q⟩ => ?_))
  subst ex
  obtain ⟨t', rfl⟩ := r1
  have hl := strLen_append acc (Str.ofString (toString i))
  have h2 := int_text_len_1921 hi
  refine formatField_int_small hi ?_
  exact ⟨by omega, h _ pins _ σ H1 Q (by omega) (I1.tok _) q⟩
def tFstr (t : TJ) : TE := fun σ H Q => t σ H fun H1 => ∀ z : Str, Q (.str z) H1
theorem pe_fstr {v₁ v₂ : Expr} {rest : List Expr} {pos : Pos} {n : Nat} {t : TJ} (h : PJ X (v₁ :: v₂ :: rest) n t) (hn : n ≤ 1000 := by decide) : PE X (.JoinedStr (v₁ :: v₂ :: rest) pos) (tFstr t) := by
  intro pins s σ H Q I hw
  refine JoinedStr_many (thn (h Str.empty pins s σ H _ (by have : Str.empty.length = 0 := rfl; rw [this, sizeLine_eq]; omega) I hw) fun v s1 ⟨y, H1, I1, r1, ⟨z, e⟩, q⟩ => ?_)
  subst e
  exact ⟨_, H1, I1, r1, q z⟩
theorem ap_fstr {t : TJ} {σ : St} {H : Hp} {Q : VK} : tFstr t σ H Q = t σ H fun H1 => ∀ z : Str, Q (.str z) H1 := rfl
theorem ap_jnil {σ : St} {H : Hp} {Q : Hp → Prop} : jNil σ H Q = Q H := rfl
theorem ap_jint {te : TE} {t : TJ} {σ : St} {H : Hp} {Q : Hp → Prop} : jInt te t σ H Q = te σ H fun x H1 => ∃ i, x = .int i ∧ i.natAbs.log2 < 1920 ∧ t σ H1 Q := rfl
end
section
variable {X : Cx}
def rIsiX (K : PySem.W.Frag) : List V → Hp → VK → Prop := fun xs H Q => ∃ a C D dct, xs = [.ref a, .ref D] ∧ H a = some (.ext (XIs a (.ref C) dct)) ∧ PySem.W.kitOne K (.ref C) (.ref D) = some true ∧ Q (.bl true) H
theorem ap_risiX {K : PySem.W.Frag} {xs : List V} {H : Hp} {Q : VK} : rIsiX K xs H Q = ∃ a C D dct, xs = [.ref a, .ref D] ∧ H a = some (.ext (XIs a (.ref C) dct)) ∧ PySem.W.kitOne K (.ref C) (.ref D) = some true ∧ Q (.bl true) H := rfl
end
theorem xobj_mk {K : PySem.W.Frag} {C N : Addr} {nm q : Str} {bs bm : List Value} {hdct : Bool} {sn : List Str} {sub : List Value} {ab : Bool} {col : Option Bool} {dd : Option Addr} {k0 k1 k2 k3 k5 : Option Value} {newId : String}
    (ho : K.lookup C = some (excClassObj nm q C N bs bm hdct sn sub ab col dd k0 k1 k2 k3 k5 newId)) : XObj K C bm := ⟨nm, q, N, bs, hdct, sn, sub, ab, col, dd, k0, k1, k2, k3, k5, newId, ho⟩
end L2
namespace L2
open PySem PySem.Spec PyProof.Rows
def clsOf : Data → Option ClassData
  | .cls cd => some cd
  | _ => none
def sixOf (l : List (Option Value)) : List (Option Value) := [l.getD 0 none, l.getD 1 none, l.getD 2 none, l.getD 3 none, some (.builtin "ValueError.__new__"), l.getD 5 none]
def excInZ (K : PySem.W.Frag) (C : Addr) : Bool := match K.lookup C with
  | none => false
  | some o => match clsOf o.data with
    | none => false
    | some cd => o.cls == .type "type" && cd.mro == .ref C :: cd.mro.tail && o.slots.toList == sixOf o.slots.toList && !cd.hasDel && PySem.W.tailIn K [.type "ValueError", .type "Exception", .type "BaseException", .type "object"] cd.mro.tail && PySem.W.nsOkIn K cd.ns && PySem.W.nsIn K cd.ns "__init__" == some none
theorem xcls_exc {K : PySem.W.Frag} {C : Addr} (q : excInZ K C = true) : XCls K C := by
  constructor
  intro h XK
  unfold excInZ at q
  cases ho : K.lookup C with
  | none => rw [ho] at q; cases q
  | some o =>
    rw [ho] at q
    obtain ⟨c, dd, da, sl⟩ := o
    cases da with
    | cls cd =>
      have q : (c == .type "type" && cd.mro == .ref C :: cd.mro.tail && sl.toList == sixOf sl.toList && !cd.hasDel && PySem.W.tailIn K [.type "ValueError", .type "Exception", .type "BaseException", .type "object"] cd.mro.tail && PySem.W.nsOkIn K cd.ns && PySem.W.nsIn K cd.ns "__init__" == some none) = true := q
      simp only [Bool.not_eq_true', beq_iff_eq, Bool.and_eq_true] at q
      obtain ⟨⟨⟨⟨⟨⟨c1, c2⟩, c3⟩, c4⟩, c5⟩, c6⟩, c7⟩ := q
      obtain ⟨nm, bs, mro, ns, qn, hd, sn, sub, ab, col, del⟩ := cd
      have z4 : del = false := c4
      have z1 : mro = Value.ref C :: mro.tail := c2
      have z2 : sl = (sixOf sl.toList).toArray := by rw [← c3]
      have e := XK _ _ ho
      rw [z1, z2, c1, z4] at e
      exact ⟨_, ns, nm, qn, bs, hd, sn, sub, ab, col, dd, _, _, _, _, _, _, e, Heap.Ns.of_isNs (PySem.W.isNs_of_in XK c6), PySem.W.nsMap_none_of_in XK c6 c7, PySem.W.tail_of_in XK c5⟩
    | _ => cases (show false = true from q)
theorem kit_sub {K : PySem.W.Frag} {C D : Addr} {cd : ClassData} (h1 : PySem.W.clsIn K D = some cd) (h2 : PySem.W.typeIn K (.ref D) = some (.type "type")) (h3 : PySem.W.subIn K (.ref C) (.ref D) = some true) : PySem.W.kitOne K (.ref C) (.ref D) = some true := by
  unfold PySem.W.kitOne
  split
  · rfl
  · show (if ((PySem.W.clsIn K D).isSome && PySem.W.typeIn K (.ref D) == some (.type "type")) = true then PySem.W.subIn K (.ref C) (.ref D) else none) = some true
    rw [h1, h2, h3]
    rfl
end L2
namespace L2
open PySem PySem.Spec PyProof.Rows PySem.W
structure XKit (K : PySem.W.Frag) (C : Addr) : Prop where
  cl : findIn K (.ref C) "__class__" = some (some (.builtin "object.__class__"))
  ga : findIn K (.ref C) "__getattribute__" = some (some (.builtin "BaseException.__getattribute__"))
  gt : findIn K (.ref C) "__getattr__" = some none
  cd : (clsIn K C).isSome = true
  ob : subIn K (.ref C) (.type "object") = some true
  bx : subIn K (.ref C) (.type "BaseException") = some true
section
variable {prog : Program} {w : World} {A : Around} {E : Value → Shared → Prop} {h : Heap} {g : Array GenState} {d : Drawn} {t : Nat} {os : OsState} {a : Addr} {o : Obj} {K : PySem.W.Frag} {C : Addr}
theorem xclass_get {R : Result → Shared → Prop} (Z : XKit K C) (X : K.In h) (hx : h.get? a = some o) (hc : o.cls = .ref C) (hq : R (.ok (.ret (.ref C))) ⟨h, g, d, t, os⟩) :
    codeAny (model prog w) A (.call (.builtin "getset_descriptor.__get__") ⟨[.builtin "object.__class__", .ref a, .ref C], []⟩) R ⟨h, g, d, t, os⟩ := by
  have hT5 : (⟨h, g, d, t, os⟩ : Shared).TypeIs (.builtin "object.__class__") "getset_descriptor" := PySem.F.typeOf_object_class
  have hs : Looks (model prog w) h (isSubtype (.ref C) (.type (".".intercalate ("object.__class__".cutAt '.').dropLast))) true := by
    rw [PySem.F.owner_object_class]; exact looks_subIn X Z.ob
  refine codeAny_call_builtin PySem.F.slot_gs_get.plain PySem.F.entry_gs_get (PySem.F.slot_gs_get.check _ _ _ _ _ _ _ _ hT5 (PySem.F.args_gs_get _ _ _) ?_)
  repeat (any_goals (first | assumption | (with_reducible refine wpAny_loadPart_at hx ?_; rw [hc]) | with_reducible refine hs.at ?_ | wp_step))
  refine ⟨Code.quiet_builtin _ (by decide +kernel), codeAny_builtin PySem.F.entry_object_class ?_⟩
  repeat (any_goals (first | assumption | (with_reducible refine wpAny_loadPart_at hx ?_; rw [hc]) | wp_step))
theorem xclass_entry {tk : Tok} {Q : Fin → Shared → Prop} (Z : XKit K C) (X : K.In h) (hx : h.get? a = some o) (hc : o.cls = .ref C) (hq : Q (.done (.ret (.ref C))) ⟨h, g, d, t, os⟩) :
    wpAny (model prog w) A (Builtin.«object.__getattribute__» ⟨[.ref a, .str "__class__" tk], []⟩) Q E ⟨h, g, d, t, os⟩ := by
  have hT5 : (⟨h, g, d, t, os⟩ : Shared).TypeIs (.builtin "object.__class__") "getset_descriptor" := PySem.F.typeOf_object_class
  have f4 : Looks (model prog w) h (typeLookup (.ref C) "__class__") _ := looks_findIn X Z.cl
  have f5 := PySem.F.typeOf_object_class
  have f6 := PySem.F.slot_gs_get.lookup
  have f7 := PySem.F.slot_gs_set.lookup
  repeat (any_goals (first | assumption | (with_reducible refine wpAny_loadPart_at hx ?_; rw [hc]) | with_reducible refine f4.at ?_ | wp_step))
  refine xclass_get Z X hx hc ?_
  repeat (any_goals (first | assumption | wp_step))
theorem xclass_check {M : Model} {nameV : Value} {Q : Unit → Shared → Prop} (Z : XKit K C) (X : K.In h) (hx : h.get? a = some o) (hc : o.cls = .ref C) (hq : Q () ⟨h, g, d, t, os⟩) :
    wpAny M A (checkBuiltinCall "BaseException.__getattribute__" ⟨[.ref a, nameV], []⟩) Q E ⟨h, g, d, t, os⟩ := by
  have kindB : builtinKind "BaseException.__getattribute__" = some .slot := by decide +kernel
  have nameB : splitId "BaseException.__getattribute__" = some ("BaseException", "__getattribute__") := by decide +kernel
  have hs : Looks M h (isSubtype (.ref C) (.type "BaseException")) true := looks_subIn X Z.bx
  have ha := PySem.F.args_bexc_ga (.ref a) nameV
  simp only [checkBuiltinCall, kindB, nameB]
  refine wpAny_bind ?_
  unfold isInstance
  repeat (first | (with_reducible refine wpAny_loadPart_at hx ?_; rw [hc]) | with_reducible refine hs.at ?_ | wp_step)
  exact hq
theorem xclass_by {tk : Tok} {Q : Value → Shared → Prop} (Z : XKit K C) (X : K.In h) (hx : h.get? a = some o) (hc : o.cls = .ref C) (hq : Q (.ref C) ⟨h, g, d, t, os⟩) : wpAny (model prog w) A (getAttrBy (.ref a) (.str "__class__" tk) false) Q E ⟨h, g, d, t, os⟩ := by
  have FB := PySem.F.excAttr_ValueError
  have lookA : Looks (model prog w) h (typeLookup (.ref C) "__getattribute__") _ := looks_findIn X Z.ga
  have bindA := FB.ga.bind (.ref a)
  have lookB : Looks (model prog w) h (typeLookup (.ref C) "__getattr__") _ := looks_findIn X Z.gt
  have unlike : (Value.builtin "BaseException.__getattribute__" == Value.builtin "object.__getattribute__") = false := by decide +kernel
  have noHook : (onTheHeap (Value.ref C) && Value.builtin "BaseException.__getattribute__" == Value.builtin "object.__getattribute__") = false := by rw [unlike]; rfl
  repeat (any_goals (first | assumption | (with_reducible refine wpAny_loadPart_at hx ?_; rw [hc]) | with_reducible refine lookA.at ?_ | with_reducible refine lookB.at ?_ | wp_step))
  refine codeAny_call_builtin FB.ga.plain PySem.F.entry_bexc_ga (xclass_check Z X hx hc (xclass_entry Z X hx hc ?_))
  repeat (any_goals (first | assumption | wp_step))
theorem xclass_attr {Q : Option Value → Shared → Prop} (Z : XKit K C) (X : K.In h) (hx : h.get? a = some o) (hc : o.cls = .ref C) (hq : Q (some (.ref C)) ⟨h, g, d, t + 1, os⟩) : wpAny (model prog w) A (getAttr? (.ref a) "__class__") Q E ⟨h, g, d, t, os⟩ := by
  unfold getAttr? getAttrBy?
  repeat (any_goals (first | assumption | with_reducible apply xclass_by Z X hx hc | wp_step))
end
theorem xkit {K : PySem.W.Frag} {C a : Addr} {dct : Option Addr} (Z : XKit K C) : KitX K (.ref a) (.ref C) (XIs a (.ref C) dct) where
  ty := fun M h _ p => by
    obtain ⟨o, vs, h1, h2, _⟩ := p
    exact h2 ▸ (Looks.ld h1).andThen .now
  it := fun M h X p => by
    have z := Z.cd
    unfold clsIn at z
    split at z
    · rename_i c' d' cd' sl' ho
      intro A' Q' E' s' k q
      unfold isType loadHead
      exact wpAny_bind (wpAny_loadPart (k _ _ (X _ _ ho)) (wpAny_pure q))
    · cases z
  ne := fun h tp dd its n sl X e => by
    have z := Z.cd
    unfold clsIn at z
    split at z
    · rename_i c' d' cd' sl' ho
      have := X _ _ ho
      apply beq_eq_false_iff_ne.mpr
      intro q
      cases q
      rw [e] at this
      cases this
    · cases z
  ca := fun {prog w A E Q s} X p q => by
    obtain ⟨o, vs, h1, h2, _⟩ := p
    obtain ⟨h, g, d, t, os⟩ := s
    exact xclass_attr Z X h1 h2 q
theorem kit_own {K : PySem.W.Frag} {C D : Addr} {cd : ClassData} {b : Bool} (h1 : PySem.W.clsIn K D = some cd) (h2 : PySem.W.typeIn K (.ref D) = some (.type "type")) (h3 : PySem.W.subIn K (.ref C) (.ref D) = some b) (hb : (Value.ref C == Value.ref D) = true → b = true) : PySem.W.kitOne K (.ref C) (.ref D) = some b := by
  unfold PySem.W.kitOne
  split
  · rename_i z; rw [hb z]
  · show (if ((PySem.W.clsIn K D).isSome && PySem.W.typeIn K (.ref D) == some (.type "type")) = true then PySem.W.subIn K (.ref C) (.ref D) else none) = some b
    rw [h1, h2, h3]
    rfl
theorem kit_typ {K : PySem.W.Frag} {C : Addr} {T : String} {b : Bool} (h2 : kitMeta T = true) (h3 : PySem.W.subIn K (.ref C) (.type T) = some b) : PySem.W.kitOne K (.ref C) (.type T) = some b := by
  unfold PySem.W.kitOne
  rw [if_neg (by intro z; cases z)]
  show (if kitMeta T = true then PySem.W.subIn K (.ref C) (.type T) else none) = some b
  rw [if_pos h2, h3]
def clsV : V → Option Value
  | .ref a => some (.ref a)
  | .ty n => some (.type n)
  | _ => none
theorem clsV_rel {D : V} {c u : Value} (e : clsV D = some c) (r : RelV D u) : u = c := by
  cases D <;> first | (cases e; exact r) | cases e
section
variable {X : Cx}
def rIsiN (K : PySem.W.Frag) : List V → Hp → VK → Prop := fun xs H Q => ∃ a C D c b dct, xs = [.ref a, D] ∧ H a = some (.ext (XIs a (.ref C) dct)) ∧ XKit K C ∧ clsV D = some c ∧ kitOne K (.ref C) c = some b ∧ Q (.bl b) H
theorem callIsiN (K : PySem.W.Frag) (hK : X.K = K := by rfl) : CallR X (.builtin "isinstance") (rIsiN K) := by
  subst hK
  intro pins s σ H xs us Q I r h
  obtain ⟨a, C, D, c, b, dct, rfl, ha, Z, e1, e, q⟩ := h
  obtain ⟨u, v, rfl, ru, rv⟩ := vals2 r
  cases (show u = Value.ref a from ru)
  cases clsV_rel e1 rv
  exact kia_one (xkit Z) I.kIn (I.hok a _ ha).1 e (fun z => nomatch z) fun tk => ⟨.bl b, H, I.tok tk, rfl, q⟩
theorem ap_risiN {K : PySem.W.Frag} {xs : List V} {H : Hp} {Q : VK} : rIsiN K xs H Q = ∃ a C D c b dct, xs = [.ref a, D] ∧ H a = some (.ext (XIs a (.ref C) dct)) ∧ XKit K C ∧ clsV D = some c ∧ kitOne K (.ref C) c = some b ∧ Q (.bl b) H := rfl
end
end L2
namespace L2
open PySem PySem.Spec PyProof.Rows
section
variable {X : Cx} {sp : Sp} {ta : TA} {t2 : TS} {k : Nat} {f : Str} {ps : List Str}
end
end L2
namespace L2
open PySem PySem.Spec PyProof.Rows
section
variable {M : Model} {A : Around} {E : Value → Shared → Prop} {K : PySem.W.Frag} {s : Shared}
theorem excMatches_is {b : Bool} {e C D : Addr} {bm bmD : List Value} {oe : Obj} {Q : Bool → Shared → Prop} (XK : K.In s.heap) (xC : XObj K C bm) (xD : XObj K D bmD) (he : s.heap.get? e = some oe) (hcls : oe.cls = .ref C) (hbase : bmD.contains (.type "BaseException") = true)
    (hsub : (Value.ref C :: bm).contains (.ref D) = b) (hq : Q b s) : wpAny M A (excMatches (.ref e) (.ref D)) Q E s := by
  obtain ⟨h, g, d, t, os⟩ := s
  obtain ⟨nm, q, N, bs, hdct, sn, sub, ab, col, dd, k0, k1, k2, k3, k5, newId, lC⟩ := xC
  obtain ⟨nm', q', N', bs', hdct', sn', sub', ab', col', dd', k0', k1', k2', k3', k5', newId', lD⟩ := xD
  have hC := XK _ _ lC
  have hD := XK _ _ lD
  have hcB : (Value.ref D :: bmD).contains (.type "BaseException") = true := by rw [List.contains_cons, hbase, Bool.or_true]
  have f := tc_notTuple
  unfold excMatches
  repeat (first | (with_reducible refine wpAny_loadPart_at he ?_; rw [hcls]) | with_reducible refine wpAny_loadPart_at hD ?_ | (with_reducible refine wpAny_isSubtype_exc hD ?_; rw [hcB]) | (with_reducible refine wpAny_isSubtype_exc hC ?_; rw [hsub]) | wp_step)
  cases b with
  | true => repeat (first | exact hq | wp_step)
  | false => repeat (first | exact hq | wp_step)
end
abbrev TB := XK → (St → Hp → Prop) → St → Hp → Prop
def PB (X : Cx) (body : List Stmt) (t : TB) : Prop :=
  ∀ (pins : List (Addr × Obj)) (s : Shared) (σ : St) (H : Hp) (E : XK) (N : St → Hp → Prop), Inv X pins σ H s → t E N σ H → wpAny (model X.prog X.w) X.A (execs body X.env) (fun fl s' => fl = .next ∧ ∃ σ' H', Inv X pins σ' H' s' ∧ N σ' H')
    (fun e s' => ∃ H1 s1, Inv X pins σ H1 s1 ∧ XOk X.prog X.w X.stack H1 s1 E e s') s
section
variable {X : Cx} {sp : Sp} {ta : TA} {t t1 t2 : TB} {k : Nat} {f : Str} {ps : List Str}
def bCall (sp : Sp) (ta : TA) : TB := fun E N σ H => ta σ H fun vs H1 => sp vs H1 (fun _ H2 => N σ H2) E
def bAsg (j : Nat) (sp : Sp) (ta : TA) : TB := fun E N σ H => ta σ H fun vs H1 => sp vs H1 (fun v H2 => N (σ.set j (some v)) H2) E
def bIf (tt : TT) (t1 t2 : TB) : TB := fun E N σ H => tt σ H fun b H1 => if b = true then t1 E N σ H1 else t2 E N σ H1
def bNil : TB := fun _ N σ H => N σ H
def bSeq (t1 t2 : TB) : TB := fun E N σ H => t1 E (fun σ' H' => σ' = σ ∧ t2 E N σ H') σ H
theorem pb_nil : PB X [] bNil := fun _ _ σ H _ _ I h => wpAny_execs_nil ⟨rfl, σ, H, I, h⟩
theorem pb_call {p cpos epos : Pos} {e : Expr} {es : List Expr} (F : FnX X.prog X.w X.K X.mg X.base k f ps sp) (hr : Room k X.A) (hg : Gl X f) (ha : PA X.nox (e :: es) ta)
    (hdb : (f == ("__debug__" : Str)) = false := by decide) (he : starEach (e :: es) X.env = (false, eval e X.env) :: starEach es X.env := by rfl) (hpl : (backTo cpos (starEach es X.env)).any (·.1) = false := by rfl)
    (hs : swapsWith (.Call (.Name f p) (e :: es) [] cpos) none epos.line X.env = pure false := by rfl) : PB X [.Expr (.Call (.Name f p) (e :: es) [] cpos) epos] (bCall sp ta) := by
  intro pins s σ H E N I h
  obtain ⟨fa, fd, F, hm, hk, hb, _⟩ := F
  refine wpAny_execs_cons (wpAny_Expr_any (wpAny_Call_Name_kw (ld_glob I hg hm ?_ hdb)) I.quiet hs)
  refine PySem.W.callWith_K (h₀ := X.base) I.ok.mod.kin hk (wpAny_mono (ha cpos pins s σ H _ (I.wish _) h) (fun us s1 ⟨vs, H1, I1, r, q⟩ => ⟨I1.kIn, ?_⟩) fun _ _ z => False.elim z) he hpl
  replace I1 := I1.unwish
  have hl : us.length = ps.length := by rw [← r.length]; exact F.len _ _ _ _ q
  have hbb := hb s1 us I1.kIn (by rw [List.append_nil]; exact hl)
  rw [List.append_nil] at hbb
  refine wpAny_call (codeAny_mono (F.run X.A X.stack s1 H1 ⟨us, []⟩ us vs _ _ hr I1.env0 hbb r q) fun r s' hq => ?_)
  cases r with
  | ok fl =>
    cases fl with
    | ret u =>
      obtain ⟨v, H2, I2, _, q2⟩ := I1.after hq
      exact wpAny_execs_nil ⟨rfl, σ, H2, I2, q2⟩
    | next => exact False.elim hq
    | brk => exact False.elim hq
    | cont => exact False.elim hq
  | error ex => exact ⟨H1, s1, I1, hq⟩
theorem pb_if {c : Expr} {a b : List Stmt} {tc : TT} {pos : Pos} (hc : PT X.nox c tc) (ha : PB X a t1) (hb : PB X b t2) : PB X [.If c a b pos] (bIf tc t1 t2) := by
  intro pins s σ H E N I h
  refine wpAny_execs_cons (wpAny_If (wpAny_mono (hc pins s σ H _ (I.wish _) h) (fun d s1 ⟨H1, I1, q1⟩ => ?_) fun _ _ z => False.elim z))
  cases d with
  | true => exact wpAny_mono (ha pins s1 σ H1 E N I1.unwish q1) (fun fl s2 ⟨e, z⟩ => by subst e; exact wpAny_execs_nil ⟨rfl, z⟩) fun _ _ z => z
  | false => exact wpAny_mono (hb pins s1 σ H1 E N I1.unwish q1) (fun fl s2 ⟨e, z⟩ => by subst e; exact wpAny_execs_nil ⟨rfl, z⟩) fun _ _ z => z
theorem pb_ifs {c : Expr} {a b rest : List Stmt} {tc : TT} {pos : Pos} (hc : PT X.nox c tc) (ha : PB X a t1) (hb : PB X b t2) (h : PB X rest t) : PB X (.If c a b pos :: rest) (bSeq (bIf tc t1 t2) t) := by
  intro pins s σ H E N I q
  refine wpAny_execs_cons (wpAny_If (wpAny_mono (hc pins s σ H _ (I.wish _) q) (fun d s1 ⟨H1, I1, q1⟩ => ?_) fun _ _ z => False.elim z))
  have go : ∀ fl s2, (fl = Flow.next ∧ ∃ σ' H', Inv X pins σ' H' s2 ∧ (σ' = σ ∧ t E N σ H')) → wpAny (model X.prog X.w) X.A (match fl with | .next => execs rest X.env | f => pure f) (fun fl s' => fl = .next ∧ ∃ σ' H', Inv X pins σ' H' s' ∧ N σ' H') (fun e s' => ∃ H1 s1, Inv X pins σ H1 s1 ∧ XOk X.prog X.w X.stack H1 s1 E e s') s2 := by
    rintro fl s2 ⟨rfl, σ', H', I', rfl, q'⟩
    exact h pins s2 σ' H' E N I' q'
  cases d with
  | true => exact wpAny_mono (ha pins s1 σ H1 E _ I1.unwish q1) (fun fl s2 ⟨e, σ', H', I', e', z⟩ => by subst e e'; exact h pins s2 σ' H' E N I' z) fun _ _ z => z
  | false => exact wpAny_mono (hb pins s1 σ H1 E _ I1.unwish q1) (fun fl s2 ⟨e, σ', H', I', e', z⟩ => by subst e e'; exact h pins s2 σ' H' E N I' z) fun _ _ z => z
end
abbrev TH := Value → Option Addr → Ends → St → Hp → Prop
def HB (X : Cx) (hs : List ExceptHandler) (th : TH) : Prop := ∀ (pins : List (Addr × Obj)) (σ : St) (H1 : Hp) (s1 : Shared) (H2 : Hp) (ea : Addr) (cls a0 : Value) (dct : Option Addr) (B : Heap) (s' : Shared) (D : Ends),
  Inv X pins σ H1 s1 → s'.os = s1.os → AllBare s'.gens → Fly X.prog X.w X.stack H1 H2 s1.heap B ea cls a0 dct s'.heap → th cls dct D σ H2 → wpAny (model X.prog X.w) X.A (handleBy (.ref ea) X.env hs) (SP X pins D) X.xe s'
def hNil : TH := fun _ _ _ _ _ => False
def hAs (K : PySem.W.Frag) (i : Nat) (t2 : TS) (Dc : Addr) (th : TH) : TH := fun cls dct D σ H2 => ∃ C bm, cls = .ref C ∧ XObj K C bm ∧ (((Value.ref C :: bm).contains (.ref Dc) = true ∧ ∀ ea, H2 ea = none → t2 { nx := fun σ3 H3 => D.nx (σ3.set i none) H3, rt := fun _ _ => False } (σ.set i (some (.ref ea))) (upd H2 ea (.ext (XIs ea cls dct)))) ∨
  ((Value.ref C :: bm).contains (.ref Dc) = false ∧ th cls dct D σ H2))
def hNo (K : PySem.W.Frag) (t2 : TS) (Dc : Addr) (th : TH) : TH := fun cls dct D σ H2 => ∃ C bm, cls = .ref C ∧ XObj K C bm ∧ (((Value.ref C :: bm).contains (.ref Dc) = true ∧ ∀ ea, H2 ea = none → t2 { nx := D.nx, rt := fun _ _ => False } σ (upd H2 ea (.ext (XIs ea cls dct)))) ∨
  ((Value.ref C :: bm).contains (.ref Dc) = false ∧ th cls dct D σ H2))
section
variable {X : Cx} {t2 : TS} {th : TH} {tb : TB}
theorem hb_nil : HB X [] hNil := fun _ _ _ _ _ _ _ _ _ _ _ _ _ _ _ _ h => h.elim
theorem hb_as {i : Nat} {n x : Str} {Dc : Addr} {bmD : List Value} {np hpos : Pos} {b₀ : Stmt} {suite : List Stmt} {hs : List ExceptHandler} (K : PySem.W.Frag) (S : OnStack X)
    (hN : X.N.Nodup) (hi : X.N[i]? = some n) (hn : X.env.scope.names.lookup n = some .local) (hgx : Gl X x) (hmx : X.mg x = some (.ref Dc)) (xD : XObj X.K Dc bmD) (hbase : bmD.contains (.type "BaseException") = true)
    (hsuite : ∀ v, PSs (cxSuite X v) (b₀ :: suite) t2) (hrest : HB X hs th) (hdx : (x == ("__debug__" : Str)) = false := by decide) (hK : X.K = K := by rfl) :
    HB X (.ExceptHandler (some (.Name x np)) (some n) (b₀ :: suite) hpos :: hs) (hAs K i t2 Dc th) := by
  subst hK
  intro pins σ H1 s1 H2 ea cls a0 dct B s' D I1 ho hbare F5 hth
  obtain ⟨C, bm, rfl, xC, q2⟩ := hth
  have hcls : (X.env.scope.kind == .class || (X.env.scope.kind == .module && X.env.locals != X.env.globals)) = false := by rw [I1.ok.kind]; rfl
  have I5 : Inv X pins σ H2 s' := I1.call' (ch := []) ho F5.un F5.hokH hbare (fun b hb => nomatch hb)
  have fl5 := F5.fl
  rw [S.stk] at fl5
  refine wpAny_handleBy_cons (codeAny_handlers_test ?_) (by intro z; cases z)
  refine ld_glob (X := cxSuite X (.ref ea)) (I5.suite _) hgx hmx ?_ hdx
  obtain ⟨oe, vs', he', hc', hd', _⟩ := F5.fl.first
  rcases q2 with ⟨hsub, q2⟩ | ⟨hsub, q2⟩
  · refine excMatches_is I5.kIn xC xD he' hc' hbase hsub ?_
    refine codeAny_handlers_suite_as ?_
    refine (tame_setFlight (.ref ea) none).any (lands_againW fl5 fun h6 fl6 u6 dk6 => ?_)
    have F6 := F5.again (by rw [S.stk]; exact fl6) u6 dk6
    have I6 : Inv X pins σ (upd H2 ea (.ext (XIs ea (.ref C) dct))) { s' with heap := h6 } := I1.call' (ch := []) ho (F6.unX _) F6.hokX hbare (fun b hb => nomatch hb)
    refine store_ok (X := cxSuite X (.ref ea)) (I6.suite (.ref ea)) hN hi (Or.inl hn) (v := .ref ea) rfl (fun s7 I7 => ?_) (.inr hn)
    refine wpAny_mono (hsuite (.ref ea) pins s7 _ _ _ I7 (q2 ea F6.nH)) (fun fl s8 h8 => ?_) (fun _ _ z => False.elim z)
    cases fl with
    | next =>
      obtain ⟨σ8, H8, I8, q8⟩ := h8
      obtain ⟨m, hm8, _⟩ := id I8.loc
      exact wpAny_nameGoes_keeps hn hm8 hcls fun h9 v hm9 hs9 => ⟨_, _, (I8.unsuite I1.ok).goes hN hi hn hm8 hm9 hs9, q8⟩
    | ret u => obtain ⟨_, _, _, _, _, z⟩ := h8; exact False.elim z
    | brk => obtain ⟨_, _, _, z⟩ := h8; exact False.elim z
    | cont => obtain ⟨_, _, _, z⟩ := h8; exact False.elim z
  · refine excMatches_is I5.kIn xC xD he' hc' hbase hsub ?_
    exact hrest pins σ H1 s1 H2 ea (.ref C) a0 dct B s' D I1 ho hbare F5 q2
def tTryB (tb : TB) (th : TH) : TS := fun D σ H => tb (fun cls dct H2 => th cls dct D σ H2) D.nx σ H
theorem ps_tryB {body : List Stmt} {h₀ : ExceptHandler} {hs : List ExceptHandler} {pos : Pos} (S : OnStack X) (hb : PB X body tb) (hh : HB X (h₀ :: hs) th) : PS X (.Try body (h₀ :: hs) [] [] pos) (tTryB tb th) := by
  intro pins s σ H D I h
  refine wpAny_Try_except (wpAny_mono (hb pins s σ H _ _ I h) (fun fl s' ⟨e, σ', H', I', q⟩ => ?_) fun e s' ⟨H1, s1, I1, q⟩ => ?_)
  · subst e
    exact wpAny_execs_nil ⟨σ', H', I', q⟩
  · obtain ⟨ea, cls, a0, dct, B, H2, rfl, ho, hbare, F2, q2⟩ := q
    have hfr : X.A.frames = some (X.env :: X.outer) := by rw [I.ok.frames, S.stk]
    have fl := F2.fl
    rw [S.stk] at fl
    refine (tame_note (.ref ea) X.env).any (wpAny_looks_onW hfr S.fr fl fun h4 held4 u4 dk4 => ?_)
    refine (tame_setFlight (.ref ea) none).any (wpAny_landsW held4 fun h5 fl5 u5 dk5 => ?_)
    have F5 := F2.again (by rw [S.stk]; exact fl5) (u4.trans u5) (dk4.trans dk5)
    exact hh pins σ H1 s1 H2 ea cls a0 dct B { s' with heap := h5 } D I1 ho hbare F5 q2
end
section
variable {E : XK} {N : St → Hp → Prop} {σ : St} {H : Hp} {sp : Sp} {ta : TA} {t1 t2 tb : TB} {tt : TT} {j i : Nat} {K : PySem.W.Frag} {ts : TS} {Dc : Addr} {th : TH} {cls : Value} {dct : Option Addr} {D : Ends}
theorem ap_bcall : bCall sp ta E N σ H = ta σ H fun vs H1 => sp vs H1 (fun _ H2 => N σ H2) E := rfl
theorem ap_basg : bAsg j sp ta E N σ H = ta σ H fun vs H1 => sp vs H1 (fun v H2 => N (σ.set j (some v)) H2) E := rfl
theorem ap_bif : bIf tt t1 t2 E N σ H = tt σ H fun b H1 => if b = true then t1 E N σ H1 else t2 E N σ H1 := rfl
theorem ap_bnil : bNil E N σ H = N σ H := rfl
theorem ap_bseq : bSeq t1 t2 E N σ H = t1 E (fun σ' H' => σ' = σ ∧ t2 E N σ H') σ H := rfl
theorem ap_hnil : hNil cls dct D σ H = False := rfl
theorem ap_has : hAs K i ts Dc th cls dct D σ H = ∃ C bm, cls = .ref C ∧ XObj K C bm ∧ (((Value.ref C :: bm).contains (.ref Dc) = true ∧ ∀ ea, H ea = none → ts { nx := fun σ3 H3 => D.nx (σ3.set i none) H3, rt := fun _ _ => False } (σ.set i (some (.ref ea))) (upd H ea (.ext (XIs ea cls dct)))) ∨
  ((Value.ref C :: bm).contains (.ref Dc) = false ∧ th cls dct D σ H)) := rfl
theorem ap_hno : hNo K ts Dc th cls dct D σ H = ∃ C bm, cls = .ref C ∧ XObj K C bm ∧ (((Value.ref C :: bm).contains (.ref Dc) = true ∧ ∀ ea, H ea = none → ts { nx := D.nx, rt := fun _ _ => False } σ (upd H ea (.ext (XIs ea cls dct)))) ∨
  ((Value.ref C :: bm).contains (.ref Dc) = false ∧ th cls dct D σ H)) := rfl
theorem ap_tryB : tTryB tb th D σ H = tb (fun cls dct H2 => th cls dct D σ H2) D.nx σ H := rfl
end
end L2
namespace L2
open PySem PySem.Spec PyProof.Rows PySem.W
section
variable {prog : Program} {w : World} {A : Around} {E : Value → Shared → Prop} {s : Shared} {K : PySem.W.Frag} {C f : Addr}
end
end L2
namespace L2
open PySem PySem.Spec PyProof.Rows PySem.W
section
variable {prog : Program} {w : World} {A : Around} {E : Value → Shared → Prop} {s : Shared} {K : PySem.W.Frag} {C f : Addr}
end
def del (H : Hp) (x : Addr) : Hp := fun b => if b = x then none else H b
section
variable {X : Cx} {pins : List (Addr × Obj)} {σ : St} {H : Hp} {s : Shared} {ea C : Addr} {dct : Option Addr}
end
end L2
namespace L2
open PySem PySem.Spec PyProof.Rows PySem.W
section
variable {X : Cx} {k : Nat} {f C : Addr} {fd : FuncData} {ps : List Str} {sp : Sp} {x : Str} {p pos np cpos : Pos} {e₀ : Expr} {rest : List Expr} {ta : TA} {E : XK}
end
end L2
namespace L2
open PySem PySem.Spec PyProof.Rows PySem.W
section
variable {X : Cx} {B : Addr} {bx f : Str} {np apos pos pos' : Pos} {e o value : Expr} {es : List Expr} {t : TA} {ta tv : TE}
end
end L2
namespace L2
open PySem PySem.Spec PyProof.Rows PySem.W
theorem reads_ints {h : Heap} : ∀ {is : List Int} {us : List Value}, Vals (is.map V.int) us → ReadsAll h us (is.map PyData.int) []
  | [], _, .nil => .nil
  | i :: is, _, .cons r q => by
    obtain ⟨t, rfl⟩ := r
    exact .cons (as := []) (bs := []) (.int i t) (reads_ints q)
theorem ints_showable : ∀ {is : List Int}, (∀ i ∈ is, i.natAbs.log2 < 1920) → PyData.showableAll (is.map PyData.int) = true
  | [], _ => rfl
  | i :: is, h => by
    show (decide (i.natAbs.log2 < 1920) && PyData.showableAll (is.map PyData.int)) = true
    rw [decide_eq_true (h i List.mem_cons_self), ints_showable fun j hj => h j (List.mem_cons_of_mem _ hj)]
    rfl
theorem ints_noDict : ∀ {is : List Int}, PyData.hasDictAll (is.map PyData.int) = false
  | [] => rfl
  | i :: is => by
    show (false || PyData.hasDictAll (is.map PyData.int)) = false
    rw [ints_noDict]; rfl
theorem ints_depth : ∀ {is : List Int}, PyData.depthAll (is.map PyData.int) = 0
  | [] => rfl
  | i :: is => by
    show max 0 (PyData.depthAll (is.map PyData.int)) = 0
    rw [ints_depth]; rfl
theorem ints_len : ∀ {is : List Int}, (∀ i ∈ is, i.natAbs.log2 < 1920) → ((PyData.shownAll (is.map PyData.int)).map (·.length)).sum ≤ 2000 * is.length
  | [], _ => Nat.le_refl _
  | i :: is, h => by
    have h1 := int_text_len_1921 (h i List.mem_cons_self)
    have h2 := ints_len (is := is) fun j hj => h j (List.mem_cons_of_mem _ hj)
    show (Str.ofString (toString i)).length + ((PyData.shownAll (is.map PyData.int)).map (·.length)).sum ≤ 2000 * (is.length + 1)
    omega
theorem ints_count : ∀ {is : List Int}, (PyData.shownAll (is.map PyData.int)).length = is.length
  | [] => rfl
  | i :: is => by
    show (PyData.shownAll (is.map PyData.int)).length + 1 = is.length + 1
    rw [ints_count]
theorem ints_text {is : List Int} (h : ∀ i ∈ is, i.natAbs.log2 < 1920) (hl : is.length ≤ 190) : (PyData.list (is.map PyData.int)).shown.length ≤ 400000 := by
  have h1 := listText_len_le (PyData.shownAll (is.map PyData.int))
  have h2 := ints_len h
  rw [ints_count] at h1
  show (listText (PyData.shownAll (is.map PyData.int))).length ≤ 400000
  omega
section
variable {X : Cx}
theorem Inv.kept2 {pins : List (Addr × Obj)} {σ : St} {H : Hp} {s : Shared} {h' : Heap} {t' : Nat} (I : Inv X pins σ H s) (k : ∀ b o, s.heap.get? b = some o → h'.get? b = some o) : Inv X pins σ H { s with heap := h', toks := t' } :=
  I.un ⟨fun b o q _ _ _ => k b o q, fun b o q _ _ _ => ⟨o.slots, k b o q⟩, fun _ _ _ n _ => n, fun b o q _ => ⟨o, k b o q⟩, fun _ _ q => q, fun _ _ _ q => q, fun b ps q => ⟨#[], by rw [Array.append_empty]; exact q⟩⟩ (I.hok.kept k)
def jRepr (te : TE) (t : TJ) : TJ := fun σ H Q => te σ H fun x H1 => ∃ (a : Addr) (is : List Int), x = .ref a ∧ H1 a = some (.lst (is.map V.int)) ∧ (∀ i ∈ is, i.natAbs.log2 < 1920) ∧ is.length ≤ 190 ∧ t σ H1 Q
theorem pj_repr {k : Nat} {e : Expr} {te : TE} {pos : Pos} {es : List Expr} {n : Nat} {t : TJ} (hr : Room k X.A) (he : PE X e te) (h : PJ X es n t) : PJ X (.FormattedValue e 114 none pos :: es) (n + 200) (jRepr te t) := by
  intro acc pins s σ H Q hz I hw
  refine joinParts_cons ?_
  show wpAny _ _ (do let v ← eval e X.env; standAt pos; formatted pos (← holding [v] (converted 114 v)) none) _ _ s
  refine wpAny_bind (thn (he pins s σ H _ I hw) fun v s1 ⟨x, H1, I1, r1, a, is, ex, ha, hi, hl, q⟩ => ?_)
  subst ex
  cases (show v = Value.ref a from r1)
  refine wpAny_bind (wpAny_standAt (wpAny_bind (wpAny_holding ?_)))
  obtain ⟨_, its, m, rv, ho⟩ := (show ObjOk X.prog X.w H1 s1.heap a (.lst (is.map V.int)) from I1.hok a _ ha)
  have rd : Reads s1.heap (.ref a) (.list (is.map PyData.int)) (a :: []) := .list ho rfl rfl (by simpa using reads_ints rv)
  have ht := ints_text hi hl
  show wpAny _ _ (pyReprObj (.ref a)) _ _ s1
  have hd : (PyData.list (is.map PyData.int)).depth = 1 := by show PyData.depthAll (is.map PyData.int) + 1 = 1; rw [ints_depth]
  refine pyReprObj_of_reads rd (ints_showable hi) (fun z => absurd z (by show ¬ PyData.hasDictAll (is.map PyData.int) = true; rw [ints_noDict]; decide)) hr.gd (by rw [hd]; have := hr.un; omega) (fun b o q => q) (fun h' u tk kp => ?_) (by rw [sizeLine_eq]; omega)
  have I2 : Inv X pins σ H1 { s1 with heap := h', toks := tk } := I1.kept2 kp
  show wpAny _ _ (formatField (.str _ u) Str.empty) _ _ _
  refine formatField_str (fun t' tk' => ?_) (by rw [sizeLine_eq]; omega)
  have hl2 := strLen_append acc (PyData.list (is.map PyData.int)).shown
  exact ⟨by omega, h _ pins _ σ H1 Q (by omega) (I2.tok _) q⟩
theorem ap_jrepr {te : TE} {t : TJ} {σ : St} {H : Hp} {Q : Hp → Prop} : jRepr te t σ H Q = te σ H fun x H1 => ∃ (a : Addr) (is : List Int), x = .ref a ∧ H1 a = some (.lst (is.map V.int)) ∧ (∀ i ∈ is, i.natAbs.log2 < 1920) ∧ is.length ≤ 190 ∧ t σ H1 Q := rfl
section
variable {K : PySem.W.Frag} {t : TA} {ta tv : TE} {f : Str} {D : Ends} {σ : St} {H : Hp} {Q : VK}
end
end
end L2
set_option maxHeartbeats 4000000
set_option compiler.extract_closed false
local macro_rules | `(tactic| walk_at "rm") => `(tactic| try simp only [L2.rIndex, L2.ap_iRevs, L2.ap_rIntB, L2.ap_clear, L2.ap_pop, L2.ap_listRev, L2.ap_iDict, L2.ap_dget, L2.ap_din, L2.ap_dnotin, L2.ap_dput, L2.ap_dnew, L2.rIndexO, L2.rListD, L2.ap_sum, L2.ap_disp, L2.ap_pnil, L2.ap_pcons, L2.ap_tryB, L2.ap_bcall, L2.ap_basg, L2.ap_bif, L2.ap_bnil, L2.ap_bseq, L2.ap_hnil, L2.ap_has, L2.ap_hno, L2.ap_jrepr, L2.ap_callX, L2.ap_raise, L2.ap_try, L2.ap_fstr, L2.ap_jnil, L2.ap_jint, L2.ap_risiX, L2.ap_risiN, L2.ap_seq, L2.ap_next, L2.ap_asg, L2.ap_gname, L2.ap_var, L2.ap_c, L2.ap_ret, L2.ap_retN, L2.ap_drop, L2.ap_if, L2.ap_ifE, L2.ap_op, L2.ap_un, L2.ap_test, L2.ap_b, L2.ap_and, L2.ap_or, L2.ap_not, L2.ap_andV, L2.ap_orV, L2.ap_notV,
  L2.ap_nil, L2.ap_cons, L2.ap_lst, L2.ap_tup, L2.ap_cb, L2.ap_call, L2.ap_ror, L2.ap_rI0, L2.ap_rI, L2.ap_rU, L2.ap_rEq, L2.ap_rNe, L2.ap_rEqD, L2.ap_rCat, L2.ap_rRep, L2.ap_ixL, L2.ap_ixT, L2.ap_in, L2.ap_sl, L2.ap_part, L2.ap_nopart, L2.ap_slL, L2.ap_bm0, L2.ap_bm, L2.ap_append, L2.ap_insert, L2.ap_rng1,
  L2.ap_iList, L2.ap_iEnum, L2.ap_iRng1, L2.ap_iRng2, L2.ap_gtup, L2.ap_gcons, L2.ap_gnil, L2.ap_gsub, L2.ap_setL, L2.ap_aug, L2.ap_augS, L2.ap_never, L2.ap_yes, L2.ap_start, L2.ap_for, L2.ap_comp, L2.ap_rlen, L2.ap_rall, L2.ap_risi, L2.ap_rev, L2.ap_rlistS, L2.ap_rlistR, L2.sc_ii, L2.sc_bb, L2.sc_rr, L2.sc_nn, OH.sc_xr, L2.tyV,
  List.length_cons, List.length_nil, List.map_cons, List.map_nil, List.replicate, Nat.reduceAdd, Nat.reduceSub, Nat.zero_add, List.nil_append, List.cons_append, List.append_nil, List.getElem?_cons_zero, List.getElem?_cons_succ, List.getElem?_nil, List.set_cons_zero, List.set_cons_succ, Option.join_some, Option.join_none,
  Option.some.injEq, List.cons.injEq, L2.V.int.injEq, L2.V.bl.injEq, L2.V.ref.injEq, L2.V.str.injEq, L2.V.ty.injEq, reduceCtorEq, and_true, true_and, and_false, false_and, or_false, false_or, exists_false, exists_eq_left, exists_eq_left', exists_eq_right, exists_eq_right', exists_eq, exists_eq', Int.natCast_inj, eq_self, not_true_eq_false, not_false_eq_true, exists_and_left, exists_and_right, and_assoc,
  decide_eq_true_eq, Bool.not_true, Bool.not_false, Bool.false_eq_true, if_true, if_false, ite_true, ite_false, Bool.not_eq_true', Bool.not_eq_true, decide_eq_false_iff_not])
local macro_rules | `(tactic| walk_at "ds") => `(tactic| dsimp only [L2.rIndex, L2.ap_iRevs, L2.ap_rIntB, L2.ap_clear, L2.ap_pop, L2.ap_listRev, L2.ap_iDict, L2.ap_dget, L2.ap_din, L2.ap_dnotin, L2.ap_dput, L2.ap_dnew, L2.rIndexO, L2.rListD, L2.ap_sum, L2.ap_disp, L2.ap_pnil, L2.ap_pcons, L2.ap_tryB, L2.ap_bcall, L2.ap_basg, L2.ap_bif, L2.ap_bnil, L2.ap_bseq, L2.ap_hnil, L2.ap_has, L2.ap_hno, L2.ap_jrepr, L2.ap_callX, L2.ap_raise, L2.ap_try, L2.ap_fstr, L2.ap_jnil, L2.ap_jint, L2.ap_risiX, L2.ap_risiN, L2.ap_seq, L2.ap_next, L2.ap_asg, L2.ap_gname, L2.ap_var, L2.ap_c, L2.ap_ret, L2.ap_retN, L2.ap_drop, L2.ap_if, L2.ap_ifE, L2.ap_op, L2.ap_un, L2.ap_test, L2.ap_b, L2.ap_and, L2.ap_or, L2.ap_not, L2.ap_andV, L2.ap_orV, L2.ap_notV, L2.ap_nil, L2.ap_cons, L2.ap_lst, L2.ap_tup, L2.ap_cb, L2.ap_call, L2.ap_ror, L2.ap_rI0, L2.ap_rI, L2.ap_rU, L2.ap_rEq, L2.ap_rNe, L2.ap_rEqD, L2.ap_rCat, L2.ap_rRep, L2.ap_ixL, L2.ap_ixT, L2.ap_in, L2.ap_sl, L2.ap_part, L2.ap_nopart, L2.ap_slL, L2.ap_bm0, L2.ap_bm, L2.ap_append, L2.ap_insert, L2.ap_rng1, L2.ap_iList, L2.ap_iEnum, L2.ap_iRng1, L2.ap_iRng2, L2.ap_gtup, L2.ap_gcons, L2.ap_gnil, L2.ap_gsub, L2.ap_setL, L2.ap_aug, L2.ap_augS, L2.ap_never, L2.ap_yes, L2.ap_start, L2.ap_for, L2.ap_comp, L2.ap_rlen, L2.ap_rall, L2.ap_risi, L2.ap_rev, L2.ap_rlistS, L2.ap_rlistR, L2.sc_ii, L2.sc_bb, L2.sc_rr, L2.sc_nn, L2.tyV, List.map_cons, List.map_nil, List.getElem?_cons_zero, List.getElem?_cons_succ, List.set_cons_zero, List.set_cons_succ, List.nil_append, List.cons_append])
local macro_rules | `(tactic| walk_at "rd") => `(tactic| ((try walk_at "ds"); walk_at "rm"))
namespace OH
open PySem L2
def top (i : Nat) : Stmt := PySem.Challenge.pw_orderhall_k27_refused_ways.main.body.getD i (.Pass ⟨0, 0, 0, 0⟩)
abbrev s_places_of : Stmt := top 1
abbrev s_refuse_more : Stmt := top 13
abbrev s_refuse_stranger : Stmt := top 14
abbrev s_with_all_below : Stmt := top 15
abbrev s_downsets_of : Stmt := top 18
abbrev s_ways_in : Stmt := top 19
abbrev s_ways_behind : Stmt := top 20
abbrev s_ready_behind : Stmt := top 21
abbrev s_way_at : Stmt := top 22
abbrev s_number_of : Stmt := top 23
abbrev s_refuse_no_way : Stmt := top 24
abbrev s_is_way : Stmt := top 25
abbrev s_ways_ahead : Stmt := top 26
abbrev s_steps_between : Stmt := top 27
abbrev s_one_step : Stmt := top 28
abbrev s_law_cell_at : Stmt := top 30
abbrev s_law_drawn : Stmt := top 31
abbrev s_law_turn : Stmt := top 32
abbrev s_law_pairs : Stmt := top 33
abbrev s_law_downs : Stmt := top 34
abbrev s_law_order : Stmt := top 35
abbrev s_law_way : Stmt := top 36
abbrev s_law_lays : Stmt := top 37
abbrev s_law_spoiled : Stmt := top 38
abbrev s_law_kinds : Stmt := top 39
abbrev s_law_asked : Stmt := top 40
abbrev s_law_large : Stmt := top 41
abbrev s_law : Stmt := top 42
section
variable {P : Program} {w : World} {K : PySem.W.Frag} {mg : Str → Option Value} {base : Heap}
theorem _root_.L2.sc_ii {i j : Int} : L2.scal (.int i) (.int j) = true := rfl
theorem _root_.L2.sc_bb {i j : Bool} : L2.scal (.bl i) (.bl j) = true := rfl
theorem _root_.L2.sc_rr {i j : Addr} : L2.scal (.ref i) (.ref j) = false := rfl
theorem _root_.L2.sc_nn : L2.scal .non .non = true := rfl
theorem sc_xr {x : V} {j : Addr} : L2.scal x (.ref j) = false := by cases x <;> rfl
theorem fg_listR {K : PySem.W.Frag} {g : TG} {t : TS} {D : Ends} {σ : St} {H : Hp} {a : Addr} {xs : List V} (Pv : Nat → St → Hp → Prop) (h0 : Pv 0 σ H) (hl : ∀ i σ H, i ≤ xs.length → Pv i σ H → SqL K H a xs)
    (hs : ∀ (i : Nat) x σ H, xs[i]? = some x → Pv i σ H → ∀ (N R : St → Hp → Prop), (∀ σ' H', Pv (i + 1) σ' H' → N σ' H') → g x σ H fun σ2 H2 => t { nx := N, rt := D.rt, ct := N, bk := R } σ2 H2) (hd : ∀ σ H, Pv xs.length σ H → D.nx σ H) : FG (Itl K a) g t D σ H :=
  fg_list Pv h0 hl (fun i x σ H ex h => hs i x σ H ex h _ _ fun _ _ z => z) hd
theorem fg_rangeR {lo : Int} {n : Nat} {g : TG} {t : TS} {D : Ends} {σ : St} {H : Hp} (Pv : Nat → St → Hp → Prop) (h0 : Pv 0 σ H)
    (hs : ∀ (i : Nat) σ H, i < n → Pv i σ H → ∀ (N R : St → Hp → Prop), (∀ σ' H', Pv (i + 1) σ' H' → N σ' H') → g (.int (lo + i)) σ H fun σ2 H2 => t { nx := N, rt := D.rt, ct := N, bk := R } σ2 H2) (hd : ∀ σ H, Pv n σ H → D.nx σ H) : FG (Itr lo n) g t D σ H :=
  fg_range Pv h0 (fun i σ H hi h => hs i σ H hi h _ _ fun _ _ z => z) hd
theorem iteF {X Y : Prop} (h : Y) : if false = true then X else Y := h
theorem iteFF {X Y : Prop} {b : Bool} (hb : b = false) (h : Y) : @ite Prop (b = true) (instDecidableEqBool b true) X Y := by subst hb; exact h
theorem iteTT {X Y : Prop} {b : Bool} (hb : b = true) (h : X) : @ite Prop (b = true) (instDecidableEqBool b true) X Y := by subst hb; exact h
def sp_few : Sp := fun vs H Q _ => ∃ i n : Int, vs = [.int i, .int n] ∧ i ≤ n ∧ Q .non H
theorem fn_refuse_more (S : Src K mg "refuse_more" s_refuse_more ["many", "most"]) : Fn P w K mg base 1 "refuse_more" ["many", "most"] sp_few := by
  have sc : FnScope ["many", "most"] ["many", "most"] (defScope s_refuse_more) := ⟨rfl, rfl, rfl, by decide +kernel, rfl, by decide +kernel, by decide +kernel⟩
  refine S.fn sc (fun vs H Q E h => by obtain ⟨i, n, rfl, _⟩ := h; rfl) fun f cdv A outer s H vs Q E hr h => ?_
  obtain ⟨i, n, rfl, h0, k⟩ := h
  refine ⟨_, (@pss_one _ _ _ (ps_if (pt_cmpR op_gt (pv 0) (pv 1) (nomark _))
      (@pss_one _ _ _ ps_never)
      pss_nil)), ?_⟩
  walk_at "rd"
  rw [if_neg (by omega)]
  exact k
def sp_refuse_moreX (CT : Addr) : Sp := fun vs H Q E => ∃ i n : Int, vs = [.int i, .int n] ∧ i.natAbs.log2 < 1920 ∧ n.natAbs.log2 < 1920 ∧ (i ≤ n → Q .non H) ∧ (n < i → E (.ref CT) none H)
theorem fn_refuse_moreX {A_TooMany : Addr} (S : Src K mg "refuse_more" s_refuse_more ["many", "most"]) (M_TooMany : mg "TooMany" = some (.ref A_TooMany)) (XC_TooMany : XCls K A_TooMany) : FnX P w K mg base 1 "refuse_more" ["many", "most"] (sp_refuse_moreX A_TooMany) := by
  have sc : FnScope ["many", "most"] ["many", "most"] (defScope s_refuse_more) := ⟨rfl, rfl, rfl, by decide +kernel, rfl, by decide +kernel, by decide +kernel⟩
  refine S.fnX sc (fun vs H Q E h => by obtain ⟨i, n, rfl, _⟩ := h; rfl) fun f cdv A outer s H vs Q E hr h => ?_
  obtain ⟨i, n, rfl, hi, hn, k1, k2⟩ := h
  refine ⟨_, (@pss_one _ _ _ (ps_if (pt_cmpR op_gt (pv 0) (pv 1) (nomark _))
      (@pss_one _ _ _ (ps_raise rz_of XC_TooMany rfl M_TooMany (pa_cons (pe_fstr (pj_int (pv 0) (pj_str (pj_int (pv 1) (pj_str pj_nil))))) pa_nil)))
      pss_nil)), ?_⟩
  walk_at "rd"
  by_cases h0 : n < i
  · rw [if_pos h0]
    exact ⟨hi, hn, fun _ => ⟨by rw [sizeLine_eq]; decide, k2 h0⟩⟩
  · rw [if_neg h0]
    exact k1 (by omega)
def sp_places_of : Sp := fun vs H Q _ => ∃ b : Nat, vs = [.int b] ∧ b < 2 ^ 1000 ∧ ∀ l H', Same H H' → H l = none → H' l = some (.lst ((OM.places b).map fun k : Nat => V.int k)) → Q (.ref l) H'
theorem fn_places_of (B : Blt mg) (S : Src K mg "places_of" s_places_of ["bits"]) : Fn P w K mg base 1 "places_of" ["bits"] sp_places_of := by
  have sc : FnScope ["bits"] ["bits"] (defScope s_places_of) := ⟨rfl, rfl, rfl, by decide +kernel, rfl, by decide +kernel, by decide +kernel⟩
  refine S.fn sc (fun vs H Q E h => by obtain ⟨b, rfl, _⟩ := h; rfl) fun f cdv A outer s H vs Q E hr h => ?_
  have hu := hu60 hr
  obtain ⟨b, rfl, hb, k⟩ := h
  refine ⟨_, (@pss_one _ _ _ (ps_ret (pe_comp (compOk (M := ["place", "bits"]) (nt := 1) (cap := [0]) (defScope s_places_of) ["bits"] rfl rfl rfl (by decide +kernel) (by decide +kernel) (by decide +kernel) (fun j hj => match j, hj with | 0, _ => ⟨_, _, rfl, rfl, rfl, rfl⟩) rfl) rfl (pi_range1 rfl B.range (pa_cons (peBm0 K PySem.F.plainAttrs_int PySem.F.slot_int_bit_length PySem.F.type_int_bit_length mt_bitlen (pv 0)) pa_nil)) (fun cl C fp s' H' => (pg_name (i := 0) (show (["place", "bits"] : List Str).Nodup by decide +kernel) rfl (Or.inl rfl))) (fun cl C fp s' H' => (pts_one (pt_cmpR (op_eqA K hu) (pe_op op_and (pe_op op_shr (pv 1) (pv 0)) pe_int) pe_int (nomark _)))) (fun cl C fp s' H' => (pv 0))))), ?_⟩
  walk_at "rd"
  rw [OM.bits_len]
  have hl := OM.len_le hb
  refine ⟨by omega, by omega, fun l hl0 => ?_⟩
  refine cg_by (H₀ := H) jw_range (fun i acc _ => acc = ((List.range i).filter b.testBit).map fun k : Nat => V.int k) ?_ (fun _ _ _ _ _ h => h) hl0 rfl ?_ ?_
  · rw [Int.toNat_natCast]; exact Nat.le_trans hl (by rw [sizeLine_eq]; decide)
  · intro i m x acc pre H1 r hp ct
    subst r
    match pre, hp with
    | [p0], _ =>
    walk_at "rd"
    rw [Int.zero_add, OM.bit_at]
    refine ⟨Int.natCast_nonneg i, ?_⟩
    have hacc := ct.hp
    by_cases hbit : b.testBit i = true
    · rw [if_pos hbit, if_pos rfl]
      refine ct.yes (Same.refl _) ?_ (pre := [_]) rfl rfl
      rw [hacc, List.range_succ, List.filter_append, List.map_append]
      simp [hbit]
    · rw [if_neg hbit, if_neg (by decide)]
      refine ct.no (Same.refl _) ?_ (pre := [_]) rfl rfl
      rw [hacc, List.range_succ, List.filter_append, List.map_append]
      simp [hbit]
  · intro acc H1 sm hl1 e
    refine k l H1 sm hl0 ?_
    rw [hl1, e, Int.toNat_natCast]
    rfl
def sp_with_all_below (K : PySem.W.Frag) : Sp := fun vs H Q _ => ∃ d, ∃ ds : List Nat, ∃ b : Nat, vs = [.ref d, .int b] ∧ SqL K H d (nv ds) ∧ b < 2 ^ ds.length ∧ ds.length ≤ 200 ∧ ∀ H', Same H H' → Q (.int (OM.below ds (OM.places b) : Nat)) H'
theorem fn_with_all_below (B : Blt mg) (S : Src K mg "with_all_below" s_with_all_below ["downs", "bits"]) (F_places_of : Fn P w K mg base 1 "places_of" ["bits"] sp_places_of) : Fn P w K mg base 2 "with_all_below" ["downs", "bits"] (sp_with_all_below K) := by
  have sc : FnScope ["downs", "bits", "together", "thing"] ["downs", "bits"] (defScope s_with_all_below) := ⟨rfl, rfl, rfl, by decide +kernel, rfl, by decide +kernel, by decide +kernel⟩
  refine S.fn sc (fun vs H Q E h => by obtain ⟨d, ds, b, rfl, _⟩ := h; rfl) fun f cdv A outer s H vs Q E hr h => ?_
  have hu := hu60 hr
  obtain ⟨d, ds, b, rfl, hD, hb, hn, k⟩ := h
  refine ⟨_, (@pss_cons _ _ _ _ _ (ps_set (i := 2) sc.nd rfl (Or.inl rfl) pe_int)
      (@pss_cons _ _ _ _ _ (ps_for PassesOwn.never rfl (piL K (pe_callF F_places_of (hr.mono (by decide)) rfl (pa_cons (pv 1) pa_nil))) (pg_name (i := 3) sc.nd rfl (Or.inl rfl))
      (@pss_one _ _ _ (ps_aug (i := 2) sc.nd rfl (Or.inl rfl) (pe_ix (ixL K) (pv 0) (pv 3) (fun _ _ => rfl)) ip_or)))
      (@pss_one _ _ _ (ps_ret (pv 2))))), ?_⟩
  walk_at "rd"
  refine ⟨b, rfl, Nat.lt_of_lt_of_le hb (Nat.pow_le_pow_right (by decide) (by omega)), fun l H1 s1 hl0 hl => ?_⟩
  walk_at "rd"
  refine ⟨⟨_, SqL.of hl⟩, ?_⟩
  refine fg_list (xs := nv (OM.places b)) (fun i σ' H' => H' = H1 ∧ ∃ v, σ' = [some (.ref d), some (.int b), some (.int (OM.below ds ((OM.places b).take i) : Nat)), v]) ⟨rfl, none, rfl⟩ (fun i σ' H' _ ⟨e, _⟩ => by subst e; exact SqL.of hl) ?_ ?_
  · rintro i x σ' H' ex ⟨rfl, v, rfl⟩
    obtain ⟨t, et, rfl⟩ := nv_some ex
    have hbt := OM.mem_places.mp (List.mem_of_getElem? et)
    have ht : t < ds.length := by
      apply Nat.lt_of_not_le
      intro hle
      rw [Nat.testBit_lt_two_pow (Nat.lt_of_lt_of_le hb (Nat.pow_le_pow_right (by decide) hle))] at hbt
      cases hbt
    walk_at "rd"
    refine ⟨_, s1.seq hD, _, nv_at ht, _, rfl, ?_⟩
    rw [OM.or_nat]
    unfold OM.below
    rw [List.take_add_one, et, Option.toList_some, List.foldl_append]
    rfl
  · rintro σ' H' ⟨rfl, v, rfl⟩
    rw [nv_len, List.take_length]
    walk_at "rd"
    exact k H' s1
def sp_downsets (K : PySem.W.Frag) : Sp := fun vs H Q _ => ∃ d, ∃ ds : List Nat, vs = [.ref d] ∧ SqL K H d (nv ds) ∧ ds.length ≤ 10 ∧ ∀ l H', Same H H' → H l = none → H' l = some (.lst (nv ((List.range (1 <<< ds.length)).filter fun b => decide (OM.below ds (OM.places b) = b)))) → Q (.ref l) H'
theorem fn_downsets_of {tk : Tok} (B : Blt mg) (S : Src K mg "downsets_of" s_downsets_of ["downs"]) (C_MOST_LAID : mg "MOST_LAID" = some (.int 10 tk)) (F_refuse_more : Fn P w K mg base 1 "refuse_more" ["many", "most"] sp_few)
    (F_with_all_below : Fn P w K mg base 2 "with_all_below" ["downs", "bits"] (sp_with_all_below K)) : Fn P w K mg base 3 "downsets_of" ["downs"] (sp_downsets K) := by
  have sc : FnScope ["downs"] ["downs"] (defScope s_downsets_of) := ⟨rfl, rfl, rfl, by decide +kernel, rfl, by decide +kernel, by decide +kernel⟩
  refine S.fn sc (fun vs H Q E h => by obtain ⟨d, ds, rfl, _⟩ := h; rfl) fun f cdv A outer s H vs Q E hr h => ?_
  have hu := hu60 hr
  obtain ⟨d, ds, rfl, hD, hn, k⟩ := h
  refine ⟨_, (@pss_cons _ _ _ _ _ (ps_expr (pe_callF F_refuse_more (hr.mono (by decide)) rfl (pa_cons (pe_callB (callLen K) rfl B.len PySem.boot_len (pa_cons (pv 0) pa_nil)) (pa_cons (pe_glob (v := .int 10) rfl C_MOST_LAID ⟨_, rfl⟩) pa_nil))))
      (@pss_one _ _ _ (ps_ret (pe_comp (compOk (M := ["bits", "downs"]) (nt := 1) (cap := [0]) (defScope s_downsets_of) ["downs"] rfl rfl rfl (by decide +kernel) (by decide +kernel) (by decide +kernel) (fun j hj => match j, hj with | 0, _ => ⟨_, _, rfl, rfl, rfl, rfl⟩) rfl) rfl (pi_range1 rfl B.range (pa_cons (pe_op op_shl pe_int (pe_callB (callLen K) rfl B.len PySem.boot_len (pa_cons (pv 0) pa_nil))) pa_nil)) (fun cl C fp s' H' => (pg_name (i := 0) (show (["bits", "downs"] : List Str).Nodup by decide +kernel) rfl (Or.inl rfl))) (fun cl C fp s' H' => (pts_one (pt_cmpR (op_eqA K hu) (pe_callF F_with_all_below (hr.mono (by decide)) rfl (pa_cons (pv 1) (pa_cons (pv 0) pa_nil))) (pv 0) (nomark _)))) (fun cl C fp s' H' => (pv 0)))))), ?_⟩
  walk_at "rd"
  refine ⟨_, .inl hD, ?_⟩
  rw [nv_len]
  refine ⟨_, _, rfl, by omega, ?_⟩
  walk_at "rd"
  refine ⟨_, .inl hD, ?_⟩
  rw [nv_len]
  have hp : 1 <<< ds.length ≤ 1024 := by
    rw [Nat.shiftLeft_eq, Nat.one_mul]
    exact Nat.pow_le_pow_right (by decide) hn
  refine ⟨⟨by omega, by omega, by decide⟩, ?_⟩
  rw [shl1]
  refine ⟨Int.le_trans (by decide) (Int.natCast_nonneg _), Int.lt_of_le_of_lt (Int.ofNat_le.mpr hp) (by decide), fun l hl => ?_⟩
  rw [Int.toNat_natCast]
  refine cg_by (H₀ := H) jw_range (fun i acc _ => acc = nv ((List.range i).filter fun b => decide (OM.below ds (OM.places b) = b))) (Nat.le_trans hp (by rw [sizeLine_eq]; decide)) (fun _ _ _ _ _ h => h) hl rfl ?_ ?_
  · intro i m x acc pre H2 r hpre ct
    subst r
    have hi := ct.hi
    match pre, hpre with
    | [p0], _ =>
    walk_at "rd"
    rw [Int.zero_add]
    refine ⟨d, ds, i, rfl, ct.sm.seq hD, by rw [Nat.shiftLeft_eq, Nat.one_mul] at hi; exact hi, by omega, fun H3 s3 => ?_⟩
    walk_at "rd"
    have hacc := ct.hp
    by_cases hb : OM.below ds (OM.places i) = i
    · rw [if_pos (by exact_mod_cast hb)]
      refine ct.yes s3 ?_ (pre := [_]) rfl rfl
      rw [hacc, OM.range_pos (by simpa using hb), nv_app]
    · rw [if_neg (by exact_mod_cast hb)]
      refine ct.no s3 ?_ (pre := [_]) rfl rfl
      rw [hacc, OM.range_neg (by simpa using hb)]
  · intro acc H1 sm hl1 e
    exact k l H1 sm hl (by rw [hl1, e])
def readyL (n : Nat) (ds : List Nat) (placed : Nat) : List Nat := (List.range n).filter fun t => decide (ds.getD t 0 - (ds.getD t 0 &&& placed) = 1 <<< t)
theorem mem_readyL {n : Nat} {ds : List Nat} {placed t : Nat} : t ∈ readyL n ds placed ↔ t < n ∧ ∀ x, ((ds.getD t 0).testBit x = true ∧ placed.testBit x = false) ↔ x = t := by
  unfold readyL
  rw [List.mem_filter, List.mem_range, decide_eq_true_iff]
  constructor
  · rintro ⟨h, e⟩
    refine ⟨h, fun x => ?_⟩
    rw [← OM.bit_one, ← e, OM.andnot_bit]
    simp
  · rintro ⟨h, e⟩
    refine ⟨h, Nat.eq_of_testBit_eq fun x => ?_⟩
    rw [Bool.eq_iff_iff, OM.bit_one, ← e x, OM.andnot_bit]
    simp
def sp_ready (K : PySem.W.Frag) : Sp := fun vs H Q _ => ∃ (d : Addr) (ds : List Nat) (n placed : Nat), vs = [.ref d, .int placed] ∧ SqL K H d (nv ds) ∧ ds.length = n ∧ n ≤ 128 ∧ ∀ l H', Same H H' → H l = none → H' l = some (.lst (nv (readyL n ds placed))) → Q (.ref l) H'
theorem fn_ready_behind (B : Blt mg) (S : Src K mg "ready_behind" s_ready_behind ["downs", "placed"]) : Fn P w K mg base 1 "ready_behind" ["downs", "placed"] (sp_ready K) := by
  have sc : FnScope ["downs", "placed"] ["downs", "placed"] (defScope s_ready_behind) := ⟨rfl, rfl, rfl, by decide +kernel, rfl, by decide +kernel, by decide +kernel⟩
  refine S.fn sc (fun vs H Q E h => by obtain ⟨d, ds, n, placed, rfl, _⟩ := h; rfl) fun f cdv A outer s H vs Q E hr h => ?_
  have hu := hu60 hr
  obtain ⟨d, ds, n, placed, rfl, hD, hdl, hn, k⟩ := h
  refine ⟨_, (@pss_one _ _ _ (ps_ret (pe_comp (compOk (M := ["thing", "down", "placed"]) (nt := 2) (cap := [1]) (defScope s_ready_behind) ["downs", "placed"] rfl rfl rfl (by decide +kernel) (by decide +kernel) (by decide +kernel) (fun j hj => match j, hj with | 0, _ => ⟨_, _, rfl, rfl, rfl, rfl⟩) rfl) rfl (piEnum K rfl B.enumerate (pa_cons (pv 0) pa_nil)) (fun cl C fp s' H' => (pgT K (n := 2) rfl (pgs_cons (pg_name (i := 0) (show (["thing", "down", "placed"] : List Str).Nodup by decide +kernel) rfl (Or.inl rfl)) (pgs_cons (pg_name (i := 1) (show (["thing", "down", "placed"] : List Str).Nodup by decide +kernel) rfl (Or.inl rfl)) pgs_nil)))) (fun cl C fp s' H' => (pts_one (pt_cmpR (op_eqA K hu) (pe_op op_and (pv 1) (pe_un un_inv (pv 2))) (pe_op op_shl pe_int (pv 0)) (nomark _)))) (fun cl C fp s' H' => (pv 0))))), ?_⟩
  walk_at "rd"
  refine ⟨⟨_, hD⟩, fun l hl => ?_⟩
  refine cg_by (H₀ := H) (jw_enum hD) (fun i acc _ => acc = nv (readyL i ds placed)) (by rw [nv_len, hdl]; exact Nat.le_of_lt (small1000 (by omega))) (fun _ _ _ _ _ h => h) hl rfl ?_ ?_
  · intro i m x acc pre H2 rx hpre ct
    obtain ⟨T, y, rfl, hTp, hy⟩ := rx
    obtain ⟨z, ez, rfl⟩ := nv_some hy
    have hi : i < n := by have := (List.getElem?_eq_some_iff.mp ez).1; omega
    have ezd : ds.getD i 0 = z := by rw [List.getD, ez]; rfl
    match pre, hpre with
    | [p0, p1], _ =>
    walk_at "rd"
    refine ⟨_, SqT.of hTp, rfl, _, _, rfl, _, _, rfl, rfl, ?_⟩
    walk_at "rd"
    refine ⟨⟨by omega, by omega, by decide⟩, ?_⟩
    rw [shl1, andnot_nat]
    have hacc := ct.hp
    by_cases hb : z - (z &&& placed) = 1 <<< i
    · rw [if_pos (by exact_mod_cast hb)]
      refine ct.yes (Same.refl _) ?_ (pre := [_, _]) rfl rfl
      rw [hacc]
      unfold readyL
      rw [OM.range_pos (by rw [ezd]; simpa using hb)]
      exact nv_app ..
    · rw [if_neg (by exact_mod_cast hb)]
      refine ct.no (Same.refl _) ?_ (pre := [_, _]) rfl rfl
      rw [hacc]
      unfold readyL
      rw [OM.range_neg (by rw [ezd]; simpa using hb)]
  · intro acc H2 s2 hl2 e
    rw [nv_len, hdl] at e
    subst e
    exact k l H2 s2 hl hl2
theorem readyL_rd {n : Nat} {ds : List Nat} : OM.Rd n ds (readyL n ds) := ⟨fun S t => mem_readyL, fun S => List.Nodup.sublist List.filter_sublist List.nodup_range⟩
theorem behind_full {n : Nat} {rd : Nat → List Nat} : OM.behindN n rd (2 ^ n - 1) = 1 := by
  have hl : (OM.places (2 ^ n - 1)).length = n := by
    rw [OM.places_of_lt (show 2 ^ n - 1 < 2 ^ n from Nat.sub_lt (Nat.two_pow_pos n) (by decide)), List.filter_eq_self.mpr (fun x hx => by rw [Nat.testBit_two_pow_sub_one, decide_eq_true_iff]; exact List.mem_range.mp hx), List.length_range]
  unfold OM.behindN
  rw [hl, Nat.sub_self]; rfl
def bkv (f : Nat → Nat) (xs : List Nat) : List (Nat × Nat) := xs.map fun S => (S, f S)
theorem bkv_reached {f : Nat → Nat} {xs : List Nat} {S : Nat} : OM.Reached (bkv f xs) S ↔ S ∈ xs := by
  unfold OM.Reached bkv
  rw [List.map_map, List.mem_map]
  exact ⟨fun ⟨a, h, e⟩ => by cases e; exact h, fun h => ⟨S, h, rfl⟩⟩
theorem bkv_src {f : Nat → Nat} : ∀ {xs : List Nat} {S : Nat}, S ∈ xs → OM.srcOf (bkv f xs) S = f S
  | x :: xs, S, h => by
    unfold OM.srcOf bkv
    rw [List.map_cons, List.find?_cons]
    by_cases e : x = S
    · rw [decide_eq_true e, e]; rfl
    · rw [decide_eq_false e]
      exact bkv_src ((List.mem_cons.mp h).resolve_left (fun z => e z.symm))
theorem before_of {xs : List Nat} (hp : xs.Pairwise (· > ·)) {i S T : Nat} (h : xs[i]? = some S) (hT : T ∈ xs) (hlt : S < T) : T ∈ xs.take i := by
  obtain ⟨j, hj⟩ := List.mem_iff_getElem?.mp hT
  obtain ⟨l1, e1⟩ := List.getElem?_eq_some_iff.mp h
  obtain ⟨l2, e2⟩ := List.getElem?_eq_some_iff.mp hj
  refine OM.mem_take_iff.mpr ⟨j, ?_, hj⟩
  rcases Nat.lt_trichotomy i j with z | z | z
  · have := List.pairwise_iff_getElem.mp hp i j l1 l2 z
    rw [e1, e2] at this; omega
  · subst z; rw [hj] at h; cases h; omega
  · exact z
theorem sum_cast : ∀ xs : List Nat, (xs.map fun j : Nat => (j : Int)).sum = ((xs.sum : Nat) : Int)
  | [] => rfl
  | x :: xs => by rw [List.map_cons, List.sum_cons, List.sum_cons, sum_cast xs, Int.natCast_add]
def dsets (n : Nat) (ds : List Nat) (m : Nat) : List Nat := (List.range m).filter fun b => decide (OM.below ds (OM.places b) = b)
theorem mem_dsets {n : Nat} {ds : List Nat} (R : OM.PO n ds) {m S : Nat} (hm : m ≤ 2 ^ n) : S ∈ dsets n ds m ↔ S < m ∧ OM.DownS n ds S := by
  unfold dsets
  rw [List.mem_filter, List.mem_range, decide_eq_true_iff]
  exact ⟨fun ⟨h1, h2⟩ => ⟨h1, (OM.downs_iff R (by omega)).mp h2⟩, fun ⟨h1, h2⟩ => ⟨h1, (OM.downs_iff R (by omega)).mpr h2⟩⟩
theorem dsets_last {n : Nat} {ds : List Nat} (R : OM.PO n ds) : dsets n ds (2 ^ n) = dsets n ds (2 ^ n - 1) ++ [2 ^ n - 1] := by
  have h0 := Nat.two_pow_pos n
  have hf : OM.below ds (OM.places (2 ^ n - 1)) = 2 ^ n - 1 := (OM.downs_iff R (by omega)).mpr ⟨by omega, fun t x h1 h2 => by
    rw [Nat.testBit_two_pow_sub_one, decide_eq_true_iff] at h1 ⊢
    exact R.dom t x h1 h2⟩
  unfold dsets
  conv => lhs; rw [show 2 ^ n = (2 ^ n - 1) + 1 by omega]
  exact OM.range_pos (by rw [decide_eq_true_iff]; exact hf)
theorem dsets_down {n m : Nat} {ds : List Nat} : (dsets n ds m).reverse.Pairwise (· > ·) := by
  rw [List.pairwise_reverse]
  exact List.Pairwise.sublist List.filter_sublist List.pairwise_lt_range
def sp_behind (K : PySem.W.Frag) : Sp := fun vs H Q _ => ∃ (d : Addr) (ds : List Nat) (n : Nat), vs = [.ref d] ∧ SqL K H d (nv ds) ∧ OM.PO n ds ∧ n ≤ 10 ∧ ∀ kv l H', (∀ S, OM.DownS n ds S → OM.Reached kv S ∧ OM.srcOf kv S = OM.behindN n (readyL n ds) S) → Same H H' → H l = none → H' l = some (.dK (dv kv)) → Q (.ref l) H'
theorem fn_ways_behind (B : Blt mg) (Z_sum : mg "sum" = none) (Z_reversed : mg "reversed" = none) (S : Src K mg "ways_behind" s_ways_behind ["downs"]) (F_downsets_of : Fn P w K mg base 3 "downsets_of" ["downs"] (sp_downsets K)) (F_ready_behind : Fn P w K mg base 1 "ready_behind" ["downs", "placed"] (sp_ready K)) : Fn P w K mg base 4 "ways_behind" ["downs"] (sp_behind K) := by
  have sc : FnScope ["downs", "downsets", "behind", "placed"] ["downs"] (defScope s_ways_behind) := ⟨rfl, rfl, rfl, by decide +kernel, rfl, by decide +kernel, by decide +kernel⟩
  refine S.fn sc (fun vs H Q E h => by obtain ⟨d, ds, n, rfl, _⟩ := h; rfl) fun f cdv A outer s H vs Q E hr h => ?_
  have hu := hu60 hr
  obtain ⟨d, ds, n, rfl, hD, R, hn, k⟩ := h
  have ne : ∀ {b c : Addr} {G : Hp} {o : HO}, G b = some o → G c = none → b ≠ c := fun h1 h2 z => by subst z; rw [h1] at h2; cases h2
  have h2n := Nat.two_pow_pos n
  have h2m : 2 ^ n ≤ 1024 := Nat.pow_le_pow_right (by decide) hn
  refine ⟨_, (@pss_cons _ _ _ _ _ (ps_set (i := 1) sc.nd rfl (Or.inl rfl) (pe_callF F_downsets_of (hr.mono (by decide)) rfl (pa_cons (pv 0) pa_nil)))
      (@pss_cons _ _ _ _ _ (ps_set (i := 2) sc.nd rfl (Or.inr rfl) (pe_disp (pps_cons (pe_ix (ixL K) (pv 1) (pe_un un_neg pe_int) (fun _ _ => rfl)) pe_int pps_nil) rfl rfl (by simp) (by decide)))
      (@pss_cons _ _ _ _ _ (ps_for PassesOwn.never rfl (piRevs K rfl Z_reversed (pa_cons (pe_slice (slL K) (pv 1) po_none (po_some (pe_un un_neg pe_int))) pa_nil)) (pg_name (i := 3) sc.nd rfl (Or.inr rfl))
      (@pss_one _ _ _ (ps_dput (huD hu) (pv 2) (pv 3) (pe_callB (callSum K rfl) rfl Z_sum PyProof.Rows.boot_sum (pa_cons (pe_comp (compOk (M := ["thing", "behind", "placed"]) (nt := 1) (cap := [2, 3]) (defScope s_ways_behind) ["downs", "downsets", "behind", "placed"] rfl rfl rfl (by decide +kernel) (by decide +kernel) (by decide +kernel) (fun j hj => match j, hj with | 0, _ => ⟨_, _, rfl, rfl, rfl, rfl⟩ | 1, _ => ⟨_, _, rfl, rfl, rfl, rfl⟩) rfl) rfl (piL K (pe_callF F_ready_behind (hr.mono (by decide)) rfl (pa_cons (pv 0) (pa_cons (pv 3) pa_nil)))) (fun cl C fp s' H' => (pg_name (i := 0) (show (["thing", "behind", "placed"] : List Str).Nodup by decide +kernel) rfl (Or.inl rfl))) (fun cl C fp s' H' => pts_nil) (fun cl C fp s' H' => (pe_dget (huD hu) (pv 1) (pe_op op_or (pv 2) (pe_op op_shl pe_int (pv 0))) (fun _ _ => rfl)))) pa_nil)) rfl)))
      (@pss_one _ _ _ (ps_ret (pv 2)))))), ?_⟩
  walk_at "rd"
  refine ⟨d, ds, rfl, hD, by rw [R.len]; exact hn, fun l H1 s1 hl0 hl => ?_⟩
  rw [R.len, Nat.one_shiftLeft] at hl
  have hl2 : H1 l = some (.lst (nv (dsets n ds (2 ^ n - 1) ++ [2 ^ n - 1]))) := by rw [← dsets_last R]; exact hl
  walk_at "rd"
  intro p hp
  refine ⟨_, SqL.of (by rw [upd_ne (ne hl2 hp)]; exact hl2), .int ((2 ^ n - 1 : Nat) : Int), ?_, upd_same, [(Sum.inl ((2 ^ n - 1 : Nat) : Int), V.int 1)], rfl, (by show 1 ≤ 15; decide), ?_⟩
  · unfold nv; rw [List.map_append]; exact atI_last _ _
  have s2 : Same H1 (upd (upd H1 p (.dK [])) p (.dK (mergeK [] [(Sum.inl ((2 ^ n - 1 : Nat) : Int), V.int 1)]))) := fun b o e => by rw [upd_ne (ne e hp), upd_ne (ne e hp)]; exact e
  have e2 : upd (upd H1 p (.dK [])) p (.dK (mergeK [] [(Sum.inl ((2 ^ n - 1 : Nat) : Int), V.int 1)])) p = some (.dK (dv (bkv (OM.behindN n (readyL n ds)) [2 ^ n - 1]))) := by
    rw [upd_same]; unfold bkv; rw [List.map_cons, List.map_nil, behind_full]; rfl
  generalize upd (upd H1 p (.dK [])) p (.dK (mergeK [] [(Sum.inl ((2 ^ n - 1 : Nat) : Int), V.int 1)])) = H2 at s2 e2 ⊢
  refine ⟨_, SqL.of (s2 _ _ hl2), ?_⟩
  have hcut : cutV (nv (dsets n ds (2 ^ n - 1) ++ [2 ^ n - 1])) none (some (-1)) = nv (dsets n ds (2 ^ n - 1)) := by
    unfold cutV
    rw [HT.sIx_none, List.drop_zero, Nat.sub_zero, nv_len, List.length_append, List.length_singleton]
    have e : HT.sIx ((dsets n ds (2 ^ n - 1)).length + 1) ((dsets n ds (2 ^ n - 1)).length + 1) (some (-1)) = (dsets n ds (2 ^ n - 1)).length := by
      unfold HT.sIx
      simp only []
      rw [if_pos (by decide)]
      omega
    rw [e]
    unfold nv
    rw [List.map_append]
    have e3 : ((dsets n ds (2 ^ n - 1)).map fun j : Nat => V.int (j : Nat)).length = (dsets n ds (2 ^ n - 1)).length := List.length_map ..
    rw [← e3]
    exact List.take_left
  rw [hcut]
  intro q hp_q
  generalize hq_q : upd _ q _ = H3
  have s_H3 : Same _ H3 := hq_q ▸ Same.upd hp_q
  have e_H3 : H3 q = some _ := hq_q ▸ upd_same
  clear hq_q
  have s13 := s1.trans (s2.trans s_H3)
  refine ⟨_, SqL.of e_H3, ?_⟩
  refine fg_rev (xs := nv (dsets n ds (2 ^ n - 1))) (fun i σ' H' => Same H H' ∧ H' q = some (.lst (nv (dsets n ds (2 ^ n - 1)))) ∧ H' p = some (.dK (dv (bkv (OM.behindN n (readyL n ds)) ((2 ^ n - 1) :: (dsets n ds (2 ^ n - 1)).reverse.take i)))) ∧ ∃ v, σ' = [some (.ref d), some (.ref l), some (.ref p), v])
    ⟨s13, e_H3, s_H3 _ _ e2, none, rfl⟩ (fun i σ' H' _ ⟨_, h, _⟩ => SqL.of h) ?_ ?_
  · rintro i x σ' H' ex ⟨sm, hq, hpd, v, rfl⟩
    rw [show (nv (dsets n ds (2 ^ n - 1))).reverse = nv (dsets n ds (2 ^ n - 1)).reverse from by unfold nv; rw [List.map_reverse]] at ex
    obtain ⟨T, eT, rfl⟩ := nv_some ex
    obtain ⟨hTl, hTd⟩ := (mem_dsets R (Nat.sub_le _ _)).mp (List.mem_reverse.mp (List.mem_of_getElem? eT))
    walk_at "rd"
    refine ⟨d, ds, n, T, rfl, sm.seq hD, R.len, by omega, fun r H4 s4 hr0 hr4 => ?_⟩
    walk_at "rd"
    have hqp : q ≠ p := fun z => by subst z; rw [e2] at hp_q; cases hp_q
    have hne : T ≠ 2 ^ n - 1 := by omega
    refine ⟨⟨_, SqL.of hr4⟩, fun y hy => ?_⟩
    have hrl : (readyL n ds T).length ≤ n := Nat.le_trans (List.length_filter_le _ _) (by rw [List.length_range]; exact Nat.le_refl _)
    refine cg_by (H₀ := H4) (jw_list (SqL.of hr4)) (fun j acc _ => acc = nv (((readyL n ds T).take j).map fun t => OM.behindN n (readyL n ds) (T ||| 1 <<< t))) (by rw [nv_len]; exact Nat.le_of_lt (small1000 (by omega))) (fun _ _ _ _ _ h => h) hy rfl ?_ ?_
    · intro j m x acc pre H5 rx hpre ct
      obtain ⟨t, et, rfl⟩ := nv_some rx
      have htm := List.mem_of_getElem? et
      have ht : t < n := (mem_readyL.mp htm).1
      obtain ⟨st1, st2, st3⟩ := readyL_rd.step hTd htm
      match pre, hpre with
      | [p0], _ =>
      walk_at "rd"
      have hacc := ct.hp
      refine ⟨⟨by omega, by omega, by decide⟩, ?_⟩
      rw [shl1, OM.or_nat]
      have hm : T ||| 1 <<< t ∈ (2 ^ n - 1) :: (dsets n ds (2 ^ n - 1)).reverse.take i := by
        rw [List.mem_cons]
        by_cases z : T ||| 1 <<< t = 2 ^ n - 1
        · exact .inl z
        · refine .inr (before_of dsets_down eT (List.mem_reverse.mpr ((mem_dsets R (Nat.sub_le _ _)).mpr ⟨by have := st1.1; omega, st1⟩)) st2)
      have hg := DGet.k (k := Sum.inl ((T ||| 1 <<< t : Nat) : Int)) (ct.sm _ _ (s4 _ _ hpd))
      rw [dv_val, if_pos (bkv_reached.mpr hm), bkv_src hm] at hg
      refine ⟨_, hg, ?_⟩
      refine ct.yes (Same.refl _) ?_ (pre := [_]) rfl rfl
      rw [hacc, List.take_add_one, et, Option.toList_some, List.map_append]
      exact nv_app ..
    · intro acc H5 s5 hl5 e
      rw [nv_len, List.take_length] at e
      subst e
      have hp5 := s5 _ _ (s4 _ _ hpd)
      refine ⟨y, rfl, ((readyL n ds T).map fun t => OM.behindN n (readyL n ds) (T ||| 1 <<< t)).map (fun j : Nat => (j : Int)), by rw [← nv_ints]; exact SqL.of hl5, ?_⟩
      rw [sum_cast, ← OM.behind_step readyL_rd hTd hne]
      have hnr : ¬ OM.Reached (bkv (OM.behindN n (readyL n ds)) ((2 ^ n - 1) :: (dsets n ds (2 ^ n - 1)).reverse.take i)) T := fun z => by
        rcases List.mem_cons.mp (bkv_reached.mp z) with z | z
        · exact hne z
        · obtain ⟨j, hj, ej⟩ := OM.mem_take_iff.mp z
          obtain ⟨l1, e1⟩ := List.getElem?_eq_some_iff.mp eT
          obtain ⟨l2, e2'⟩ := List.getElem?_eq_some_iff.mp ej
          have := List.pairwise_iff_getElem.mp (dsets_down (n := n) (ds := ds) (m := 2 ^ n - 1)) j i l2 l1 hj
          rw [e1, e2'] at this; omega
      have hkl : (dv (bkv (OM.behindN n (readyL n ds)) ((2 ^ n - 1) :: (dsets n ds (2 ^ n - 1)).reverse.take i))).length < sizeLine := by
        rw [dv_len]
        unfold bkv
        rw [List.length_map, List.length_cons, List.length_take, List.length_reverse]
        have h1 : (dsets n ds (2 ^ n - 1)).length ≤ 2 ^ n - 1 := Nat.le_trans (List.length_filter_le _ _) (by rw [List.length_range]; exact Nat.le_refl _)
        refine Nat.lt_of_le_of_lt (Nat.succ_le_succ (Nat.le_trans (Nat.min_le_right _ _) (Nat.le_trans h1 (by omega : 2 ^ n - 1 ≤ 1023)))) (by decide)
      have hput := DPut.k (k := Sum.inl ((T : Nat) : Int)) (v := V.int ((OM.behindN n (readyL n ds) T : Nat) : Int)) hp5 hkl
      refine ⟨_, hput, ?_, ?_, ?_⟩
      · exact (sm.trans (s4.trans s5)).write (s1.free hp)
      · rw [upd_ne hqp]; exact s5 _ _ (s4 _ _ hq)
      · rw [upd_same, dv_put hnr]
        unfold bkv
        rw [List.take_add_one, eT, Option.toList_some, ← List.cons_append, List.map_append]
        rfl
  · rintro σ' H' ⟨sm, _, hpd, v, rfl⟩
    walk_at "rd"
    refine k _ p H' (fun S hS => ?_) sm ((s1.free hp)) hpd
    have hm : S ∈ (2 ^ n - 1) :: (dsets n ds (2 ^ n - 1)).reverse.take (nv (dsets n ds (2 ^ n - 1))).length := by
      rw [nv_len, ← List.length_reverse, List.take_length, List.mem_cons, List.mem_reverse, mem_dsets R (Nat.sub_le _ _)]
      by_cases z : S = 2 ^ n - 1
      · exact .inl z
      · exact .inr ⟨by have := hS.1; omega, hS⟩
    exact ⟨bkv_reached.mpr hm, bkv_src hm⟩
theorem down_zero {n : Nat} {ds : List Nat} : OM.DownS n ds 0 := ⟨Nat.two_pow_pos n, fun t x h => by rw [Nat.zero_testBit] at h; cases h⟩
def sp_is_way (K : PySem.W.Frag) : Sp := fun vs H Q _ => ∃ (d r : Addr) (ds row : List Nat) (n : Nat), vs = [.ref d, .ref r] ∧ SqL K H d (nv ds) ∧ SqL K H r (nv row) ∧ OM.PO n ds ∧ n ≤ 128 ∧ OM.Way n ds row ∧ ∀ H', Same H H' → Q (.bl true) H'
theorem way_ready {n : Nat} {ds row : List Nat} (R : OM.PO n ds) (W : OM.Way n ds row) {i t : Nat} (h : row[i]? = some t) : t ∈ readyL n ds (OM.bits (row.take i)) := by
  have ht : t < n := W.mem.mp (List.mem_of_getElem? h)
  rw [mem_readyL]
  refine ⟨ht, fun x => ?_⟩
  have hm : x ∈ row.take i ↔ ∃ j, j < i ∧ row[j]? = some x := by
    rw [List.mem_iff_getElem?]
    constructor
    · rintro ⟨j, hj⟩
      rw [List.getElem?_take] at hj
      split at hj
      · exact ⟨j, by assumption, hj⟩
      · cases hj
    · rintro ⟨j, h1, h2⟩
      exact ⟨j, by rw [List.getElem?_take, if_pos h1]; exact h2⟩
  constructor
  · rintro ⟨h1, h2⟩
    rw [OM.testBit_bits, decide_eq_false_iff_not, hm] at h2
    apply Classical.byContradiction
    intro hne
    exact h2 (W.lays i t x h h1 hne)
  · rintro rfl
    refine ⟨R.refl x ht, ?_⟩
    rw [OM.testBit_bits, decide_eq_false_iff_not, hm]
    rintro ⟨j, h1, h2⟩
    have := OM.nodup_at W.nodup h h2
    omega
def IsWay (n : Nat) (ds : List Nat) (row : List Int) : Prop := ∃ r : List Nat, row = r.map (fun x : Nat => (x : Int)) ∧ OM.Way n ds r
def GoesI (rd : Nat → List Nat) (S : Nat) (row : List Int) : Prop := ∃ r : List Nat, row = r.map (fun x : Nat => (x : Int)) ∧ OM.Goes rd S r
theorem isWay_iff {n : Nat} {ds : List Nat} {row : List Int} (R : OM.PO n ds) : IsWay n ds row ↔ GoesI (readyL n ds) 0 row ∧ row.length = n := by
  constructor
  · rintro ⟨r, rfl, W⟩
    have := OM.mem_wl.mp ((OM.goes_way R readyL_rd).mpr W)
    exact ⟨⟨r, rfl, this.2⟩, by rw [List.length_map]; exact this.1⟩
  · rintro ⟨⟨r, rfl, G⟩, e⟩
    rw [List.length_map] at e
    exact ⟨r, rfl, (OM.goes_way R readyL_rd).mp (OM.mem_wl.mpr ⟨e, G⟩)⟩
theorem goesI_cons {rd : Nat → List Nat} {S t : Nat} {row : List Int} (h : t ∈ rd S) : GoesI rd S ((t : Int) :: row) ↔ GoesI rd (S ||| 1 <<< t) row := by
  constructor
  · rintro ⟨r, e, G⟩
    cases r with
    | nil => cases e
    | cons u r =>
      rw [List.map_cons, List.cons.injEq] at e
      have : t = u := by exact_mod_cast e.1
      subst this
      exact ⟨r, e.2, G.2⟩
  · rintro ⟨r, rfl, G⟩
    exact ⟨t :: r, rfl, h, G⟩
theorem goesI_head {rd : Nat → List Nat} {S : Nat} {x : Int} {row : List Int} (h : GoesI rd S (x :: row)) : ∃ t : Nat, x = t ∧ t ∈ rd S := by
  obtain ⟨r, e, G⟩ := h
  cases r with
  | nil => cases e
  | cons u r =>
    rw [List.map_cons, List.cons.injEq] at e
    exact ⟨u, e.1, G.1⟩
theorem in_nvI (x : Int) (ks : List Nat) : inV (.int x) (nv ks) = true ↔ ∃ t : Nat, x = t ∧ t ∈ ks := by
  unfold inV nv
  rw [List.any_map, List.any_eq_true]
  constructor
  · rintro ⟨k, hk, e⟩
    have e : ((k : Int) == x) = true := e
    exact ⟨k, (beq_iff_eq.mp e).symm, hk⟩
  · rintro ⟨t, rfl, ht⟩
    exact ⟨t, ht, beq_self_eq_true ((t : Nat) : Int)⟩
def sp_is_wayI (K : PySem.W.Frag) : Sp := fun vs H Q _ => ∃ (d r : Addr) (ds : List Nat) (row : List Int) (n : Nat), vs = [.ref d, .ref r] ∧ SqL K H d (nv ds) ∧ SqL K H r (row.map V.int) ∧ OM.PO n ds ∧ n ≤ 128 ∧ ∀ b H', (b = true ↔ IsWay n ds row) → Same H H' → Q (.bl b) H'
theorem fn_is_wayI (B : Blt mg) (S : Src K mg "is_way" s_is_way ["downs", "row"]) (F_ready_behind : Fn P w K mg base 1 "ready_behind" ["downs", "placed"] (sp_ready K)) : Fn P w K mg base 2 "is_way" ["downs", "row"] (sp_is_wayI K) := by
  have sc : FnScope ["downs", "row", "placed", "thing"] ["downs", "row"] (defScope s_is_way) := ⟨rfl, rfl, rfl, by decide +kernel, rfl, by decide +kernel, by decide +kernel⟩
  refine S.fn sc (fun vs H Q E h => by obtain ⟨d, r, ds, row, n, rfl, _⟩ := h; rfl) fun f cdv A outer s H vs Q E hr h => ?_
  have hu := hu60 hr
  obtain ⟨d, r, ds, row, n, rfl, hD, hR, R, hn, k⟩ := h
  refine ⟨_, (@pss_cons _ _ _ _ _ (ps_set (i := 2) sc.nd rfl (Or.inl rfl) pe_int)
      (@pss_cons _ _ _ _ _ (ps_for PassesOwn.never rfl (piL K (pv 1)) (pg_name (i := 3) sc.nd rfl (Or.inl rfl))
      (@pss_cons _ _ _ _ _ (ps_if (pt_cmpR (opNotIn K) (pv 3) (pe_callF F_ready_behind (hr.mono (by decide)) rfl (pa_cons (pv 0) (pa_cons (pv 2) pa_nil))) rfl)
      (@pss_one _ _ _ (ps_ret pe_bl))
      pss_nil)
      (@pss_one _ _ _ (ps_aug (i := 2) sc.nd rfl (Or.inl rfl) (pe_op op_shl pe_int (pv 3)) ip_or))))
      (@pss_one _ _ _ (ps_ret (pe_cmpR (op_eqA K hu) (pe_callB (callLen K) rfl B.len PySem.boot_len (pa_cons (pv 1) pa_nil)) (pe_callB (callLen K) rfl B.len PySem.boot_len (pa_cons (pv 0) pa_nil)) (nomark _)))))), ?_⟩
  walk_at "rd"
  refine ⟨⟨_, hR⟩, ?_⟩
  refine fg_listR (xs := row.map V.int) (fun i σ' H' => Same H H' ∧ ∃ (T : Nat) (v3 : Option V), (GoesI (readyL n ds) 0 row ↔ GoesI (readyL n ds) T (row.drop i)) ∧ σ' = [some (.ref d), some (.ref r), some (.int (T : Nat)), v3]) ⟨Same.refl _, 0, none, Iff.rfl, rfl⟩ (fun i σ' H' _ ⟨sm, _⟩ => sm.seq hR) ?_ ?_
  · rintro i x σ' H' ex ⟨sm, T, v3, hG, rfl⟩ N' R' hN'
    obtain ⟨x, ex', rfl⟩ : ∃ z, row[i]? = some z ∧ x = .int z := by
      rw [List.getElem?_map] at ex
      cases e : row[i]? with
      | none => rw [e] at ex; cases ex
      | some v => rw [e] at ex; cases ex; exact ⟨v, rfl, rfl⟩
    have ed : row.drop i = x :: row.drop (i + 1) := by
      obtain ⟨hi, e⟩ := List.getElem?_eq_some_iff.mp ex'
      rw [List.drop_eq_getElem_cons hi, e]
    rw [ed] at hG
    walk_at "rd"
    refine ⟨d, ds, n, _, rfl, sm.seq hD, R.len, hn, fun l H2 s2 hl0 hl => ?_⟩
    walk_at "rd"
    refine ⟨_, .inl (SqL.of hl), rfl, flat_nv _, ?_⟩
    cases hb : inV (.int x) (nv (readyL n ds T)) with
    | false =>
      rw [if_pos rfl]
      refine k false H2 ⟨fun z => (by cases z), fun z => ?_⟩ (sm.trans s2)
      obtain ⟨t, e1, e2⟩ := goesI_head (hG.mp ((isWay_iff R).mp z).1)
      rw [(in_nvI x _).mpr ⟨t, e1, e2⟩] at hb
      cases hb
    | true =>
      obtain ⟨t, rfl, ht⟩ := (in_nvI x _).mp hb
      have htn : t < n := (mem_readyL.mp ht).1
      rw [if_neg (by decide)]
      refine ⟨⟨by omega, by omega, by decide⟩, ?_⟩
      rw [shl1, OM.or_nat]
      exact hN' _ _ ⟨sm.trans s2, _, _, hG.trans (goesI_cons ht), rfl⟩
  · rintro σ' H' ⟨sm, T, v3, hG, rfl⟩
    walk_at "rd"
    refine ⟨_, .inl (sm.seq hR), _, .inl (sm.seq hD), ?_⟩
    rw [nv_len, List.length_map, R.len]
    refine k _ H' ?_ sm
    rw [isWay_iff R, hG, List.length_map, List.drop_length]
    constructor
    · intro z
      exact ⟨⟨[], rfl, trivial⟩, by simpa using z⟩
    · intro z
      simpa using z.2
theorem fn_refuse_no_way (S : Src K mg "refuse_no_way" s_refuse_no_way ["downs", "row"]) (F_is_way : Fn P w K mg base 2 "is_way" ["downs", "row"] (sp_is_wayI K)) : Fn P w K mg base 3 "refuse_no_way" ["downs", "row"] (fun vs H Q E => sp_is_way K vs H (fun _ H' => Q .non H') E) := by
  have sc : FnScope ["downs", "row"] ["downs", "row"] (defScope s_refuse_no_way) := ⟨rfl, rfl, rfl, by decide +kernel, rfl, by decide +kernel, by decide +kernel⟩
  refine S.fn sc (fun vs H Q E h => by obtain ⟨d, r, ds, row, n, rfl, _⟩ := h; rfl) fun f cdv A outer s H vs Q E hr h => ?_
  obtain ⟨d, r, ds, row, n, rfl, hD, hR, R, hn, W, k⟩ := h
  refine ⟨_, (@pss_one _ _ _ (ps_if (pt_not (pt_val (pe_callF F_is_way (hr.mono (by decide)) rfl (pa_cons (pv 0) (pa_cons (pv 1) pa_nil)))))
      (@pss_one _ _ _ ps_never)
      pss_nil)), ?_⟩
  walk_at "rd"
  refine ⟨d, r, ds, row.map (fun x : Nat => (x : Int)), n, rfl, hD, by rw [List.map_map]; exact hR, R, hn, fun b H' hb s' => ?_⟩
  cases hb.mpr ⟨row, rfl, W⟩
  walk_at "rd"
  exact k H' s'
def sp_no_way (K : PySem.W.Frag) (CN : Addr) : Sp := fun vs H _ E => ∃ (d r : Addr) (ds : List Nat) (row : List Int) (n : Nat), vs = [.ref d, .ref r] ∧ SqL K H d (nv ds) ∧ H r = some (.lst (row.map V.int)) ∧ OM.PO n ds ∧ n ≤ 10 ∧ row.length ≤ 190 ∧ (∀ i ∈ row, i.natAbs.log2 < 1920) ∧ ¬ IsWay n ds row ∧ ∀ H', Same H H' → E (.ref CN) none H'
theorem fn_refuse_no_wayX {A_NoWay : Addr} (S : Src K mg "refuse_no_way" s_refuse_no_way ["downs", "row"]) (M_NoWay : mg "NoWay" = some (.ref A_NoWay)) (XC_NoWay : XCls K A_NoWay) (F_is_way : Fn P w K mg base 2 "is_way" ["downs", "row"] (sp_is_wayI K)) : FnX P w K mg base 3 "refuse_no_way" ["downs", "row"] (sp_no_way K A_NoWay) := by
  have sc : FnScope ["downs", "row"] ["downs", "row"] (defScope s_refuse_no_way) := ⟨rfl, rfl, rfl, by decide +kernel, rfl, by decide +kernel, by decide +kernel⟩
  refine S.fnX sc (fun vs H Q E h => by obtain ⟨d, r, ds, row, n, rfl, _⟩ := h; rfl) fun f cdv A outer s H vs Q E hr h => ?_
  obtain ⟨d, r, ds, row, n, rfl, hD, hR, R, hn, hl, hi, W, k⟩ := h
  refine ⟨_, (@pss_one _ _ _ (ps_if (pt_not (pt_val (pe_callF F_is_way (hr.mono (by decide)) rfl (pa_cons (pv 0) (pa_cons (pv 1) pa_nil)))))
      (@pss_one _ _ _ (ps_raise rz_of XC_NoWay rfl M_NoWay (pa_cons (pe_fstr (pj_repr hr (pv 1) (pj_str pj_nil))) pa_nil)))
      pss_nil)), ?_⟩
  walk_at "rd"
  refine ⟨d, r, ds, row, n, rfl, hD, SqL.of hR, R, by omega, fun b H' hb s' => ?_⟩
  cases b with
  | true => exact absurd (hb.mp rfl) W
  | false =>
    walk_at "rd"
    exact ⟨row, s' _ _ hR, hi, hl, fun _ => ⟨by rw [sizeLine_eq]; decide, k H' s'⟩⟩
def sp_large (K : PySem.W.Frag) (CT : Addr) (m : Nat) : Sp := fun vs H _ E => ∃ (d : Addr) (xs : List V) (ys : List V), vs = .ref d :: ys ∧ ys.length = m ∧ SqL K H d xs ∧ 10 < xs.length ∧ xs.length ≤ 200 ∧ E (.ref CT) none H
theorem log_small {n : Nat} (h : n ≤ 200) : ((n : Nat) : Int).natAbs.log2 < 1920 := by
  rw [Int.natAbs_natCast]
  by_cases h0 : n = 0
  · subst h0; decide
  · exact (Nat.log2_lt h0).mpr (Nat.lt_of_le_of_lt h (Nat.lt_of_lt_of_le (show 200 < 2 ^ 8 by decide) (Nat.pow_le_pow_right (by decide) (by decide))))
theorem fn_downsetsX {CT : Addr} {tk : Tok} (B : Blt mg) (S : Src K mg "downsets_of" s_downsets_of ["downs"]) (C_MOST_LAID : mg "MOST_LAID" = some (.int 10 tk)) (F_refuse_more : FnX P w K mg base 1 "refuse_more" ["many", "most"] (sp_refuse_moreX CT)) : FnX P w K mg base 2 "downsets_of" ["downs"] (sp_large K CT 0) := by
  have sc : FnScope ["downs"] ["downs"] (defScope s_downsets_of) := ⟨rfl, rfl, rfl, by decide +kernel, rfl, by decide +kernel, by decide +kernel⟩
  refine S.fnX sc (fun vs H Q E h => by obtain ⟨d, xs, ys, rfl, e, _⟩ := h; cases List.eq_nil_of_length_eq_zero e; rfl) fun f cdv A outer s H vs Q E hr h => ?_
  obtain ⟨d, xs, ys, rfl, e, hD, h1, h2, k⟩ := h
  cases List.eq_nil_of_length_eq_zero e
  refine ⟨_, (@pss_cons _ _ _ _ _ (ps_expr (pe_callX rz_of F_refuse_more (hr.mono (by decide)) rfl (pa_cons (pe_callB (callLen K) rfl B.len PySem.boot_len (pa_cons (pv 0) pa_nil)) (pa_cons (pe_glob (v := .int 10) rfl C_MOST_LAID ⟨_, rfl⟩) pa_nil))))
      pss_never), ?_⟩
  walk_at "rd"
  exact ⟨_, .inl hD, _, _, rfl, log_small h2, by decide, fun z => absurd z (by omega), fun _ => k⟩
theorem fn_behindX {CT : Addr} (S : Src K mg "ways_behind" s_ways_behind ["downs"]) (F_downsets_of : FnX P w K mg base 2 "downsets_of" ["downs"] (sp_large K CT 0)) : FnX P w K mg base 3 "ways_behind" ["downs"] (sp_large K CT 0) := by
  have sc : FnScope ["downs", "downsets", "behind", "placed"] ["downs"] (defScope s_ways_behind) := ⟨rfl, rfl, rfl, by decide +kernel, rfl, by decide +kernel, by decide +kernel⟩
  refine S.fnX sc (fun vs H Q E h => by obtain ⟨d, xs, ys, rfl, e, _⟩ := h; cases List.eq_nil_of_length_eq_zero e; rfl) fun f cdv A outer s H vs Q E hr h => ?_
  obtain ⟨d, xs, ys, rfl, e, hD, h1, h2, k⟩ := h
  cases List.eq_nil_of_length_eq_zero e
  refine ⟨_, (@pss_cons _ _ _ _ _ (ps_set (i := 1) sc.nd rfl (Or.inl rfl) (pe_callX rz_of F_downsets_of (hr.mono (by decide)) rfl (pa_cons (pv 0) pa_nil)))
      pss_never), ?_⟩
  walk_at "rd"
  exact ⟨_, _, _, rfl, rfl, hD, h1, h2, k⟩
theorem fn_ways_inX {CT : Addr} (B : Blt mg) (S : Src K mg "ways_in" s_ways_in ["downs"]) (F_ways_behind : FnX P w K mg base 3 "ways_behind" ["downs"] (sp_large K CT 0)) : FnX P w K mg base 4 "ways_in" ["downs"] (sp_large K CT 0) := by
  have sc : FnScope ["downs"] ["downs"] (defScope s_ways_in) := ⟨rfl, rfl, rfl, by decide +kernel, rfl, by decide +kernel, by decide +kernel⟩
  refine S.fnX sc (fun vs H Q E h => by obtain ⟨d, xs, ys, rfl, e, _⟩ := h; cases List.eq_nil_of_length_eq_zero e; rfl) fun f cdv A outer s H vs Q E hr h => ?_
  have hu := hu60 hr
  obtain ⟨d, xs, ys, rfl, e, hD, h1, h2, k⟩ := h
  cases List.eq_nil_of_length_eq_zero e
  refine ⟨_, (@pss_one _ _ _ (ps_ret (pe_dget (huD hu) (pe_callX rz_of F_ways_behind (hr.mono (by decide)) rfl (pa_cons (pv 0) pa_nil)) pe_int (fun _ _ => rfl)))), ?_⟩
  walk_at "rd"
  exact ⟨_, _, _, rfl, rfl, hD, h1, h2, k⟩
theorem fn_way_atX {CT : Addr} (S : Src K mg "way_at" s_way_at ["downs", "number"]) (F_ways_behind : FnX P w K mg base 3 "ways_behind" ["downs"] (sp_large K CT 0)) : FnX P w K mg base 4 "way_at" ["downs", "number"] (sp_large K CT 1) := by
  have sc : FnScope ["downs", "number", "behind", "many", "row", "placed", "beyond", "ready", "thing"] ["downs", "number"] (defScope s_way_at) := ⟨rfl, rfl, rfl, by decide +kernel, rfl, by decide +kernel, by decide +kernel⟩
  refine S.fnX sc (fun vs H Q E h => by obtain ⟨d, xs, ys, rfl, e, _⟩ := h; match ys, e with | [y], _ => rfl) fun f cdv A outer s H vs Q E hr h => ?_
  obtain ⟨d, xs, ys, rfl, e, hD, h1, h2, k⟩ := h
  match ys, e with
  | [y], _ =>
  refine ⟨_, (@pss_cons _ _ _ _ _ (ps_set (i := 2) sc.nd rfl (Or.inl rfl) (pe_callX rz_of F_ways_behind (hr.mono (by decide)) rfl (pa_cons (pv 0) pa_nil)))
      pss_never), ?_⟩
  walk_at "rd"
  exact ⟨_, _, _, rfl, rfl, hD, h1, h2, k⟩
theorem fn_number_ofX {CT CN : Addr} (S : Src K mg "number_of" s_number_of ["downs", "row"]) (F_ways_behind : FnX P w K mg base 4 "ways_behind" ["downs"] (fun vs H Q E => sp_behind K vs H Q E ∨ sp_large K CT 0 vs H Q E)) (F_refuse_no_way : FnX P w K mg base 3 "refuse_no_way" ["downs", "row"] (sp_no_way K CN)) :
    FnX P w K mg base 5 "number_of" ["downs", "row"] (fun vs H Q E => sp_no_way K CN vs H Q E ∨ sp_large K CT 1 vs H Q E) := by
  have sc : FnScope ["downs", "row", "behind", "number", "placed", "thing", "lesser"] ["downs", "row"] (defScope s_number_of) := ⟨rfl, rfl, rfl, by decide +kernel, rfl, by decide +kernel, by decide +kernel⟩
  refine S.fnX sc (fun vs H Q E h => ?_) fun f cdv A outer s H vs Q E hr h => ?_
  · rcases h with ⟨d, r, ds, row, n, rfl, _⟩ | ⟨d, xs, ys, rfl, e, _⟩
    · rfl
    · match ys, e with | [y], _ => rfl
  rcases h with ⟨d, r, ds, row, n, rfl, hD, hR, R, hn, hl, hi, W, k⟩ | ⟨d, xs, ys, rfl, e, hD, h1, h2, k⟩
  · refine ⟨_, (@pss_cons _ _ _ _ _ (ps_set (i := 2) sc.nd rfl (Or.inr rfl) (pe_callX rz_of F_ways_behind (hr.mono (by decide)) rfl (pa_cons (pv 0) pa_nil)))
      (@pss_cons _ _ _ _ _ (ps_expr (pe_callX rz_of F_refuse_no_way (hr.mono (by decide)) rfl (pa_cons (pv 0) (pa_cons (pv 1) pa_nil))))
      pss_never)), ?_⟩
    walk_at "rd"
    refine .inl ⟨d, ds, n, rfl, hD, R, hn, fun kv l H1 hkv s1 hl0 hl1 => ?_⟩
    walk_at "rd"
    exact ⟨d, r, ds, row, n, rfl, s1.seq hD, s1 _ _ hR, R, hn, hl, hi, W, fun H' s' => k H' (s1.trans s')⟩
  · match ys, e with
    | [y], _ =>
    refine ⟨_, (@pss_cons _ _ _ _ _ (ps_set (i := 2) sc.nd rfl (Or.inr rfl) (pe_callX rz_of F_ways_behind (hr.mono (by decide)) rfl (pa_cons (pv 0) pa_nil)))
      pss_never), ?_⟩
    walk_at "rd"
    exact .inr ⟨_, _, _, rfl, rfl, hD, h1, h2, k⟩
def sp_no_ways (K : PySem.W.Frag) (CN : Addr) : Sp := fun vs H _ E => ∃ (d r q : Addr) (ds : List Nat) (row other : List Int) (n : Nat), vs = [.ref d, .ref r, .ref q] ∧ SqL K H d (nv ds) ∧ H r = some (.lst (row.map V.int)) ∧ H q = some (.lst (other.map V.int)) ∧ OM.PO n ds ∧ n ≤ 10 ∧ row.length ≤ 190 ∧ other.length ≤ 190 ∧ (∀ i ∈ row, i.natAbs.log2 < 1920) ∧ (∀ i ∈ other, i.natAbs.log2 < 1920) ∧ (¬ IsWay n ds row ∨ ¬ IsWay n ds other) ∧ ∀ H', Same H H' → E (.ref CN) none H'
theorem fn_steps_betweenX {CT CN : Addr} {tk : Tok} (B : Blt mg) (S : Src K mg "steps_between" s_steps_between ["downs", "one", "other"]) (C_MOST_LAID : mg "MOST_LAID" = some (.int 10 tk)) (F_refuse_more : FnX P w K mg base 1 "refuse_more" ["many", "most"] (sp_refuse_moreX CT)) (F_refuse_no_way : FnX P w K mg base 3 "refuse_no_way" ["downs", "row"] (fun vs H Q E => sp_is_way K vs H (fun _ H' => Q .non H') E ∨ sp_no_way K CN vs H Q E)) :
    FnX P w K mg base 4 "steps_between" ["downs", "one", "other"] (fun vs H Q E => sp_no_ways K CN vs H Q E ∨ sp_large K CT 2 vs H Q E) := by
  have sc : FnScope ["downs", "one", "other", "steps"] ["downs", "one", "other"] (defScope s_steps_between) := ⟨rfl, rfl, rfl, by decide +kernel, rfl, by decide +kernel, by decide +kernel⟩
  refine S.fnX sc (fun vs H Q E h => ?_) fun f cdv A outer s H vs Q E hr h => ?_
  · rcases h with ⟨d, r, q, ds, row, other, n, rfl, _⟩ | ⟨d, xs, ys, rfl, e, _⟩
    · rfl
    · match ys, e with | [y, z], _ => rfl
  rcases h with ⟨d, r, q, ds, row, other, n, rfl, hD, hR, hO, R, hn, hl, ho, hi, hj, W, k⟩ | ⟨d, xs, ys, rfl, e, hD, h1, h2, k⟩
  · refine ⟨_, (@pss_cons _ _ _ _ _ (ps_expr (pe_callX rz_of F_refuse_more (hr.mono (by decide)) rfl (pa_cons (pe_callB (callLen K) rfl B.len PySem.boot_len (pa_cons (pv 0) pa_nil)) (pa_cons (pe_glob (v := .int 10) rfl C_MOST_LAID ⟨_, rfl⟩) pa_nil))))
      (@pss_cons _ _ _ _ _ (ps_expr (pe_callX rz_of F_refuse_no_way (hr.mono (by decide)) rfl (pa_cons (pv 0) (pa_cons (pv 1) pa_nil))))
      (@pss_cons _ _ _ _ _ (ps_expr (pe_callX rz_of F_refuse_no_way (hr.mono (by decide)) rfl (pa_cons (pv 0) (pa_cons (pv 2) pa_nil))))
      pss_never))), ?_⟩
    have hdl := R.len
    walk_at "rd"
    refine ⟨_, .inl hD, ?_⟩
    rw [nv_len, hdl]
    refine ⟨_, _, rfl, log_small (by omega), by decide, fun _ => ?_, fun z => absurd z (by omega)⟩
    walk_at "rd"
    by_cases w1 : IsWay n ds row
    · obtain ⟨rN, e, W1⟩ := w1
      have e' : row.map V.int = nv rN := by rw [e, List.map_map]; rfl
      refine .inl ⟨d, r, ds, rN, n, rfl, hD, SqL.of (by rw [← e']; exact hR), R, by omega, W1, fun H1 s1 => ?_⟩
      walk_at "rd"
      exact .inr ⟨d, q, ds, other, n, rfl, s1.seq hD, s1 _ _ hO, R, hn, ho, hj, W.resolve_left fun z => z ⟨rN, e, W1⟩, fun H' s' => k H' (s1.trans s')⟩
    · exact .inr ⟨d, r, ds, row, n, rfl, hD, hR, R, hn, hl, hi, w1, k⟩
  · match ys, e with
    | [y, z], _ =>
    refine ⟨_, (@pss_cons _ _ _ _ _ (ps_expr (pe_callX rz_of F_refuse_more (hr.mono (by decide)) rfl (pa_cons (pe_callB (callLen K) rfl B.len PySem.boot_len (pa_cons (pv 0) pa_nil)) (pa_cons (pe_glob (v := .int 10) rfl C_MOST_LAID ⟨_, rfl⟩) pa_nil))))
      pss_never), ?_⟩
    walk_at "rd"
    exact ⟨_, .inl hD, _, _, rfl, log_small h2, by decide, fun z => absurd z (by omega), fun _ => k⟩
def sp_strangerX (CN : Addr) : Sp := fun vs H Q E => ∃ i n : Int, vs = [.int i, .int n] ∧ i.natAbs.log2 < 1920 ∧ n.natAbs.log2 < 1920 ∧ (0 ≤ i ∧ i < n → Q .non H) ∧ (¬ (0 ≤ i ∧ i < n) → E (.ref CN) none H)
theorem fn_strangerX {A_NoThing : Addr} (S : Src K mg "refuse_stranger" s_refuse_stranger ["thing", "many"]) (M_NoThing : mg "NoThing" = some (.ref A_NoThing)) (XC_NoThing : XCls K A_NoThing) : FnX P w K mg base 1 "refuse_stranger" ["thing", "many"] (sp_strangerX A_NoThing) := by
  have sc : FnScope ["thing", "many"] ["thing", "many"] (defScope s_refuse_stranger) := ⟨rfl, rfl, rfl, by decide +kernel, rfl, by decide +kernel, by decide +kernel⟩
  refine S.fnX sc (fun vs H Q E h => by obtain ⟨i, n, rfl, _⟩ := h; rfl) fun f cdv A outer s H vs Q E hr h => ?_
  obtain ⟨i, n, rfl, hi, hn, k1, k2⟩ := h
  refine ⟨_, (@pss_one _ _ _ (ps_if (PW.pt (pw_or (pt_cmpR op_lt (pv 0) pe_int (nomark _)) (pw_or1 (pt_cmpR op_ge (pv 0) (pv 1) (nomark _)))))
      (@pss_one _ _ _ (ps_raise rz_of XC_NoThing rfl M_NoThing (pa_cons (pe_fstr (pj_int (pv 0) (pj_str (pj_int (pv 1) (pj_str pj_nil))))) pa_nil)))
      pss_nil)), ?_⟩
  walk_at "rd"
  by_cases c1 : i < 0
  · rw [if_pos c1]
    exact ⟨hi, hn, fun _ => ⟨by rw [sizeLine_eq]; decide, k2 (by omega)⟩⟩
  rw [if_neg c1]
  by_cases c2 : n ≤ i
  · rw [if_pos c2]
    exact ⟨hi, hn, fun _ => ⟨by rw [sizeLine_eq]; decide, k2 (by omega)⟩⟩
  · rw [if_neg c2]
    exact k1 (by omega)
def sp_strange (K : PySem.W.Frag) (CN : Addr) : Sp := fun vs H _ E => ∃ (d : Addr) (xs : List V) (i j : Int), vs = [.ref d, .int i, .int j] ∧ SqL K H d xs ∧ xs.length ≤ 10 ∧ i.natAbs.log2 < 1920 ∧ j.natAbs.log2 < 1920 ∧ ¬ ((0 ≤ i ∧ i < (xs.length : Nat)) ∧ 0 ≤ j ∧ j < (xs.length : Nat)) ∧ E (.ref CN) none H
theorem fn_ways_aheadX {CT CN : Addr} {tk : Tok} (B : Blt mg) (S : Src K mg "ways_ahead" s_ways_ahead ["downs", "one", "other"]) (C_MOST_LAID : mg "MOST_LAID" = some (.int 10 tk)) (F_refuse_more : FnX P w K mg base 1 "refuse_more" ["many", "most"] (sp_refuse_moreX CT)) (F_refuse_stranger : FnX P w K mg base 1 "refuse_stranger" ["thing", "many"] (sp_strangerX CN)) :
    FnX P w K mg base 2 "ways_ahead" ["downs", "one", "other"] (fun vs H Q E => sp_strange K CN vs H Q E ∨ sp_large K CT 2 vs H Q E) := by
  have sc : FnScope ["downs", "one", "other"] ["downs", "one", "other"] (defScope s_ways_ahead) := ⟨rfl, rfl, rfl, by decide +kernel, rfl, by decide +kernel, by decide +kernel⟩
  refine S.fnX sc (fun vs H Q E h => ?_) fun f cdv A outer s H vs Q E hr h => ?_
  · rcases h with ⟨d, xs, i, j, rfl, _⟩ | ⟨d, xs, ys, rfl, e, _⟩
    · rfl
    · match ys, e with | [y, z], _ => rfl
  rcases h with ⟨d, xs, i, j, rfl, hD, hx, hi, hj, hs, k⟩ | ⟨d, xs, ys, rfl, e, hD, h1, h2, k⟩
  · refine ⟨_, (@pss_cons _ _ _ _ _ (ps_expr (pe_callX rz_of F_refuse_more (hr.mono (by decide)) rfl (pa_cons (pe_callB (callLen K) rfl B.len PySem.boot_len (pa_cons (pv 0) pa_nil)) (pa_cons (pe_glob (v := .int 10) rfl C_MOST_LAID ⟨_, rfl⟩) pa_nil))))
      (@pss_cons _ _ _ _ _ (ps_expr (pe_callX rz_of F_refuse_stranger (hr.mono (by decide)) rfl (pa_cons (pv 1) (pa_cons (pe_callB (callLen K) rfl B.len PySem.boot_len (pa_cons (pv 0) pa_nil)) pa_nil))))
      (@pss_cons _ _ _ _ _ (ps_expr (pe_callX rz_of F_refuse_stranger (hr.mono (by decide)) rfl (pa_cons (pv 2) (pa_cons (pe_callB (callLen K) rfl B.len PySem.boot_len (pa_cons (pv 0) pa_nil)) pa_nil))))
      pss_never))), ?_⟩
    walk_at "rd"
    refine ⟨_, .inl hD, _, _, rfl, log_small (by omega), by decide, fun _ => ?_, fun z => absurd z (by omega)⟩
    walk_at "rd"
    refine ⟨_, .inl hD, _, _, rfl, hi, log_small (by omega), fun a => ?_, fun _ => k⟩
    walk_at "rd"
    exact ⟨_, .inl hD, _, _, rfl, hj, log_small (by omega), fun b => absurd ⟨a, b⟩ hs, fun _ => k⟩
  · match ys, e with
    | [y, z], _ =>
    refine ⟨_, (@pss_cons _ _ _ _ _ (ps_expr (pe_callX rz_of F_refuse_more (hr.mono (by decide)) rfl (pa_cons (pe_callB (callLen K) rfl B.len PySem.boot_len (pa_cons (pv 0) pa_nil)) (pa_cons (pe_glob (v := .int 10) rfl C_MOST_LAID ⟨_, rfl⟩) pa_nil))))
      pss_never), ?_⟩
    walk_at "rd"
    exact ⟨_, .inl hD, _, _, rfl, log_small h2, by decide, fun z => absurd z (by omega), fun _ => k⟩
def sp_number27 (K : PySem.W.Frag) : Sp := fun vs H Q _ => ∃ (d r : Addr) (ds row : List Nat) (n : Nat), vs = [.ref d, .ref r] ∧ SqL K H d (nv ds) ∧ SqL K H r (nv row) ∧ OM.PO n ds ∧ n ≤ 10 ∧ OM.Way n ds row ∧ ∀ (i : Int) H', Same H H' → Q (.int i) H'
theorem fn_number27 (B : Blt mg) (Z_sum : mg "sum" = none) (S : Src K mg "number_of" s_number_of ["downs", "row"]) (F_ways_behind : Fn P w K mg base 4 "ways_behind" ["downs"] (sp_behind K)) (F_refuse_no_way : Fn P w K mg base 3 "refuse_no_way" ["downs", "row"] (fun vs H Q E => sp_is_way K vs H (fun _ H' => Q .non H') E)) (F_ready_behind : Fn P w K mg base 1 "ready_behind" ["downs", "placed"] (sp_ready K)) : Fn P w K mg base 5 "number_of" ["downs", "row"] (sp_number27 K) := by
  have sc : FnScope ["downs", "row", "behind", "number", "placed", "thing", "lesser"] ["downs", "row"] (defScope s_number_of) := ⟨rfl, rfl, rfl, by decide +kernel, rfl, by decide +kernel, by decide +kernel⟩
  refine S.fn sc (fun vs H Q E h => by obtain ⟨d, r, ds, row, n, rfl, _⟩ := h; rfl) fun f cdv A outer s H vs Q E hr h => ?_
  have hu := hu60 hr
  obtain ⟨d, r, ds, row, n, rfl, hD, hR, R, hn, W, k⟩ := h
  refine ⟨_, (@pss_cons _ _ _ _ _ (ps_set (i := 2) sc.nd rfl (Or.inr rfl) (pe_callF F_ways_behind (hr.mono (by decide)) rfl (pa_cons (pv 0) pa_nil)))
      (@pss_cons _ _ _ _ _ (ps_expr (pe_callF F_refuse_no_way (hr.mono (by decide)) rfl (pa_cons (pv 0) (pa_cons (pv 1) pa_nil))))
      (@pss_cons _ _ _ _ _ (ps_set (i := 3) sc.nd rfl (Or.inl rfl) pe_int)
      (@pss_cons _ _ _ _ _ (ps_set (i := 4) sc.nd rfl (Or.inr rfl) pe_int)
      (@pss_cons _ _ _ _ _ (ps_for PassesOwn.never rfl (piL K (pv 1)) (pg_name (i := 5) sc.nd rfl (Or.inr rfl))
      (@pss_cons _ _ _ _ _ (ps_setC (i := 6) sc.nd rfl (Or.inl rfl) (compOk (M := ["other", "thing"]) (nt := 1) (cap := [5]) (defScope s_number_of) ["downs", "row", "behind", "number", "placed", "thing", "lesser"] rfl rfl rfl (by decide +kernel) (by decide +kernel) (by decide +kernel) (fun j hj => match j, hj with | 0, _ => ⟨_, _, rfl, rfl, rfl, rfl⟩) rfl) rfl (piL K (pe_callF F_ready_behind (hr.mono (by decide)) rfl (pa_cons (pv 0) (pa_cons (pv 4) pa_nil)))) (fun cl C fp s' H' => (pg_name (i := 0) (show (["other", "thing"] : List Str).Nodup by decide +kernel) rfl (Or.inl rfl))) (fun cl C fp s' H' => (pts_one (pt_cmpR op_lt (pv 0) (pv 1) (nomark _)))) (fun cl C fp s' H' => (pv 0)))
      (@pss_cons _ _ _ _ _ (ps_aug (i := 3) sc.nd rfl (Or.inl rfl) (pe_callB (callSum K rfl) rfl Z_sum PyProof.Rows.boot_sum (pa_cons (pe_comp (compOk (M := ["other", "behind", "placed"]) (nt := 1) (cap := [2, 4]) (defScope s_number_of) ["downs", "row", "behind", "number", "placed", "thing", "lesser"] rfl rfl rfl (by decide +kernel) (by decide +kernel) (by decide +kernel) (fun j hj => match j, hj with | 0, _ => ⟨_, _, rfl, rfl, rfl, rfl⟩ | 1, _ => ⟨_, _, rfl, rfl, rfl, rfl⟩) rfl) rfl (piL K (pv 6)) (fun cl C fp s' H' => (pg_name (i := 0) (show (["other", "behind", "placed"] : List Str).Nodup by decide +kernel) rfl (Or.inl rfl))) (fun cl C fp s' H' => pts_nil) (fun cl C fp s' H' => (pe_dget (huD hu) (pv 1) (pe_op op_or (pv 2) (pe_op op_shl pe_int (pv 0))) (fun _ _ => rfl)))) pa_nil)) ip_add)
      (@pss_one _ _ _ (ps_aug (i := 4) sc.nd rfl (Or.inr rfl) (pe_op op_shl pe_int (pv 5)) ip_or)))))
      (@pss_one _ _ _ (ps_ret (pv 3)))))))), ?_⟩
  refine cut2 (fun σ' H1 => ∃ l kv, Same H H1 ∧ H1 l = some (.dK (dv kv)) ∧ (∀ {Y : Hp}, Y l = some (.dK (dv kv)) → ∀ T, OM.DownS n ds T → DGet Y l (.int (T : Nat)) (some (.int (OM.behindN n (readyL n ds) T : Nat)))) ∧ σ' = [some (.ref d), some (.ref r), some (.ref l), none, none, none, none]) (fun N hN => ?_) ?_
  · walk_at "rd"
    refine ⟨d, ds, n, rfl, hD, R, hn, fun kv l H1 hkv s1 hl0 hl => ?_⟩
    walk_at "rd"
    refine ⟨d, r, ds, row, n, rfl, s1.seq hD, s1.seq hR, R, by omega, W, fun H2 s2 => ?_⟩
    walk_at "rd"
    refine hN _ _ ⟨l, kv, s1.trans s2, s2 _ _ hl, fun {Y} hY T hT => ?_, rfl⟩
    have hg := DGet.k (k := Sum.inl ((T : Nat) : Int)) hY
    rw [dv_val, if_pos (hkv _ hT).1, (hkv _ hT).2] at hg
    exact hg
  rintro σ' H1 ⟨l, kv, s1, hl, hget2, rfl⟩
  walk_at "rd"
  refine ⟨⟨_, s1.seq hR⟩, ?_⟩
  refine fg_listR (xs := nv row) (fun j σ' H' => Same H1 H' ∧ ∃ (num : Int) (v5 v6 : Option V), OM.DownS n ds (OM.bits (row.take j)) ∧ σ' = [some (.ref d), some (.ref r), some (.ref l), some (.int num), some (.int (OM.bits (row.take j) : Nat)), v5, v6]) ⟨.refl _, 0, none, none, down_zero, rfl⟩ (fun i σ' H' _ ⟨sm, _⟩ => (s1.trans sm).seq hR) ?_ ?_
  · rintro j x σ' H' ex ⟨sm, num, v5, v6, hdn, rfl⟩ N' R' hN'
    obtain ⟨t, et, rfl⟩ := nv_some ex
    have hrdy := way_ready R W et
    have ebits : OM.bits (row.take (j + 1)) = OM.bits (row.take j) ||| 1 <<< t := by rw [List.take_add_one, et, Option.toList_some, OM.bits_snoc]
    have hN' : ∀ (num : Int) (v5 v6 : Option V) H', Same H1 H' → OM.DownS n ds (OM.bits (row.take j) ||| 1 <<< t) → N' [some (.ref d), some (.ref r), some (.ref l), some (.int num), some (.int (OM.bits (row.take j) ||| 1 <<< t : Nat)), v5, v6] H' := fun num v5 v6 H' a b => hN' _ _ ⟨a, num, v5, v6, by rw [ebits]; exact b, by rw [ebits]⟩
    have hdn' := (readyL_rd.step hdn hrdy).1
    generalize OM.bits (row.take j) = T at hdn hrdy hdn' hN' ⊢
    have htn : t < n := (mem_readyL.mp hrdy).1
    have hrl : (readyL n ds T).length ≤ n := Nat.le_trans (List.length_filter_le _ _) (by rw [List.length_range]; exact Nat.le_refl _)
    clear ebits et ex
    have L : ∀ {Y : Hp}, Same H1 Y → ∀ u ∈ readyL n ds T, DGet Y l (.int ((T ||| 1 <<< u : Nat) : Int)) (some (.int (OM.behindN n (readyL n ds) (T ||| 1 <<< u) : Nat))) := fun {Y} sY u hum => by
      exact hget2 (sY _ _ hl) _ (readyL_rd.step hdn hum).1
    rw [ap_gname]
    refine cut1 (fun σ2 H2 => ∃ (y : Addr) (sub : List Nat), Same H' H2 ∧ H2 y = some (.lst (nv sub)) ∧ (∀ u ∈ sub, u ∈ readyL n ds T) ∧ sub.length ≤ 10 ∧ σ2 = [some (.ref d), some (.ref r), some (.ref l), some (.int num), some (.int (T : Nat)), some (.int (t : Nat)), some (.ref y)]) (fun N2 hN2 => ?_) ?_
    · walk_at "rd"
      refine ⟨d, ds, n, _, rfl, (s1.trans sm).seq hD, R.len, by omega, fun r2 H3 s3 hr20 hr2 => ?_⟩
      walk_at "rd"
      refine ⟨⟨_, SqL.of hr2⟩, fun y1 hy1 => ?_⟩
      refine cg_by (H₀ := H3) (jw_list (SqL.of hr2)) (fun m acc _ => acc = nv (((readyL n ds T).take m).filter fun x => decide (x < t))) (by rw [nv_len]; exact Nat.le_of_lt (small1000 (by omega))) (fun _ _ _ _ _ h => h) hy1 rfl ?_ ?_
      · intro m m2 x acc pre H4 rx hpre ct
        obtain ⟨u, eu, rfl⟩ := nv_some rx
        match pre, hpre with
        | [p0], _ =>
        walk_at "rd"
        have hacc := ct.hp
        by_cases hut : u < t
        · rw [if_pos (by omega)]
          refine ct.yes (Same.refl _) ?_ (pre := [_]) rfl rfl
          rw [hacc, List.take_add_one, eu, Option.toList_some, List.filter_append, List.filter_cons, decide_eq_true hut]
          exact nv_app ..
        · rw [if_neg (by omega)]
          refine ct.no (Same.refl _) ?_ (pre := [_]) rfl rfl
          rw [hacc, List.take_add_one, eu, Option.toList_some, List.filter_append, List.filter_cons, decide_eq_false hut]
          simp
      · intro acc H4 s4 hy14 e
        rw [nv_len, List.take_length] at e
        subst e
        exact hN2 _ _ ⟨y1, _, s3.trans s4, hy14, fun u hu => (List.mem_filter.mp hu).1, Nat.le_trans (List.length_filter_le _ _) (by omega), rfl⟩
    rintro σ2 H2 ⟨y, sub, s2, hy, hsub, hsl, rfl⟩
    refine cut1 (fun σ3 H3 => ∃ num : Int, Same H' H3 ∧ σ3 = [some (.ref d), some (.ref r), some (.ref l), some (.int num), some (.int (T : Nat)), some (.int (t : Nat)), some (.ref y)]) (fun N2 hN2 => ?_) ?_
    · walk_at "rd"
      refine ⟨⟨_, SqL.of hy⟩, fun y2 hy2 => ?_⟩
      refine cg_by (H₀ := H2) (jw_list (SqL.of hy)) (fun m acc _ => ∃ ms : List Int, acc = ms.map V.int) (by rw [nv_len]; exact Nat.le_of_lt (small1000 (by omega))) (fun _ _ _ _ _ h => h) hy2 ⟨[], rfl⟩ ?_ ?_
      · intro m m2 x acc pre H5 rx hpre ct
        obtain ⟨u, eu, rfl⟩ := nv_some rx
        have hum := hsub u (List.mem_of_getElem? eu)
        have hun : u < n := (mem_readyL.mp hum).1
        match pre, hpre with
        | [p0], _ =>
        walk_at "rd"
        obtain ⟨ms, hacc⟩ := ct.hp
        refine ⟨⟨by omega, by omega, by decide⟩, ?_⟩
        rw [shl1, OM.or_nat]
        refine ⟨_, L (sm.trans (s2.trans ct.sm)) u hum, ct.yes (Same.refl _) ?_ (pre := [_]) rfl rfl⟩
        exact ⟨ms ++ [_], by rw [hacc, List.map_append]; rfl⟩
      · intro acc H5 s5 hy25 ⟨ms, e⟩
        subst e
        exact ⟨y2, rfl, ms, SqL.of hy25, _, _, rfl, rfl, hN2 _ _ ⟨_, s2.trans s5, rfl⟩⟩
    rintro σ3 H3 ⟨num, s3, rfl⟩
    walk_at "rd"
    refine ⟨⟨by omega, by omega, by decide⟩, ?_⟩
    rw [shl1, OM.or_nat]
    exact hN' _ _ _ _ (sm.trans s3) hdn'
  · rintro σ' H' ⟨sm, num, v5, v6, hdn, rfl⟩
    walk_at "rd"
    exact k num H' (s1.trans sm)
def NextRow (other row row' : List Nat) : Prop := ∃ p a b : Nat, row[p]? = some a ∧ row[p + 1]? = some b ∧ OM.posOf b other < OM.posOf a other ∧ (∀ q, q < p → ¬ OM.Desc other row q) ∧ row' = OM.swapAt row p a b
def sp_one_step (K : PySem.W.Frag) : Sp := fun vs H Q _ => ∃ (r o : Addr) (row other : List Nat), vs = [.ref r, .ref o] ∧ H r = some (.lst (nv row)) ∧ H o = some (.lst (nv other)) ∧ row.Perm other ∧ other.Nodup ∧ row ≠ other ∧ row.length ≤ 128 ∧ ∀ row' l H', NextRow other row row' → Same H H' → H l = none → H' l = some (.lst (nv row')) → Q (.ref l) H'
theorem index_ok {other : List Nat} {x : Nat} (h : x ∈ other) : (other.map fun j : Nat => (j : Int))[OM.posOf x other]? = some (x : Int) ∧ ∀ m, m < OM.posOf x other → (other.map fun j : Nat => (j : Int))[m]? ≠ some (x : Int) := by
  refine ⟨by rw [List.getElem?_map, OM.posOf_get h]; rfl, fun m hm e => ?_⟩
  rw [List.getElem?_map] at e
  cases e2 : other[m]? with
  | none => rw [e2] at e; cases e
  | some y =>
    rw [e2] at e
    have : y = x := by
      have e : ((y : Nat) : Int) = (x : Int) := by simpa using e
      omega
    subst this
    exact OM.posOf_first hm e2
theorem cutV_drop {xs : List V} (k : Nat) : cutV xs (some (k : Int)) none = xs.drop k := by
  unfold cutV
  rw [HT.sIx_none, HT.sIx_nat]
  by_cases h : k ≤ xs.length
  · rw [Nat.min_eq_left h, List.take_of_length_le (by rw [List.length_drop]; exact Nat.le_refl _)]
  · rw [Nat.min_eq_right (by omega), List.drop_of_length_le (by omega), List.drop_of_length_le (by omega), List.take_nil]
theorem cat_q {A B : TE} {σ : St} {H : Hp} {xs ys : List V} (hA : ∀ Q : VK, (∀ p H1, Same H H1 → H p = none → H1 p = some (.lst xs) → Q (.ref p) H1) → A σ H Q) (hB : ∀ H1, Same H H1 → ∀ Q : VK, (∀ p H2, Same H1 H2 → H1 p = none → H2 p = some (.lst ys) → Q (.ref p) H2) → B σ H1 Q) (hz : xs.length + ys.length ≤ sizeLine) (Q : VK) (g : ∀ p H3, Same H H3 → H p = none → H3 p = some (.lst (xs ++ ys)) → Q (.ref p) H3) : (tOp (rOr (rI0 fun i j => V.int (i + j)) rCat) A B) σ H Q := by
  rw [ap_op]
  refine hA _ fun p1 H1 s1 h1 e1 => hB H1 s1 _ fun p2 H2 s2 h2 e2 => .inr ?_
  exact ⟨p1, p2, xs, ys, rfl, rfl, s2 _ _ e1, e2, hz, fun p3 hp3 => g p3 _ ((s1.trans s2).trans (Same.upd hp3)) ((s1.trans s2).free hp3) upd_same⟩
theorem fn_one_step (S : Src K mg "one_step" s_one_step ["row", "other"]) : Fn P w K mg base 1 "one_step" ["row", "other"] (sp_one_step K) := by
  have sc : FnScope ["row", "other", "place"] ["row", "other"] (defScope s_one_step) := ⟨rfl, rfl, rfl, by decide +kernel, rfl, by decide +kernel, by decide +kernel⟩
  refine S.fn sc (fun vs H Q E h => by obtain ⟨r, o, row, other, rfl, _⟩ := h; rfl) fun f cdv A outer s H vs Q E hr h => ?_
  have hu := hu60 hr
  obtain ⟨r, o, row, other, rfl, hR, hO, hp, hnd, hne, hz, k⟩ := h
  obtain ⟨p0, hp0⟩ := (OM.same_or_desc hp hnd).resolve_left hne
  have hlo : other.length = row.length := hp.length_eq.symm
  have hO2 : H o = some (.lst ((other.map fun j : Nat => (j : Int)).map V.int)) := by rw [← nv_ints]; exact hO
  have hmem : ∀ x, x ∈ row → x ∈ other := fun x h => hp.mem_iff.mp h
  refine ⟨_, (@pss_cons _ _ _ _ _ (ps_set (i := 2) sc.nd rfl (Or.inl rfl) pe_int)
      (@pss_cons _ _ _ _ _ (ps_while PassesOwn.never (pt_cmpR op_lt (peBm K PySem.F.plainAttrs_list PySem.F.slot_list_index PySem.F.type_list_index mt_index (pv 1) (pa_cons (pe_ix (ixL K) (pv 0) (pv 2) (fun _ _ => rfl)) pa_nil)) (peBm K PySem.F.plainAttrs_list PySem.F.slot_list_index PySem.F.type_list_index mt_index (pv 1) (pa_cons (pe_ix (ixL K) (pv 0) (pe_op op_addA (pv 2) pe_int) (fun _ _ => rfl)) pa_nil)) (nomark _))
      (@pss_one _ _ _ (ps_aug (i := 2) sc.nd rfl (Or.inl rfl) pe_int ip_add)))
      (@pss_one _ _ _ (ps_ret (pe_op op_addA (pe_op op_addA (pe_slice (slL K) (pv 0) po_none (po_some (pv 2))) (pe_lst (pa_cons (pe_ix (ixL K) (pv 0) (pe_op op_addA (pv 2) pe_int) (fun _ _ => rfl)) (pa_cons (pe_ix (ixL K) (pv 0) (pv 2) (fun _ _ => rfl)) pa_nil)))) (pe_slice (slL K) (pv 0) (po_some (pe_op op_addA (pv 2) pe_int)) po_none)))))), ?_⟩
  walk_at "rd"
  refine wh_ix (fun z σ' H' => ∃ p, p ≤ p0 ∧ z = p0 - p ∧ H' = H ∧ (∀ q, q < p → ¬ OM.Desc other row q) ∧ σ' = [some (.ref r), some (.ref o), some (.int (p : Nat))]) p0 ⟨0, Nat.zero_le _, rfl, rfl, fun q h => by omega, rfl⟩ ?_
  rintro z σ' H' ⟨p, hpp, rfl, rfl, hq, rfl⟩
  obtain ⟨a0, b0, ha0, hb0, _⟩ := id hp0
  have hlen : p0 + 1 < row.length := (List.getElem?_eq_some_iff.mp hb0).1
  obtain ⟨a, ea⟩ : ∃ a, row[p]? = some a := ⟨_, List.getElem?_eq_getElem (by omega)⟩
  obtain ⟨b, eb⟩ : ∃ b, row[p + 1]? = some b := ⟨_, List.getElem?_eq_getElem (by omega)⟩
  have aa : atI (nv row) (p : Int) = some (.int (a : Nat)) := atI_nat (by unfold nv; rw [List.getElem?_map, ea]; rfl)
  have ab : atI (nv row) ((p : Int) + 1) = some (.int (b : Nat)) := by
    rw [show (p : Int) + 1 = ((p + 1 : Nat) : Int) by omega]
    exact atI_nat (by unfold nv; rw [List.getElem?_map, eb]; rfl)
  obtain ⟨ia1, ia2⟩ := index_ok (hmem a (List.mem_of_getElem? ea))
  obtain ⟨ib1, ib2⟩ := index_ok (hmem b (List.mem_of_getElem? eb))
  have hol : (other.map fun j : Nat => (j : Int)).length ≤ sizeLine := by rw [List.length_map]; exact Nat.le_of_lt (small1000 (by omega))
  refine ⟨decide (OM.posOf a other < OM.posOf b other), ?_, ?_, ?_⟩
  · intro Bb hB
    walk_at "rd"
    refine ⟨.inl ⟨_, SqL.of hO⟩, _, SqL.of hR, _, aa, _, _, rfl, hO2, _, ia1, ia2, hol, .inl ⟨_, SqL.of hO⟩, _, SqL.of hR, _, ab, _, _, rfl, hO2, _, ib1, ib2, hol, ?_⟩
    have e2 : decide (((OM.posOf a other : Nat) : Int) < ((OM.posOf b other : Nat) : Int)) = decide (OM.posOf a other < OM.posOf b other) := by rw [decide_eq_decide]; omega
    rw [e2]; exact hB
  · intro hlt N hN
    have hlt := of_decide_eq_true hlt
    walk_at "rd"
    refine ⟨_, _, rfl, rfl, ?_⟩
    have hne0 : p ≠ p0 := fun z => by
      subst z
      obtain ⟨x, y, e1, e2, h3⟩ := hp0
      rw [ea] at e1
      rw [eb] at e2
      cases e1
      cases e2
      omega
    refine hN _ _ (p0 - (p + 1)) (by omega) ⟨p + 1, by omega, rfl, rfl, fun q hq2 hd => ?_, by push_cast; rfl⟩
    by_cases z : q = p
    · subst z
      obtain ⟨x, y, e1, e2, h3⟩ := hd
      rw [ea] at e1
      rw [eb] at e2
      cases e1
      cases e2
      omega
    · exact hq q (by omega) hd
  · intro hlt
    have hlt := of_decide_eq_false hlt
    have hrn : row.Nodup := hp.nodup_iff.mpr hnd
    have hab : a ≠ b := fun z => by
      subst z
      have := OM.nodup_at hrn ea eb
      omega
    have hba : OM.posOf b other < OM.posOf a other := by
      have : OM.posOf a other ≠ OM.posOf b other := fun z => hab (OM.posOf_inj (hmem a (List.mem_of_getElem? ea)) (hmem b (List.mem_of_getElem? eb)) z)
      omega
    dsimp only
    rw [ap_ret]
    refine cat_q (xs := (nv row).take p ++ [.int (b : Nat), .int (a : Nat)]) (ys := (nv row).drop (p + 2)) (cat_q (xs := (nv row).take p) (ys := [.int (b : Nat), .int (a : Nat)]) (fun Q g => ?_) (fun H1 s1 Q g => ?_) ?_) (fun H1 s1 Q g => ?_) ?_ _ fun p5 H5 s15 hp5 e5 => ?_
    · walk_at "rd"
      refine ⟨_, SqL.of hR, fun p1 hp1 => ?_⟩
      rw [cutV_take]
      exact g p1 _ (Same.upd hp1) hp1 upd_same
    · walk_at "rd"
      exact ⟨_, SqL.of (s1 _ _ hR), _, ab, _, SqL.of (s1 _ _ hR), _, aa, by rw [sizeLine_eq]; decide, fun p2 hp2 => g p2 _ (Same.upd hp2) hp2 upd_same⟩
    · rw [List.length_take, nv_len]; exact Nat.le_of_lt (small1000 (by simp; omega))
    · walk_at "rd"
      refine ⟨_, SqL.of (s1 _ _ hR), fun p4 hp4 => ?_⟩
      rw [show ((p : Int) + 2) = ((p + 2 : Nat) : Int) by omega, cutV_drop]
      exact g p4 _ (Same.upd hp4) hp4 upd_same
    · rw [List.length_append, List.length_take, List.length_drop, nv_len]; exact Nat.le_of_lt (small1000 (by simp; omega))
    refine k _ p5 H5 ⟨p, a, b, ea, eb, hba, hq, rfl⟩ s15 hp5 ?_
    rw [e5]
    unfold OM.swapAt nv
    rw [List.map_append, List.map_cons, List.map_cons, List.map_take, List.map_drop, List.append_assoc]
    rfl
structure Steps (other one : List Nat) (rss : List (List Nat)) : Prop where
  hd : rss[0]? = some one
  nx : ∀ (i : Nat) (r r' : List Nat), rss[i]? = some r → rss[i + 1]? = some r' → NextRow other r r'
  last : rss.getLast? = some other
  len : rss.length = 1 + OM.inv (OM.poss other one)
def sp_steps (K : PySem.W.Frag) : Sp := fun vs H Q _ => ∃ (d o1 o2 : Addr) (ds one other : List Nat) (n : Nat), vs = [.ref d, .ref o1, .ref o2] ∧ H d = some (.lst (nv ds)) ∧ H o1 = some (.lst (nv one)) ∧ H o2 = some (.lst (nv other)) ∧ OM.PO n ds ∧ n ≤ 10 ∧ OM.Way n ds one ∧ OM.Way n ds other ∧
  ∀ rss rs l H', Steps other one rss → (∀ r ∈ rss, OM.Way n ds r) → Same H H' → H l = none → (∀ r ∈ rs, H r = none) → l ∉ rs → H' l = some (.lst (rv rs)) → LsA H' rs rss → Q (.ref l) H'
theorem next_way {n : Nat} {ds other row row' : List Nat} (W : OM.Way n ds row) (O : OM.Way n ds other) (h : NextRow other row row') : OM.Way n ds row' ∧ OM.inv (OM.poss other row') + 1 = OM.inv (OM.poss other row) := by
  obtain ⟨p, a, b, ea, eb, hlt, _, rfl⟩ := h
  exact ⟨W.swap O ea eb hlt, OM.swap_inv ea eb hlt⟩
theorem at_lastR {rs : List Addr} {r : Addr} : atI (rv (rs ++ [r])) (-1) = some (.ref r) := by
  have hl : (rv (rs ++ [r])).length = rs.length + 1 := by rw [rv_len, List.length_append]; rfl
  unfold atI ixN
  rw [hl, if_neg (by decide), if_pos (by omega)]
  show (rv (rs ++ [r]))[((-1 : Int) + ((rs.length + 1 : Nat) : Int)).toNat]? = _
  rw [show ((-1 : Int) + ((rs.length + 1 : Nat) : Int)).toNat = rs.length by omega]
  unfold rv
  rw [List.getElem?_map, List.getElem?_append_right (Nat.le_refl _), Nat.sub_self]
  rfl
theorem inv_le : ∀ xs : List Nat, OM.inv xs ≤ xs.length * xs.length
  | [] => Nat.le_refl _
  | x :: xs => by
    have h1 := inv_le xs
    have h2 := List.length_filter_le (fun y => decide (y < x)) xs
    have e : (xs.length + 1) * (xs.length + 1) = xs.length * xs.length + 2 * xs.length + 1 := by rw [Nat.add_mul, Nat.mul_add]; omega
    unfold OM.inv
    rw [List.length_cons, e]
    omega
def sp_steps27 (K : PySem.W.Frag) : Sp := fun vs H Q _ => ∃ (d o1 o2 : Addr) (ds one other : List Nat) (n : Nat), vs = [.ref d, .ref o1, .ref o2] ∧ H d = some (.lst (nv ds)) ∧ H o1 = some (.lst (nv one)) ∧ H o2 = some (.lst (nv other)) ∧ OM.PO n ds ∧ n ≤ 10 ∧ OM.Way n ds one ∧ OM.Way n ds other ∧ ∀ l H', Same H H' → Q (.ref l) H'
structure StI (H : Hp) (l r : Addr) (rs : List Addr) (n : Nat) (ds one other row : List Nat) (H' : Hp) : Prop where
  sm : Same H H'
  W : OM.Way n ds row
  few : rs.length + OM.inv (OM.poss other row) = OM.inv (OM.poss other one)
  hl : H' l = some (.lst (rv (rs ++ [r])))
  hr : H' r = some (.lst (nv row))
theorem fn_steps27 {tk : Tok} (B : Blt mg) (S : Src K mg "steps_between" s_steps_between ["downs", "one", "other"]) (C_MOST_LAID : mg "MOST_LAID" = some (.int 10 tk)) (F_refuse_more : Fn P w K mg base 1 "refuse_more" ["many", "most"] sp_few) (F_refuse_no_way : Fn P w K mg base 3 "refuse_no_way" ["downs", "row"] (fun vs H Q E => sp_is_way K vs H (fun _ H' => Q .non H') E)) (F_one_step : Fn P w K mg base 1 "one_step" ["row", "other"] (sp_one_step K)) : Fn P w K mg base 4 "steps_between" ["downs", "one", "other"] (sp_steps27 K) := by
  have sc : FnScope ["downs", "one", "other", "steps"] ["downs", "one", "other"] (defScope s_steps_between) := ⟨rfl, rfl, rfl, by decide +kernel, rfl, by decide +kernel, by decide +kernel⟩
  refine S.fn sc (fun vs H Q E h => by obtain ⟨d, o1, o2, ds, one, other, n, rfl, _⟩ := h; rfl) fun f cdv A outer s H vs Q E hr h => ?_
  have hu := hu60 hr
  obtain ⟨d, o1, o2, ds, one, other, n, rfl, hD, h1, h2, R, hn, W1, W2, k⟩ := h
  refine ⟨_, (@pss_cons _ _ _ _ _ (ps_expr (pe_callF F_refuse_more (hr.mono (by decide)) rfl (pa_cons (pe_callB (callLen K) rfl B.len PySem.boot_len (pa_cons (pv 0) pa_nil)) (pa_cons (pe_glob (v := .int 10) rfl C_MOST_LAID ⟨_, rfl⟩) pa_nil))))
      (@pss_cons _ _ _ _ _ (ps_expr (pe_callF F_refuse_no_way (hr.mono (by decide)) rfl (pa_cons (pv 0) (pa_cons (pv 1) pa_nil))))
      (@pss_cons _ _ _ _ _ (ps_expr (pe_callF F_refuse_no_way (hr.mono (by decide)) rfl (pa_cons (pv 0) (pa_cons (pv 2) pa_nil))))
      (@pss_cons _ _ _ _ _ (ps_set (i := 3) sc.nd rfl (Or.inl rfl) (pe_lst (pa_cons (pe_callTy (callListS K) rfl B.list PyProof.Rows.boot_list (pa_cons (pv 1) pa_nil)) pa_nil)))
      (@pss_cons _ _ _ _ _ (ps_while PassesOwn.never (pt_cmpR (op_neA K hu) (pe_ix (ixL K) (pv 3) (pe_un un_neg pe_int) (fun _ _ => rfl)) (pv 2) (nomark _))
      (@pss_one _ _ _ (ps_expr (peBm K PySem.F.plainAttrs_list PySem.F.slot_list_append PySem.F.type_list_append mt_append (pv 3) (pa_cons (pe_callF F_one_step (hr.mono (by decide)) rfl (pa_cons (pe_ix (ixL K) (pv 3) (pe_un un_neg pe_int) (fun _ _ => rfl)) (pa_cons (pv 2) pa_nil))) pa_nil)))))
      (@pss_one _ _ _ (ps_ret (pv 3)))))))), ?_⟩
  refine cut3 (fun σ' H1 => Same H H1 ∧ σ' = [some (.ref d), some (.ref o1), some (.ref o2), none]) (fun N hN => ?_) ?_
  · walk_at "rd"
    refine ⟨_, .inl (SqL.of hD), ?_⟩
    rw [nv_len, R.len]
    refine ⟨_, _, rfl, by omega, ?_⟩
    walk_at "rd"
    refine ⟨d, o1, ds, one, n, rfl, SqL.of hD, SqL.of h1, R, by omega, W1, fun H1 s1 => ?_⟩
    walk_at "rd"
    refine ⟨d, o2, ds, other, n, rfl, SqL.of (s1 _ _ hD), SqL.of (s1 _ _ h2), R, by omega, W2, fun H2 s2 => ?_⟩
    exact hN _ _ ⟨s1.trans s2, rfl⟩
  rintro σ' H1 ⟨s1, rfl⟩
  walk_at "rd"
  refine ⟨_, .inl (SqL.of (s1 _ _ h1)), ?_⟩
  intro c hp_c
  generalize hq_c : upd _ c _ = H2
  have s_H2 : Same _ H2 := hq_c ▸ Same.upd hp_c
  have e_H2 : H2 c = some _ := hq_c ▸ upd_same
  clear hq_c
  refine ⟨by rw [sizeLine_eq]; decide, ?_⟩
  intro l hp_l
  generalize hq_l : upd _ l _ = H3
  have s_H3 : Same _ H3 := hq_l ▸ Same.upd hp_l
  have e_H3 : H3 l = some _ := hq_l ▸ upd_same
  clear hq_l
  have e3 : H3 l = some (.lst (rv ([] ++ [c]))) := e_H3
  have hc3 := s_H3 _ _ e_H2
  have s03 := (s1.trans s_H2).trans s_H3
  have hlc : l ≠ c := fun z => by subst z; rw [e_H2] at hp_l; cases hp_l
  have hl0 : H l = none := (s1.trans s_H2).free hp_l
  have hc0 : H c = none := s1.free hp_c
  refine wh_ix (fun z σ' H' => ∃ (rs : List Addr) (r : Addr) (row : List Nat), z = OM.inv (OM.poss other row) ∧ StI H l r rs n ds one other row H' ∧ σ' = [some (.ref d), some (.ref o1), some (.ref o2), some (.ref l)]) (OM.inv (OM.poss other one))
    ⟨[], c, one, rfl, ⟨s03, W1, Nat.zero_add _, e3, hc3⟩, rfl⟩ ?_
  rintro z σ' H' ⟨rs, r, row, rfl, I, rfl⟩
  have hil := inv_le (OM.poss other one)
  have hpl : (OM.poss other one).length = n := by unfold OM.poss; rw [List.length_map, W1.len]
  rw [hpl] at hil
  have hnn : n * n ≤ 100 := Nat.mul_le_mul hn hn
  have few := I.few
  refine ⟨!decide (row = other), ?_, ?_, ?_⟩
  · intro Bb hB
    walk_at "rd"
    refine ⟨_, SqL.of I.hl, _, at_lastR, ⟨_, rfl⟩, _, eqd_nats (n := 59) (SqL.of I.hr) (SqL.of (I.sm _ _ h2)), ?_⟩
    exact hB
  · intro hne N hN
    have hne : row ≠ other := by simpa using hne
    walk_at "rd"
    refine ⟨.inl ⟨_, SqL.of I.hl⟩, _, SqL.of I.hl, _, at_lastR, r, o2, row, other, rfl, I.hr, I.sm _ _ h2, I.W.perm.trans W2.perm.symm, W2.nodup, hne, by rw [I.W.len]; omega, fun row' q H2 hN2 s2 hq0 hq => ?_⟩
    obtain ⟨Wn, hinv⟩ := next_way I.W W2 hN2
    have hql : q ≠ l := fun z => by subst z; rw [I.hl] at hq0; cases hq0
    refine ⟨_, s2 _ _ I.hl, by rw [rv_len, List.length_append]; exact small1000 (by simp; omega), ?_⟩
    rw [show rv (rs ++ [r]) ++ [V.ref q] = rv (rs ++ [r] ++ [q]) from (rv_app ..)]
    exact hN _ _ (OM.inv (OM.poss other row')) (by omega) ⟨rs ++ [r], q, row', rfl, ⟨(I.sm.trans s2).write hl0, Wn, by rw [List.length_append, List.length_singleton]; omega, upd_same, by rw [upd_ne hql]; exact hq⟩, rfl⟩
  · intro _
    walk_at "rd"
    exact k l H' I.sm
def KindsOf (K : PySem.W.Frag) (C : Addr) : List Value → List Bool → Prop
  | d :: ds, b :: bs => PySem.W.kitOne K (.ref C) d = some b ∧ KindsOf K C ds bs
  | [], [] => True
  | _, _ => False
def sp_kinds (K : PySem.W.Frag) (ds : List Value) : Sp := fun vs H Q _ => (vs = [.non] ∧ ∀ l, H l = none → Q (.ref l) (upd H l (.lst []))) ∨
  ∃ a C dct bs, vs = [.ref a] ∧ H a = some (.ext (XIs a (.ref C) dct)) ∧ XKit K C ∧ KindsOf K C ds bs ∧ ∀ l H', Same H H' → H l = none → H' l = some (.lst (bs.map V.bl)) → Q (.ref l) H'
theorem sz_few {n : Nat} (h : n ≤ 1000) : n ≤ sizeLine := Nat.le_of_lt (small1000 h)
theorem tv_ {i : Nat} {v : V} {σ : St} {H : Hp} {Q : VK} (e : σ[i]? = some (some v)) (h : Q v H) : tVar i σ H Q := ⟨v, e, h⟩
theorem tc_i {ts : TA} {σ : St} {H : Hp} {Q : List V → Hp → Prop} {a C : Addr} {D : V} {c : Value} {b : Bool} {dct : Option Addr} (h0 : σ[0]? = some (some (.ref a))) (ha : H a = some (.ext (XIs a (.ref C) dct))) (Z : XKit K C) (hc : clsV D = some c) (hk : PySem.W.kitOne K (.ref C) c = some b) (h : ts σ H fun vs H1 => Q (.bl b :: vs) H1) : tCons (tCB (rIsiN K) (tCons (tVar 0) (tCons (tC D) tNil))) ts σ H Q := ⟨_, h0, a, C, D, c, b, dct, rfl, ha, Z, hc, hk, h⟩
theorem fn_kinds {A_TooMany A_NoThing A_NoWay A_Ring A_NoTwoRows A_NoLattice A_NotSpreading : Addr} (B : Blt mg) (Z_ValueError : mg "ValueError" = none) (S : Src K mg "_law_kinds" s_law_kinds ["_law_kept"])
    (M_TooMany : mg "TooMany" = some (.ref A_TooMany)) (M_NoThing : mg "NoThing" = some (.ref A_NoThing)) (M_NoWay : mg "NoWay" = some (.ref A_NoWay)) (M_Ring : mg "Ring" = some (.ref A_Ring)) (M_NoTwoRows : mg "NoTwoRows" = some (.ref A_NoTwoRows)) (M_NoLattice : mg "NoLattice" = some (.ref A_NoLattice)) (M_NotSpreading : mg "NotSpreading" = some (.ref A_NotSpreading)) :
    Fn P w K mg base 1 "_law_kinds" ["_law_kept"] (sp_kinds K [.ref A_TooMany, .ref A_NoThing, .ref A_NoWay, .ref A_Ring, .ref A_NoTwoRows, .ref A_NoLattice, .ref A_NotSpreading, .type "ValueError"]) := by
  have sc : FnScope ["_law_kept", "_law_kinds_here"] ["_law_kept"] (defScope s_law_kinds) := ⟨rfl, rfl, rfl, by decide +kernel, rfl, by decide +kernel, by decide +kernel⟩
  refine S.fn sc (fun vs H Q E h => by rcases h with ⟨rfl, _⟩ | ⟨a, C, dct, bs, rfl, _⟩ <;> rfl) fun f cdv A outer s H vs Q E hr h => ?_
  have hu := hu60 hr
  refine ⟨_, (@pss_cons _ _ _ _ _ (ps_if (pt_cmpR op_isN (pv 0) pe_non (nomark _))
      (@pss_one _ _ _ (ps_ret (pe_lst pa_nil)))
      pss_nil)
      (@pss_cons _ _ _ _ _ (ps_set (i := 1) sc.nd rfl (Or.inl rfl) (pe_lst (pa_cons (pe_callB (callIsiN K) rfl B.isinstance PyProof.Rows.boot_isinstance (pa_cons (pv 0) (pa_cons (pe_glob (v := .ref A_TooMany) rfl M_TooMany rfl) pa_nil))) (pa_cons (pe_callB (callIsiN K) rfl B.isinstance PyProof.Rows.boot_isinstance (pa_cons (pv 0) (pa_cons (pe_glob (v := .ref A_NoThing) rfl M_NoThing rfl) pa_nil))) (pa_cons (pe_callB (callIsiN K) rfl B.isinstance PyProof.Rows.boot_isinstance (pa_cons (pv 0) (pa_cons (pe_glob (v := .ref A_NoWay) rfl M_NoWay rfl) pa_nil))) (pa_cons (pe_callB (callIsiN K) rfl B.isinstance PyProof.Rows.boot_isinstance (pa_cons (pv 0) (pa_cons (pe_glob (v := .ref A_Ring) rfl M_Ring rfl) pa_nil))) pa_nil))))))
      (@pss_cons _ _ _ _ _ (ps_set (i := 1) sc.nd rfl (Or.inl rfl) (pe_op op_addA (pv 1) (pe_lst (pa_cons (pe_callB (callIsiN K) rfl B.isinstance PyProof.Rows.boot_isinstance (pa_cons (pv 0) (pa_cons (pe_glob (v := .ref A_NoTwoRows) rfl M_NoTwoRows rfl) pa_nil))) (pa_cons (pe_callB (callIsiN K) rfl B.isinstance PyProof.Rows.boot_isinstance (pa_cons (pv 0) (pa_cons (pe_glob (v := .ref A_NoLattice) rfl M_NoLattice rfl) pa_nil))) (pa_cons (pe_callB (callIsiN K) rfl B.isinstance PyProof.Rows.boot_isinstance (pa_cons (pv 0) (pa_cons (pe_glob (v := .ref A_NotSpreading) rfl M_NotSpreading rfl) pa_nil))) pa_nil))))))
      (@pss_one _ _ _ (ps_ret (pe_op op_addA (pv 1) (pe_lst (pa_cons (pe_callB (callIsiN K) rfl B.isinstance PyProof.Rows.boot_isinstance (pa_cons (pv 0) (pa_cons (pe_bltn (v := .ty "ValueError") rfl Z_ValueError (by decide +kernel) rfl) pa_nil))) pa_nil)))))))), ?_⟩
  rcases h with ⟨rfl, k⟩ | ⟨a, C, dct, bs, rfl, ha, Z, kd, k⟩
  · walk_at "rd"
    exact ⟨by rw [sizeLine_eq]; decide, k⟩
  · match bs, kd with
    | [b1, b2, b3, b4, b5, b6, b7, b8], ⟨k1, k2, k3, k4, k5, k6, k7, k8, _⟩ =>
    refine cut1 (fun σ' H1 => H1 = H ∧ σ' = [some (.ref a), none]) (fun N hN => ?_) ?_
    · walk_at "rd"
      exact hN _ _ ⟨rfl, rfl⟩
    rintro σ' H1 ⟨rfl, rfl⟩
    refine cut1 (fun σ' H2 => ∃ p, Same H1 H2 ∧ H2 p = some (.lst [.bl b1, .bl b2, .bl b3, .bl b4]) ∧ σ' = [some (.ref a), some (.ref p)]) (fun N hN => ?_) ?_
    · rw [ap_asg, ap_lst]
      refine tc_i rfl ha Z rfl k1 ?_
      refine tc_i rfl ha Z rfl k2 ?_
      refine tc_i rfl ha Z rfl k3 ?_
      refine tc_i rfl ha Z rfl k4 ?_
      exact ⟨sz_few (n := 4) (by decide), fun p1 hp1 => hN _ _ ⟨p1, Same.upd hp1, upd_same, rfl⟩⟩
    rintro σ' H2 ⟨p1, s1, e1, rfl⟩
    have a1 := s1 _ _ ha
    refine cut1 (fun σ' H3 => ∃ p, Same H1 H3 ∧ H3 p = some (.lst [.bl b1, .bl b2, .bl b3, .bl b4, .bl b5, .bl b6, .bl b7]) ∧ σ' = [some (.ref a), some (.ref p)]) (fun N hN => ?_) ?_
    · rw [ap_asg, ap_op]
      refine tv_ rfl ?_
      rw [ap_lst]
      refine tc_i rfl a1 Z rfl k5 ?_
      refine tc_i rfl a1 Z rfl k6 ?_
      refine tc_i rfl a1 Z rfl k7 ?_
      refine ⟨sz_few (n := 3) (by decide), fun p2 hp2 => .inr ?_⟩
      refine ⟨_, _, _, _, rfl, rfl, (Same.upd hp2) _ _ e1, upd_same, by rw [sizeLine_eq]; simp, fun p3 hp3 => ?_⟩
      exact hN _ _ ⟨p3, (s1.trans (Same.upd hp2)).trans (Same.upd hp3), upd_same, rfl⟩
    rintro σ' H3 ⟨p2, s2, e2, rfl⟩
    rw [ap_ret, ap_op]
    refine tv_ rfl ?_
    rw [ap_lst]
    refine tc_i rfl (s2 _ _ ha) Z rfl k8 ?_
    refine ⟨sz_few (n := 1) (by decide), fun p4 hp4 => .inr ?_⟩
    refine ⟨_, _, _, _, rfl, rfl, (Same.upd hp4) _ _ e2, upd_same, by rw [sizeLine_eq]; simp, fun p5 hp5 => ?_⟩
    have s5 := s2.trans (Same.upd (o := .lst [.bl b8]) hp4)
    exact k p5 _ (s5.trans (Same.upd hp5)) (s5.free hp5) (by rw [upd_same]; rfl)
def cell (ns : List Int) (i : Int) : Int := if i < ns.length then (ns[i.toNat]?).getD 0 else 0
def sp_cell_at (K : PySem.W.Frag) : Sp := fun vs H Q _ => ∃ a ns i, vs = [.ref a, .int i] ∧ SqL K H a (ns.map V.int) ∧ 0 ≤ i ∧ Q (.int (cell ns i)) H
theorem fn_law_cell_at (B : Blt mg) (S : Src K mg "_law_cell_at" s_law_cell_at ["_law_script", "_law_k"]) : Fn P w K mg base 1 "_law_cell_at" ["_law_script", "_law_k"] (sp_cell_at K) := by
  have sc : FnScope ["_law_script", "_law_k"] ["_law_script", "_law_k"] (defScope s_law_cell_at) := ⟨rfl, rfl, rfl, by decide +kernel, rfl, by decide +kernel, by decide +kernel⟩
  refine S.fn sc (fun vs H Q E h => by obtain ⟨a, ns, i, rfl, _⟩ := h; rfl) fun f cdv A outer s H vs Q E hr h => ?_
  obtain ⟨a, ns, i, rfl, hS, h0, k⟩ := h
  refine ⟨_, (@pss_cons _ _ _ _ _ (ps_if (pt_cmpR op_lt (pv 1) (pe_callB (callLen K) rfl B.len PySem.boot_len (pa_cons (pv 0) pa_nil)) (nomark _))
      (@pss_one _ _ _ (ps_ret (pe_ix (ixL K) (pv 0) (pv 1) (fun _ _ => rfl))))
      pss_nil)
      (@pss_one _ _ _ (ps_ret pe_int))), ?_⟩
  walk_at "rd"
  refine ⟨_, .inl hS, ?_⟩
  rw [List.length_map]
  unfold cell at k
  by_cases h : i < ns.length
  · rw [if_pos h] at k ⊢
    refine ⟨_, hS, _, ?_, k⟩
    have hi : atI (ns.map V.int) ((i.toNat : Nat) : Int) = some (V.int ((ns[i.toNat]?).getD 0)) := atI_nat (by
      rw [List.getElem?_map, List.getElem?_eq_getElem (by omega), Option.map_some, Option.getD_some])
    rwa [show ((i.toNat : Nat) : Int) = i by omega] at hi
  · rw [if_neg h] at k ⊢
    exact k
def sp_drawn (K : PySem.W.Frag) : Sp := fun vs H Q _ => ∃ a, ∃ ns : List Int, ∃ i : Int, vs = [.ref a, .int i] ∧ SqL K H a (ns.map V.int) ∧ 0 ≤ i ∧ i < 2 ^ 20 ∧ ∀ v : Int, Q (.int v) H
theorem fn_law_drawn (S : Src K mg "_law_drawn" s_law_drawn ["_law_script", "_law_k"]) (F_law_cell_at : Fn P w K mg base 1 "_law_cell_at" ["_law_script", "_law_k"] (sp_cell_at K)) : Fn P w K mg base 2 "_law_drawn" ["_law_script", "_law_k"] (sp_drawn K) := by
  have sc : FnScope ["_law_script", "_law_k", "_law_cell", "_law_number"] ["_law_script", "_law_k"] (defScope s_law_drawn) := ⟨rfl, rfl, rfl, by decide +kernel, rfl, by decide +kernel, by decide +kernel⟩
  refine S.fn sc (fun vs H Q E h => by obtain ⟨a, ns, i, rfl, _⟩ := h; rfl) fun f cdv A outer s H vs Q E hr h => ?_
  have hu := hu60 hr
  obtain ⟨a, ns, i, rfl, hS, h0, h1, k⟩ := h
  refine ⟨_, (@pss_cons _ _ _ _ _ (ps_set (i := 2) sc.nd rfl (Or.inl rfl) (pe_callF F_law_cell_at (hr.mono (by decide)) rfl (pa_cons (pv 0) (pa_cons (pv 1) pa_nil))))
      (@pss_cons _ _ _ _ _ (ps_if (pt_cmpR (op_eqA K hu) (pe_op op_mod (pe_op op_fdiv (pe_callF F_law_cell_at (hr.mono (by decide)) rfl (pa_cons (pv 0) (pa_cons pe_int pa_nil))) pe_int) pe_int) pe_int (nomark _))
      (@pss_one _ _ _ (ps_ret (pv 2)))
      pss_nil)
      (@pss_cons _ _ _ _ _ (ps_set (i := 3) sc.nd rfl (Or.inl rfl) (pe_op op_mod (pe_op op_addA (pe_op op_addA (pe_op op_mulA (pv 2) pe_int) (pe_op op_mulA (pv 1) pe_int)) pe_int) pe_int))
      (@pss_cons _ _ _ _ _ (ps_set (i := 3) sc.nd rfl (Or.inl rfl) (pe_op op_mod (pe_op op_mulA (pv 3) (pv 3)) pe_int))
      (@pss_one _ _ _ (ps_ret (pe_op op_addA (pe_op op_mulA (pv 3) pe_int) (pe_op op_mod (pe_op op_mulA (pv 3) (pv 3)) pe_int)))))))), ?_⟩
  walk_at "rm"
  refine ⟨a, ns, i, rfl, hS, h0, ?_⟩
  walk_at "rm"
  refine ⟨a, ns, 0, rfl, hS, by omega, ?_⟩
  walk_at "rm"
  refine ⟨⟨by decide, by decide⟩, by decide, ?_⟩
  by_cases hc : cell ns 0 / 3 % 2 = 0
  · rw [if_pos hc]
    exact k _
  · rw [if_neg hc]
    have b1 : ∀ x : Int, 0 ≤ x % 2147483629 ∧ x % 2147483629 < 2147483629 := fun x => ⟨Int.emod_nonneg _ (by decide), Int.emod_lt_of_pos _ (by decide)⟩
    have b2 : ∀ x : Int, 0 ≤ x % 2147483587 ∧ x % 2147483587 < 2147483587 := fun x => ⟨Int.emod_nonneg _ (by decide), Int.emod_lt_of_pos _ (by decide)⟩
    refine ⟨mulOk_small (.inr (by decide)), mulOk_small (.inr (by decide)), by decide, ?_⟩
    have b3 := b1 (cell ns i * 48271 + i * 69621 + 11)
    generalize (cell ns i * 48271 + i * 69621 + 11) % 2147483629 = n1 at b3
    refine ⟨mulOk_small (.inl (by omega)), by decide, ?_⟩
    have b4 := b2 (n1 * n1)
    generalize (n1 * n1) % 2147483587 = n2 at b4
    exact ⟨mulOk_small (.inr (by decide)), mulOk_small (.inl (by omega)), by decide, k _⟩
def sp_turn (K : PySem.W.Frag) : Sp := fun vs H Q _ => ∃ a, ∃ ns : List Int, ∃ n : Nat, vs = [.ref a, .int n] ∧ SqL K H a (ns.map V.int) ∧ n ≤ 200 ∧ ∀ (row : List Nat) l H', row.Perm (List.range n) → Same H H' → H l = none → H' l = some (.lst (nv row)) → Q (.ref l) H'
theorem fn_law_turn (B : Blt mg) (S : Src K mg "_law_turn" s_law_turn ["_law_script", "_law_many"]) (F_law_cell_at : Fn P w K mg base 1 "_law_cell_at" ["_law_script", "_law_k"] (sp_cell_at K)) : Fn P w K mg base 2 "_law_turn" ["_law_script", "_law_many"] (sp_turn K) := by
  have sc : FnScope ["_law_script", "_law_many", "_law_row", "_law_k"] ["_law_script", "_law_many"] (defScope s_law_turn) := ⟨rfl, rfl, rfl, by decide +kernel, rfl, by decide +kernel, by decide +kernel⟩
  refine S.fn sc (fun vs H Q E h => by obtain ⟨a, ns, i, rfl, _⟩ := h; rfl) fun f cdv A outer s H vs Q E hr h => ?_
  obtain ⟨a, ns, n, rfl, hS, hn, k⟩ := h
  refine ⟨_, (@pss_cons _ _ _ _ _ (ps_set (i := 2) sc.nd rfl (Or.inl rfl) (pe_lst pa_nil))
      (@pss_cons _ _ _ _ _ (ps_for PassesOwn.never rfl (pi_range1 rfl B.range (pa_cons (pv 1) pa_nil)) (pg_name (i := 3) sc.nd rfl (Or.inl rfl))
      (@pss_one _ _ _ (ps_expr (peBm K PySem.F.plainAttrs_list PySem.F.slot_list_insert PySem.F.type_list_insert mt_insert (pv 2) (pa_cons (pe_op op_mod (pe_callF F_law_cell_at (hr.mono (by decide)) rfl (pa_cons (pv 0) (pa_cons (pe_op op_addA (pv 3) pe_int) pa_nil))) (pe_op op_addA (pv 3) pe_int)) (pa_cons (pv 3) pa_nil))))))
      (@pss_one _ _ _ (ps_ret (pv 2))))), ?_⟩
  walk_at "rd"
  refine ⟨by simp, ?_⟩
  intro l hl
  refine ⟨by omega, by omega, ?_⟩
  refine fg_range (fun i σ' H' => Same H H' ∧ ∃ row : List Nat, row.Perm (List.range i) ∧ H' l = some (.lst (nv row)) ∧ ∃ v, σ' = [some (.ref a), some (.int n), some (.ref l), v]) ⟨Same.upd hl, [], .refl _, upd_same, none, rfl⟩ ?_ ?_
  · rintro i σ' H' hi ⟨sm, row, hp, hl1, v, rfl⟩
    have hlen : row.length = i := by rw [hp.length_eq, List.length_range]
    walk_at "rd"
    refine ⟨.inl ⟨_, SqL.of hl1⟩, a, ns, _, rfl, sm.seq hS, by omega, ?_⟩
    walk_at "rd"
    have b1 := Int.emod_nonneg (cell ns (0 + (i : Int) + 1)) (b := 0 + (i : Int) + 1) (by omega)
    have b2 := Int.emod_lt_of_pos (cell ns (0 + (i : Int) + 1)) (b := 0 + (i : Int) + 1) (by omega)
    generalize cell ns (0 + (i : Int) + 1) % (0 + (i : Int) + 1) = at_ at b1 b2
    refine ⟨by omega, _, hl1, by rw [nv_len]; exact small1000 (by omega), b1, by omega, sm.write hl, row.take (min at_.toNat row.length) ++ i :: row.drop (min at_.toNat row.length), ?_, ?_⟩
    · rw [List.range_succ]
      refine List.perm_middle.trans ?_
      rw [List.take_append_drop]
      exact (List.Perm.cons _ hp).trans (List.perm_append_comm (l₁ := [i]))
    · rw [upd_same, nv_len, Int.zero_add]
      unfold nv
      rw [List.map_append, List.map_cons, List.map_take, List.map_drop]
  · rintro σ' H' ⟨sm, row, hp, hl1, v, rfl⟩
    walk_at "rd"
    rw [Int.toNat_natCast] at hp
    exact k row l H' hp sm hl hl1
def sp_pairs (K : PySem.W.Frag) : Sp := fun vs H Q _ => ∃ a, ∃ ns : List Int, ∃ r, ∃ row : List Nat, ∃ n : Nat, vs = [.ref a, .ref r] ∧ SqL K H a (ns.map V.int) ∧ ns.length ≤ 63 ∧ SqL K H r (nv row) ∧ row.Perm (List.range n) ∧ n ≤ 200 ∧
  ∀ (ps : List (Nat × Nat)) (rs : List Addr) l H', OM.Laid row ps → ps.length ≤ 61 → Same H H' → H l = none → H' l = some (.lst (rv rs)) → PrA K H' rs (ps.map np) → Q (.ref l) H'
structure PairI (K : PySem.W.Frag) (H : Hp) (l : Addr) (row : List Nat) (m : Nat) (H' : Hp) : Prop where
  sm : Same H H'
  ex : ∃ (ps : List (Nat × Nat)) (rs : List Addr), OM.Laid row ps ∧ ps.length ≤ m ∧ H' l = some (.lst (rv rs)) ∧ PrA K H' rs (ps.map np)
theorem PairI.more {K : PySem.W.Frag} {H H' H3 : Hp} {l p : Addr} {row : List Nat} {m i1 i2 : Nat} (I : PairI K H l row m H') (h0 : H l = none) (hm : m ≤ 100) (h12 : i1 < i2) (h2n : i2 < row.length) (s3 : Same H' H3) (e3 : H3 p = some (.tup [.int (row.getD i1 0 : Nat), .int (row.getD i2 0 : Nat)])) :
    ∃ x, H3 l = some (HO.lst x) ∧ x.length < sizeLine ∧ PairI K H l row (m + 1) (upd H3 l (HO.lst (x ++ [V.ref p]))) := by
  obtain ⟨s2, ps, rs, hL, hpl, hl2, hA⟩ := I
  have hl3 := s3 _ _ hl2
  have hrs : rs.length ≤ 100 := by rw [hA.len, List.length_map]; omega
  refine ⟨rv rs, hl3, by rw [rv_len]; exact small1000 (by omega), (s2.trans s3).write h0, ps ++ [(row.getD i1 0, row.getD i2 0)], rs ++ [p], hL.snoc h12 ?_ ?_, by rw [List.length_append, List.length_singleton]; omega, by rw [upd_same, rv_app], ?_⟩
  · rw [List.getElem?_eq_getElem (by omega), OM.getD_lt (by omega)]
  · rw [List.getElem?_eq_getElem (by omega), OM.getD_lt (by omega)]
  · rw [List.map_append]
    exact ((hA.same s3).write hl3).snoc (SqT.write (SqT.of e3) hl3)
theorem PairI.up {K : PySem.W.Frag} {H H' : Hp} {l : Addr} {row : List Nat} {m : Nat} (I : PairI K H l row m H') : PairI K H l row (m + 1) H' := by
  obtain ⟨s2, ps, rs, hL, hpl, hl2, hA⟩ := I
  exact ⟨s2, ps, rs, hL, by omega, hl2, hA⟩
theorem PairI.lst {K : PySem.W.Frag} {H H' : Hp} {l : Addr} {row : List Nat} {m : Nat} (I : PairI K H l row m H') : ∃ xs, SqL K H' l xs := by
  obtain ⟨s2, ps, rs, hL, hpl, hl2, hA⟩ := I
  exact ⟨_, SqL.of hl2⟩
theorem le_test {a b : Nat} {v s : Int} {σ : St} {H : Hp} {P : Bool → Hp → Prop} (ha : σ[a]? = some (some (.int v))) (hb : σ[b]? = some (some (.int s))) (p : P (decide (v % 4 ≤ s)) H) : tTest (tOp (rI0 fun i j => V.bl (decide (i ≤ j))) (tOp (rI (fun _ j => 0 < j) fun i j => V.int (i % j)) (tVar a) (tC (V.int 4))) (tVar b)) σ H P := by
  walk_at "rd"
  exact ⟨_, ha, _, rfl, by decide, _, hb, _, rfl, p⟩
theorem ne_test {a b : Nat} {v s : Int} {σ : St} {H : Hp} {P : Bool → Hp → Prop} (ha : σ[a]? = some (some (.int v))) (hb : σ[b]? = some (some (.int s))) (p : P (!decide (v = s)) H) : tTest (tOp (rOr rNe (rEqD K true)) (tVar a) (tVar b)) σ H P := by
  walk_at "rd"
  refine ⟨_, ha, _, hb, .inl ⟨rfl, ?_⟩⟩
  rw [show decide (V.int v = V.int s) = decide (v = s) from decide_eq_decide.mpr ⟨fun z => by injection z, fun z => by rw [z]⟩]
  exact p
theorem fn_law_pairs (B : Blt mg) (S : Src K mg "_law_pairs" s_law_pairs ["_law_script", "_law_row"]) (F_law_cell_at : Fn P w K mg base 1 "_law_cell_at" ["_law_script", "_law_k"] (sp_cell_at K)) (F_law_drawn : Fn P w K mg base 2 "_law_drawn" ["_law_script", "_law_k"] (sp_drawn K)) : Fn P w K mg base 3 "_law_pairs" ["_law_script", "_law_row"] (sp_pairs K) := by
  have sc : FnScope ["_law_script", "_law_row", "_law_found", "_law_many", "_law_share", "_law_k", "_law_number", "_law_low", "_law_high"] ["_law_script", "_law_row"] (defScope s_law_pairs) := ⟨rfl, rfl, rfl, by decide +kernel, rfl, by decide +kernel, by decide +kernel⟩
  refine S.fn sc (fun vs H Q E h => by obtain ⟨a, ns, r, row, n, rfl, _⟩ := h; rfl) fun f cdv A outer s H vs Q E hr h => ?_
  have hu := hu60 hr
  obtain ⟨a, ns, r, row, n, rfl, hS, hlen, hR, hp, hn, k⟩ := h
  have hrl : row.length = n := by rw [hp.length_eq, List.length_range]
  refine ⟨_, (@pss_cons _ _ _ _ _ (ps_set (i := 2) sc.nd rfl (Or.inl rfl) (pe_lst pa_nil))
      (@pss_cons _ _ _ _ _ (ps_set (i := 3) sc.nd rfl (Or.inl rfl) (pe_callB (callLen K) rfl B.len PySem.boot_len (pa_cons (pv 1) pa_nil)))
      (@pss_cons _ _ _ _ _ (ps_set (i := 4) sc.nd rfl (Or.inl rfl) (pe_op op_mod (pe_op op_fdiv (pe_callF F_law_cell_at (hr.mono (by decide)) rfl (pa_cons (pv 0) (pa_cons pe_int pa_nil))) pe_int) pe_int))
      (@pss_cons _ _ _ _ _ (ps_for PassesOwn.never rfl (pi_range2 rfl B.range (pa_cons (pe_op op_addA (pv 3) pe_int) (pa_cons (pe_callB (call_min2 rfl) rfl B.min PyProof.Rows.boot_min (pa_cons pe_int (pa_cons (pe_callB (callLen K) rfl B.len PySem.boot_len (pa_cons (pv 0) pa_nil)) pa_nil))) pa_nil))) (pg_name (i := 5) sc.nd rfl (Or.inl rfl))
      (@pss_cons _ _ _ _ _ (ps_set (i := 6) sc.nd rfl (Or.inl rfl) (pe_callF F_law_drawn (hr.mono (by decide)) rfl (pa_cons (pv 0) (pa_cons (pv 5) pa_nil))))
      (@pss_cons _ _ _ _ _ (ps_set (i := 7) sc.nd rfl (Or.inl rfl) (pe_op op_mod (pe_op op_fdiv (pv 6) pe_int) (pe_callB (call_max2 rfl) rfl B.max PyProof.Rows.boot_max (pa_cons pe_int (pa_cons (pv 3) pa_nil)))))
      (@pss_cons _ _ _ _ _ (ps_set (i := 8) sc.nd rfl (Or.inl rfl) (pe_op op_mod (pe_op op_fdiv (pe_op op_fdiv (pv 6) pe_int) (pe_callB (call_max2 rfl) rfl B.max PyProof.Rows.boot_max (pa_cons pe_int (pa_cons (pv 3) pa_nil)))) (pe_callB (call_max2 rfl) rfl B.max PyProof.Rows.boot_max (pa_cons pe_int (pa_cons (pv 3) pa_nil)))))
      (@pss_one _ _ _ (ps_if (PW.pt (pw_and (pt_cmpR op_le (pe_op op_mod (pv 6) pe_int) (pv 4) (nomark _)) (pw_and1 (pt_cmpR (op_neA K hu) (pv 7) (pv 8) (nomark _)))))
      (@pss_one _ _ _ (ps_expr (peBm K PySem.F.plainAttrs_list PySem.F.slot_list_append PySem.F.type_list_append mt_append (pv 2) (pa_cons (pe_tup (pa_cons (pe_ix (ixL K) (pv 1) (pe_callB (call_min2 rfl) rfl B.min PyProof.Rows.boot_min (pa_cons (pv 7) (pa_cons (pv 8) pa_nil))) (fun _ _ => rfl)) (pa_cons (pe_ix (ixL K) (pv 1) (pe_callB (call_max2 rfl) rfl B.max PyProof.Rows.boot_max (pa_cons (pv 7) (pa_cons (pv 8) pa_nil))) (fun _ _ => rfl)) pa_nil))) pa_nil))))
      pss_nil))))))
      (@pss_one _ _ _ (ps_ret (pv 2))))))), ?_⟩
  refine cut1 (fun σ' H1 => ∃ l, H l = none ∧ PairI K H l row 0 H1 ∧ σ' = [some (.ref a), some (.ref r), some (.ref l), none, none, none, none, none, none]) (fun N hN => ?_) ?_
  · walk_at "rd"
    refine ⟨by simp, ?_⟩
    intro l hp_l
    generalize hq_l : upd _ l _ = H1
    have s_H1 : Same _ H1 := hq_l ▸ Same.upd hp_l
    have e_H1 : H1 l = some _ := hq_l ▸ upd_same
    clear hq_l
    exact hN _ _ ⟨l, hp_l, ⟨s_H1, [], [], .nil, by simp, e_H1, .nil⟩, rfl⟩
  rintro σ' H1 ⟨l, hp_l, I1, rfl⟩
  refine cut2 (fun σ' H2 => H2 = H1 ∧ ∃ share : Int, σ' = [some (.ref a), some (.ref r), some (.ref l), some (.int n), some (.int share), none, none, none, none]) (fun N hN => ?_) ?_
  · walk_at "rd"
    refine ⟨_, .inl (I1.sm.seq hR), a, ns, 0, rfl, I1.sm.seq hS, by omega, ?_⟩
    walk_at "rd"
    refine ⟨⟨by decide, by decide⟩, by decide, ?_⟩
    rw [nv_len, hrl]
    exact hN _ _ ⟨rfl, _, rfl⟩
  rintro σ' H2 ⟨rfl, share, rfl⟩
  walk_at "rd"
  refine ⟨_, .inl (I1.sm.seq hS), ?_⟩
  rw [List.length_map]
  have hmin : (if (ns.length : Int) < 61 then (ns.length : Int) else 61) ≤ 61 := by split <;> omega
  have hmin0 : 0 ≤ (if (ns.length : Int) < 61 then (ns.length : Int) else 61) := by split <;> omega
  refine ⟨by omega, by omega, by omega, by omega, ?_⟩
  generalize (if (ns.length : Int) < 61 then (ns.length : Int) else 61) = top at hmin hmin0
  refine fg_rangeR (fun i σ' H' => PairI K H l row i H' ∧ ∃ v5 v6 v7 v8, σ' = [some (.ref a), some (.ref r), some (.ref l), some (.int n), some (.int share), v5, v6, v7, v8])
    ⟨I1, none, none, none, none, rfl⟩ ?_ ?_
  · rintro i σ' H' hi ⟨I, v5, v6, v7, v8, rfl⟩ N' R' hN'
    rw [ap_gname]
    refine cut1 (fun σ' H3 => H3 = H' ∧ ∃ v : Int, σ' = [some (.ref a), some (.ref r), some (.ref l), some (.int n), some (.int share), some (.int ((n : Int) + 1 + (i : Int))), some (.int v), v7, v8]) (fun N hN => ?_) ?_
    · walk_at "rd"
      refine ⟨a, ns, _, rfl, I.sm.seq hS, by omega, by omega, fun v => ?_⟩
      exact hN _ _ ⟨rfl, v, rfl⟩
    rintro σ' H3 ⟨rfl, v, rfl⟩
    have hm1 : 1 ≤ (if (n : Int) > 1 then (n : Int) else 1) ∧ (1 < (if (n : Int) > 1 then (n : Int) else 1) → (if (n : Int) > 1 then (n : Int) else 1) = n) := by split <;> omega
    refine cut2 (fun σ' H4 => H4 = H3 ∧ ∃ x y : Nat, (x ≠ y → x < n ∧ y < n) ∧ σ' = [some (.ref a), some (.ref r), some (.ref l), some (.int n), some (.int share), some (.int ((n : Int) + 1 + (i : Int))), some (.int v), some (.int x), some (.int y)]) (fun N hN => ?_) ?_
    · walk_at "rd"
      generalize (if (n : Int) > 1 then (n : Int) else 1) = m at hm1
      obtain ⟨x, ex⟩ := Int.eq_ofNat_of_zero_le (Int.emod_nonneg (v / 4) (b := m) (by omega))
      obtain ⟨y, ey⟩ := Int.eq_ofNat_of_zero_le (Int.emod_nonneg (v / 4 / m) (b := m) (by omega))
      have b2 := Int.emod_lt_of_pos (v / 4) (b := m) (by omega)
      have b4 := Int.emod_lt_of_pos (v / 4 / m) (b := m) (by omega)
      rw [ex, ey]
      rw [ex] at b2
      rw [ey] at b4
      exact ⟨⟨by decide, by decide⟩, by omega, ⟨by decide, by decide⟩, ⟨by omega, by omega⟩, by omega, hN _ _ ⟨rfl, x, y, fun h => by omega, rfl⟩⟩
    rintro σ' H4 ⟨rfl, x, y, hxy, rfl⟩
    have no := I.up
    refine le_test rfl rfl ?_
    by_cases c1 : v % 4 ≤ share
    case neg => exact iteFF (decide_eq_false c1) (iteF (hN' _ _ ⟨no, _, _, _, _, rfl⟩))
    refine iteTT (decide_eq_true c1) ?_
    refine ne_test rfl rfl ?_
    by_cases c2 : (x : Int) = y
    case pos => exact iteFF (by rw [decide_eq_true c2]; rfl) (hN' _ _ ⟨no, _, _, _, _, rfl⟩)
    refine iteTT (by rw [decide_eq_false c2]; rfl) ?_
    obtain ⟨hx, hy⟩ := hxy (by omega)
    walk_at "rd"
    by_cases c3 : (y : Int) < x
    · rw [if_pos c3, if_neg (by omega)]
      refine ⟨.inl I.lst, _, I.sm.seq hR, _, nv_at (i := y) (by omega), _, I.sm.seq hR, _, nv_at (i := x) (by omega), by rw [sizeLine_eq]; decide, ?_⟩
      intro p hp_p
      generalize hq_p : upd _ p _ = H5
      have s_H5 : Same _ H5 := hq_p ▸ Same.upd hp_p
      have e_H5 : H5 p = some _ := hq_p ▸ upd_same
      clear hq_p
      obtain ⟨xs, e1, e2, e3⟩ := I.more hp_l (by omega) (by omega) (by omega) s_H5 e_H5
      exact ⟨xs, e1, e2, hN' _ _ ⟨e3, _, _, _, _, rfl⟩⟩
    · rw [if_neg c3, if_pos (by omega)]
      refine ⟨.inl I.lst, _, I.sm.seq hR, _, nv_at (i := x) (by omega), _, I.sm.seq hR, _, nv_at (i := y) (by omega), by rw [sizeLine_eq]; decide, ?_⟩
      intro p hp_p
      generalize hq_p : upd _ p _ = H5
      have s_H5 : Same _ H5 := hq_p ▸ Same.upd hp_p
      have e_H5 : H5 p = some _ := hq_p ▸ upd_same
      clear hq_p
      obtain ⟨xs, e1, e2, e3⟩ := I.more hp_l (by omega) (by omega) (by omega) s_H5 e_H5
      exact ⟨xs, e1, e2, hN' _ _ ⟨e3, _, _, _, _, rfl⟩⟩
  · rintro σ' H' ⟨I, v5, v6, v7, v8, rfl⟩
    obtain ⟨s2, ps, rs, hL, hpl, hl2, hA⟩ := I
    walk_at "rd"
    exact k ps rs l H' hL (by omega) s2 hp_l hl2 hA
def sp_downs (K : PySem.W.Frag) : Sp := fun vs H Q _ => ∃ r p, ∃ row : List Nat, ∃ n : Nat, ∃ (ps : List (Nat × Nat)) (rs : List Addr), vs = [.ref r, .ref p] ∧ SqL K H r (nv row) ∧ SqL K H p (rv rs) ∧ PrA K H rs (ps.map np) ∧ row.Perm (List.range n) ∧ n ≤ 200 ∧ OM.Laid row ps ∧
  ∀ l H', Same H H' → H l = none → H' l = some (.lst (nv (OM.lawDowns row ps))) → Q (.ref l) H'
theorem fn_law_downs (B : Blt mg) (S : Src K mg "_law_downs" s_law_downs ["_law_row", "_law_pairs_here"]) : Fn P w K mg base 1 "_law_downs" ["_law_row", "_law_pairs_here"] (sp_downs K) := by
  have sc : FnScope ["_law_row", "_law_pairs_here", "_law_downs_here", "_law_high", "_law_low", "_law_top"] ["_law_row", "_law_pairs_here"] (defScope s_law_downs) := ⟨rfl, rfl, rfl, by decide +kernel, rfl, by decide +kernel, by decide +kernel⟩
  refine S.fn sc (fun vs H Q E h => by obtain ⟨r, p, row, n, ps, rs, rfl, _⟩ := h; rfl) fun f cdv A outer s H vs Q E hr h => ?_
  have hu := hu60 hr
  obtain ⟨r, p, row, n, ps, rs, rfl, hR, hP, hA, hp, hn, hL, k⟩ := h
  have hrl : row.length = n := by rw [hp.length_eq, List.length_range]
  refine ⟨_, (@pss_cons _ _ _ _ _ (ps_set (i := 2) sc.nd rfl (Or.inl rfl) (pe_op op_mulA (pe_lst (pa_cons pe_int pa_nil)) (pe_callB (callLen K) rfl B.len PySem.boot_len (pa_cons (pv 0) pa_nil))))
      (@pss_cons _ _ _ _ _ (ps_for PassesOwn.never rfl (piL K (pv 0)) (pg_name (i := 3) sc.nd rfl (Or.inl rfl))
      (@pss_cons _ _ _ _ _ (ps_asg (pe_op op_shl pe_int (pv 3)) (pg_sub (pv 2) (pv 3) set_list))
      (@pss_one _ _ _ (ps_for PassesOwn.never rfl (piL K (pv 1)) (pgT K (n := 2) rfl (pgs_cons (pg_name (i := 4) sc.nd rfl (Or.inl rfl)) (pgs_cons (pg_name (i := 5) sc.nd rfl (Or.inl rfl)) pgs_nil)))
      (@pss_one _ _ _ (ps_if (pt_cmpR (op_eqA K hu) (pv 5) (pv 3) (nomark _))
      (@pss_one _ _ _ (ps_asg (pe_op op_or (pe_ix (ixL K) (pv 2) (pv 3) (fun _ _ => rfl)) (pe_ix (ixL K) (pv 2) (pv 4) (fun _ _ => rfl))) (pg_sub (pv 2) (pv 3) set_list)))
      pss_nil))))))
      (@pss_one _ _ _ (ps_ret (pv 2))))), ?_⟩
  walk_at "rd"
  refine ⟨by rw [sizeLine_eq]; decide, ?_⟩
  intro z hp_z
  generalize hq_z : upd _ z _ = H1
  have s_H1 : Same _ H1 := hq_z ▸ Same.upd hp_z
  have e_H1 : H1 z = some _ := hq_z ▸ upd_same
  clear hq_z
  refine ⟨_, .inl (s_H1.seq hR), _, e_H1, by omega, by rw [nv_len]; omega, by rw [nv_len]; simp; exact Nat.le_of_lt (small1000 (by omega)), ?_⟩
  intro l hp_l
  generalize hq_l : upd _ l _ = H2
  have s_H2 : Same _ H2 := hq_l ▸ Same.upd hp_l
  have e_H2 : H2 l = some _ := hq_l ▸ upd_same
  clear hq_l
  rw [nv_len, Int.toNat_natCast, hrl] at e_H2
  have e0 : (List.replicate n [V.int 0]).flatten = nv (List.replicate n 0) := by
    rw [← nv_rep]; simp
  rw [e0] at e_H2
  have hl0 : H l = none := s_H1.free hp_l
  have sH2 := s_H1.trans s_H2
  refine ⟨⟨_, sH2.seq hR⟩, ?_⟩
  refine fg_list (xs := nv row) (fun i σ' H' => Same H H' ∧ H' l = some (.lst (nv ((row.take i).foldl (OM.dRow ps) (List.replicate n 0)))) ∧ ∃ v3 v4 v5, σ' = [some (.ref r), some (.ref p), some (.ref l), v3, v4, v5]) ⟨sH2, e_H2, none, none, none, rfl⟩ (fun i σ' H' _ ⟨s, _⟩ => s.seq hR) ?_ ?_
  · rintro i x σ' H' ex ⟨s3, hl3, v3, v4, v5, rfl⟩
    obtain ⟨t, et, rfl⟩ := nv_some ex
    have htn : t < n := List.mem_range.mp (hp.mem_iff.mp (List.mem_of_getElem? et))
    have hlen : ((row.take i).foldl (OM.dRow ps) (List.replicate n 0)).length = n := by rw [OM.dRows_len, List.length_replicate]
    have e1 := OM.shl_nat 1 t
    rw [show ((1 : Nat) : Int) = 1 from rfl] at e1
    walk_at "rd"
    refine ⟨⟨by omega, by omega, by decide⟩, _, hl3, _, nv_ix (by rw [hlen]; exact htn), ⟨_, (s3.write hl0).seq hP⟩, ?_⟩
    rw [e1, nv_set]
    generalize hD : (row.take i).foldl (OM.dRow ps) (List.replicate n 0) = D at hl3 hlen
    refine fg_list (xs := rv rs) (fun j σ'' H'' => Same H H'' ∧ H'' l = some (.lst (nv ((ps.take j).foldl (OM.dStep t) (D.set t (1 <<< t))))) ∧ ∃ v4 v5, σ'' = [some (.ref r), some (.ref p), some (.ref l), some (.int t), v4, v5]) ⟨s3.write hl0, upd_same, v4, v5, rfl⟩ (fun i σ' H' _ ⟨s, _⟩ => s.seq hP) ?_ ?_
    · rintro j x σ'' H'' ex' ⟨s4, hl4, v4, v5, rfl⟩
      obtain ⟨rr, er, rfl⟩ := rv_some ex'
      obtain ⟨⟨a, b⟩, ep, tp⟩ := hA.getN er
      obtain ⟨ha, hb⟩ := hL.lt hp _ (List.mem_of_getElem? ep)
      dsimp only at ha hb tp
      have hlen2 : ((ps.take j).foldl (OM.dStep t) (D.set t (1 <<< t))).length = n := by rw [OM.dSteps_len, List.length_set, hlen]
      walk_at "rd"
      refine ⟨_, s4.tup tp, rfl, _, _, rfl, _, _, rfl, rfl, ?_⟩
      walk_at "rd"
      by_cases hbt : b = t
      · subst hbt
        rw [if_pos rfl]
        refine ⟨_, SqL.of hl4, _, nv_at (by rw [hlen2]; exact htn), _, SqL.of hl4, _, nv_at (by rw [hlen2]; exact ha), _, rfl, _, rfl, _, hl4, _, nv_ix (by rw [hlen2]; exact htn), s4.write hl0, ?_⟩
        rw [upd_same, OM.or_nat, nv_set, List.take_add_one, ep, Option.toList_some, List.foldl_append, List.foldl_cons, List.foldl_nil]
        unfold OM.dStep
        rw [if_pos rfl]
      · rw [if_neg hbt]
        refine ⟨s4, ?_⟩
        rw [hl4, List.take_add_one, ep, Option.toList_some, List.foldl_append, List.foldl_cons, List.foldl_nil]
        rw [OM.dStep_no hbt]
    · rintro σ'' H'' ⟨s4, hl4, v4, v5, rfl⟩
      have hpl : (rv rs).length = ps.length := by rw [rv_len, hA.len, List.length_map]
      rw [hpl, List.take_length] at hl4
      walk_at "rd"
      refine ⟨s4, ?_⟩
      rw [hl4, List.take_add_one, et, Option.toList_some, List.foldl_append, hD]
      rfl
  · rintro σ' H' ⟨s3, hl3, v3, v4, v5, rfl⟩
    rw [nv_len, List.take_length] at hl3
    walk_at "rd"
    exact k l H' s3 hl0 (by rw [hl3]; unfold OM.lawDowns; rw [hrl])
theorem two_of {n : Nat} (hn : 0 < n) (v : Int) : ∃ x : Nat, v % (n : Int) = (x : Int) ∧ x < n := by
  have c0 := Int.emod_nonneg v (b := (n : Int)) (by omega)
  have c1 := Int.emod_lt_of_pos v (b := (n : Int)) (by omega)
  obtain ⟨x, ex⟩ := Int.eq_ofNat_of_zero_le c0
  exact ⟨x, ex, by omega⟩
def sp_order23 (K : PySem.W.Frag) : Sp := fun vs H Q _ => ∃ a, ∃ ns : List Int, vs = [.ref a] ∧ SqL K H a (ns.map V.int) ∧ ns.length ≤ 63 ∧ ∀ (n : Nat) (ds : List Nat) l H', n ≤ 10 → OM.PO n ds → Same H H' → H l = none → H' l = some (.lst (nv ds)) → Q (.ref l) H'
theorem fn_law_order23 (B : Blt mg) (S : Src K mg "_law_order" s_law_order ["_law_script"]) (F_law_cell_at : Fn P w K mg base 1 "_law_cell_at" ["_law_script", "_law_k"] (sp_cell_at K)) (F_law_turn : Fn P w K mg base 2 "_law_turn" ["_law_script", "_law_many"] (sp_turn K)) (F_law_pairs : Fn P w K mg base 3 "_law_pairs" ["_law_script", "_law_row"] (sp_pairs K)) (F_law_downs : Fn P w K mg base 1 "_law_downs" ["_law_row", "_law_pairs_here"] (sp_downs K)) : Fn P w K mg base 4 "_law_order" ["_law_script"] (sp_order23 K) := by
  have sc : FnScope ["_law_script", "_law_first", "_law_many", "_law_row"] ["_law_script"] (defScope s_law_order) := ⟨rfl, rfl, rfl, by decide +kernel, rfl, by decide +kernel, by decide +kernel⟩
  refine S.fn sc (fun vs H Q E h => by obtain ⟨a, ns, rfl, _⟩ := h; rfl) fun f cdv A outer s H vs Q E hr h => ?_
  have hu := hu60 hr
  obtain ⟨a, ns, rfl, hS, hlen, k⟩ := h
  refine ⟨_, (@pss_cons _ _ _ _ _ (ps_set (i := 1) sc.nd rfl (Or.inl rfl) (pe_callF F_law_cell_at (hr.mono (by decide)) rfl (pa_cons (pv 0) (pa_cons pe_int pa_nil))))
      (@pss_cons _ _ _ _ _ (ps_set (i := 2) sc.nd rfl (Or.inl rfl) (pe_op op_mod (pv 1) pe_int))
      (@pss_cons _ _ _ _ _ (ps_if (pt_cmpR (op_eqA K hu) (pe_op op_mod (pe_op op_fdiv (pv 1) pe_int) pe_int) pe_int (nomark _))
      (@pss_one _ _ _ (ps_set (i := 2) sc.nd rfl (Or.inl rfl) (pe_op op_addA pe_int (pe_op op_mod (pe_op op_fdiv (pv 1) pe_int) pe_int))))
      pss_nil)
      (@pss_cons _ _ _ _ _ (ps_set (i := 3) sc.nd rfl (Or.inl rfl) (pe_callF F_law_turn (hr.mono (by decide)) rfl (pa_cons (pv 0) (pa_cons (pv 2) pa_nil))))
      (@pss_one _ _ _ (ps_ret (pe_callF F_law_downs (hr.mono (by decide)) rfl (pa_cons (pv 3) (pa_cons (pe_callF F_law_pairs (hr.mono (by decide)) rfl (pa_cons (pv 0) (pa_cons (pv 3) pa_nil))) pa_nil))))))))), ?_⟩
  refine cut3 (fun σ' H1 => H1 = H ∧ ∃ (n : Nat) (v1 : Option V), n ≤ 10 ∧ σ' = [some (.ref a), v1, some (.int n), none]) (fun N hN => ?_) ?_
  · walk_at "rd"
    refine ⟨a, ns, 0, rfl, hS, by omega, ?_⟩
    walk_at "rd"
    have b1 := Int.emod_nonneg (cell ns 0) (b := 8) (by decide)
    have b2 := Int.emod_lt_of_pos (cell ns 0) (b := 8) (by decide)
    have b3 := Int.emod_nonneg (cell ns 0 / 128) (b := 3) (by decide)
    have b4 := Int.emod_lt_of_pos (cell ns 0 / 128) (b := 3) (by decide)
    refine ⟨by decide, ⟨by decide, by decide⟩, by decide, ?_⟩
    by_cases hc : cell ns 0 / 8 % 16 = 1
    · rw [if_pos hc]
      obtain ⟨n, en⟩ := Int.eq_ofNat_of_zero_le b3
      refine ⟨⟨by decide, by decide⟩, by decide, hN _ _ ⟨rfl, 8 + n, some (.int (cell ns 0)), by omega, ?_⟩⟩
      rw [en]; push_cast; rfl
    · rw [if_neg hc]
      obtain ⟨n, en⟩ := Int.eq_ofNat_of_zero_le b1
      refine hN _ _ ⟨rfl, n, some (.int (cell ns 0)), by omega, ?_⟩
      rw [en]
  rintro σ' H1 ⟨rfl, n, v1, hn, rfl⟩
  walk_at "rd"
  refine ⟨a, ns, n, rfl, hS, by omega, fun row lr H2 hp s2 hlr0 hlr => ?_⟩
  walk_at "rd"
  refine ⟨a, ns, lr, row, n, rfl, s2.seq hS, hlen, SqL.of hlr, hp, by omega, fun ps rs lp H3 hL hps s3 hlp0 hlp hA => ?_⟩
  refine ⟨lr, lp, row, n, ps, rs, rfl, SqL.of (s3 _ _ hlr), SqL.of hlp, hA, hp, by omega, hL, fun d H4 s4 hd0 hd => ?_⟩
  have s24 := (s2.trans s3)
  exact k n _ d H4 hn ((OM.lawDowns_downs hp hL).ro hp hL).po (s24.trans s4) (s24.free hd0) hd
theorem perm_range {row : List Nat} {n : Nat} (h1 : row.Nodup) (h2 : ∀ x ∈ row, x < n) (h3 : row.length = n) : row.Perm (List.range n) := by
  have hm : ∀ x, x < n → x ∈ row := fun x hx => by
    apply Classical.byContradiction
    intro hno
    have := nodup_len n (x :: row) (List.nodup_cons.mpr ⟨hno, h1⟩) (fun y hy => (List.mem_cons.mp hy).elim (fun z => by rw [z]; exact hx) (h2 y))
    rw [List.length_cons] at this
    omega
  have key : ∀ (xs ys : List Nat), xs.Nodup → ys.Nodup → (∀ x, x ∈ xs ↔ x ∈ ys) → xs.Perm ys := by
    intro xs
    induction xs with
    | nil =>
      intro ys _ _ h
      have : ys = [] := List.eq_nil_iff_forall_not_mem.mpr fun x hx => by have := (h x).mpr hx; cases this
      rw [this]
    | cons x xs ih =>
      intro ys hx hy h
      obtain ⟨hx1, hx2⟩ := List.nodup_cons.mp hx
      have hxy := (h x).mp List.mem_cons_self
      have hp := List.perm_cons_erase hxy
      refine (List.Perm.cons x (ih (ys.erase x) hx2 (List.Nodup.sublist List.erase_sublist hy) fun z => ?_)).trans hp.symm
      constructor
      · intro hz
        have hne : z ≠ x := fun q => hx1 (q ▸ hz)
        exact (List.mem_erase_of_ne hne).mpr ((h z).mp (List.mem_cons_of_mem _ hz))
      · intro hz
        have hzy := List.mem_of_mem_erase hz
        have hne : z ≠ x := fun q => by
          subst q
          exact (List.Nodup.not_mem_erase hy) hz
        exact (List.mem_cons.mp ((h z).mpr hzy)).resolve_left hne
  exact key row (List.range n) h1 List.nodup_range fun x => ⟨fun hx => List.mem_range.mpr (h2 x hx), fun hx => hm x (List.mem_range.mp hx)⟩
def sp_way (K : PySem.W.Frag) : Sp := fun vs H Q _ => ∃ (a d : Addr) (ns : List Int) (ds : List Nat) (n : Nat) (i : Int), vs = [.ref a, .ref d, .int i] ∧ SqL K H a (ns.map V.int) ∧ SqL K H d (nv ds) ∧ OM.PO n ds ∧ n ≤ 10 ∧ 0 ≤ i ∧ i < 2 ^ 20 ∧ ∀ row l H', OM.Way n ds row → Same H H' → H l = none → H' l = some (.lst (nv row)) → Q (.ref l) H'
def freeL (n : Nat) (ds row : List Nat) (laid : Nat) : List Nat := (List.range n).filter fun t => !decide (t ∈ row) && decide (ds.getD t 0 ||| laid = laid ||| 1 <<< t)
theorem free_ne {n : Nat} {ds row : List Nat} (R : OM.PO n ds) (hl : row.length < n) (hnd : row.Nodup) (hlt : ∀ x ∈ row, x < n) : freeL n ds row (OM.bits row) ≠ [] := by
  have hex : ∃ k, k < n ∧ k ∉ row := by
    apply Classical.byContradiction
    intro hno
    have := OM.nodup_le (xs := List.range n) (ys := row) List.nodup_range fun x hx => Classical.byContradiction fun hx2 => hno ⟨x, List.mem_range.mp hx, hx2⟩
    rw [List.length_range] at this
    omega
  obtain ⟨k, hk, hk2⟩ := hex
  obtain ⟨t, ht, hS, hm⟩ := R.least (fun t => t ∉ row) _ k (Nat.le_refl _) hk hk2
  refine List.ne_nil_of_mem (a := t) ?_
  unfold freeL
  rw [List.mem_filter, List.mem_range]
  refine ⟨ht, ?_⟩
  have e : ds.getD t 0 ||| OM.bits row = OM.bits row ||| 1 <<< t := by
    apply Nat.eq_of_testBit_eq
    intro x
    rw [Nat.testBit_or, Nat.testBit_or, Bool.eq_iff_iff, Bool.or_eq_true, Bool.or_eq_true, OM.bit_one, OM.testBit_bits, decide_eq_true_iff]
    constructor
    · rintro (h | h)
      · by_cases z : x = t
        · exact .inr z
        · exact .inl (Classical.byContradiction fun hn => hm x h z hn)
      · exact .inl h
    · rintro (h | rfl)
      · exact .inr h
      · exact .inl (R.refl x ht)
  rw [decide_eq_true e, decide_eq_false hS]; rfl
theorem free_lays {n : Nat} {ds row : List Nat} {t : Nat} (h : t ∈ freeL n ds row (OM.bits row)) (L : OM.Lays ds row) : t < n ∧ t ∉ row ∧ OM.Lays ds (row ++ [t]) := by
  unfold freeL at h
  rw [List.mem_filter, List.mem_range] at h
  obtain ⟨h1, h2⟩ := h
  simp only [Bool.and_eq_true, Bool.not_eq_true', decide_eq_false_iff_not, decide_eq_true_eq] at h2
  refine ⟨h1, h2.1, fun i u x hu hb hne => ?_⟩
  by_cases hi : i < row.length
  · rw [List.getElem?_append_left hi] at hu
    obtain ⟨j, hj, ej⟩ := L i u x hu hb hne
    exact ⟨j, hj, by rw [List.getElem?_append_left (by omega)]; exact ej⟩
  · have hi2 : i = row.length := by
      have := (List.getElem?_eq_some_iff.mp hu).1
      rw [List.length_append] at this
      simp at this
      omega
    subst hi2
    rw [List.getElem?_append_right (Nat.le_refl _), Nat.sub_self] at hu
    cases hu
    have hx : (OM.bits row ||| 1 <<< t).testBit x = true := by rw [← h2.2, Nat.testBit_or, hb]; rfl
    rw [Nat.testBit_or, Bool.or_eq_true, OM.bit_one, OM.testBit_bits, decide_eq_true_iff] at hx
    obtain ⟨j, hj⟩ := List.mem_iff_getElem?.mp (hx.resolve_right hne)
    have hjl := (List.getElem?_eq_some_iff.mp hj).1
    exact ⟨j, hjl, by rw [List.getElem?_append_left hjl]; exact hj⟩
theorem fn_law_way (B : Blt mg) (S : Src K mg "_law_way" s_law_way ["_law_script", "_law_downs_here", "_law_at"]) (F_law_drawn : Fn P w K mg base 2 "_law_drawn" ["_law_script", "_law_k"] (sp_drawn K)) : Fn P w K mg base 3 "_law_way" ["_law_script", "_law_downs_here", "_law_at"] (sp_way K) := by
  have sc : FnScope ["_law_script", "_law_downs_here", "_law_at", "_law_row", "_law_laid", "_law_number", "_law_k", "_law_free", "_law_thing"] ["_law_script", "_law_downs_here", "_law_at"] (defScope s_law_way) := ⟨rfl, rfl, rfl, by decide +kernel, rfl, by decide +kernel, by decide +kernel⟩
  refine S.fn sc (fun vs H Q E h => by obtain ⟨a, d, ns, ds, n, i, rfl, _⟩ := h; rfl) fun f cdv A outer s H vs Q E hr h => ?_
  have hu := hu60 hr
  obtain ⟨a, d, ns, ds, n, i0, rfl, hS, hD, R, hn, hi0, hi1, k⟩ := h
  have hdl := R.len
  refine ⟨_, (@pss_cons _ _ _ _ _ (ps_set (i := 3) sc.nd rfl (Or.inr rfl) (pe_lst pa_nil))
      (@pss_cons _ _ _ _ _ (ps_set (i := 4) sc.nd rfl (Or.inr rfl) pe_int)
      (@pss_cons _ _ _ _ _ (ps_set (i := 5) sc.nd rfl (Or.inl rfl) (pe_callF F_law_drawn (hr.mono (by decide)) rfl (pa_cons (pv 0) (pa_cons (pv 2) pa_nil))))
      (@pss_cons _ _ _ _ _ (ps_for PassesOwn.never rfl (pi_range1 rfl B.range (pa_cons (pe_callB (callLen K) rfl B.len PySem.boot_len (pa_cons (pv 1) pa_nil)) pa_nil)) (pg_name (i := 6) sc.nd rfl (Or.inl rfl))
      (@pss_cons _ _ _ _ _ (ps_setC (i := 7) sc.nd rfl (Or.inl rfl) (compOk (M := ["_law_thing", "_law_downs_here", "_law_row", "_law_laid"]) (nt := 1) (cap := [1, 3, 4]) (defScope s_law_way) ["_law_script", "_law_downs_here", "_law_at", "_law_row", "_law_laid", "_law_number", "_law_k", "_law_free", "_law_thing"] rfl rfl rfl (by decide +kernel) (by decide +kernel) (by decide +kernel) (fun j hj => match j, hj with | 0, _ => ⟨_, _, rfl, rfl, rfl, rfl⟩ | 1, _ => ⟨_, _, rfl, rfl, rfl, rfl⟩ | 2, _ => ⟨_, _, rfl, rfl, rfl, rfl⟩) rfl) rfl (pi_range1 rfl B.range (pa_cons (pe_callB (callLen K) rfl B.len PySem.boot_len (pa_cons (pv 1) pa_nil)) pa_nil)) (fun cl C fp s' H' => (pg_name (i := 0) (show (["_law_thing", "_law_downs_here", "_law_row", "_law_laid"] : List Str).Nodup by decide +kernel) rfl (Or.inl rfl))) (fun cl C fp s' H' => (pts_one (PW.pt (pw_and (pt_cmpR (opNotIn K) (pv 0) (pv 2) rfl) (pw_and1 (pt_cmpR (op_eqA K hu) (pe_op op_or (pe_ix (ixL K) (pv 1) (pv 0) (fun _ _ => rfl)) (pv 3)) (pe_op op_or (pv 3) (pe_op op_shl pe_int (pv 0))) (nomark _))))))) (fun cl C fp s' H' => (pv 0)))
      (@pss_cons _ _ _ _ _ (ps_set (i := 8) sc.nd rfl (Or.inl rfl) (pe_ix (ixL K) (pv 7) (pe_op op_mod (pv 5) (pe_callB (callLen K) rfl B.len PySem.boot_len (pa_cons (pv 7) pa_nil))) (fun _ _ => rfl)))
      (@pss_cons _ _ _ _ _ (ps_set (i := 5) sc.nd rfl (Or.inl rfl) (pe_op op_fdiv (pv 5) (pe_callB (callLen K) rfl B.len PySem.boot_len (pa_cons (pv 7) pa_nil))))
      (@pss_cons _ _ _ _ _ (ps_expr (peBm K PySem.F.plainAttrs_list PySem.F.slot_list_append PySem.F.type_list_append mt_append (pv 3) (pa_cons (pv 8) pa_nil)))
      (@pss_one _ _ _ (ps_set (i := 4) sc.nd rfl (Or.inr rfl) (pe_op op_or (pv 4) (pe_op op_shl pe_int (pv 8))))))))))
      (@pss_one _ _ _ (ps_ret (pv 3))))))), ?_⟩
  walk_at "rd"
  refine ⟨by simp, ?_⟩
  intro l hp_l
  generalize hq_l : upd _ l _ = H1
  have s_H1 : Same _ H1 := hq_l ▸ Same.upd hp_l
  have e_H1 : H1 l = some _ := hq_l ▸ upd_same
  clear hq_l
  refine ⟨a, ns, i0, rfl, s_H1.seq hS, hi0, hi1, fun v => ?_⟩
  walk_at "rd"
  refine ⟨_, .inl (s_H1.seq hD), ?_⟩
  rw [nv_len, hdl]
  refine ⟨by omega, by omega, ?_⟩
  rw [Int.toNat_natCast]
  refine fg_rangeR (fun i σ' H' => Same H H' ∧ ∃ (row : List Nat) (v5 : Int) (v6 v7 v8 : Option V), row.Nodup ∧ (∀ x ∈ row, x < n) ∧ row.length = i ∧ OM.Lays ds row ∧ H' l = some (.lst (nv row)) ∧ σ' = [some (.ref a), some (.ref d), some (.int i0), some (.ref l), some (.int (OM.bits row : Nat)), some (.int v5), v6, v7, v8])
    ⟨s_H1, [], v, none, none, none, .nil, by simp, rfl, fun i t x h => by simp at h, e_H1, rfl⟩ ?_ ?_
  · rintro i σ' H' hi ⟨sm, row, v5, v6, v7, v8, hnd, hlt, hrl, hL, hl, rfl⟩ N' R' hN'
    have hne := free_ne R (by omega) hnd hlt
    refine cut1 (fun σ2 H2 => Same H' H2 ∧ ∃ y v6, H' y = none ∧ H2 y = some (.lst (nv (freeL n ds row (OM.bits row)))) ∧ σ2 = [some (.ref a), some (.ref d), some (.int i0), some (.ref l), some (.int (OM.bits row : Nat)), some (.int v5), v6, some (.ref y), v8]) (fun N hN => ?_) ?_
    · walk_at "rd"
      refine ⟨_, .inl (sm.seq hD), ?_⟩
      rw [nv_len, hdl]
      refine ⟨by omega, by omega, fun y hy => ?_⟩
      rw [Int.toNat_natCast]
      refine cg_by (H₀ := H') jw_range (fun j acc _ => acc = nv (freeL j ds row (OM.bits row))) (Nat.le_of_lt (small1000 (by omega))) (fun _ _ _ _ _ h => h) hy rfl ?_ ?_
      · intro j m x acc pre H2 rx hpre ct
        subst rx
        have hj := ct.hi
        match pre, hpre with
        | [p0], _ =>
        walk_at "rd"
        rw [Int.zero_add]
        refine ⟨_, .inl (SqL.of (ct.sm _ _ hl)), rfl, flat_nv _, ?_⟩
        rw [in_nv]
        have hacc := ct.hp
        by_cases hb : j ∈ row
        · rw [decide_eq_true hb, if_neg (by decide)]
          refine ct.no (Same.refl _) ?_ (pre := [_]) rfl rfl
          rw [hacc]
          unfold freeL
          rw [OM.range_neg (by show (!decide (j ∈ row) && _) = false; rw [decide_eq_true hb]; rfl)]
        · rw [decide_eq_false hb, if_pos (by decide)]
          refine ⟨_, (sm.trans ct.sm).seq hD, _, nv_at (by omega), _, rfl, ⟨by omega, by omega, by decide⟩, ?_⟩
          rw [shl1, OM.or_nat, OM.or_nat]
          by_cases he : ds.getD j 0 ||| OM.bits row = OM.bits row ||| 1 <<< j
          · rw [if_pos (by exact_mod_cast he)]
            refine ct.yes (Same.refl _) ?_ (pre := [_]) rfl rfl
            rw [hacc]
            unfold freeL
            rw [OM.range_pos (by show (!decide (j ∈ row) && decide (ds.getD j 0 ||| OM.bits row = OM.bits row ||| 1 <<< j)) = true; rw [decide_eq_false hb, decide_eq_true he]; rfl), nv_app]
          · rw [if_neg (by exact_mod_cast he)]
            refine ct.no (Same.refl _) ?_ (pre := [_]) rfl rfl
            rw [hacc]
            unfold freeL
            rw [OM.range_neg (by show (!decide (j ∈ row) && decide (ds.getD j 0 ||| OM.bits row = OM.bits row ||| 1 <<< j)) = false; rw [decide_eq_false hb, decide_eq_false he]; rfl)]
      · intro acc H2 s2 hy2 e
        subst e
        walk_at "rd"
        exact hN _ _ ⟨s2, y, _, hy, hy2, rfl⟩
    rintro σ2 H2 ⟨s2, y, v6, hy0, hy2, rfl⟩
    have hpos := List.length_pos_iff.mpr hne
    obtain ⟨q, eq, hq⟩ := two_of hpos v5
    have hft : ∀ t ∈ freeL n ds row (OM.bits row), _ := fun t ht => free_lays ht hL
    have hfl : (freeL n ds row (OM.bits row)).length ≤ n := Nat.le_trans (List.length_filter_le _ _) (by rw [List.length_range]; exact Nat.le_refl _)
    generalize freeL n ds row (OM.bits row) = fr at hy2 hpos eq hq hft hfl
    have htq := hft (fr.getD q 0) (by rw [OM.getD_lt hq]; exact List.getElem_mem hq)
    have hat := nv_at hq
    generalize fr.getD q 0 = t at htq hat
    obtain ⟨ht1, ht2, ht3⟩ := htq
    walk_at "rd"
    refine ⟨_, .inl (SqL.of hy2), ?_⟩
    rw [nv_len, eq]
    refine ⟨by omega, _, SqL.of hy2, _, hat, _, .inl (SqL.of hy2), ?_⟩
    rw [nv_len]
    refine ⟨⟨by omega, by omega⟩, .inl ⟨_, SqL.of (s2 _ _ hl)⟩, _, s2 _ _ hl, by rw [nv_len]; exact small1000 (by omega), ?_⟩
    refine ⟨_, rfl, ⟨by omega, by omega, by decide⟩, hN' _ _ ⟨(sm.trans s2).write hp_l, row ++ [t], _, _, _, _, ?_, fun x hx => ?_, by rw [List.length_append, hrl]; rfl, ht3, by rw [upd_same, nv_app], by rw [shl1, OM.or_nat, OM.bits_snoc]⟩⟩
    · rw [List.nodup_append]
      refine ⟨hnd, by simp, fun x hx y hy z => ?_⟩
      rw [List.mem_singleton] at hy
      subst hy
      subst z
      exact ht2 hx
    · rcases List.mem_append.mp hx with h | h
      · exact hlt x h
      · rw [List.mem_singleton] at h; rw [h]; exact ht1
  · rintro σ' H' ⟨sm, row, v5, v6, v7, v8, hnd, hlt, hrl, hL, hl, rfl⟩
    walk_at "rd"
    exact k row l H' ⟨perm_range hnd hlt hrl, hL⟩ sm hp_l hl
theorem ready_iff {n : Nat} {ds : List Nat} {T t : Nat} (R : OM.PO n ds) (ht : t < n) : t ∈ readyL n ds T ↔ T.testBit t = false ∧ ds.getD t 0 ||| T = T ||| 1 <<< t := by
  rw [mem_readyL]
  constructor
  · rintro ⟨_, h⟩
    refine ⟨((h t).mpr rfl).2, Nat.eq_of_testBit_eq fun x => ?_⟩
    rw [Nat.testBit_or, Nat.testBit_or, Nat.one_shiftLeft, Nat.testBit_two_pow]
    cases hT : T.testBit x with
    | true => rw [Bool.or_true, Bool.true_or]
    | false =>
      rw [Bool.or_false, Bool.false_or]
      by_cases e : t = x
      · subst e; rw [((h t).mpr rfl).1, decide_eq_true rfl]
      · rw [decide_eq_false e]
        exact Bool.eq_false_iff.mpr fun z => e ((h x).mp ⟨z, hT⟩).symm
  · rintro ⟨h1, h2⟩
    refine ⟨ht, fun x => ⟨fun ⟨a, b⟩ => ?_, fun e => by subst e; exact ⟨R.refl x ht, h1⟩⟩⟩
    have := congrArg (fun z => z.testBit x) h2
    simp only [Nat.testBit_or, a, b, Nat.one_shiftLeft, Nat.testBit_two_pow] at this
    by_cases e : t = x
    · exact e.symm
    · rw [decide_eq_false e] at this; cases this
def sp_laysI (K : PySem.W.Frag) : Sp := fun vs H Q _ => ∃ (r d : Addr) (row : List Int) (ds : List Nat) (n : Nat), vs = [.ref r, .ref d] ∧ SqL K H r (row.map V.int) ∧ SqL K H d (nv ds) ∧ OM.PO n ds ∧ n ≤ 128 ∧ ∀ b, (b = true ↔ IsWay n ds row) → Q (.bl b) H
theorem fn_law_laysI (B : Blt mg) (S : Src K mg "_law_lays" s_law_lays ["_law_row", "_law_downs_here"]) : Fn P w K mg base 1 "_law_lays" ["_law_row", "_law_downs_here"] (sp_laysI K) := by
  have sc : FnScope ["_law_row", "_law_downs_here", "_law_laid", "_law_thing"] ["_law_row", "_law_downs_here"] (defScope s_law_lays) := ⟨rfl, rfl, rfl, by decide +kernel, rfl, by decide +kernel, by decide +kernel⟩
  refine S.fn sc (fun vs H Q E h => by obtain ⟨r, d, row, ds, n, rfl, _⟩ := h; rfl) fun f cdv A outer s H vs Q E hr h => ?_
  have hu := hu60 hr
  obtain ⟨r, d, row, ds, n, rfl, hR, hD, R, hn, k⟩ := h
  have hdl := R.len
  refine ⟨_, (@pss_cons _ _ _ _ _ (ps_set (i := 2) sc.nd rfl (Or.inl rfl) pe_int)
      (@pss_cons _ _ _ _ _ (ps_for PassesOwn.never rfl (piL K (pv 0)) (pg_name (i := 3) sc.nd rfl (Or.inl rfl))
      (@pss_cons _ _ _ _ _ (ps_if (PW.pt (pw_or (pt_cmpR op_lt (pv 3) pe_int (nomark _)) (pw_or (pt_cmpR op_ge (pv 3) (pe_callB (callLen K) rfl B.len PySem.boot_len (pa_cons (pv 1) pa_nil)) (nomark _)) (pw_or1 (pt_cmpR (op_eqA K hu) (pe_op op_and (pe_op op_shr (pv 2) (pv 3)) pe_int) pe_int (nomark _))))))
      (@pss_one _ _ _ (ps_ret pe_bl))
      pss_nil)
      (@pss_cons _ _ _ _ _ (ps_if (pt_cmpR (op_neA K hu) (pe_op op_or (pe_ix (ixL K) (pv 1) (pv 3) (fun _ _ => rfl)) (pv 2)) (pe_op op_or (pv 2) (pe_op op_shl pe_int (pv 3))) (nomark _))
      (@pss_one _ _ _ (ps_ret pe_bl))
      pss_nil)
      (@pss_one _ _ _ (ps_set (i := 2) sc.nd rfl (Or.inl rfl) (pe_op op_or (pv 2) (pe_op op_shl pe_int (pv 3))))))))
      (@pss_one _ _ _ (ps_ret (pe_cmpR (op_eqA K hu) (pe_callB (callLen K) rfl B.len PySem.boot_len (pa_cons (pv 0) pa_nil)) (pe_callB (callLen K) rfl B.len PySem.boot_len (pa_cons (pv 1) pa_nil)) (nomark _)))))), ?_⟩
  walk_at "rd"
  refine ⟨⟨_, hR⟩, ?_⟩
  refine fg_listR (xs := row.map V.int) (fun i σ' H' => H' = H ∧ ∃ (T : Nat) (v3 : Option V), (GoesI (readyL n ds) 0 row ↔ GoesI (readyL n ds) T (row.drop i)) ∧ σ' = [some (.ref r), some (.ref d), some (.int (T : Nat)), v3]) ⟨rfl, 0, none, Iff.rfl, rfl⟩ (fun i σ' H' _ ⟨e, _⟩ => e ▸ hR) ?_ ?_
  · rintro i x σ' H' ex ⟨rfl, T, v3, hG, rfl⟩ N' R' hN'
    obtain ⟨x, ex', rfl⟩ : ∃ z, row[i]? = some z ∧ x = .int z := by
      rw [List.getElem?_map] at ex
      cases e : row[i]? with
      | none => rw [e] at ex; cases ex
      | some v => rw [e] at ex; cases ex; exact ⟨v, rfl, rfl⟩
    have ed : row.drop i = x :: row.drop (i + 1) := by
      obtain ⟨hi, e⟩ := List.getElem?_eq_some_iff.mp ex'
      rw [List.drop_eq_getElem_cons hi, e]
    rw [ed] at hG
    clear ed ex ex'
    have no : ¬ (∃ t : Nat, x = t ∧ t ∈ readyL n ds T) → Q (.bl false) H' := fun h => k false ⟨fun z => (by cases z), fun z => absurd (goesI_head (hG.mp ((isWay_iff R).mp z).1)) h⟩
    rw [ap_gname]
    refine cut1 (fun σ2 H2 => H2 = H' ∧ (∃ t : Nat, x = t ∧ t < n ∧ T.testBit t = false) ∧ σ2 = [some (.ref r), some (.ref d), some (.int (T : Nat)), some (.int x)]) (fun N hN => ?_) ?_
    · walk_at "ds"
      refine ⟨_, rfl, _, _, rfl, rfl, _, rfl, ?_⟩
      by_cases c1 : x < 0
      · exact iteTT (decide_eq_true c1) (iteTT rfl (no fun ⟨t, e, _⟩ => by omega))
      refine iteFF (decide_eq_false c1) ?_
      refine ⟨_, rfl, _, rfl, _, _, rfl, .inl hD, _, _, rfl, rfl, _, rfl, ?_⟩
      rw [nv_len, hdl]
      by_cases c2 : (n : Int) ≤ x
      · exact iteTT (decide_eq_true c2) (iteTT rfl (no fun ⟨t, e, ht⟩ => by have := (mem_readyL.mp ht).1; omega))
      refine iteFF (decide_eq_false c2) ?_
      obtain ⟨t, rfl⟩ : ∃ t : Nat, x = t := ⟨x.toNat, by omega⟩
      have ht : t < n := by omega
      refine ⟨_, rfl, _, rfl, _, _, rfl, rfl, Int.natCast_nonneg _, ?_⟩
      refine ⟨_, _, rfl, rfl, .inl ⟨rfl, _, rfl, ?_⟩⟩
      rw [OM.bit_at]
      cases hb : T.testBit t with
      | true =>
        refine iteTT (decide_eq_true (by rw [if_pos rfl])) (no fun ⟨u, e, h⟩ => ?_)
        have : t = u := by omega
        rw [← this] at h
        rw [((ready_iff R ht).mp h).1] at hb
        cases hb
      | false => exact iteFF (decide_eq_false (by rw [if_neg (by decide)]; intro z; injection z with z; cases z)) (hN _ _ ⟨rfl, ⟨t, rfl, ht, hb⟩, rfl⟩)
    rintro σ2 H2 ⟨rfl, ⟨t, rfl, ht, hb⟩, rfl⟩
    have one : (∃ u : Nat, (t : Int) = u ∧ u ∈ readyL n ds T) → t ∈ readyL n ds T := fun ⟨u, e, h⟩ => by
      have : t = u := by omega
      rw [this]; exact h
    walk_at "ds"
    refine ⟨_, rfl, _, rfl, _, _, _, _, rfl, rfl, hD, nv_at (by rw [hdl]; exact ht), _, rfl, _, _, rfl, rfl, _, rfl, _, rfl, _, _, rfl, rfl, ⟨by omega, by omega, by decide⟩, _, _, rfl, rfl, .inl ⟨rfl, _, rfl, ?_⟩⟩
    rw [shl1, OM.or_nat, OM.or_nat]
    by_cases e : ds.getD t 0 ||| T = T ||| 1 <<< t
    · rw [e]
      refine iteFF (by rw [decide_eq_true rfl]; rfl) ?_
      refine ⟨_, rfl, _, rfl, _, _, rfl, rfl, ⟨by omega, by omega, by decide⟩, _, _, rfl, rfl, ?_⟩
      rw [shl1, OM.or_nat]
      exact hN' _ _ ⟨rfl, _, _, hG.trans (goesI_cons ((ready_iff R ht).mpr ⟨hb, e⟩)), rfl⟩
    · refine iteTT (by rw [decide_eq_false fun z => e (by injection z with z; exact_mod_cast z)]; rfl) ?_
      exact no fun h => e ((ready_iff R ht).mp (one h)).2
  · rintro σ' H' ⟨rfl, T, v3, hG, rfl⟩
    walk_at "rd"
    refine ⟨_, .inl hR, _, .inl hD, ?_⟩
    rw [nv_len, List.length_map, R.len]
    refine k _ ?_
    rw [isWay_iff R, hG, List.length_map, List.drop_length]
    constructor
    · intro z
      exact ⟨⟨[], rfl, trivial⟩, by simpa using z⟩
    · intro z
      simpa using z.2
structure ErrK (K : PySem.W.Frag) (CO C : Addr) (ds : List Value) (bs : List Bool) : Prop where
  ob : ∃ bm, XObj K C bm ∧ (Value.ref C :: bm).contains (.ref CO) = true
  kt : XKit K C
  kd : KindsOf K C ds bs
theorem ErrK.ne {CO C C' : Addr} {d : Value} {ds : List Value} {bs bs' : List Bool} (h : ErrK K CO C (d :: ds) (true :: bs)) (h' : ErrK K CO C' (d :: ds) (false :: bs')) : C' ≠ C := fun e => by
  subst e
  have h1 : PySem.W.kitOne K (.ref C') d = some true := h.kd.1
  have h2 : PySem.W.kitOne K (.ref C') d = some false := h'.kd.1
  rw [h1] at h2
  cases h2
theorem ErrK.ne2 {CO C C' : Addr} {d0 d : Value} {ds : List Value} {b0 b0' : Bool} {bs bs' : List Bool} (h : ErrK K CO C (d0 :: d :: ds) (b0 :: true :: bs)) (h' : ErrK K CO C' (d0 :: d :: ds) (b0' :: false :: bs')) : C' ≠ C := fun e => by
  subst e
  have h1 : PySem.W.kitOne K (.ref C') d = some true := h.kd.2.1
  have h2 : PySem.W.kitOne K (.ref C') d = some false := h'.kd.2.1
  rw [h1] at h2
  cases h2
theorem b_err {tb : TB} {E : XK} {N : St → Hp → Prop} {σ : St} {H : Hp} (P : Addr → Hp → Prop) (hE : ∀ C H2, P C H2 → E (.ref C) none H2) (h : ∀ E' : XK, (∀ C H2, P C H2 → E' (.ref C) none H2) → tb E' N σ H) : tb E N σ H := h E hE
theorem ask_no {i k : Int} {t1 t : TB} {E : XK} {N : St → Hp → Prop} {σ : St} {H : Hp} (h0 : σ[0]? = some (some (.int i))) (h : i ≠ k) (q : t E N σ H) : bSeq (bIf (tTest (tOp (rOr rEq (rEqD K false)) (tVar 0) (tC (V.int k)))) t1 bNil) t E N σ H := by
  walk_at "rd"
  refine ⟨_, h0, rfl, ?_⟩
  rw [if_neg fun z => h (by injection z)]
  exact q
theorem ask_yes {i : Int} {t1 t : TB} {E : XK} {N : St → Hp → Prop} {σ : St} {H : Hp} (h0 : σ[0]? = some (some (.int i))) (q : t1 E (fun σ' H' => σ' = σ ∧ t E N σ H') σ H) : bSeq (bIf (tTest (tOp (rOr rEq (rEqD K false)) (tVar 0) (tC (V.int i)))) t1 bNil) t E N σ H := by
  walk_at "rd"
  refine ⟨_, h0, rfl, ?_⟩
  rw [if_pos rfl]
  exact q
theorem ask_last {i k : Int} {t1 : TB} {E : XK} {N : St → Hp → Prop} {σ : St} {H : Hp} (h0 : σ[0]? = some (some (.int i))) (q : i = k → t1 E N σ H) (q' : i ≠ k → N σ H) : bIf (tTest (tOp (rOr rEq (rEqD K false)) (tVar 0) (tC (V.int k)))) t1 bNil E N σ H := by
  walk_at "rd"
  refine ⟨_, h0, rfl, ?_⟩
  by_cases z : i = k
  · rw [if_pos (by rw [z])]; exact q z
  · rw [if_neg fun y => z (by injection y)]; exact q' z
theorem b_call {sp : Sp} {ta : TA} {E : XK} {N : St → Hp → Prop} {σ : St} {H : Hp} {vs : List V} (h : ∀ Q : List V → Hp → Prop, Q vs H → ta σ H Q) (q : sp vs H (fun _ H2 => N σ H2) E) : bCall sp ta E N σ H := h _ q
theorem ta2 {σ : St} {H : Hp} {x y : V} {Q : List V → Hp → Prop} (h1 : σ[1]? = some (some x)) (h2 : σ[2]? = some (some y)) (q : Q [x, y] H) : (tCons (tVar 1) (tCons (tVar 2) tNil)) σ H Q := by
  walk_at "rd"
  exact ⟨_, h1, _, h2, q⟩
theorem ta3 {σ : St} {H : Hp} {x y z : V} {Q : List V → Hp → Prop} (h1 : σ[1]? = some (some x)) (h2 : σ[2]? = some (some y)) (h3 : σ[3]? = some (some z)) (q : Q [x, y, z] H) : (tCons (tVar 1) (tCons (tVar 2) (tCons (tVar 3) tNil))) σ H Q := by
  walk_at "rd"
  exact ⟨_, h1, _, h2, _, h3, q⟩
theorem ta1 {σ : St} {H : Hp} {x : V} {Q : List V → Hp → Prop} (h1 : σ[1]? = some (some x)) (q : Q [x] H) : (tCons (tVar 1) tNil) σ H Q := by
  walk_at "rd"
  exact ⟨_, h1, q⟩
structure RowI (H : Hp) (r : Addr) (row : List Int) : Prop where
  at_ : H r = some (.lst (row.map V.int))
  few : row.length ≤ 190
  log : ∀ i ∈ row, i.natAbs.log2 < 1920
inductive Asked (K : PySem.W.Frag) (CT CN CW : Addr) (H : Hp) (d : Addr) : Nat → V → V → Option Addr → Prop
  | large {wd : Nat} {x y : V} {xs : List V} (hd : SqL K H d xs) (h1 : 10 < xs.length) (h2 : xs.length ≤ 200) (hw : wd < 6) : Asked K CT CN CW H d wd x y (some CT)
  | strange {i j : Int} {xs : List V} (hd : SqL K H d xs) (h2 : xs.length ≤ 10) (hi : i.natAbs.log2 < 1920) (hj : j.natAbs.log2 < 1920) (hs : ¬ ((0 ≤ i ∧ i < (xs.length : Nat)) ∧ 0 ≤ j ∧ j < (xs.length : Nat))) : Asked K CT CN CW H d 2 (.int i) (.int j) (some CN)
  | no {r : Addr} {y : V} {ds : List Nat} {row : List Int} {n : Nat} (hd : H d = some (.lst (nv ds))) (R : OM.PO n ds) (hn : n ≤ 10) (hr : RowI H r row) (hw : ¬ IsWay n ds row) : Asked K CT CN CW H d 0 (.ref r) y (some CW)
  | yes {r : Addr} {y : V} {ds row : List Nat} {n : Nat} (hd : H d = some (.lst (nv ds))) (R : OM.PO n ds) (hn : n ≤ 10) (hr : H r = some (.lst (nv row))) (hw : OM.Way n ds row) : Asked K CT CN CW H d 0 (.ref r) y none
  | nos {r q : Addr} {ds : List Nat} {row other : List Int} {n : Nat} (hd : H d = some (.lst (nv ds))) (R : OM.PO n ds) (hn : n ≤ 10) (hr : RowI H r row) (hq : RowI H q other) (hw : ¬ IsWay n ds row ∨ ¬ IsWay n ds other) : Asked K CT CN CW H d 1 (.ref r) (.ref q) (some CW)
  | yess {r q : Addr} {ds row other : List Nat} {n : Nat} (hd : H d = some (.lst (nv ds))) (R : OM.PO n ds) (hn : n ≤ 10) (hr : H r = some (.lst (nv row))) (hq : H q = some (.lst (nv other))) (hw : OM.Way n ds row) (hv : OM.Way n ds other) : Asked K CT CN CW H d 1 (.ref r) (.ref q) none
def kindL (CT CN : Addr) : Option Addr → List Bool
  | none => []
  | some C => if C = CT then [true, false, false, false, false, false, false, true] else if C = CN then [false, true, false, false, false, false, false, true] else [false, false, true, false, false, false, false, true]
structure ErrD (K : PySem.W.Frag) (CO CT CN CW : Addr) (kds : List Value) : Prop where
  t : ErrK K CO CT kds [true, false, false, false, false, false, false, true]
  n : ErrK K CO CN kds [false, true, false, false, false, false, false, true]
  w : ErrK K CO CW kds [false, false, true, false, false, false, false, true]
  tn : CN ≠ CT
  tw : CW ≠ CT
  nw : CW ≠ CN
theorem kl_t {CT CN : Addr} : kindL CT CN (some CT) = [true, false, false, false, false, false, false, true] := if_pos rfl
theorem kl_n {CT CN : Addr} (h : CN ≠ CT) : kindL CT CN (some CN) = [false, true, false, false, false, false, false, true] := (if_neg h).trans (if_pos rfl)
theorem kl_w {CT CN CW : Addr} (h : CW ≠ CT) (h' : CW ≠ CN) : kindL CT CN (some CW) = [false, false, true, false, false, false, false, true] := (if_neg h).trans (if_neg h')
theorem ErrD.of {CO CT CN CW C d : Addr} {kds : List Value} {wd : Nat} {x y : V} {H : Hp} (D : ErrD K CO CT CN CW kds) (h : Asked K CT CN CW H d wd x y (some C)) : ErrK K CO C kds (kindL CT CN (some C)) := by
  cases h with
  | large => rw [kl_t]; exact D.t
  | strange => rw [kl_n D.tn]; exact D.n
  | no => rw [kl_w D.tw D.nw]; exact D.w
  | nos => rw [kl_w D.tw D.nw]; exact D.w
def sp_asked (K : PySem.W.Frag) (CT CN CW : Addr) : Sp := fun vs H Q _ => ∃ (wd : Nat) (d : Addr) (x y : V) (r : Option Addr), vs = [.int (wd : Nat), .ref d, x, y] ∧ Asked K CT CN CW H d wd x y r ∧ ∀ l H', Same H H' → H l = none → H' l = some (.lst ((kindL CT CN r).map V.bl)) → Q (.ref l) H'
theorem fn_law_asked {A_OrderError CT CN CW : Addr} {bmO kds : List Value} (B : Blt mg) (S : Src K mg "_law_asked" s_law_asked ["_law_way_here", "_law_downs_here", "_law_one", "_law_other"]) (F_law_kinds : Fn P w K mg base 1 "_law_kinds" ["_law_kept"] (sp_kinds K kds)) (M_OrderError : mg "OrderError" = some (.ref A_OrderError)) (XO_OrderError : XObj K A_OrderError bmO) (BE_OrderError : bmO.contains (.type "BaseException") = true) (D : ErrD K A_OrderError CT CN CW kds)
    (F_number_of : FnX P w K mg base 5 "number_of" ["downs", "row"] (fun vs H Q E => sp_number27 K vs H Q E ∨ sp_no_way K CW vs H Q E ∨ sp_large K CT 1 vs H Q E)) (F_steps_between : FnX P w K mg base 4 "steps_between" ["downs", "one", "other"] (fun vs H Q E => sp_steps27 K vs H Q E ∨ sp_no_ways K CW vs H Q E ∨ sp_large K CT 2 vs H Q E))
    (F_ways_ahead : FnX P w K mg base 2 "ways_ahead" ["downs", "one", "other"] (fun vs H Q E => sp_strange K CN vs H Q E ∨ sp_large K CT 2 vs H Q E)) (F_way_at : FnX P w K mg base 4 "way_at" ["downs", "number"] (sp_large K CT 1)) (F_downsets_of : FnX P w K mg base 2 "downsets_of" ["downs"] (sp_large K CT 0)) (F_ways_in : FnX P w K mg base 4 "ways_in" ["downs"] (sp_large K CT 0)) : Fn P w K mg base 6 "_law_asked" ["_law_way_here", "_law_downs_here", "_law_one", "_law_other"] (sp_asked K CT CN CW) := by
  have sc : FnScope ["_law_way_here", "_law_downs_here", "_law_one", "_law_other", "_law_kept", "e"] ["_law_way_here", "_law_downs_here", "_law_one", "_law_other"] (defScope s_law_asked) := ⟨rfl, rfl, rfl, by decide +kernel, rfl, by decide +kernel, by decide +kernel⟩
  refine S.fn sc (fun vs H Q E h => by obtain ⟨wd, d, x, y, r, rfl, _⟩ := h; rfl) fun f cdv A outer s H vs Q E hr h => ?_
  have hu := hu60 hr
  obtain ⟨wd, d, x, y, r, rfl, hA, k⟩ := h
  refine ⟨_, (@pss_cons _ _ _ _ _ (ps_set (i := 4) sc.nd rfl (Or.inl rfl) pe_non)
      (@pss_cons _ _ _ _ _ (ps_tryB ⟨rfl, rfl, rfl⟩ (pb_ifs (pt_cmpR (op_eqA K hu) (pv 0) pe_int (nomark _))
      (pb_call F_number_of (hr.mono (by decide)) rfl (pa_cons (pv 1) (pa_cons (pv 2) pa_nil)))
      pb_nil
      (pb_ifs (pt_cmpR (op_eqA K hu) (pv 0) pe_int (nomark _))
      (pb_call F_steps_between (hr.mono (by decide)) rfl (pa_cons (pv 1) (pa_cons (pv 2) (pa_cons (pv 3) pa_nil))))
      pb_nil
      (pb_ifs (pt_cmpR (op_eqA K hu) (pv 0) pe_int (nomark _))
      (pb_call F_ways_ahead (hr.mono (by decide)) rfl (pa_cons (pv 1) (pa_cons (pv 2) (pa_cons (pv 3) pa_nil))))
      pb_nil
      (pb_ifs (pt_cmpR (op_eqA K hu) (pv 0) pe_int (nomark _))
      (pb_call F_way_at (hr.mono (by decide)) rfl (pa_cons (pv 1) (pa_cons (pv 2) pa_nil)))
      pb_nil
      (pb_ifs (pt_cmpR (op_eqA K hu) (pv 0) pe_int (nomark _))
      (pb_call F_downsets_of (hr.mono (by decide)) rfl (pa_cons (pv 1) pa_nil))
      pb_nil
      (pb_if (pt_cmpR (op_eqA K hu) (pv 0) pe_int (nomark _))
      (pb_call F_ways_in (hr.mono (by decide)) rfl (pa_cons (pv 1) pa_nil))
      pb_nil)))))) (hb_as (i := 5) K ⟨rfl, rfl, rfl⟩ sc.nd rfl rfl rfl M_OrderError XO_OrderError BE_OrderError (fun v => (@pss_one _ _ _ (ps_set (i := 4) sc.nd rfl (Or.inl rfl) (pv 5)))) hb_nil))
      (@pss_one _ _ _ (ps_ret (pe_callF F_law_kinds (hr.mono (by decide)) rfl (pa_cons (pv 4) pa_nil)))))), ?_⟩
  refine cut1 (fun σ' H1 => H1 = H ∧ σ' = [some (.int (wd : Nat)), some (.ref d), some x, some y, some .non, none]) (fun N hN => ?_) ?_
  · walk_at "rd"
    exact hN _ _ ⟨rfl, rfl⟩
  rintro σ' H1 ⟨rfl, rfl⟩
  refine cut1 (fun σ' H2 => Same H1 H2 ∧ ((r = none ∧ σ' = [some (.int (wd : Nat)), some (.ref d), some x, some y, some .non, none]) ∨ ∃ C ea, r = some C ∧ H2 ea = some (.ext (XIs ea (.ref C) none)) ∧ σ' = [some (.int (wd : Nat)), some (.ref d), some x, some y, some (.ref ea), none])) (fun N hN => ?_) ?_
  · rw [ap_tryB]
    refine b_err (fun C H2 => r = some C ∧ Same H1 H2) (fun C H2 hp => ?_) fun E' hE => ?_
    · obtain ⟨rfl, s2⟩ := hp
      obtain ⟨bm, o1, o2⟩ := (D.of hA).ob
      walk_at "rd"
      exact ⟨_, rfl, bm, o1, o2, fun ea he => hN _ _ ⟨s2.trans (Same.upd he), .inr ⟨C, ea, rfl, upd_same, rfl⟩⟩⟩
    · show bSeq _ _ E' N _ H1
      have lg : ∀ {xs : List V} {m : Nat} (ys : List V) (Q : VK), SqL K H1 d xs → 10 < xs.length → xs.length ≤ 200 → r = some CT → ys.length = m → sp_large K CT m (.ref d :: ys) H1 Q E' := fun ys Q h1 h2 h3 h4 h5 => ⟨d, _, ys, rfl, h5, h1, h2, h3, hE CT H1 ⟨h4, .refl _⟩⟩
      have fin : ∀ {H2}, r = none → Same H1 H2 → N [some (.int (wd : Nat)), some (.ref d), some x, some y, some .non, none] H2 := fun e s => hN _ _ ⟨s, .inl ⟨e, rfl⟩⟩
      cases hA with
      | large hd h1 h2 hw =>
        match wd, hw with
        | 0, _ => exact ask_yes rfl (b_call (fun Q q => ta2 rfl rfl q) (.inr (.inr (lg _ _ hd h1 h2 rfl rfl))))
        | 1, _ => exact ask_no rfl (by decide) (ask_yes rfl (b_call (fun Q q => ta3 rfl rfl rfl q) (.inr (.inr (lg _ _ hd h1 h2 rfl rfl)))))
        | 2, _ => exact ask_no rfl (by decide) (ask_no rfl (by decide) (ask_yes rfl (b_call (fun Q q => ta3 rfl rfl rfl q) (.inr (lg _ _ hd h1 h2 rfl rfl)))))
        | 3, _ => exact ask_no rfl (by decide) (ask_no rfl (by decide) (ask_no rfl (by decide) (ask_yes rfl (b_call (fun Q q => ta2 rfl rfl q) (lg _ _ hd h1 h2 rfl rfl)))))
        | 4, _ => exact ask_no rfl (by decide) (ask_no rfl (by decide) (ask_no rfl (by decide) (ask_no rfl (by decide) (ask_yes rfl (b_call (fun Q q => ta1 rfl q) (lg _ _ hd h1 h2 rfl rfl))))))
        | 5, _ => exact ask_no rfl (by decide) (ask_no rfl (by decide) (ask_no rfl (by decide) (ask_no rfl (by decide) (ask_no rfl (by decide) (ask_last rfl (fun _ => b_call (fun Q q => ta1 rfl q) (lg _ _ hd h1 h2 rfl rfl)) fun z => absurd rfl z)))))
      | strange hd h2 hi hj hs => exact ask_no rfl (by decide) (ask_no rfl (by decide) (ask_yes rfl (b_call (fun Q q => ta3 rfl rfl rfl q) (.inl ⟨d, _, _, _, rfl, hd, h2, hi, hj, hs, hE _ _ ⟨rfl, .refl _⟩⟩))))
      | no hd R hn hr hw => exact ask_yes rfl (b_call (fun Q q => ta2 rfl rfl q) (.inr (.inl ⟨d, _, _, _, _, rfl, SqL.of hd, hr.at_, R, hn, hr.few, hr.log, hw, fun H' s' => hE _ _ ⟨rfl, s'⟩⟩)))
      | yes hd R hn hr hw =>
        refine ask_yes rfl (b_call (fun Q q => ta2 rfl rfl q) (.inl ⟨d, _, _, _, _, rfl, SqL.of hd, SqL.of hr, R, hn, hw, fun i H' s' => ⟨rfl, ?_⟩⟩))
        exact ask_no rfl (by decide) (ask_no rfl (by decide) (ask_no rfl (by decide) (ask_no rfl (by decide) (ask_last rfl (fun z => absurd z (by decide)) fun _ => fin rfl s'))))
      | nos hd R hn hr hq hw => exact ask_no rfl (by decide) (ask_yes rfl (b_call (fun Q q => ta3 rfl rfl rfl q) (.inr (.inl ⟨d, _, _, _, _, _, _, rfl, SqL.of hd, hr.at_, hq.at_, R, hn, hr.few, hq.few, hr.log, hq.log, hw, fun H' s' => hE _ _ ⟨rfl, s'⟩⟩))))
      | yess hd R hn hr hq hw hv =>
        refine ask_no rfl (by decide) (ask_yes rfl (b_call (fun Q q => ta3 rfl rfl rfl q) (.inl ⟨d, _, _, _, _, _, _, rfl, hd, hr, hq, R, hn, hw, hv, fun l H' s' => ⟨rfl, ?_⟩⟩)))
        exact ask_no rfl (by decide) (ask_no rfl (by decide) (ask_no rfl (by decide) (ask_last rfl (fun z => absurd z (by decide)) fun _ => fin rfl s')))
  rintro σ' H2 ⟨s2, ⟨rfl, rfl⟩ | ⟨C, ea, rfl, he, rfl⟩⟩
  · walk_at "rd"
    refine .inl ⟨rfl, fun l hl => ?_⟩
    exact k l _ (s2.trans (Same.upd hl)) (s2.free hl) upd_same
  · walk_at "rd"
    have e := D.of hA
    exact .inr ⟨ea, C, none, _, rfl, he, e.kt, e.kd, fun l H' s' hl hl' => k l H' (s2.trans s') (s2.free hl) hl'⟩
theorem log_200 {x : Int} (h : x.natAbs < 2 ^ 250) : x.natAbs.log2 < 1920 := by
  by_cases h0 : x.natAbs = 0
  · rw [h0]; decide
  · exact Nat.lt_of_lt_of_le ((Nat.log2_lt h0).mpr h) (by decide)
theorem ixN_nat {m i : Nat} (h : i < m) : ixN m (i : Int) = some i := by
  unfold ixN
  rw [if_pos (by omega), if_pos (by omega)]; simp
theorem seqIx_at {x m : Nat} (h : x < m) : seqIndex? (x : Int) m = some x := by
  unfold seqIndex?
  have h1 : ¬ ((x : Int) < 0) := by omega
  simp [h1]
  omega
theorem mod_nat {m : Int} (h : 0 < m) (x : Int) : ∃ q : Nat, x % m = (q : Int) ∧ (q : Int) < m := by
  obtain ⟨q, hq⟩ := Int.eq_ofNat_of_zero_le (Int.emod_nonneg x (Int.ne_of_gt h))
  exact ⟨q, hq, hq ▸ Int.emod_lt_of_pos x h⟩
structure SwI (H : Hp) (l : Addr) (n k way : Nat) (H' : Hp) : Prop where
  sm : Same H H'
  ex : ∃ row : List Int, H' l = some (.lst (row.map V.int)) ∧ row.length ≤ n + 1 ∧ (k ≤ way → row.length = n) ∧ ∀ i ∈ row, i.natAbs.log2 < 1920
theorem SwI.next {H H' : Hp} {l : Addr} {n k way : Nat} (I : SwI H l n k way H') : SwI H l n (k + 1) way H' := by
  obtain ⟨sm, row, h1, h2, h3, h4⟩ := I
  exact ⟨sm, row, h1, h2, fun h => h3 (by omega), h4⟩
theorem SwI.write {H H' : Hp} {l : Addr} {n k way : Nat} {row : List Int} (sm : Same H H') (h0 : H l = none) (e : way = k) (h2 : row.length ≤ n + 1) (h4 : ∀ i ∈ row, i.natAbs.log2 < 1920) : SwI H l n (k + 1) way (upd H' l (.lst (row.map V.int))) :=
  ⟨sm.write h0, row, upd_same, h2, fun h => absurd h (by omega), h4⟩
theorem log_set {row : List Int} {i : Nat} {x : Int} (h : ∀ i ∈ row, i.natAbs.log2 < 1920) (hx : x.natAbs.log2 < 1920) : ∀ y ∈ row.set i x, y.natAbs.log2 < 1920 := fun y hy => by
  rcases List.mem_or_eq_of_mem_set hy with z | z
  · exact h y z
  · rw [z]; exact hx
theorem map_erase {α β : Type} (f : α → β) : ∀ (xs : List α) (i : Nat), (xs.map f).eraseIdx i = (xs.eraseIdx i).map f
  | [], _ => rfl
  | x :: xs, 0 => rfl
  | x :: xs, i + 1 => congrArg (f x :: ·) (map_erase f xs i)
theorem far_at {m far q : Nat} (hm : m ≤ 200) (hf : far < 10 ^ 58) (hq : q < 4) : ∃ z : Int, atI [V.int (m : Nat), V.int ((m : Int) + (far : Int)), V.int (-1), V.int (-1 - (far : Int))] (q : Int) = some (.int z) ∧ z.natAbs.log2 < 1920 := by
  have e58 : (10 : Nat) ^ 58 < 2 ^ 200 := by decide
  have e250 : (2 : Nat) ^ 200 + 300 < 2 ^ 250 := by decide
  have ls : ∀ x : Int, x.natAbs < 2 ^ 200 + 300 → x.natAbs.log2 < 1920 := fun x hx => log_200 (Nat.lt_trans hx e250)
  generalize (2 : Nat) ^ 200 = t200 at e250 e58 ls
  generalize (10 : Nat) ^ 58 = t58 at hf e58
  match q, hq with
  | 0, _ => exact ⟨_, rfl, ls _ (by omega)⟩
  | 1, _ => exact ⟨_, rfl, ls _ (by omega)⟩
  | 2, _ => exact ⟨_, rfl, ls _ (by omega)⟩
  | 3, _ => exact ⟨_, rfl, ls _ (by omega)⟩
theorem w_test {i k : Int} {j : Nat} {σ : St} {H : Hp} {P : Bool → Hp → Prop} (h : σ[j]? = some (some (.int i))) (p : P (decide (i = k)) H) : tTest (tOp (rOr rEq (rEqD K false)) (tVar j) (tC (V.int k))) σ H P := by
  walk_at "rd"
  refine ⟨_, h, rfl, ?_⟩
  rw [show decide (V.int i = V.int k) = decide (i = k) from decide_eq_decide.mpr ⟨fun z => by injection z, fun z => by rw [z]⟩]
  exact p
theorem len_test {j : Nat} {l : Addr} {xs : List V} {σ : St} {H : Hp} {P : Bool → Hp → Prop} (h : σ[j]? = some (some (.ref l))) (hl : SqL K H l xs) (p : P (decide ((0 : Int) < (xs.length : Nat))) H) : tTest (tOp (rI0 fun i j => V.bl (decide (j < i))) (tCB (rLen K) (tCons (tVar j) tNil)) (tC (V.int 0))) σ H P := by
  walk_at "rd"
  exact ⟨_, h, l, rfl, xs, .inl hl, p⟩
theorem tcall_c {sp : Sp} {k : Int} {a : V} {σ : St} {H : Hp} {Q : VK} (h0 : σ[0]? = some (some a)) (h : sp [a, .int k] H Q E0) : tCall sp [] E0 (tCons (tVar 0) (tCons (tC (V.int k)) tNil)) σ H Q := by
  walk_at "rd"
  exact ⟨_, h0, h⟩
def sp_spoiled27 (K : PySem.W.Frag) : Sp := fun vs H Q _ => ∃ (a o : Addr) (ns : List Int) (one : List Nat), vs = [.ref a, .ref o] ∧ SqL K H a (ns.map V.int) ∧ SqL K H o (nv one) ∧ one.length ≤ 10 ∧ (∀ x ∈ one, x < 10) ∧ ∀ (row : List Int) l H', row.length ≤ 190 → (∀ i ∈ row, i.natAbs.log2 < 1920) → Same H H' → H l = none → H' l = some (.lst (row.map V.int)) → Q (.ref l) H'
theorem fn_law_spoiled27 (B : Blt mg) (S : Src K mg "_law_spoiled" s_law_spoiled ["_law_script", "_law_one"]) (F_law_cell_at : Fn P w K mg base 1 "_law_cell_at" ["_law_script", "_law_k"] (sp_cell_at K)) : Fn P w K mg base 2 "_law_spoiled" ["_law_script", "_law_one"] (sp_spoiled27 K) := by
  have sc : FnScope ["_law_script", "_law_one", "_law_row", "_law_way_here", "_law_far", "_law_at", "_law_to"] ["_law_script", "_law_one"] (defScope s_law_spoiled) := ⟨rfl, rfl, rfl, by decide +kernel, rfl, by decide +kernel, by decide +kernel⟩
  refine S.fn sc (fun vs H Q E h => by obtain ⟨a, o, ns, one, rfl, _⟩ := h; rfl) fun f cdv A outer s H vs Q E hr h => ?_
  have hu := hu60 hr
  obtain ⟨a, o, ns, one, rfl, hS, hO, hol, hob, k⟩ := h
  refine ⟨_, (@pss_cons _ _ _ _ _ (ps_set (i := 2) sc.nd rfl (Or.inl rfl) (pe_callTy (callListS K) rfl B.list PyProof.Rows.boot_list (pa_cons (pv 1) pa_nil)))
      (@pss_cons _ _ _ _ _ (ps_set (i := 3) sc.nd rfl (Or.inl rfl) (pe_op op_mod (pe_op op_fdiv (pe_callF F_law_cell_at (hr.mono (by decide)) rfl (pa_cons (pv 0) (pa_cons pe_int pa_nil))) pe_int) pe_int))
      (@pss_cons _ _ _ _ _ (ps_set (i := 4) sc.nd rfl (Or.inl rfl) (pe_op op_mod (pe_callF F_law_cell_at (hr.mono (by decide)) rfl (pa_cons (pv 0) (pa_cons pe_int pa_nil))) (pe_op op_pow pe_int pe_int)))
      (@pss_cons _ _ _ _ _ (ps_set (i := 5) sc.nd rfl (Or.inl rfl) (pe_op op_mod (pe_op op_fdiv (pe_callF F_law_cell_at (hr.mono (by decide)) rfl (pa_cons (pv 0) (pa_cons pe_int pa_nil))) pe_int) (pe_callB (call_max2 rfl) rfl B.max PyProof.Rows.boot_max (pa_cons pe_int (pa_cons (pe_callB (callLen K) rfl B.len PySem.boot_len (pa_cons (pv 2) pa_nil)) pa_nil)))))
      (@pss_cons _ _ _ _ _ (ps_set (i := 6) sc.nd rfl (Or.inl rfl) (pe_op op_mod (pe_op op_addA (pv 5) pe_int) (pe_callB (call_max2 rfl) rfl B.max PyProof.Rows.boot_max (pa_cons pe_int (pa_cons (pe_callB (callLen K) rfl B.len PySem.boot_len (pa_cons (pv 2) pa_nil)) pa_nil)))))
      (@pss_cons _ _ _ _ _ (ps_if (pt_cmpR (op_eqA K hu) (pe_op op_mod (pe_op op_fdiv (pe_callF F_law_cell_at (hr.mono (by decide)) rfl (pa_cons (pv 0) (pa_cons pe_int pa_nil))) pe_int) pe_int) pe_int (nomark _))
      (@pss_one _ _ _ (ps_set (i := 6) sc.nd rfl (Or.inl rfl) (pe_op op_mod (pe_op op_fdiv (pe_callF F_law_cell_at (hr.mono (by decide)) rfl (pa_cons (pv 0) (pa_cons pe_int pa_nil))) pe_int) (pe_callB (call_max2 rfl) rfl B.max PyProof.Rows.boot_max (pa_cons pe_int (pa_cons (pe_callB (callLen K) rfl B.len PySem.boot_len (pa_cons (pv 2) pa_nil)) pa_nil))))))
      pss_nil)
      (@pss_cons _ _ _ _ _ (ps_if (PW.pt (pw_and (pt_cmpR (op_eqA K hu) (pv 3) pe_int (nomark _)) (pw_and1 (pt_cmpR op_gt (pe_callB (callLen K) rfl B.len PySem.boot_len (pa_cons (pv 2) pa_nil)) pe_int (nomark _)))))
      (@pss_cons _ _ _ _ _ (ps_asg (pe_ix (ixL K) (pv 1) (pv 6) (fun _ _ => rfl)) (pg_sub (pv 2) (pv 5) set_list))
      (@pss_one _ _ _ (ps_asg (pe_ix (ixL K) (pv 1) (pv 5) (fun _ _ => rfl)) (pg_sub (pv 2) (pv 6) set_list))))
      pss_nil)
      (@pss_cons _ _ _ _ _ (ps_if (PW.pt (pw_and (pt_cmpR (op_eqA K hu) (pv 3) pe_int (nomark _)) (pw_and1 (pt_cmpR op_gt (pe_callB (callLen K) rfl B.len PySem.boot_len (pa_cons (pv 2) pa_nil)) pe_int (nomark _)))))
      (@pss_one _ _ _ (ps_asg (pe_ix (ixL K) (pv 2) (pe_op op_mod (pe_op op_fdiv (pe_callF F_law_cell_at (hr.mono (by decide)) rfl (pa_cons (pv 0) (pa_cons pe_int pa_nil))) pe_int) (pe_callB (callLen K) rfl B.len PySem.boot_len (pa_cons (pv 2) pa_nil))) (fun _ _ => rfl)) (pg_sub (pv 2) (pv 5) set_list)))
      pss_nil)
      (@pss_cons _ _ _ _ _ (ps_if (PW.pt (pw_and (pt_cmpR (op_eqA K hu) (pv 3) pe_int (nomark _)) (pw_and1 (pt_cmpR op_gt (pe_callB (callLen K) rfl B.len PySem.boot_len (pa_cons (pv 2) pa_nil)) pe_int (nomark _)))))
      (@pss_one _ _ _ (ps_expr (peBm K PySem.F.plainAttrs_list PySem.F.slot_list_pop PySem.F.type_list_pop mt_popAt (pv 2) (pa_cons (pv 5) pa_nil))))
      pss_nil)
      (@pss_cons _ _ _ _ _ (ps_if (PW.pt (pw_and (pt_cmpR (op_eqA K hu) (pv 3) pe_int (nomark _)) (pw_and1 (pt_cmpR op_gt (pe_callB (callLen K) rfl B.len PySem.boot_len (pa_cons (pv 2) pa_nil)) pe_int (nomark _)))))
      (@pss_one _ _ _ (ps_asg (pe_ix (ixL K) (pe_lst (pa_cons (pe_callB (callLen K) rfl B.len PySem.boot_len (pa_cons (pv 2) pa_nil)) (pa_cons (pe_op op_addA (pe_callB (callLen K) rfl B.len PySem.boot_len (pa_cons (pv 2) pa_nil)) (pv 4)) (pa_cons (pe_un un_neg pe_int) (pa_cons (pe_op op_sub (pe_un un_neg pe_int) (pv 4)) pa_nil))))) (pe_op op_mod (pe_op op_fdiv (pe_callF F_law_cell_at (hr.mono (by decide)) rfl (pa_cons (pv 0) (pa_cons pe_int pa_nil))) pe_int) pe_int) (fun _ _ => rfl)) (pg_sub (pv 2) (pv 5) set_list)))
      pss_nil)
      (@pss_cons _ _ _ _ _ (ps_if (pt_cmpR (op_eqA K hu) (pv 3) pe_int (nomark _))
      (@pss_one _ _ _ (ps_expr (peBm K PySem.F.plainAttrs_list PySem.F.slot_list_append PySem.F.type_list_append mt_append (pv 2) (pa_cons (pe_ix (ixL K) (pe_lst (pa_cons (pv 5) (pa_cons (pe_callB (callLen K) rfl B.len PySem.boot_len (pa_cons (pv 2) pa_nil)) (pa_cons (pe_op op_addA (pe_callB (callLen K) rfl B.len PySem.boot_len (pa_cons (pv 2) pa_nil)) (pv 4)) (pa_cons (pe_un un_neg pe_int) (pa_cons (pe_op op_sub (pe_un un_neg pe_int) (pv 4)) pa_nil)))))) (pe_op op_mod (pe_op op_fdiv (pe_callF F_law_cell_at (hr.mono (by decide)) rfl (pa_cons (pv 0) (pa_cons pe_int pa_nil))) pe_int) pe_int) (fun _ _ => rfl)) pa_nil))))
      pss_nil)
      (@pss_one _ _ _ (ps_ret (pv 2)))))))))))))), ?_⟩
  refine cut1 (fun σ2 H1 => ∃ l, H l = none ∧ (∀ way, SwI H l one.length 0 way H1) ∧ σ2 = [some (.ref a), some (.ref o), some (.ref l), none, none, none, none]) (fun N hN => ?_) ?_
  · walk_at "rm"
    refine ⟨_, .inl hO, ?_⟩
    intro l hp_l
    generalize hq_l : upd _ l _ = H1
    have s_H1 : Same _ H1 := hq_l ▸ Same.upd hp_l
    have e_H1 : H1 l = some _ := hq_l ▸ upd_same
    clear hq_l
    refine hN _ _ ⟨l, hp_l, fun way => ⟨s_H1, one.map (fun x : Nat => (x : Int)), by rw [List.map_map]; exact e_H1, by rw [List.length_map]; omega, fun _ => List.length_map _, fun i hi => ?_⟩, rfl⟩
    obtain ⟨x, hx, rfl⟩ := List.mem_map.mp hi
    exact log_small (by have := hob x hx; omega)
  rintro σ2 H1 ⟨l, hl0, I, rfl⟩
  have s1 := (I 0).sm
  refine cut1 (fun σ2 H2 => H2 = H1 ∧ ∃ way : Nat, σ2 = [some (.ref a), some (.ref o), some (.ref l), some (.int (way : Nat)), none, none, none]) (fun N hN => ?_) ?_
  · walk_at "rm"
    refine ⟨_, ns, _, rfl, s1.seq hS, by decide, ?_⟩
    walk_at "rm"
    obtain ⟨q, e, _⟩ := mod_nat (m := 5) (by decide) (cell ns 1 / 7)
    rw [e]
    exact ⟨by unfold CDiv; omega, by decide, hN _ _ ⟨rfl, q, rfl⟩⟩
  rintro σ2 H2 ⟨rfl, way, rfl⟩
  have I := I way
  refine cut1 (fun σ2 H3 => H3 = H2 ∧ ∃ far : Nat, far < 10 ^ 58 ∧ σ2 = [some (.ref a), some (.ref o), some (.ref l), some (.int (way : Nat)), some (.int (far : Nat)), none, none]) (fun N hN => ?_) ?_
  · walk_at "rm" -- plain
    refine ⟨_, ns, _, rfl, s1.seq hS, by decide, ?_⟩
    refine ⟨⟨by decide, by decide, by decide⟩, _, rfl, by decide, ?_⟩
    obtain ⟨q, e, h⟩ := mod_nat (show (0 : Int) < (10 : Int) ^ Int.toNat 58 by decide) (cell ns 2)
    rw [e]
    exact hN _ _ ⟨rfl, q, by have : (q : Int) < ((10 ^ 58 : Nat) : Int) := h; exact Int.ofNat_lt.mp this, rfl⟩
  rintro σ2 H3 ⟨rfl, far, hfar, rfl⟩
  have hpos : (0 : Int) < if (one.length : Int) > 1 then (one.length : Int) else 1 := by split <;> omega
  have hpl : ∀ q : Nat, (q : Int) < (if (one.length : Int) > 1 then (one.length : Int) else 1) → 0 < one.length → q < one.length := fun q h h' => by split at h <;> omega
  obtain ⟨row, hl, hrl, hrn, hrg⟩ := id I.ex
  have hrn := hrn (Nat.zero_le _)
  refine cut1 (fun σ2 H4 => H4 = H3 ∧ ∃ att : Nat, (0 < one.length → att < one.length) ∧ att ≤ 10 ∧ σ2 = [some (.ref a), some (.ref o), some (.ref l), some (.int (way : Nat)), some (.int (far : Nat)), some (.int (att : Nat)), none]) (fun N hN => ?_) ?_
  · walk_at "rm"
    refine ⟨_, ns, _, rfl, s1.seq hS, by decide, ?_⟩
    refine ⟨_, rfl, by unfold CDiv; omega, _, .inl (SqL.of hl), ?_⟩
    rw [List.length_map, hrn]
    obtain ⟨q, e, h⟩ := mod_nat hpos (cell ns 3 / 11)
    rw [e]
    exact ⟨hpos, hN _ _ ⟨rfl, q, hpl q h, by split at h <;> omega, rfl⟩⟩
  rintro σ2 H4 ⟨rfl, att, hat, hat10, rfl⟩
  refine cut1 (fun σ2 H5 => H5 = H4 ∧ ∃ to : Nat, (0 < one.length → to < one.length) ∧ σ2 = [some (.ref a), some (.ref o), some (.ref l), some (.int (way : Nat)), some (.int (far : Nat)), some (.int (att : Nat)), some (.int (to : Nat))]) (fun N hN => ?_) ?_
  · walk_at "ds"
    obtain ⟨q, e, h⟩ := mod_nat hpos ((att : Int) + 1)
    refine ⟨_, rfl, .inl ⟨_, _, rfl, rfl, _, rfl, _, _, rfl, .inl (SqL.of hl), _, _, rfl, _, _, rfl, rfl, ?_⟩⟩
    rw [List.length_map, hrn, e]
    exact ⟨hpos, hN _ _ ⟨rfl, q, hpl q h, rfl⟩⟩
  rintro σ2 H5 ⟨rfl, to0, hto0, rfl⟩
  refine cut1 (fun σ2 H6 => H6 = H5 ∧ ∃ to : Nat, (0 < one.length → to < one.length) ∧ σ2 = [some (.ref a), some (.ref o), some (.ref l), some (.int (way : Nat)), some (.int (far : Nat)), some (.int (att : Nat)), some (.int (to : Nat))]) (fun N hN => ?_) ?_
  · walk_at "rm"
    refine ⟨_, ns, _, rfl, s1.seq hS, by decide, ?_⟩
    walk_at "rm"
    refine ⟨by unfold CDiv; omega, by decide, ?_⟩
    by_cases c : cell ns 7 / 5 % 2 = 1
    case neg => rw [if_neg c]; exact hN _ _ ⟨rfl, to0, hto0, rfl⟩
    rw [if_pos c]
    refine ⟨_, ns, _, rfl, s1.seq hS, by decide, ?_⟩
    refine ⟨_, rfl, by unfold CDiv; omega, _, .inl (SqL.of hl), ?_⟩
    rw [List.length_map, hrn]
    obtain ⟨q, e, h⟩ := mod_nat hpos (cell ns 7 / 11)
    rw [e]
    exact ⟨hpos, hN _ _ ⟨rfl, q, hpl q h, rfl⟩⟩
  rintro σ2 H6 ⟨rfl, to, hto, rfl⟩
  clear hl hrl hrg hpos hpl
  have hat9 : ∀ {i : Nat}, i < one.length → ((one.getD i 0 : Nat) : Int).natAbs.log2 < 1920 := fun {i} h => log_small (by
    rw [OM.getD_lt h]
    have := hob _ (List.getElem_mem h)
    omega)
  refine cut1 (fun σ2 H6 => SwI H l one.length 1 way H6 ∧ σ2 = [some (.ref a), some (.ref o), some (.ref l), some (.int (way : Nat)), some (.int (far : Nat)), some (.int (att : Nat)), some (.int (to : Nat))]) (fun N hN => ?_) ?_
  · refine w_test rfl ?_
    by_cases c : ((way : Nat) : Int) = 0
    case neg => exact iteFF (decide_eq_false c) (iteF (hN _ _ ⟨I.next, rfl⟩))
    refine iteTT (decide_eq_true c) ?_
    obtain ⟨sm, row, hl, h2, h3, h4⟩ := id I
    have h3 := h3 (Nat.zero_le _)
    refine len_test rfl (SqL.of hl) ?_
    rw [List.length_map, h3]
    by_cases c2 : (0 : Int) < (one.length : Int)
    case neg => exact iteFF (decide_eq_false c2) (hN _ _ ⟨I.next, rfl⟩)
    refine iteTT (decide_eq_true c2) ?_
    have h0 : 0 < one.length := by omega
    walk_at "ds"
    refine ⟨_, rfl, _, rfl, _, _, _, _, rfl, rfl, sm.seq hO, nv_at (hto h0), _, rfl, _, rfl, _, _, _, _, rfl, rfl, hl, ixN_nat (by rw [List.length_map, h3]; exact hat h0), ?_⟩
    rw [← List.map_set]
    refine ⟨_, rfl, _, rfl, _, _, _, _, rfl, rfl, (sm.write hl0).seq hO, nv_at (hat h0), _, rfl, _, rfl, _, _, _, _, rfl, rfl, upd_same, ixN_nat (by rw [List.length_map, List.length_set, h3]; exact hto h0), ?_⟩
    rw [← List.map_set]
    exact hN _ _ ⟨SwI.write (sm.write hl0) hl0 (by omega) (by rw [List.length_set, List.length_set]; omega) (log_set (log_set h4 (hat9 (hto h0))) (hat9 (hat h0))), rfl⟩
  clear I s1
  rintro σ2 H6 ⟨I, rfl⟩
  refine cut1 (fun σ2 H7 => SwI H l one.length 2 way H7 ∧ σ2 = [some (.ref a), some (.ref o), some (.ref l), some (.int (way : Nat)), some (.int (far : Nat)), some (.int (att : Nat)), some (.int (to : Nat))]) (fun N hN => ?_) ?_
  · refine w_test rfl ?_
    by_cases c : ((way : Nat) : Int) = 1
    case neg => exact iteFF (decide_eq_false c) (iteF (hN _ _ ⟨I.next, rfl⟩))
    refine iteTT (decide_eq_true c) ?_
    obtain ⟨sm, row, hl, h2, h3, h4⟩ := id I
    have h3 := h3 (by omega)
    refine len_test rfl (SqL.of hl) ?_
    rw [List.length_map, h3]
    by_cases c2 : (0 : Int) < (one.length : Int)
    case neg => exact iteFF (decide_eq_false c2) (hN _ _ ⟨I.next, rfl⟩)
    refine iteTT (decide_eq_true c2) ?_
    have h0 : 0 < one.length := by omega
    walk_at "ds"
    refine ⟨_, rfl, tcall_c rfl ⟨_, ns, _, rfl, sm.seq hS, by decide, _, _, rfl, rfl, by unfold CDiv; omega, _, rfl, _, _, rfl, .inl (SqL.of hl), _, _, rfl, rfl, ?_⟩⟩
    rw [List.length_map, h3]
    obtain ⟨q, e, hq⟩ := mod_nat c2 (cell ns 4 / 11)
    rw [e]
    have hq : q < row.length := by omega
    refine ⟨c2, _, _, _, .int row[q], rfl, rfl, SqL.of hl, atI_nat (by rw [List.getElem?_map, List.getElem?_eq_getElem hq]; rfl), _, rfl, _, rfl, _, _, _, _, rfl, rfl, hl, ixN_nat (by rw [List.length_map, h3]; exact hat h0), ?_⟩
    rw [← List.map_set]
    exact hN _ _ ⟨SwI.write sm hl0 (by omega) (by rw [List.length_set]; omega) (log_set h4 (h4 _ (List.getElem_mem hq))), rfl⟩
  clear I
  rintro σ2 H7 ⟨I, rfl⟩
  refine cut1 (fun σ2 H8 => SwI H l one.length 3 way H8 ∧ σ2 = [some (.ref a), some (.ref o), some (.ref l), some (.int (way : Nat)), some (.int (far : Nat)), some (.int (att : Nat)), some (.int (to : Nat))]) (fun N hN => ?_) ?_
  · refine w_test rfl ?_
    by_cases c : ((way : Nat) : Int) = 2
    case neg => exact iteFF (decide_eq_false c) (iteF (hN _ _ ⟨I.next, rfl⟩))
    refine iteTT (decide_eq_true c) ?_
    obtain ⟨sm, row, hl, h2, h3, h4⟩ := id I
    have h3 := h3 (by omega)
    refine len_test rfl (SqL.of hl) ?_
    rw [List.length_map, h3]
    by_cases c2 : (0 : Int) < (one.length : Int)
    case neg => exact iteFF (decide_eq_false c2) (hN _ _ ⟨I.next, rfl⟩)
    refine iteTT (decide_eq_true c2) ?_
    have h0 : 0 < one.length := by omega
    walk_at "ds"
    have hq : att < row.length := by have := hat h0; omega
    refine ⟨_, rfl, Or.inl ⟨rfl, _, SqL.of hl⟩, _, rfl, l, _, att, att, .int row[att], rfl, rfl, hl, by omega, by omega, seqIx_at (by rw [List.length_map]; exact hq), by rw [List.getElem?_map, List.getElem?_eq_getElem hq]; rfl, ?_⟩
    rw [map_erase]
    exact hN _ _ ⟨SwI.write sm hl0 (by omega) (Nat.le_trans (List.length_eraseIdx_le _ _) (by omega)) (fun i hi => h4 i (List.mem_of_mem_eraseIdx hi)), rfl⟩
  clear I
  rintro σ2 H8 ⟨I, rfl⟩
  refine cut1 (fun σ2 H9 => SwI H l one.length 4 way H9 ∧ σ2 = [some (.ref a), some (.ref o), some (.ref l), some (.int (way : Nat)), some (.int (far : Nat)), some (.int (att : Nat)), some (.int (to : Nat))]) (fun N hN => ?_) ?_
  · refine w_test rfl ?_
    by_cases c : ((way : Nat) : Int) = 3
    case neg => exact iteFF (decide_eq_false c) (iteF (hN _ _ ⟨I.next, rfl⟩))
    refine iteTT (decide_eq_true c) ?_
    obtain ⟨sm, row, hl, h2, h3, h4⟩ := id I
    have h3 := h3 (by omega)
    refine len_test rfl (SqL.of hl) ?_
    rw [List.length_map, h3]
    by_cases c2 : (0 : Int) < (one.length : Int)
    case neg => exact iteFF (decide_eq_false c2) (hN _ _ ⟨I.next, rfl⟩)
    refine iteTT (decide_eq_true c2) ?_
    have h0 : 0 < one.length := by omega
    walk_at "ds"
    refine ⟨_, rfl, _, _, rfl, .inl (SqL.of hl), _, rfl, _, _, rfl, .inl (SqL.of hl), _, rfl, .inl ⟨_, _, rfl, rfl, _, rfl, _, rfl, _, rfl, _, _, rfl, rfl, Nat.le_of_lt (small1000 (n := 4) (by decide)), fun p hp => ?_⟩⟩
    have ne : l ≠ p := fun z => by subst z; rw [hl] at hp; cases hp
    have hl' : upd H8 p (.lst [.int ((row.map V.int).length : Nat), .int (((row.map V.int).length : Nat) + (far : Int)), .int (-1), .int (-1 - (far : Int))]) l = some (.lst (row.map V.int)) := by rw [upd_ne ne]; exact hl
    obtain ⟨q, e, hq⟩ := mod_nat (m := 4) (by decide) (cell ns 4 / 11)
    obtain ⟨z, ez, hz⟩ := far_at (m := (row.map V.int).length) (far := far) (by rw [List.length_map]; omega) hfar (show q < 4 by omega)
    refine tcall_c rfl ⟨_, ns, _, rfl, (sm.trans (Same.upd hp)).seq hS, by decide, _, _, rfl, rfl, by unfold CDiv; omega, _, _, rfl, rfl, by decide, _, _, _, _, rfl, rfl, SqL.of upd_same, by rw [e]; exact ez, _, rfl, _, rfl, _, _, _, _, rfl, rfl, hl', ixN_nat (by rw [List.length_map, h3]; exact hat h0), ?_⟩
    rw [← List.map_set]
    exact hN _ _ ⟨SwI.write (sm.trans (Same.upd hp)) hl0 (by omega) (by rw [List.length_set]; omega) (log_set h4 hz), rfl⟩
  clear I
  rintro σ2 H9 ⟨I, rfl⟩
  refine cut1 (fun σ2 H10 => SwI H l one.length 5 way H10 ∧ σ2 = [some (.ref a), some (.ref o), some (.ref l), some (.int (way : Nat)), some (.int (far : Nat)), some (.int (att : Nat)), some (.int (to : Nat))]) (fun N hN => ?_) ?_
  · refine w_test rfl ?_
    by_cases c : ((way : Nat) : Int) = 4
    case neg => exact iteFF (decide_eq_false c) (hN _ _ ⟨I.next, rfl⟩)
    refine iteTT (decide_eq_true c) ?_
    obtain ⟨sm, row, hl, h2, h3, h4⟩ := id I
    have h3 := h3 (by omega)
    obtain ⟨q, e, hq⟩ := mod_nat (m := 5) (by decide) (cell ns 4 / 11)
    obtain ⟨z, ez, hz⟩ : ∃ z : Int, atI [V.int (att : Nat), V.int ((row.map V.int).length : Nat), V.int (((row.map V.int).length : Nat) + (far : Int)), V.int (-1), V.int (-1 - (far : Int))] (q : Int) = some (.int z) ∧ z.natAbs.log2 < 1920 := by
      cases q with
      | zero => exact ⟨_, rfl, log_small (by omega)⟩
      | succ q =>
        obtain ⟨z, ez, hz⟩ := far_at (m := (row.map V.int).length) (far := far) (q := q) (by rw [List.length_map]; omega) hfar (by omega)
        refine ⟨z, ?_, hz⟩
        have hq4 : q < 4 := by omega
        match q, hq4 with
        | 0, _ => exact ez
        | 1, _ => exact ez
        | 2, _ => exact ez
        | 3, _ => exact ez
    walk_at "ds"
    refine ⟨_, rfl, Or.inl ⟨rfl, _, SqL.of hl⟩, _, rfl, _, rfl, _, _, rfl, .inl (SqL.of hl), _, rfl, _, _, rfl, .inl (SqL.of hl), _, rfl, .inl ⟨_, _, rfl, rfl, _, rfl, _, rfl, _, rfl, _, _, rfl, rfl, Nat.le_of_lt (small1000 (n := 5) (by decide)), fun p hp => ?_⟩⟩
    have ne : l ≠ p := fun z => by subst z; rw [hl] at hp; cases hp
    refine tcall_c rfl ⟨_, ns, _, rfl, (sm.trans (Same.upd hp)).seq hS, by decide, _, _, rfl, rfl, by unfold CDiv; omega, _, _, rfl, rfl, by decide, _, _, _, _, rfl, rfl, SqL.of upd_same, by rw [e]; exact ez, _, _, _, rfl, rfl, by rw [upd_ne ne]; exact hl, by rw [List.length_map]; exact small1000 (by omega), ?_⟩
    rw [show row.map V.int ++ [V.int z] = (row ++ [z]).map V.int by rw [List.map_append]; rfl]
    refine hN _ _ ⟨SwI.write (sm.trans (Same.upd hp)) hl0 (by omega) (by rw [List.length_append, List.length_singleton]; omega) (fun i hi => ?_), rfl⟩
    rcases List.mem_append.mp hi with y | y
    · exact h4 i y
    · rw [List.mem_singleton.mp y]; exact hz
  rintro σ2 H10 ⟨I, rfl⟩
  obtain ⟨sm, row, hl, h2, _, h4⟩ := I
  walk_at "rm"
  exact k row l _ (by omega) h4 sm hl0 hl
def sp_large27 (K : PySem.W.Frag) : Sp := fun vs H Q _ => ∃ (a : Addr) (ns : List Int), vs = [.ref a] ∧ SqL K H a (ns.map V.int) ∧ ∀ (xs : List V) l H', 10 < xs.length → xs.length ≤ 200 → Same H H' → H l = none → H' l = some (.lst xs) → Q (.ref l) H'
theorem comp_any {te : TE} {σ : St} {H : Hp} {Q : VK} {n : Nat} {l : Addr} (hl : H l = none) (hn : n ≤ 200) (hte : ∀ (i : Nat) (σ' : St) H' (Q : VK), i < n → (∀ v, Q v H') → te [some (.int (0 + (i : Int)))] H' Q) (k : ∀ xs H', xs.length = n → Same H H' → H' l = some (.lst xs) → Q (.ref l) H') : CG (Itr 0 n) 1 [] (gName 0) tYes te σ H Q l := by
  refine cg_by (H₀ := H) jw_range (fun i acc _ => acc.length = i) (Nat.le_of_lt (small1000 (by omega))) (fun _ _ _ _ _ h => h) hl rfl ?_ ?_
  · intro i q x acc pre H2 r hpre ct
    subst r
    have hi := ct.hi
    match pre, hpre with
    | [p0], _ =>
    walk_at "rd"
    refine hte i [] H2 _ hi fun v => ct.yes (Same.refl _) ?_ (pre := [_]) rfl rfl
    rw [List.length_append, ct.hp]; rfl
  · intro acc H2 s2 hl2 e
    exact k acc H2 e s2 hl2
theorem fn_law_large27 (B : Blt mg) (S : Src K mg "_law_large" s_law_large ["_law_script"]) (F_law_cell_at : Fn P w K mg base 1 "_law_cell_at" ["_law_script", "_law_k"] (sp_cell_at K)) : Fn P w K mg base 2 "_law_large" ["_law_script"] (sp_large27 K) := by
  have sc : FnScope ["_law_script", "_law_many"] ["_law_script"] (defScope s_law_large) := ⟨rfl, rfl, rfl, by decide +kernel, rfl, by decide +kernel, by decide +kernel⟩
  refine S.fn sc (fun vs H Q E h => by obtain ⟨a, ns, rfl, _⟩ := h; rfl) fun f cdv A outer s H vs Q E hr h => ?_
  have hu := hu60 hr
  obtain ⟨a, ns, rfl, hS, k⟩ := h
  refine ⟨_, (@pss_cons _ _ _ _ _ (ps_set (i := 1) sc.nd rfl (Or.inl rfl) (pe_op op_addA pe_int (pe_op op_mod (pe_op op_fdiv (pe_callF F_law_cell_at (hr.mono (by decide)) rfl (pa_cons (pv 0) (pa_cons pe_int pa_nil))) pe_int) pe_int)))
      (@pss_cons _ _ _ _ _ (ps_if (pt_cmpR (op_eqA K hu) (pe_op op_mod (pe_op op_fdiv (pe_op op_fdiv (pe_callF F_law_cell_at (hr.mono (by decide)) rfl (pa_cons (pv 0) (pa_cons pe_int pa_nil))) pe_int) pe_int) pe_int) pe_int (nomark _))
      (@pss_one _ _ _ (ps_ret (pe_comp (compOk (M := ["_law_k"]) (nt := 1) (cap := []) (defScope s_law_large) ["_law_script", "_law_many"] rfl rfl rfl (by decide +kernel) (by decide +kernel) (by decide +kernel) (fun j hj => absurd hj (Nat.not_lt_zero j)) rfl) rfl (pi_range1 rfl B.range (pa_cons (pv 1) pa_nil)) (fun cl C fp s' H' => (pg_name (i := 0) (show (["_law_k"] : List Str).Nodup by decide +kernel) rfl (Or.inl rfl))) (fun cl C fp s' H' => pts_nil) (fun cl C fp s' H' => (pe_op op_shl pe_int (pv 0))))))
      pss_nil)
      (@pss_one _ _ _ (ps_ret (pe_comp (compOk (M := ["_law_k"]) (nt := 1) (cap := []) (defScope s_law_large) ["_law_script", "_law_many"] rfl rfl rfl (by decide +kernel) (by decide +kernel) (by decide +kernel) (fun j hj => absurd hj (Nat.not_lt_zero j)) rfl) rfl (pi_range1 rfl B.range (pa_cons (pv 1) pa_nil)) (fun cl C fp s' H' => (pg_name (i := 0) (show (["_law_k"] : List Str).Nodup by decide +kernel) rfl (Or.inl rfl))) (fun cl C fp s' H' => pts_nil) (fun cl C fp s' H' => (pe_op op_sub (pe_op op_shl pe_int (pe_op op_addA (pv 0) pe_int)) pe_int))))))), ?_⟩
  refine cut1 (fun σ2 H1 => H1 = H ∧ ∃ m : Nat, 10 < m ∧ m ≤ 128 ∧ σ2 = [some (.ref a), some (.int (m : Nat))]) (fun N hN => ?_) ?_
  · walk_at "rd"
    refine ⟨_, ns, _, rfl, hS, by decide, ?_⟩
    walk_at "rd"
    obtain ⟨q, e, hq⟩ := mod_nat (m := 118) (by decide) (cell ns 5 / 13)
    rw [e]
    exact ⟨by unfold CDiv; omega, by decide, hN _ _ ⟨rfl, 11 + q, by omega, by omega, rfl⟩⟩
  rintro σ2 H1 ⟨rfl, m, hm, hm2, rfl⟩
  walk_at "rd"
  refine ⟨_, ns, _, rfl, hS, by decide, ?_⟩
  walk_at "rd"
  refine ⟨by unfold CDiv; omega, by unfold CDiv; omega, by decide, ?_⟩
  by_cases c : cell ns 5 / 13 / 118 % 2 = 1
  · rw [if_pos c]
    refine ⟨by omega, by omega, fun l hl => ?_⟩
    rw [Int.toNat_natCast]
    refine comp_any hl (by omega) (fun i σ' H' Q hi g => ?_) fun xs H' e s' h' => k xs l H' (by omega) (by omega) s' hl h'
    walk_at "rd"
    exact ⟨⟨by omega, by omega, by decide⟩, g _⟩
  · rw [if_neg c]
    refine ⟨by omega, by omega, fun l hl => ?_⟩
    rw [Int.toNat_natCast]
    refine comp_any hl (by omega) (fun i σ' H' Q hi g => ?_) fun xs H' e s' h' => k xs l H' (by omega) (by omega) s' hl h'
    walk_at "rd"
    exact ⟨⟨by omega, by omega, by decide⟩, g _⟩
def sp_law (K : PySem.W.Frag) : Sp := fun vs H Q _ => ∃ (a : Addr) (ns : List Int), vs = [.ref a] ∧ SqL K H a (ns.map V.int) ∧ ns.length ≤ 63 ∧ ∀ H', Q (.bl true) H'
theorem eqd_map {α : Type} {f : α → V} (hf : ∀ x, flatV (f x) = true) {H : Hp} {xs : List α} {a b : Addr} (hx : H a = some (.lst (xs.map f))) (hy : H b = some (.lst (xs.map f))) : EqD K H 60 (.ref a) (.ref b) true := by
  have z := EqD.lst (K := K) (n := 59) (e := fun _ => true) (SqL.of hx) (SqL.of hy) rfl (fun i x y h1 h2 => by
    rw [h1] at h2
    cases h2
    rw [List.getElem?_map] at h1
    cases e : xs[i]? with
    | none => rw [e] at h1; cases h1
    | some c =>
      rw [e] at h1
      cases h1
      have := EqD.flat (K := K) (H := H) (n := 59) (hf c) (hf c)
      rwa [eqV_self (hf c)] at this)
  rwa [List.all_eq_true.mpr (fun _ _ => rfl)] at z
theorem tc_c {a : V} {ts : TA} {σ : St} {H : Hp} {Q : List V → Hp → Prop} (h : ts σ H fun vs H1 => Q (a :: vs) H1) : tCons (tC a) ts σ H Q := h
theorem tc_v {i : Nat} {v : V} {ts : TA} {σ : St} {H : Hp} {Q : List V → Hp → Prop} (e : σ[i]? = some (some v)) (h : ts σ H fun vs H1 => Q (v :: vs) H1) : tCons (tVar i) ts σ H Q := ⟨v, e, h⟩
theorem tc_n {σ : St} {H : Hp} {Q : List V → Hp → Prop} (h : Q [] H) : tNil σ H Q := h
theorem tc_l {i : Nat} {p : Addr} {xs : List V} {ts : TA} {σ : St} {H : Hp} {Q : List V → Hp → Prop} (e : σ[i]? = some (some (.ref p))) (hs : SqL K H p xs) (h : ∀ l, H l = none → ts σ (upd H l (.lst xs)) fun vs H1 => Q (.ref l :: vs) H1) : tCons (tCB (rListS K) (tCons (tVar i) tNil)) ts σ H Q := by
  walk_at "rd"
  exact ⟨_, e, p, rfl, xs, .inl hs, h⟩
theorem tc_ix {j : Nat} {p : Addr} {xs : List V} {k : Int} {v : V} {ts : TA} {σ : St} {H : Hp} {Q : List V → Hp → Prop} (e : σ[j]? = some (some (.ref p))) (hs : SqL K H p xs) (ha : atI xs k = some v) (h : ts σ H fun vs H1 => Q (v :: vs) H1) : tCons (tOp (rIxL K) (tVar j) (tC (V.int k))) ts σ H Q := ⟨_, e, p, xs, k, v, rfl, rfl, hs, ha, h⟩
theorem ask_t {CT CN CW d q : Addr} {ta : TA} {te : TE} {σ : St} {H : Hp} {P : Bool → Hp → Prop} {wd : Nat} {rr : Option Addr} (h : ∀ Q : List V → Hp → Prop, (∀ x y H0, Same H H0 → Asked K CT CN CW H0 d wd x y rr → Q [.int (wd : Nat), .ref d, x, y] H0) → ta σ H Q) (hte : ∀ H' (Q : VK), Q (.ref q) H' → te σ H' Q) (hq : H q = some (.lst ((kindL CT CN rr).map V.bl))) (p : ∀ H', Same H H' → P false H') : tTest (tOp (rOr rNe (rEqD K true)) (tCall (sp_asked K CT CN CW) [] E0 ta) te) σ H P := by
  walk_at "rd"
  refine h _ fun x y H0 s0 hA => ⟨wd, d, x, y, rr, rfl, hA, fun l H' s' _ hl => hte _ _ ?_⟩
  exact .inr ⟨⟨_, rfl⟩, ⟨_, rfl⟩, true, eqd_map (fun _ => rfl) hl ((s0.trans s') _ _ hq), p H' (s0.trans s')⟩
theorem ask1 {CT CN CW d q1 q2 : Addr} {H : Hp} {ds : List Nat} {n : Nat} {row1 row2 : List Int} {rr : Option Addr} (hd : H d = some (.lst (nv ds))) (R : OM.PO n ds) (hn : n ≤ 10) (h1 : RowI H q1 row1) (h2 : RowI H q2 row2) (hy : IsWay n ds row1 → IsWay n ds row2 → rr = none) (hnn : ¬ IsWay n ds row1 ∨ ¬ IsWay n ds row2 → rr = some CW) : Asked K CT CN CW H d 1 (.ref q1) (.ref q2) rr := by
  by_cases w1 : IsWay n ds row1
  · by_cases w2 : IsWay n ds row2
    · rw [hy w1 w2]
      obtain ⟨r1, rfl, W1⟩ := w1
      obtain ⟨r2, rfl, W2⟩ := w2
      have e1 := h1.at_
      have e2 := h2.at_
      rw [List.map_map] at e1 e2
      exact .yess hd R hn e1 e2 W1 W2
    · rw [hnn (.inr w2)]
      exact .nos hd R hn h1 h2 (.inr w2)
  · rw [hnn (.inl w1)]
    exact .nos hd R hn h1 h2 (.inl w1)
theorem ask0 {CT CN CW d q1 : Addr} {H : Hp} {ds : List Nat} {n : Nat} {row1 : List Int} {rr : Option Addr} {y : V} (hd : H d = some (.lst (nv ds))) (R : OM.PO n ds) (hn : n ≤ 10) (h1 : RowI H q1 row1) (hy : IsWay n ds row1 → rr = none) (hnn : ¬ IsWay n ds row1 → rr = some CW) : Asked K CT CN CW H d 0 (.ref q1) y rr := by
  by_cases w1 : IsWay n ds row1
  · rw [hy w1]
    obtain ⟨r1, rfl, W1⟩ := w1
    have e1 := h1.at_
    rw [List.map_map] at e1
    exact .yes hd R hn e1 W1
  · rw [hnn w1]
    exact .no hd R hn h1 w1
theorem far_bad {m far q : Nat} (hm : m ≤ 200) (hf : far < 10 ^ 58) (hq : q < 4) : ∃ z : Int, atI [V.int (m : Nat), V.int ((m : Int) + (far : Int)), V.int (-1), V.int (-1 - (far : Int))] (q : Int) = some (.int z) ∧ z.natAbs.log2 < 1920 ∧ ¬ (0 ≤ z ∧ z < (m : Int)) := by
  obtain ⟨z, ez, hz⟩ := far_at hm hf hq
  refine ⟨z, ez, hz, ?_⟩
  match q, hq with
  | 0, _ => cases ez; omega
  | 1, _ => cases ez; omega
  | 2, _ => cases ez; omega
  | 3, _ => cases ez; omega
theorem six_at (v0 v1 v2 v3 v4 v5 : V) {i : Nat} (h : i < 6) : ∃ v, atI [v0, v1, v2, v3, v4, v5] (i : Int) = some v := ⟨_, atI_nat (List.getElem?_eq_getElem (show i < [v0, v1, v2, v3, v4, v5].length from h))⟩
structure L27 (K : PySem.W.Frag) (CT CN CW : Addr) (H : Hp) (d o r : Addr) (n : Nat) (ds one : List Nat) (row : List Int) (H1 : Hp) : Prop where
  sm : Same H H1
  hn : n ≤ 10
  R : OM.PO n ds
  hd : H1 d = some (.lst (nv ds))
  ho : H1 o = some (.lst (nv one))
  W : OM.Way n ds one
  hr : RowI H1 r row
theorem RowI.same {H H' : Hp} {r : Addr} {row : List Int} (h : RowI H r row) (s : Same H H') : RowI H' r row := ⟨s _ _ h.at_, h.few, h.log⟩
theorem L27.go {CT CN CW : Addr} {H H1 H2 : Hp} {d o r : Addr} {n : Nat} {ds one : List Nat} {row : List Int} (L : L27 K CT CN CW H d o r n ds one row H1) (s : Same H1 H2) : L27 K CT CN CW H d o r n ds one row H2 := ⟨L.sm.trans s, L.hn, L.R, s _ _ L.hd, s _ _ L.ho, L.W, L.hr.same s⟩
theorem way_row {n : Nat} {ds one : List Nat} {H : Hp} {p : Addr} (W : OM.Way n ds one) (hn : n ≤ 10) (h : H p = some (.lst (nv one))) : RowI H p (one.map fun x : Nat => (x : Int)) := by
  refine ⟨by rw [List.map_map]; exact h, by rw [List.length_map, W.len]; omega, fun i hi => ?_⟩
  obtain ⟨x, hx, rfl⟩ := List.mem_map.mp hi
  exact log_small (by have := W.mem.mp hx; omega)
theorem fn_law {f : Addr} {fd : FuncData} {CO CT CN CW : Addr} {kds : List Value} (B : Blt mg) (F : Fun K "law" "law" s_law f fd) (D : ErrD K CO CT CN CW kds) (F_law_cell_at : Fn P w K mg base 1 "_law_cell_at" ["_law_script", "_law_k"] (sp_cell_at K)) (F_law_order : Fn P w K mg base 4 "_law_order" ["_law_script"] (sp_order23 K)) (F_law_way : Fn P w K mg base 3 "_law_way" ["_law_script", "_law_downs_here", "_law_at"] (sp_way K)) (F_law_spoiled : Fn P w K mg base 2 "_law_spoiled" ["_law_script", "_law_one"] (sp_spoiled27 K)) (F_law_lays : Fn P w K mg base 1 "_law_lays" ["_law_row", "_law_downs_here"] (sp_laysI K)) (F_law_asked : Fn P w K mg base 6 "_law_asked" ["_law_way_here", "_law_downs_here", "_law_one", "_law_other"] (sp_asked K CT CN CW)) (F_law_large : Fn P w K mg base 2 "_law_large" ["_law_script"] (sp_large27 K)) : FnOk P w K mg base CX0 7 f fd ["_law_script"] (sp_law K) := by
  have sc : FnScope ["_law_script", "_law_downs_here", "_law_one", "_law_row", "_law_due", "_law_asked_here", "_law_far", "_law_bad", "_law_thing", "_law_two", "_law_large_here", "_law_way_here", "_law_other"] ["_law_script"] (defScope s_law) := ⟨rfl, rfl, rfl, by decide +kernel, rfl, by decide +kernel, by decide +kernel⟩
  refine F.ok sc (fun vs H Q E h => by obtain ⟨a, ns, rfl, _⟩ := h; rfl) fun cdv A outer s H vs Q E hr h => ?_
  have hu := hu60 hr
  obtain ⟨a, ns, rfl, hS, hlen, k⟩ := h
  refine ⟨_, (@pss_cons _ _ _ _ _ (ps_set (i := 1) sc.nd rfl (Or.inl rfl) (pe_callF F_law_order (hr.mono (by decide)) rfl (pa_cons (pv 0) pa_nil)))
      (@pss_cons _ _ _ _ _ (ps_set (i := 2) sc.nd rfl (Or.inl rfl) (pe_callF F_law_way (hr.mono (by decide)) rfl (pa_cons (pv 0) (pa_cons (pv 1) (pa_cons pe_int pa_nil)))))
      (@pss_cons _ _ _ _ _ (ps_set (i := 3) sc.nd rfl (Or.inl rfl) (pe_callF F_law_spoiled (hr.mono (by decide)) rfl (pa_cons (pv 0) (pa_cons (pv 2) pa_nil))))
      (@pss_cons _ _ _ _ _ (ps_set (i := 4) sc.nd rfl (Or.inl rfl) (pe_lst (pa_cons pe_bl (pa_cons pe_bl (pa_cons pe_bl (pa_cons pe_bl (pa_cons pe_bl (pa_cons pe_bl (pa_cons pe_bl (pa_cons pe_bl pa_nil))))))))))
      (@pss_cons _ _ _ _ _ (ps_if (pt_val (pe_callF F_law_lays (hr.mono (by decide)) rfl (pa_cons (pv 3) (pa_cons (pv 1) pa_nil))))
      (@pss_one _ _ _ (ps_set (i := 4) sc.nd rfl (Or.inl rfl) (pe_lst pa_nil)))
      pss_nil)
      (@pss_cons _ _ _ _ _ (ps_set (i := 5) sc.nd rfl (Or.inl rfl) (pe_callTy (callListS K) rfl B.list PyProof.Rows.boot_list (pa_cons (pv 3) pa_nil)))
      (@pss_cons _ _ _ _ _ (ps_if (PW.pt (pw_or (pt_cmpR (op_neA K hu) (pe_callF F_law_asked (hr.mono (by decide)) rfl (pa_cons pe_int (pa_cons (pv 1) (pa_cons (pv 5) (pa_cons pe_int pa_nil))))) (pv 4) (nomark _)) (pw_or1 (pt_cmpR (op_neA K hu) (pe_callF F_law_asked (hr.mono (by decide)) rfl (pa_cons pe_int (pa_cons (pv 1) (pa_cons (pv 5) (pa_cons (pe_callTy (callListS K) rfl B.list PyProof.Rows.boot_list (pa_cons (pv 2) pa_nil)) pa_nil))))) (pv 4) (nomark _)))))
      (@pss_one _ _ _ (ps_ret pe_bl))
      pss_nil)
      (@pss_cons _ _ _ _ _ (ps_if (PW.pt (pw_or (pt_cmpR (op_neA K hu) (pe_callF F_law_asked (hr.mono (by decide)) rfl (pa_cons pe_int (pa_cons (pv 1) (pa_cons (pe_callTy (callListS K) rfl B.list PyProof.Rows.boot_list (pa_cons (pv 2) pa_nil)) (pa_cons (pv 5) pa_nil))))) (pv 4) (nomark _)) (pw_or1 (pt_cmpR (op_neA K hu) (pe_callF F_law_asked (hr.mono (by decide)) rfl (pa_cons pe_int (pa_cons (pv 1) (pa_cons (pe_callTy (callListS K) rfl B.list PyProof.Rows.boot_list (pa_cons (pv 2) pa_nil)) (pa_cons pe_int pa_nil))))) (pe_lst pa_nil) (nomark _)))))
      (@pss_one _ _ _ (ps_ret pe_bl))
      pss_nil)
      (@pss_cons _ _ _ _ _ (ps_if (pt_cmpR (op_neA K hu) (pe_callF F_law_asked (hr.mono (by decide)) rfl (pa_cons pe_int (pa_cons (pv 1) (pa_cons (pv 5) (pa_cons (pe_callTy (callListS K) rfl B.list PyProof.Rows.boot_list (pa_cons (pv 5) pa_nil)) pa_nil))))) (pv 4) (nomark _))
      (@pss_one _ _ _ (ps_ret pe_bl))
      pss_nil)
      (@pss_cons _ _ _ _ _ (ps_set (i := 6) sc.nd rfl (Or.inl rfl) (pe_op op_mod (pe_callF F_law_cell_at (hr.mono (by decide)) rfl (pa_cons (pv 0) (pa_cons pe_int pa_nil))) (pe_op op_pow pe_int pe_int)))
      (@pss_cons _ _ _ _ _ (ps_set (i := 7) sc.nd rfl (Or.inl rfl) (pe_ix (ixL K) (pe_lst (pa_cons (pe_callB (callLen K) rfl B.len PySem.boot_len (pa_cons (pv 1) pa_nil)) (pa_cons (pe_op op_addA (pe_callB (callLen K) rfl B.len PySem.boot_len (pa_cons (pv 1) pa_nil)) (pv 6)) (pa_cons (pe_un un_neg pe_int) (pa_cons (pe_op op_sub (pe_un un_neg pe_int) (pv 6)) pa_nil))))) (pe_op op_mod (pe_op op_fdiv (pe_callF F_law_cell_at (hr.mono (by decide)) rfl (pa_cons (pv 0) (pa_cons pe_int pa_nil))) pe_int) pe_int) (fun _ _ => rfl)))
      (@pss_cons _ _ _ _ _ (ps_set (i := 8) sc.nd rfl (Or.inl rfl) (pe_op op_mod (pe_callF F_law_cell_at (hr.mono (by decide)) rfl (pa_cons (pv 0) (pa_cons pe_int pa_nil))) (pe_callB (call_max2 rfl) rfl B.max PyProof.Rows.boot_max (pa_cons pe_int (pa_cons (pe_callB (callLen K) rfl B.len PySem.boot_len (pa_cons (pv 1) pa_nil)) pa_nil)))))
      (@pss_cons _ _ _ _ _ (ps_set (i := 4) sc.nd rfl (Or.inl rfl) (pe_lst (pa_cons pe_bl (pa_cons pe_bl (pa_cons pe_bl (pa_cons pe_bl (pa_cons pe_bl (pa_cons pe_bl (pa_cons pe_bl (pa_cons pe_bl pa_nil))))))))))
      (@pss_cons _ _ _ _ _ (@ps_for _ _ _ _ _ _ _ _ PassesOwn.never rfl (@piL _ _ _ K _ (@pe_lst _ _ _ _ (@pa_cons _ _ _ _ _ (pe_lst (pa_cons (pv 7) (pa_cons (pv 8) pa_nil))) (@pa_cons _ _ _ _ _ (pe_lst (pa_cons (pv 8) (pa_cons (pv 7) pa_nil))) (@pa_cons _ _ _ _ _ (pe_lst (pa_cons (pv 7) (pa_cons (pv 7) pa_nil))) pa_nil rfl) rfl) rfl)) rfl) (pg_name (i := 9) sc.nd rfl (Or.inl rfl))
      (@pss_one _ _ _ (ps_if (pt_cmpR (op_neA K hu) (pe_callF F_law_asked (hr.mono (by decide)) rfl (pa_cons pe_int (pa_cons (pv 1) (pa_cons (pe_ix (ixL K) (pv 9) pe_int (fun _ _ => rfl)) (pa_cons (pe_ix (ixL K) (pv 9) pe_int (fun _ _ => rfl)) pa_nil))))) (pv 4) (nomark _))
      (@pss_one _ _ _ (ps_ret pe_bl))
      pss_nil)) (fun _ => rfl))
      (@pss_cons _ _ _ _ _ (ps_set (i := 4) sc.nd rfl (Or.inl rfl) (pe_lst (pa_cons pe_bl (pa_cons pe_bl (pa_cons pe_bl (pa_cons pe_bl (pa_cons pe_bl (pa_cons pe_bl (pa_cons pe_bl (pa_cons pe_bl pa_nil))))))))))
      (@pss_cons _ _ _ _ _ (ps_set (i := 10) sc.nd rfl (Or.inl rfl) (pe_callF F_law_large (hr.mono (by decide)) rfl (pa_cons (pv 0) pa_nil)))
      (@pss_cons _ _ _ _ _ (ps_for PassesOwn.never rfl (pi_range1 rfl B.range (pa_cons pe_int pa_nil)) (pg_name (i := 11) sc.nd rfl (Or.inl rfl))
      (@pss_cons _ _ _ _ _ (ps_set (i := 2) sc.nd rfl (Or.inl rfl) (@pe_ix _ _ _ _ _ _ _ (ixL K) (@pe_lst _ _ _ _ (@pa_cons _ _ _ _ _ (pe_lst (pa_cons pe_int (pa_cons pe_int pa_nil))) (@pa_cons _ _ _ _ _ (pe_lst (pa_cons pe_int pa_nil)) (@pa_cons _ _ _ _ _ pe_int (@pa_cons _ _ _ _ _ (pe_un un_neg pe_int) (@pa_cons _ _ _ _ _ pe_int (@pa_cons _ _ _ _ _ pe_int pa_nil rfl) rfl) rfl) rfl) rfl) rfl)) (pv 11) (fun _ _ => rfl)))
      (@pss_cons _ _ _ _ _ (ps_set (i := 12) sc.nd rfl (Or.inl rfl) (@pe_ix _ _ _ _ _ _ _ (ixL K) (@pe_lst _ _ _ _ (@pa_cons _ _ _ _ _ pe_int (@pa_cons _ _ _ _ _ (pe_lst pa_nil) (@pa_cons _ _ _ _ _ (pv 7) (@pa_cons _ _ _ _ _ pe_int (@pa_cons _ _ _ _ _ pe_int (@pa_cons _ _ _ _ _ pe_int pa_nil rfl) rfl) rfl) rfl) rfl) rfl)) (pv 11) (fun _ _ => rfl)))
      (@pss_one _ _ _ (ps_if (pt_cmpR (op_neA K hu) (pe_callF F_law_asked (hr.mono (by decide)) rfl (pa_cons (pv 11) (pa_cons (pv 10) (pa_cons (pv 2) (pa_cons (pv 12) pa_nil))))) (pv 4) (nomark _))
      (@pss_one _ _ _ (ps_ret pe_bl))
      pss_nil)))))
      (@pss_one _ _ _ (ps_ret (pe_cmpR (op_eqA K hu) (pv 5) (pv 3) (nomark _))))))))))))))))))))), ?_⟩
  refine cut3 (fun σ' H1 => ∃ d o r n ds one row, L27 K CT CN CW H d o r n ds one row H1 ∧ σ' = [some (.ref a), some (.ref d), some (.ref o), some (.ref r), none, none, none, none, none, none, none, none, none]) (fun N hN => ?_) ?_
  · walk_at "rd"
    refine ⟨a, ns, rfl, hS, hlen, fun n ds d H1 hn R s1 hd0 hd1 => ?_⟩
    walk_at "rd"
    refine ⟨a, d, ns, ds, n, 61, rfl, s1.seq hS, SqL.of hd1, R, hn, by decide, by decide, fun one o H2 W s2 ho0 ho => ?_⟩
    walk_at "rd"
    refine ⟨a, o, ns, one, rfl, (s1.trans s2).seq hS, SqL.of ho, by rw [W.len]; exact hn, fun x hx => Nat.lt_of_lt_of_le (W.mem.mp hx) hn, fun row r H3 h1 h2 s3 hr0 hr3 => ?_⟩
    walk_at "rd"
    exact hN _ _ ⟨d, o, r, n, ds, one, row, ⟨(s1.trans s2).trans s3, hn, R, s3 _ _ (s2 _ _ hd1), s3 _ _ ho, W, hr3, h1, h2⟩, rfl⟩
  rintro σ' H1 ⟨d, o, r, n, ds, one, row, L, rfl⟩
  refine cut2 (fun σ' H2 => ∃ (q : Addr) (rr : Option Addr), L27 K CT CN CW H d o r n ds one row H2 ∧ (IsWay n ds row → rr = none) ∧ (¬ IsWay n ds row → rr = some CW) ∧ H2 q = some (.lst ((kindL CT CN rr).map V.bl)) ∧ σ' = [some (.ref a), some (.ref d), some (.ref o), some (.ref r), some (.ref q), none, none, none, none, none, none, none, none]) (fun N hN => ?_) ?_
  · walk_at "rd"
    refine ⟨by rw [sizeLine_eq]; decide, ?_⟩
    intro q hp_q
    generalize hq_q : upd _ q _ = H2
    have s_H2 : Same _ H2 := hq_q ▸ Same.upd hp_q
    have e_H2 : H2 q = some _ := hq_q ▸ upd_same
    clear hq_q
    have L := L.go s_H2
    refine ⟨r, d, row, ds, n, rfl, SqL.of L.hr.at_, SqL.of L.hd, L.R, by have := L.hn; omega, fun b hb => ?_⟩
    cases b with
    | false =>
      walk_at "rd"
      have no : ¬ IsWay n ds row := fun z => by have := hb.mpr z; cases this
      exact hN _ _ ⟨q, some CW, L, fun z => absurd z no, fun _ => rfl, by rw [kl_w D.tw D.nw]; exact e_H2, rfl⟩
    | true =>
      walk_at "rd"
      refine ⟨by rw [sizeLine_eq]; decide, ?_⟩
      intro q2 hp_q2
      generalize hq_q2 : upd _ q2 _ = H3
      have s_H3 : Same _ H3 := hq_q2 ▸ Same.upd hp_q2
      have e_H3 : H3 q2 = some _ := hq_q2 ▸ upd_same
      clear hq_q2
      exact hN _ _ ⟨q2, none, L.go s_H3, fun _ => rfl, fun z => absurd (hb.mp rfl) z, e_H3, rfl⟩
  clear L
  rintro σ' H2 ⟨q, rr, L, hy, hnn, hq, rfl⟩
  refine cut1 (fun σ' H3 => ∃ l, L27 K CT CN CW H d o r n ds one row H3 ∧ H3 q = some (.lst ((kindL CT CN rr).map V.bl)) ∧ RowI H3 l row ∧ σ' = [some (.ref a), some (.ref d), some (.ref o), some (.ref r), some (.ref q), some (.ref l), none, none, none, none, none, none, none]) (fun N hN => ?_) ?_
  · walk_at "rd"
    refine ⟨_, .inl (SqL.of L.hr.at_), ?_⟩
    intro l hp_l
    generalize hq_l : upd _ l _ = H3
    have s_H3 : Same _ H3 := hq_l ▸ Same.upd hp_l
    have e_H3 : H3 l = some _ := hq_l ▸ upd_same
    clear hq_l
    exact hN _ _ ⟨l, L.go s_H3, s_H3 _ _ hq, ⟨e_H3, L.hr.few, L.hr.log⟩, rfl⟩
  clear L hq
  rintro σ' H3 ⟨l, L, hq, hl, rfl⟩
  refine cut1 (fun σ' H4 => Same H3 H4 ∧ σ' = [some (.ref a), some (.ref d), some (.ref o), some (.ref r), some (.ref q), some (.ref l), none, none, none, none, none, none, none]) (fun N hN => ?_) ?_
  · refine ask_t (wd := 0) (d := d) (fun Q g => tc_c (tc_v rfl (tc_v rfl (tc_c (tc_n (g _ _ _ (.refl _) (ask0 L.hd L.R L.hn hl hy hnn))))))) (fun _ _ g => ⟨_, rfl, g⟩) hq fun H4 s4 => iteF ?_
    refine ask_t (wd := 1) (d := d) (fun Q g => tc_c (tc_v rfl (tc_v rfl (tc_l rfl (SqL.of (s4 _ _ L.ho)) fun p hp => tc_n (g _ _ _ (Same.upd hp) ?_))))) (fun _ _ g => ⟨_, rfl, g⟩) (s4 _ _ hq) fun H6 s6 => iteF (hN _ _ ⟨s4.trans s6, rfl⟩)
    have s5 := s4.trans (Same.upd (o := .lst (nv one)) hp)
    exact ask1 (s5 _ _ L.hd) L.R L.hn (hl.same s5) (way_row L.W L.hn upd_same) (fun w _ => hy w) (fun h => hnn (h.resolve_right fun z => z ⟨one, rfl, L.W⟩))
  rintro σ' H4 ⟨s4, rfl⟩
  have L := L.go s4
  have hq := s4 _ _ hq
  have hl := hl.same s4
  clear s4
  refine cut1 (fun σ' H5 => Same H4 H5 ∧ σ' = [some (.ref a), some (.ref d), some (.ref o), some (.ref r), some (.ref q), some (.ref l), none, none, none, none, none, none, none]) (fun N hN => ?_) ?_
  · refine ask_t (wd := 1) (d := d) (fun Q g => tc_c (tc_v rfl (tc_l rfl (SqL.of L.ho) fun p hp => tc_v rfl (tc_n (g _ _ _ (Same.upd hp) ?_))))) (fun _ _ g => ⟨_, rfl, g⟩) hq fun H6 s6 => iteF ?_
    · have s5 : Same H4 _ := Same.upd (o := .lst (nv one)) hp
      exact ask1 (s5 _ _ L.hd) L.R L.hn (way_row L.W L.hn upd_same) (hl.same s5) (fun _ w => hy w) (fun h => hnn (h.resolve_left fun z => z ⟨one, rfl, L.W⟩))
    · walk_at "rd"
      refine ⟨_, .inl (SqL.of (s6 _ _ L.ho)), fun p2 hp2 => ?_⟩
      have s7 := s6.trans (Same.upd (o := .lst (nv one)) hp2)
      refine ⟨0, d, _, _, none, rfl, ask0 (s7 _ _ L.hd) L.R L.hn (way_row L.W L.hn upd_same) (fun _ => rfl) (fun h => absurd ⟨one, rfl, L.W⟩ h), fun l3 H8 s8 _ h8 => ⟨Nat.zero_le _, fun p3 hp3 => ⟨⟨_, rfl⟩, true, eqd_map (xs := ([] : List Bool)) (f := V.bl) (fun _ => rfl) ((Same.upd hp3) _ _ h8) upd_same, ?_⟩⟩⟩
      rw [if_neg (by decide)]
      exact hN _ _ ⟨(s7.trans s8).trans (Same.upd hp3), rfl⟩
  rintro σ' H5 ⟨s5, rfl⟩
  have L := L.go s5
  have hq := s5 _ _ hq
  have hl := hl.same s5
  clear s5
  refine cut1 (fun σ' H6 => Same H5 H6 ∧ σ' = [some (.ref a), some (.ref d), some (.ref o), some (.ref r), some (.ref q), some (.ref l), none, none, none, none, none, none, none]) (fun N hN => ?_) ?_
  · refine ask_t (wd := 1) (d := d) (fun Q g => tc_c (tc_v rfl (tc_v rfl (tc_l rfl (SqL.of hl.at_) fun p hp => tc_n (g _ _ _ (Same.upd hp) ?_))))) (fun _ _ g => ⟨_, rfl, g⟩) hq fun H6 s6 => iteF (hN _ _ ⟨s6, rfl⟩)
    have s6 : Same H5 _ := Same.upd (o := .lst (row.map V.int)) hp
    exact ask1 (s6 _ _ L.hd) L.R L.hn (hl.same s6) ⟨upd_same, hl.few, hl.log⟩ (fun _ w => hy w) (fun h => hnn (h.elim id id))
  rintro σ' H6 ⟨s6, rfl⟩
  have L := L.go s6
  have hl := hl.same s6
  clear s6 hq
  have hdl := L.R.len
  refine cut1 (fun σ' H7 => H7 = H6 ∧ ∃ far : Nat, far < 10 ^ 58 ∧ σ' = [some (.ref a), some (.ref d), some (.ref o), some (.ref r), some (.ref q), some (.ref l), some (.int (far : Nat)), none, none, none, none, none, none]) (fun N hN => ?_) ?_
  · walk_at "rm"
    refine ⟨_, ns, _, rfl, L.sm.seq hS, by decide, ?_⟩
    refine ⟨⟨by decide, by decide, by decide⟩, _, rfl, by decide, ?_⟩
    obtain ⟨q, e, h⟩ := mod_nat (show (0 : Int) < (10 : Int) ^ Int.toNat 58 by decide) (cell ns 2)
    rw [e]
    exact hN _ _ ⟨rfl, q, by have : (q : Int) < ((10 ^ 58 : Nat) : Int) := h; exact Int.ofNat_lt.mp this, rfl⟩
  rintro σ' H7 ⟨rfl, far, hfar, rfl⟩
  refine cut1 (fun σ' H8 => Same H7 H8 ∧ ∃ bad : Int, ¬ (0 ≤ bad ∧ bad < (n : Int)) ∧ bad.natAbs.log2 < 1920 ∧ σ' = [some (.ref a), some (.ref d), some (.ref o), some (.ref r), some (.ref q), some (.ref l), some (.int (far : Nat)), some (.int bad), none, none, none, none, none]) (fun N hN => ?_) ?_
  · walk_at "ds"
    refine ⟨_, rfl, _, _, rfl, .inl (SqL.of L.hd), _, rfl, _, _, rfl, .inl (SqL.of L.hd), _, rfl, .inl ⟨_, _, rfl, rfl, _, rfl, _, rfl, _, rfl, _, _, rfl, rfl, Nat.le_of_lt (small1000 (n := 4) (by decide)), fun p hp => ?_⟩⟩
    obtain ⟨q4, e, hq⟩ := mod_nat (m := 4) (by decide) (cell ns 6 / 5)
    obtain ⟨z, ez, hz, hz2⟩ := far_bad (m := (nv ds).length) (far := far) (by rw [nv_len, hdl]; have := L.hn; omega) hfar (show q4 < 4 by omega)
    rw [nv_len, hdl] at hz2
    exact tcall_c rfl ⟨_, ns, _, rfl, (L.sm.trans (Same.upd hp)).seq hS, by decide, _, _, rfl, rfl, by unfold CDiv; omega, _, _, rfl, rfl, by decide, _, _, _, _, rfl, rfl, SqL.of upd_same, by rw [e]; exact ez, hN _ _ ⟨Same.upd hp, z, hz2, hz, rfl⟩⟩
  rintro σ' H8 ⟨s8, bad, hb1, hb2, rfl⟩
  have L := L.go s8
  have hl := hl.same s8
  clear s8 hfar
  refine cut1 (fun σ' H9 => H9 = H8 ∧ ∃ th : Nat, th ≤ 10 ∧ σ' = [some (.ref a), some (.ref d), some (.ref o), some (.ref r), some (.ref q), some (.ref l), some (.int (far : Nat)), some (.int bad), some (.int (th : Nat)), none, none, none, none]) (fun N hN => ?_) ?_
  · walk_at "rd"
    have hpos : (0 : Int) < if (n : Int) > 1 then (n : Int) else 1 := by split <;> omega
    have hn := L.hn
    refine ⟨_, ns, _, rfl, L.sm.seq hS, by decide, _, .inl (SqL.of L.hd), ?_⟩
    rw [nv_len, hdl]
    obtain ⟨z, e, h⟩ := mod_nat hpos (cell ns 4)
    refine ⟨_, rfl, hpos, ?_⟩
    rw [e]
    exact hN _ _ ⟨rfl, z, by split at h <;> omega, rfl⟩
  rintro σ' H9 ⟨rfl, th, hth, rfl⟩
  refine cut1 (fun σ' H10 => ∃ q, L27 K CT CN CW H d o r n ds one row H10 ∧ RowI H10 l row ∧ H10 q = some (.lst ((kindL CT CN (some CN)).map V.bl)) ∧ σ' = [some (.ref a), some (.ref d), some (.ref o), some (.ref r), some (.ref q), some (.ref l), some (.int (far : Nat)), some (.int bad), some (.int (th : Nat)), none, none, none, none]) (fun N hN => ?_) ?_
  · walk_at "rd"
    refine ⟨by rw [sizeLine_eq]; decide, ?_⟩
    intro q2 hp_q2
    generalize hq_q2 : upd _ q2 _ = H10
    have s_H10 : Same _ H10 := hq_q2 ▸ Same.upd hp_q2
    have e_H10 : H10 q2 = some _ := hq_q2 ▸ upd_same
    clear hq_q2
    exact hN _ _ ⟨q2, L.go s_H10, hl.same s_H10, by rw [kl_n D.tn]; exact e_H10, rfl⟩
  clear L hl
  rintro σ' H10 ⟨q2, L, hl, hq, rfl⟩
  refine cut1 (fun σ' H11 => Same H10 H11 ∧ ∃ v9, σ' = [some (.ref a), some (.ref d), some (.ref o), some (.ref r), some (.ref q2), some (.ref l), some (.int (far : Nat)), some (.int bad), some (.int (th : Nat)), v9, none, none, none]) (fun N hN => ?_) ?_
  · walk_at "ds"
    refine ⟨_, rfl, _, rfl, Nat.le_of_lt (small1000 (n := 2) (by decide)), ?_⟩
    intro p1 hp_p1
    generalize hq_p1 : upd _ p1 _ = G1
    have s_G1 : Same _ G1 := hq_p1 ▸ Same.upd hp_p1
    have e_G1 : G1 p1 = some _ := hq_p1 ▸ upd_same
    clear hq_p1
    refine ⟨_, rfl, _, rfl, Nat.le_of_lt (small1000 (n := 2) (by decide)), ?_⟩
    intro p2 hp_p2
    generalize hq_p2 : upd _ p2 _ = G2
    have s_G2 : Same _ G2 := hq_p2 ▸ Same.upd hp_p2
    have e_G2 : G2 p2 = some _ := hq_p2 ▸ upd_same
    clear hq_p2
    refine ⟨_, rfl, _, rfl, Nat.le_of_lt (small1000 (n := 2) (by decide)), ?_⟩
    intro p3 hp_p3
    generalize hq_p3 : upd _ p3 _ = G3
    have s_G3 : Same _ G3 := hq_p3 ▸ Same.upd hp_p3
    have e_G3 : G3 p3 = some _ := hq_p3 ▸ upd_same
    clear hq_p3
    refine ⟨Nat.le_of_lt (small1000 (n := 3) (by decide)), ?_⟩
    intro p4 hp_p4
    generalize hq_p4 : upd _ p4 _ = G4
    have s_G4 : Same _ G4 := hq_p4 ▸ Same.upd hp_p4
    have e_G4 : G4 p4 = some _ := hq_p4 ▸ upd_same
    clear hq_p4
    have s4 := ((s_G1.trans s_G2).trans s_G3).trans s_G4
    have hn := L.hn
    have ht : ((th : Nat) : Int).natAbs.log2 < 1920 := log_small (by omega)
    have htwo : ∀ (i : Nat) x, [V.ref p1, V.ref p2, V.ref p3][i]? = some x → ∃ (p : Addr) (u v : Int), x = .ref p ∧ G4 p = some (.lst [.int u, .int v]) ∧ u.natAbs.log2 < 1920 ∧ v.natAbs.log2 < 1920 ∧ ¬ ((0 ≤ u ∧ u < (n : Int)) ∧ 0 ≤ v ∧ v < (n : Int)) := fun i x ex => by
      match i with
      | 0 => cases ex; exact ⟨p1, _, _, rfl, s_G4 _ _ (s_G3 _ _ (s_G2 _ _ e_G1)), hb2, ht, fun z => hb1 z.1⟩
      | 1 => cases ex; exact ⟨p2, _, _, rfl, s_G4 _ _ (s_G3 _ _ e_G2), ht, hb2, fun z => hb1 z.2⟩
      | 2 => cases ex; exact ⟨p3, _, _, rfl, s_G4 _ _ e_G3, hb2, hb2, fun z => hb1 z.1⟩
      | i + 3 => cases ex
    clear s_G1 s_G2 s_G3 s_G4 e_G1 e_G2 e_G3
    have hd4 := s4 _ _ L.hd
    have hq4 := s4 _ _ hq
    refine ⟨_, rfl, ⟨_, SqL.of e_G4⟩, ?_⟩
    refine fg_listR (xs := [.ref p1, .ref p2, .ref p3]) (fun i σ' H' => Same G4 H' ∧ ∃ v9, σ' = [some (.ref a), some (.ref d), some (.ref o), some (.ref r), some (.ref q2), some (.ref l), some (.int (far : Nat)), some (.int bad), some (.int (th : Nat)), v9, none, none, none]) ⟨.refl _, none, rfl⟩ (fun i σ' H' _ ⟨sm, _⟩ => sm.seq (SqL.of e_G4)) ?_ (fun σ' H' ⟨sm, v9, e⟩ => hN _ _ ⟨s4.trans sm, v9, e⟩)
    rintro i x σ' H' ex ⟨sm, v9, rfl⟩ N' R' hN'
    obtain ⟨p, u, v, rfl, hp, hu1, hv1, hb⟩ := htwo i x ex
    rw [ap_gname]
    exact ask_t (wd := 2) (d := d) (fun Q g => tc_c (tc_v rfl (tc_ix rfl (SqL.of (sm _ _ hp)) rfl (tc_ix rfl (SqL.of (sm _ _ hp)) rfl (tc_n (g _ _ _ (.refl _) (.strange (SqL.of (sm _ _ hd4)) (by rw [nv_len, hdl]; exact hn) hu1 hv1 (by rw [nv_len, hdl]; exact hb)))))))) (fun _ _ g => ⟨_, rfl, g⟩) (sm _ _ hq4) fun H5 s5 => iteF (hN' _ _ ⟨sm.trans s5, _, rfl⟩)
  rintro σ' H11 ⟨s11, v9, rfl⟩
  have L := L.go s11
  have hl := hl.same s11
  clear s11 hq
  refine cut2 (fun σ' H12 => ∃ (q lg : Addr) (xs : List V), L27 K CT CN CW H d o r n ds one row H12 ∧ RowI H12 l row ∧ H12 q = some (.lst ((kindL CT CN (some CT)).map V.bl)) ∧ H12 lg = some (.lst xs) ∧ 10 < xs.length ∧ xs.length ≤ 200 ∧ σ' = [some (.ref a), some (.ref d), some (.ref o), some (.ref r), some (.ref q), some (.ref l), some (.int (far : Nat)), some (.int bad), some (.int (th : Nat)), v9, some (.ref lg), none, none]) (fun N hN => ?_) ?_
  · walk_at "rd"
    refine ⟨by rw [sizeLine_eq]; decide, ?_⟩
    intro q3 hp_q3
    generalize hq_q3 : upd _ q3 _ = H12
    have s_H12 : Same _ H12 := hq_q3 ▸ Same.upd hp_q3
    have e_H12 : H12 q3 = some _ := hq_q3 ▸ upd_same
    clear hq_q3
    refine ⟨a, ns, rfl, (L.sm.trans s_H12).seq hS, fun xs lg H13 h1 h2 s13 _ h13 => ?_⟩
    walk_at "rd"
    exact hN _ _ ⟨q3, lg, xs, L.go (s_H12.trans s13), hl.same (s_H12.trans s13), by rw [kl_t]; exact s13 _ _ e_H12, h13, h1, h2, rfl⟩
  clear L hl
  rintro σ' H12 ⟨q3, lg, xs, L, hl, hq, hlg, hx1, hx2, rfl⟩
  refine cut1 (fun σ' H13 => Same H12 H13 ∧ ∃ v2 v11 v12, σ' = [some (.ref a), some (.ref d), v2, some (.ref r), some (.ref q3), some (.ref l), some (.int (far : Nat)), some (.int bad), some (.int (th : Nat)), v9, some (.ref lg), v11, v12]) (fun N hN => ?_) ?_
  · walk_at "rd"
    refine ⟨by decide, by decide, ?_⟩
    refine fg_rangeR (fun i σ' H' => Same H12 H' ∧ ∃ v2 v11 v12, σ' = [some (.ref a), some (.ref d), v2, some (.ref r), some (.ref q3), some (.ref l), some (.int (far : Nat)), some (.int bad), some (.int (th : Nat)), v9, some (.ref lg), v11, v12]) ⟨.refl _, _, _, _, rfl⟩ ?_ (fun σ' H' ⟨sm, e⟩ => hN _ _ ⟨sm, e⟩)
    rintro i σ' H' hi ⟨sm, v2, v11, v12, rfl⟩ N' R' hN'
    have hi : i < 6 := hi
    rw [Int.zero_add, ap_gname]
    refine cut2 (fun σ2 H2 => ∃ v v', Same H' H2 ∧ σ2 = [some (.ref a), some (.ref d), some v, some (.ref r), some (.ref q3), some (.ref l), some (.int (far : Nat)), some (.int bad), some (.int (th : Nat)), v9, some (.ref lg), some (.int (i : Nat)), some v']) (fun N2 hN2 => ?_) ?_
    · walk_at "ds"
      refine ⟨Nat.le_of_lt (small1000 (n := 2) (by decide)), ?_⟩
      intro p1 hp_p1
      generalize hq_p1 : upd _ p1 _ = G1
      have s_G1 : Same _ G1 := hq_p1 ▸ Same.upd hp_p1
      have e_G1 : G1 p1 = some _ := hq_p1 ▸ upd_same
      clear hq_p1
      refine ⟨Nat.le_of_lt (small1000 (n := 1) (by decide)), ?_⟩
      intro p2 hp_p2
      generalize hq_p2 : upd _ p2 _ = G2
      have s_G2 : Same _ G2 := hq_p2 ▸ Same.upd hp_p2
      have e_G2 : G2 p2 = some _ := hq_p2 ▸ upd_same
      clear hq_p2
      refine ⟨_, rfl, Nat.le_of_lt (small1000 (n := 6) (by decide)), ?_⟩
      intro p3 hp_p3
      generalize hq_p3 : upd _ p3 _ = G3
      have s_G3 : Same _ G3 := hq_p3 ▸ Same.upd hp_p3
      have e_G3 : G3 p3 = some _ := hq_p3 ▸ upd_same
      clear hq_p3
      obtain ⟨v, ev⟩ := six_at (.ref p1) (.ref p2) (.int 0) (.int (-1)) (.int 0) (.int 0) hi
      refine ⟨_, rfl, _, _, _, _, rfl, rfl, SqL.of e_G3, ev, Nat.le_of_lt (small1000 (n := 0) (by decide)), ?_⟩
      intro p4 hp_p4
      generalize hq_p4 : upd _ p4 _ = G4
      have s_G4 : Same _ G4 := hq_p4 ▸ Same.upd hp_p4
      have e_G4 : G4 p4 = some _ := hq_p4 ▸ upd_same
      clear hq_p4
      refine ⟨_, rfl, Nat.le_of_lt (small1000 (n := 6) (by decide)), ?_⟩
      intro p5 hp_p5
      generalize hq_p5 : upd _ p5 _ = G5
      have s_G5 : Same _ G5 := hq_p5 ▸ Same.upd hp_p5
      have e_G5 : G5 p5 = some _ := hq_p5 ▸ upd_same
      clear hq_p5
      obtain ⟨v', ev'⟩ := six_at (.int 0) (.ref p4) (.int bad) (.int 0) (.int 0) (.int 0) hi
      exact ⟨_, rfl, _, _, _, _, rfl, rfl, SqL.of e_G5, ev', hN2 _ _ ⟨v, v', (((s_G1.trans s_G2).trans s_G3).trans s_G4).trans s_G5, rfl⟩⟩
    rintro σ2 H2 ⟨v, v', s2, rfl⟩
    have s5 := sm.trans s2
    exact ask_t (wd := i) (d := lg) (fun Q g => tc_v rfl (tc_v rfl (tc_v rfl (tc_v rfl (tc_n (g _ _ _ (.refl _) (.large (SqL.of (s5 _ _ hlg)) hx1 hx2 hi))))))) (fun _ _ g => ⟨_, rfl, g⟩) (s5 _ _ hq) fun H6 s6 => iteF (hN' _ _ ⟨s5.trans s6, _, _, _, rfl⟩)
  rintro σ' H13 ⟨s13, v2, v11, v12, rfl⟩
  walk_at "rd"
  exact ⟨true, eqd_map (fun _ => rfl) (s13 _ _ hl.at_) (s13 _ _ L.hr.at_), k H13⟩
end
theorem all_mk {l : PySem.W.OpenLaw} {w : World} {K : PySem.W.Frag} {h : Heap} {mg : Str → Option Value} {fa : Addr} (X : K.In h) (G : h.Ns mainGlobals mg) (hfa : mg "law" = some (.ref fa))
    {f0 : Addr} {od0 an0 : Option Addr} {sl0 : Array (Option Value)} {oc0 kV0 dc0 pm0 cd0 ct0 : Value}
    {f1 : Addr} {od1 an1 : Option Addr} {sl1 : Array (Option Value)} {oc1 kV1 dc1 pm1 cd1 ct1 : Value}
    {f2 : Addr} {od2 an2 : Option Addr} {sl2 : Array (Option Value)} {oc2 kV2 dc2 pm2 cd2 ct2 : Value}
    {f3 : Addr} {od3 an3 : Option Addr} {sl3 : Array (Option Value)} {oc3 kV3 dc3 pm3 cd3 ct3 : Value}
    {f4 : Addr} {od4 an4 : Option Addr} {sl4 : Array (Option Value)} {oc4 kV4 dc4 pm4 cd4 ct4 : Value}
    {f5 : Addr} {od5 an5 : Option Addr} {sl5 : Array (Option Value)} {oc5 kV5 dc5 pm5 cd5 ct5 : Value}
    {f6 : Addr} {od6 an6 : Option Addr} {sl6 : Array (Option Value)} {oc6 kV6 dc6 pm6 cd6 ct6 : Value}
    {f7 : Addr} {od7 an7 : Option Addr} {sl7 : Array (Option Value)} {oc7 kV7 dc7 pm7 cd7 ct7 : Value}
    {f8 : Addr} {od8 an8 : Option Addr} {sl8 : Array (Option Value)} {oc8 kV8 dc8 pm8 cd8 ct8 : Value}
    {f9 : Addr} {od9 an9 : Option Addr} {sl9 : Array (Option Value)} {oc9 kV9 dc9 pm9 cd9 ct9 : Value}
    {f10 : Addr} {od10 an10 : Option Addr} {sl10 : Array (Option Value)} {oc10 kV10 dc10 pm10 cd10 ct10 : Value}
    {f11 : Addr} {od11 an11 : Option Addr} {sl11 : Array (Option Value)} {oc11 kV11 dc11 pm11 cd11 ct11 : Value}
    {f12 : Addr} {od12 an12 : Option Addr} {sl12 : Array (Option Value)} {oc12 kV12 dc12 pm12 cd12 ct12 : Value}
    {f13 : Addr} {od13 an13 : Option Addr} {sl13 : Array (Option Value)} {oc13 kV13 dc13 pm13 cd13 ct13 : Value}
    {f14 : Addr} {od14 an14 : Option Addr} {sl14 : Array (Option Value)} {oc14 kV14 dc14 pm14 cd14 ct14 : Value}
    {f15 : Addr} {od15 an15 : Option Addr} {sl15 : Array (Option Value)} {oc15 kV15 dc15 pm15 cd15 ct15 : Value}
    {f16 : Addr} {od16 an16 : Option Addr} {sl16 : Array (Option Value)} {oc16 kV16 dc16 pm16 cd16 ct16 : Value}
    {f17 : Addr} {od17 an17 : Option Addr} {sl17 : Array (Option Value)} {oc17 kV17 dc17 pm17 cd17 ct17 : Value}
    {f18 : Addr} {od18 an18 : Option Addr} {sl18 : Array (Option Value)} {oc18 kV18 dc18 pm18 cd18 ct18 : Value}
    {f19 : Addr} {od19 an19 : Option Addr} {sl19 : Array (Option Value)} {oc19 kV19 dc19 pm19 cd19 ct19 : Value}
    {f20 : Addr} {od20 an20 : Option Addr} {sl20 : Array (Option Value)} {oc20 kV20 dc20 pm20 cd20 ct20 : Value}
    {f21 : Addr} {od21 an21 : Option Addr} {sl21 : Array (Option Value)} {oc21 kV21 dc21 pm21 cd21 ct21 : Value}
    {f22 : Addr} {od22 an22 : Option Addr} {sl22 : Array (Option Value)} {oc22 kV22 dc22 pm22 cd22 ct22 : Value}
    {f23 : Addr} {od23 an23 : Option Addr} {sl23 : Array (Option Value)} {oc23 kV23 dc23 pm23 cd23 ct23 : Value}
    {f24 : Addr} {od24 an24 : Option Addr} {sl24 : Array (Option Value)} {oc24 kV24 dc24 pm24 cd24 ct24 : Value}
    {f25 : Addr} {od25 an25 : Option Addr} {sl25 : Array (Option Value)} {oc25 kV25 dc25 pm25 cd25 ct25 : Value}
    {f26 : Addr} {od26 an26 : Option Addr} {sl26 : Array (Option Value)} {oc26 kV26 dc26 pm26 cd26 ct26 : Value}
    {f27 : Addr} {od27 an27 : Option Addr} {sl27 : Array (Option Value)} {oc27 kV27 dc27 pm27 cd27 ct27 : Value}
    {u_MOST_LAID : Value}
    {A_TooMany N_TooMany : Addr} {nm_TooMany q_TooMany : Str} {bs_TooMany bm_TooMany sub_TooMany : List Value} {hd_TooMany ab_TooMany : Bool} {sn_TooMany : List Str} {col_TooMany : Option Bool} {dd_TooMany : Option Addr} {k0_TooMany k1_TooMany k2_TooMany k3_TooMany k5_TooMany : Option Value} {cd_TooMany : ClassData}
    {A_NoThing N_NoThing : Addr} {nm_NoThing q_NoThing : Str} {bs_NoThing bm_NoThing sub_NoThing : List Value} {hd_NoThing ab_NoThing : Bool} {sn_NoThing : List Str} {col_NoThing : Option Bool} {dd_NoThing : Option Addr} {k0_NoThing k1_NoThing k2_NoThing k3_NoThing k5_NoThing : Option Value} {cd_NoThing : ClassData}
    {A_NoWay N_NoWay : Addr} {nm_NoWay q_NoWay : Str} {bs_NoWay bm_NoWay sub_NoWay : List Value} {hd_NoWay ab_NoWay : Bool} {sn_NoWay : List Str} {col_NoWay : Option Bool} {dd_NoWay : Option Addr} {k0_NoWay k1_NoWay k2_NoWay k3_NoWay k5_NoWay : Option Value} {cd_NoWay : ClassData}
    {A_OrderError N_OrderError : Addr} {nm_OrderError q_OrderError : Str} {bs_OrderError bm_OrderError sub_OrderError : List Value} {hd_OrderError ab_OrderError : Bool} {sn_OrderError : List Str} {col_OrderError : Option Bool} {dd_OrderError : Option Addr} {k0_OrderError k1_OrderError k2_OrderError k3_OrderError k5_OrderError : Option Value} {cd_OrderError : ClassData}
    {A_Ring : Addr} {cd_Ring : ClassData}
    {A_NoTwoRows : Addr} {cd_NoTwoRows : ClassData}
    {A_NoLattice : Addr} {cd_NoLattice : ClassData}
    {A_NotSpreading : Addr} {cd_NotSpreading : ClassData}
    (a0 : PySem.W.nsIn K mainGlobals "places_of" = some (some (.ref f0))) (l0 : K.lookup f0 = some ⟨oc0, od0, .func (PySem.W.fnOf "places_of" "places_of" (defArgs s_places_of) (defBody s_places_of) (defScope s_places_of) .none kV0 dc0 pm0 an0 cd0 ct0), sl0⟩) (c0 : PySem.W.codeIn K cd0 "places_of" = true) (k0 : PySem.W.keepIn K (.ref f0) = true)
    (a1 : PySem.W.nsIn K mainGlobals "refuse_more" = some (some (.ref f1))) (l1 : K.lookup f1 = some ⟨oc1, od1, .func (PySem.W.fnOf "refuse_more" "refuse_more" (defArgs s_refuse_more) (defBody s_refuse_more) (defScope s_refuse_more) .none kV1 dc1 pm1 an1 cd1 ct1), sl1⟩) (c1 : PySem.W.codeIn K cd1 "refuse_more" = true) (k1 : PySem.W.keepIn K (.ref f1) = true)
    (a2 : PySem.W.nsIn K mainGlobals "refuse_stranger" = some (some (.ref f2))) (l2 : K.lookup f2 = some ⟨oc2, od2, .func (PySem.W.fnOf "refuse_stranger" "refuse_stranger" (defArgs s_refuse_stranger) (defBody s_refuse_stranger) (defScope s_refuse_stranger) .none kV2 dc2 pm2 an2 cd2 ct2), sl2⟩) (c2 : PySem.W.codeIn K cd2 "refuse_stranger" = true) (k2 : PySem.W.keepIn K (.ref f2) = true)
    (a3 : PySem.W.nsIn K mainGlobals "with_all_below" = some (some (.ref f3))) (l3 : K.lookup f3 = some ⟨oc3, od3, .func (PySem.W.fnOf "with_all_below" "with_all_below" (defArgs s_with_all_below) (defBody s_with_all_below) (defScope s_with_all_below) .none kV3 dc3 pm3 an3 cd3 ct3), sl3⟩) (c3 : PySem.W.codeIn K cd3 "with_all_below" = true) (k3 : PySem.W.keepIn K (.ref f3) = true)
    (a4 : PySem.W.nsIn K mainGlobals "downsets_of" = some (some (.ref f4))) (l4 : K.lookup f4 = some ⟨oc4, od4, .func (PySem.W.fnOf "downsets_of" "downsets_of" (defArgs s_downsets_of) (defBody s_downsets_of) (defScope s_downsets_of) .none kV4 dc4 pm4 an4 cd4 ct4), sl4⟩) (c4 : PySem.W.codeIn K cd4 "downsets_of" = true) (k4 : PySem.W.keepIn K (.ref f4) = true)
    (a5 : PySem.W.nsIn K mainGlobals "ways_in" = some (some (.ref f5))) (l5 : K.lookup f5 = some ⟨oc5, od5, .func (PySem.W.fnOf "ways_in" "ways_in" (defArgs s_ways_in) (defBody s_ways_in) (defScope s_ways_in) .none kV5 dc5 pm5 an5 cd5 ct5), sl5⟩) (c5 : PySem.W.codeIn K cd5 "ways_in" = true) (k5 : PySem.W.keepIn K (.ref f5) = true)
    (a6 : PySem.W.nsIn K mainGlobals "ways_behind" = some (some (.ref f6))) (l6 : K.lookup f6 = some ⟨oc6, od6, .func (PySem.W.fnOf "ways_behind" "ways_behind" (defArgs s_ways_behind) (defBody s_ways_behind) (defScope s_ways_behind) .none kV6 dc6 pm6 an6 cd6 ct6), sl6⟩) (c6 : PySem.W.codeIn K cd6 "ways_behind" = true) (k6 : PySem.W.keepIn K (.ref f6) = true)
    (a7 : PySem.W.nsIn K mainGlobals "ready_behind" = some (some (.ref f7))) (l7 : K.lookup f7 = some ⟨oc7, od7, .func (PySem.W.fnOf "ready_behind" "ready_behind" (defArgs s_ready_behind) (defBody s_ready_behind) (defScope s_ready_behind) .none kV7 dc7 pm7 an7 cd7 ct7), sl7⟩) (c7 : PySem.W.codeIn K cd7 "ready_behind" = true) (k7 : PySem.W.keepIn K (.ref f7) = true)
    (a8 : PySem.W.nsIn K mainGlobals "way_at" = some (some (.ref f8))) (l8 : K.lookup f8 = some ⟨oc8, od8, .func (PySem.W.fnOf "way_at" "way_at" (defArgs s_way_at) (defBody s_way_at) (defScope s_way_at) .none kV8 dc8 pm8 an8 cd8 ct8), sl8⟩) (c8 : PySem.W.codeIn K cd8 "way_at" = true) (k8 : PySem.W.keepIn K (.ref f8) = true)
    (a9 : PySem.W.nsIn K mainGlobals "number_of" = some (some (.ref f9))) (l9 : K.lookup f9 = some ⟨oc9, od9, .func (PySem.W.fnOf "number_of" "number_of" (defArgs s_number_of) (defBody s_number_of) (defScope s_number_of) .none kV9 dc9 pm9 an9 cd9 ct9), sl9⟩) (c9 : PySem.W.codeIn K cd9 "number_of" = true) (k9 : PySem.W.keepIn K (.ref f9) = true)
    (a10 : PySem.W.nsIn K mainGlobals "refuse_no_way" = some (some (.ref f10))) (l10 : K.lookup f10 = some ⟨oc10, od10, .func (PySem.W.fnOf "refuse_no_way" "refuse_no_way" (defArgs s_refuse_no_way) (defBody s_refuse_no_way) (defScope s_refuse_no_way) .none kV10 dc10 pm10 an10 cd10 ct10), sl10⟩) (c10 : PySem.W.codeIn K cd10 "refuse_no_way" = true) (k10 : PySem.W.keepIn K (.ref f10) = true)
    (a11 : PySem.W.nsIn K mainGlobals "is_way" = some (some (.ref f11))) (l11 : K.lookup f11 = some ⟨oc11, od11, .func (PySem.W.fnOf "is_way" "is_way" (defArgs s_is_way) (defBody s_is_way) (defScope s_is_way) .none kV11 dc11 pm11 an11 cd11 ct11), sl11⟩) (c11 : PySem.W.codeIn K cd11 "is_way" = true) (k11 : PySem.W.keepIn K (.ref f11) = true)
    (a12 : PySem.W.nsIn K mainGlobals "ways_ahead" = some (some (.ref f12))) (l12 : K.lookup f12 = some ⟨oc12, od12, .func (PySem.W.fnOf "ways_ahead" "ways_ahead" (defArgs s_ways_ahead) (defBody s_ways_ahead) (defScope s_ways_ahead) .none kV12 dc12 pm12 an12 cd12 ct12), sl12⟩) (c12 : PySem.W.codeIn K cd12 "ways_ahead" = true) (k12 : PySem.W.keepIn K (.ref f12) = true)
    (a13 : PySem.W.nsIn K mainGlobals "steps_between" = some (some (.ref f13))) (l13 : K.lookup f13 = some ⟨oc13, od13, .func (PySem.W.fnOf "steps_between" "steps_between" (defArgs s_steps_between) (defBody s_steps_between) (defScope s_steps_between) .none kV13 dc13 pm13 an13 cd13 ct13), sl13⟩) (c13 : PySem.W.codeIn K cd13 "steps_between" = true) (k13 : PySem.W.keepIn K (.ref f13) = true)
    (a14 : PySem.W.nsIn K mainGlobals "one_step" = some (some (.ref f14))) (l14 : K.lookup f14 = some ⟨oc14, od14, .func (PySem.W.fnOf "one_step" "one_step" (defArgs s_one_step) (defBody s_one_step) (defScope s_one_step) .none kV14 dc14 pm14 an14 cd14 ct14), sl14⟩) (c14 : PySem.W.codeIn K cd14 "one_step" = true) (k14 : PySem.W.keepIn K (.ref f14) = true)
    (a15 : PySem.W.nsIn K mainGlobals "_law_cell_at" = some (some (.ref f15))) (l15 : K.lookup f15 = some ⟨oc15, od15, .func (PySem.W.fnOf "_law_cell_at" "_law_cell_at" (defArgs s_law_cell_at) (defBody s_law_cell_at) (defScope s_law_cell_at) .none kV15 dc15 pm15 an15 cd15 ct15), sl15⟩) (c15 : PySem.W.codeIn K cd15 "_law_cell_at" = true) (k15 : PySem.W.keepIn K (.ref f15) = true)
    (a16 : PySem.W.nsIn K mainGlobals "_law_drawn" = some (some (.ref f16))) (l16 : K.lookup f16 = some ⟨oc16, od16, .func (PySem.W.fnOf "_law_drawn" "_law_drawn" (defArgs s_law_drawn) (defBody s_law_drawn) (defScope s_law_drawn) .none kV16 dc16 pm16 an16 cd16 ct16), sl16⟩) (c16 : PySem.W.codeIn K cd16 "_law_drawn" = true) (k16 : PySem.W.keepIn K (.ref f16) = true)
    (a17 : PySem.W.nsIn K mainGlobals "_law_turn" = some (some (.ref f17))) (l17 : K.lookup f17 = some ⟨oc17, od17, .func (PySem.W.fnOf "_law_turn" "_law_turn" (defArgs s_law_turn) (defBody s_law_turn) (defScope s_law_turn) .none kV17 dc17 pm17 an17 cd17 ct17), sl17⟩) (c17 : PySem.W.codeIn K cd17 "_law_turn" = true) (k17 : PySem.W.keepIn K (.ref f17) = true)
    (a18 : PySem.W.nsIn K mainGlobals "_law_pairs" = some (some (.ref f18))) (l18 : K.lookup f18 = some ⟨oc18, od18, .func (PySem.W.fnOf "_law_pairs" "_law_pairs" (defArgs s_law_pairs) (defBody s_law_pairs) (defScope s_law_pairs) .none kV18 dc18 pm18 an18 cd18 ct18), sl18⟩) (c18 : PySem.W.codeIn K cd18 "_law_pairs" = true) (k18 : PySem.W.keepIn K (.ref f18) = true)
    (a19 : PySem.W.nsIn K mainGlobals "_law_downs" = some (some (.ref f19))) (l19 : K.lookup f19 = some ⟨oc19, od19, .func (PySem.W.fnOf "_law_downs" "_law_downs" (defArgs s_law_downs) (defBody s_law_downs) (defScope s_law_downs) .none kV19 dc19 pm19 an19 cd19 ct19), sl19⟩) (c19 : PySem.W.codeIn K cd19 "_law_downs" = true) (k19 : PySem.W.keepIn K (.ref f19) = true)
    (a20 : PySem.W.nsIn K mainGlobals "_law_order" = some (some (.ref f20))) (l20 : K.lookup f20 = some ⟨oc20, od20, .func (PySem.W.fnOf "_law_order" "_law_order" (defArgs s_law_order) (defBody s_law_order) (defScope s_law_order) .none kV20 dc20 pm20 an20 cd20 ct20), sl20⟩) (c20 : PySem.W.codeIn K cd20 "_law_order" = true) (k20 : PySem.W.keepIn K (.ref f20) = true)
    (a21 : PySem.W.nsIn K mainGlobals "_law_way" = some (some (.ref f21))) (l21 : K.lookup f21 = some ⟨oc21, od21, .func (PySem.W.fnOf "_law_way" "_law_way" (defArgs s_law_way) (defBody s_law_way) (defScope s_law_way) .none kV21 dc21 pm21 an21 cd21 ct21), sl21⟩) (c21 : PySem.W.codeIn K cd21 "_law_way" = true) (k21 : PySem.W.keepIn K (.ref f21) = true)
    (a22 : PySem.W.nsIn K mainGlobals "_law_lays" = some (some (.ref f22))) (l22 : K.lookup f22 = some ⟨oc22, od22, .func (PySem.W.fnOf "_law_lays" "_law_lays" (defArgs s_law_lays) (defBody s_law_lays) (defScope s_law_lays) .none kV22 dc22 pm22 an22 cd22 ct22), sl22⟩) (c22 : PySem.W.codeIn K cd22 "_law_lays" = true) (k22 : PySem.W.keepIn K (.ref f22) = true)
    (a23 : PySem.W.nsIn K mainGlobals "_law_spoiled" = some (some (.ref f23))) (l23 : K.lookup f23 = some ⟨oc23, od23, .func (PySem.W.fnOf "_law_spoiled" "_law_spoiled" (defArgs s_law_spoiled) (defBody s_law_spoiled) (defScope s_law_spoiled) .none kV23 dc23 pm23 an23 cd23 ct23), sl23⟩) (c23 : PySem.W.codeIn K cd23 "_law_spoiled" = true) (k23 : PySem.W.keepIn K (.ref f23) = true)
    (a24 : PySem.W.nsIn K mainGlobals "_law_kinds" = some (some (.ref f24))) (l24 : K.lookup f24 = some ⟨oc24, od24, .func (PySem.W.fnOf "_law_kinds" "_law_kinds" (defArgs s_law_kinds) (defBody s_law_kinds) (defScope s_law_kinds) .none kV24 dc24 pm24 an24 cd24 ct24), sl24⟩) (c24 : PySem.W.codeIn K cd24 "_law_kinds" = true) (k24 : PySem.W.keepIn K (.ref f24) = true)
    (a25 : PySem.W.nsIn K mainGlobals "_law_asked" = some (some (.ref f25))) (l25 : K.lookup f25 = some ⟨oc25, od25, .func (PySem.W.fnOf "_law_asked" "_law_asked" (defArgs s_law_asked) (defBody s_law_asked) (defScope s_law_asked) .none kV25 dc25 pm25 an25 cd25 ct25), sl25⟩) (c25 : PySem.W.codeIn K cd25 "_law_asked" = true) (k25 : PySem.W.keepIn K (.ref f25) = true)
    (a26 : PySem.W.nsIn K mainGlobals "_law_large" = some (some (.ref f26))) (l26 : K.lookup f26 = some ⟨oc26, od26, .func (PySem.W.fnOf "_law_large" "_law_large" (defArgs s_law_large) (defBody s_law_large) (defScope s_law_large) .none kV26 dc26 pm26 an26 cd26 ct26), sl26⟩) (c26 : PySem.W.codeIn K cd26 "_law_large" = true) (k26 : PySem.W.keepIn K (.ref f26) = true)
    (a27 : PySem.W.nsIn K mainGlobals "law" = some (some (.ref f27))) (l27 : K.lookup f27 = some ⟨oc27, od27, .func (PySem.W.fnOf "law" "law" (defArgs s_law) (defBody s_law) (defScope s_law) .none kV27 dc27 pm27 an27 cd27 ct27), sl27⟩) (c27 : PySem.W.codeIn K cd27 "law" = true) (k27 : PySem.W.keepIn K (.ref f27) = true)
    (q_MOST_LAID : PySem.W.nsIn K mainGlobals "MOST_LAID" = some (some u_MOST_LAID)) (i_MOST_LAID : ∃ t, u_MOST_LAID = .int 10 t)
    (m_TooMany : PySem.W.nsIn K mainGlobals "TooMany" = some (some (.ref A_TooMany))) (o_TooMany : K.lookup A_TooMany = some (excClassObj nm_TooMany q_TooMany A_TooMany N_TooMany bs_TooMany bm_TooMany hd_TooMany sn_TooMany sub_TooMany ab_TooMany col_TooMany dd_TooMany k0_TooMany k1_TooMany k2_TooMany k3_TooMany k5_TooMany "ValueError.__new__")) (x_TooMany : excInZ K A_TooMany = true) (BE_TooMany : bm_TooMany.contains (.type "BaseException") = true) (w_TooMany : PySem.W.clsIn K A_TooMany = some cd_TooMany) (v_TooMany : PySem.W.typeIn K (.ref A_TooMany) = some (.type "type"))
    (m_NoThing : PySem.W.nsIn K mainGlobals "NoThing" = some (some (.ref A_NoThing))) (o_NoThing : K.lookup A_NoThing = some (excClassObj nm_NoThing q_NoThing A_NoThing N_NoThing bs_NoThing bm_NoThing hd_NoThing sn_NoThing sub_NoThing ab_NoThing col_NoThing dd_NoThing k0_NoThing k1_NoThing k2_NoThing k3_NoThing k5_NoThing "ValueError.__new__")) (x_NoThing : excInZ K A_NoThing = true) (BE_NoThing : bm_NoThing.contains (.type "BaseException") = true) (w_NoThing : PySem.W.clsIn K A_NoThing = some cd_NoThing) (v_NoThing : PySem.W.typeIn K (.ref A_NoThing) = some (.type "type"))
    (m_NoWay : PySem.W.nsIn K mainGlobals "NoWay" = some (some (.ref A_NoWay))) (o_NoWay : K.lookup A_NoWay = some (excClassObj nm_NoWay q_NoWay A_NoWay N_NoWay bs_NoWay bm_NoWay hd_NoWay sn_NoWay sub_NoWay ab_NoWay col_NoWay dd_NoWay k0_NoWay k1_NoWay k2_NoWay k3_NoWay k5_NoWay "ValueError.__new__")) (x_NoWay : excInZ K A_NoWay = true) (BE_NoWay : bm_NoWay.contains (.type "BaseException") = true) (w_NoWay : PySem.W.clsIn K A_NoWay = some cd_NoWay) (v_NoWay : PySem.W.typeIn K (.ref A_NoWay) = some (.type "type"))
    (m_OrderError : PySem.W.nsIn K mainGlobals "OrderError" = some (some (.ref A_OrderError))) (o_OrderError : K.lookup A_OrderError = some (excClassObj nm_OrderError q_OrderError A_OrderError N_OrderError bs_OrderError bm_OrderError hd_OrderError sn_OrderError sub_OrderError ab_OrderError col_OrderError dd_OrderError k0_OrderError k1_OrderError k2_OrderError k3_OrderError k5_OrderError "ValueError.__new__")) (x_OrderError : excInZ K A_OrderError = true) (BE_OrderError : bm_OrderError.contains (.type "BaseException") = true) (w_OrderError : PySem.W.clsIn K A_OrderError = some cd_OrderError) (v_OrderError : PySem.W.typeIn K (.ref A_OrderError) = some (.type "type"))
    (s_TooMany_OrderError : (Value.ref A_TooMany :: bm_TooMany).contains (.ref A_OrderError) = true) (g_TooMany_OrderError : PySem.W.subIn K (.ref A_TooMany) (.ref A_OrderError) = some true)
    (s_NoThing_OrderError : (Value.ref A_NoThing :: bm_NoThing).contains (.ref A_OrderError) = true) (g_NoThing_OrderError : PySem.W.subIn K (.ref A_NoThing) (.ref A_OrderError) = some true)
    (s_NoWay_OrderError : (Value.ref A_NoWay :: bm_NoWay).contains (.ref A_OrderError) = true) (g_NoWay_OrderError : PySem.W.subIn K (.ref A_NoWay) (.ref A_OrderError) = some true)
    (m_Ring : PySem.W.nsIn K mainGlobals "Ring" = some (some (.ref A_Ring))) (w_Ring : PySem.W.clsIn K A_Ring = some cd_Ring) (v_Ring : PySem.W.typeIn K (.ref A_Ring) = some (.type "type"))
    (m_NoTwoRows : PySem.W.nsIn K mainGlobals "NoTwoRows" = some (some (.ref A_NoTwoRows))) (w_NoTwoRows : PySem.W.clsIn K A_NoTwoRows = some cd_NoTwoRows) (v_NoTwoRows : PySem.W.typeIn K (.ref A_NoTwoRows) = some (.type "type"))
    (m_NoLattice : PySem.W.nsIn K mainGlobals "NoLattice" = some (some (.ref A_NoLattice))) (w_NoLattice : PySem.W.clsIn K A_NoLattice = some cd_NoLattice) (v_NoLattice : PySem.W.typeIn K (.ref A_NoLattice) = some (.type "type"))
    (m_NotSpreading : PySem.W.nsIn K mainGlobals "NotSpreading" = some (some (.ref A_NotSpreading))) (w_NotSpreading : PySem.W.clsIn K A_NotSpreading = some cd_NotSpreading) (v_NotSpreading : PySem.W.typeIn K (.ref A_NotSpreading) = some (.type "type"))
    (gk_TooMany_TooMany : PySem.W.subIn K (.ref A_TooMany) (.ref A_TooMany) = some true)
    (gk_TooMany_NoThing : PySem.W.subIn K (.ref A_TooMany) (.ref A_NoThing) = some false)
    (nk_TooMany_NoThing : (Value.ref A_TooMany == Value.ref A_NoThing) = false)
    (gk_TooMany_NoWay : PySem.W.subIn K (.ref A_TooMany) (.ref A_NoWay) = some false)
    (nk_TooMany_NoWay : (Value.ref A_TooMany == Value.ref A_NoWay) = false)
    (gk_TooMany_Ring : PySem.W.subIn K (.ref A_TooMany) (.ref A_Ring) = some false)
    (nk_TooMany_Ring : (Value.ref A_TooMany == Value.ref A_Ring) = false)
    (gk_TooMany_NoTwoRows : PySem.W.subIn K (.ref A_TooMany) (.ref A_NoTwoRows) = some false)
    (nk_TooMany_NoTwoRows : (Value.ref A_TooMany == Value.ref A_NoTwoRows) = false)
    (gk_TooMany_NoLattice : PySem.W.subIn K (.ref A_TooMany) (.ref A_NoLattice) = some false)
    (nk_TooMany_NoLattice : (Value.ref A_TooMany == Value.ref A_NoLattice) = false)
    (gk_TooMany_NotSpreading : PySem.W.subIn K (.ref A_TooMany) (.ref A_NotSpreading) = some false)
    (nk_TooMany_NotSpreading : (Value.ref A_TooMany == Value.ref A_NotSpreading) = false)
    (gv_TooMany : PySem.W.subIn K (.ref A_TooMany) (.type "ValueError") = some true) (xa_TooMany : PySem.W.findIn K (.ref A_TooMany) "__class__" = some (some (.builtin "object.__class__"))) (xb_TooMany : PySem.W.findIn K (.ref A_TooMany) "__getattribute__" = some (some (.builtin "BaseException.__getattribute__"))) (xc_TooMany : PySem.W.findIn K (.ref A_TooMany) "__getattr__" = some none) (xd_TooMany : PySem.W.subIn K (.ref A_TooMany) (.type "object") = some true) (xe_TooMany : PySem.W.subIn K (.ref A_TooMany) (.type "BaseException") = some true)
    (gk_NoThing_TooMany : PySem.W.subIn K (.ref A_NoThing) (.ref A_TooMany) = some false)
    (nk_NoThing_TooMany : (Value.ref A_NoThing == Value.ref A_TooMany) = false)
    (gk_NoThing_NoThing : PySem.W.subIn K (.ref A_NoThing) (.ref A_NoThing) = some true)
    (gk_NoThing_NoWay : PySem.W.subIn K (.ref A_NoThing) (.ref A_NoWay) = some false)
    (nk_NoThing_NoWay : (Value.ref A_NoThing == Value.ref A_NoWay) = false)
    (gk_NoThing_Ring : PySem.W.subIn K (.ref A_NoThing) (.ref A_Ring) = some false)
    (nk_NoThing_Ring : (Value.ref A_NoThing == Value.ref A_Ring) = false)
    (gk_NoThing_NoTwoRows : PySem.W.subIn K (.ref A_NoThing) (.ref A_NoTwoRows) = some false)
    (nk_NoThing_NoTwoRows : (Value.ref A_NoThing == Value.ref A_NoTwoRows) = false)
    (gk_NoThing_NoLattice : PySem.W.subIn K (.ref A_NoThing) (.ref A_NoLattice) = some false)
    (nk_NoThing_NoLattice : (Value.ref A_NoThing == Value.ref A_NoLattice) = false)
    (gk_NoThing_NotSpreading : PySem.W.subIn K (.ref A_NoThing) (.ref A_NotSpreading) = some false)
    (nk_NoThing_NotSpreading : (Value.ref A_NoThing == Value.ref A_NotSpreading) = false)
    (gv_NoThing : PySem.W.subIn K (.ref A_NoThing) (.type "ValueError") = some true) (xa_NoThing : PySem.W.findIn K (.ref A_NoThing) "__class__" = some (some (.builtin "object.__class__"))) (xb_NoThing : PySem.W.findIn K (.ref A_NoThing) "__getattribute__" = some (some (.builtin "BaseException.__getattribute__"))) (xc_NoThing : PySem.W.findIn K (.ref A_NoThing) "__getattr__" = some none) (xd_NoThing : PySem.W.subIn K (.ref A_NoThing) (.type "object") = some true) (xe_NoThing : PySem.W.subIn K (.ref A_NoThing) (.type "BaseException") = some true)
    (gk_NoWay_TooMany : PySem.W.subIn K (.ref A_NoWay) (.ref A_TooMany) = some false)
    (nk_NoWay_TooMany : (Value.ref A_NoWay == Value.ref A_TooMany) = false)
    (gk_NoWay_NoThing : PySem.W.subIn K (.ref A_NoWay) (.ref A_NoThing) = some false)
    (nk_NoWay_NoThing : (Value.ref A_NoWay == Value.ref A_NoThing) = false)
    (gk_NoWay_NoWay : PySem.W.subIn K (.ref A_NoWay) (.ref A_NoWay) = some true)
    (gk_NoWay_Ring : PySem.W.subIn K (.ref A_NoWay) (.ref A_Ring) = some false)
    (nk_NoWay_Ring : (Value.ref A_NoWay == Value.ref A_Ring) = false)
    (gk_NoWay_NoTwoRows : PySem.W.subIn K (.ref A_NoWay) (.ref A_NoTwoRows) = some false)
    (nk_NoWay_NoTwoRows : (Value.ref A_NoWay == Value.ref A_NoTwoRows) = false)
    (gk_NoWay_NoLattice : PySem.W.subIn K (.ref A_NoWay) (.ref A_NoLattice) = some false)
    (nk_NoWay_NoLattice : (Value.ref A_NoWay == Value.ref A_NoLattice) = false)
    (gk_NoWay_NotSpreading : PySem.W.subIn K (.ref A_NoWay) (.ref A_NotSpreading) = some false)
    (nk_NoWay_NotSpreading : (Value.ref A_NoWay == Value.ref A_NotSpreading) = false)
    (gv_NoWay : PySem.W.subIn K (.ref A_NoWay) (.type "ValueError") = some true) (xa_NoWay : PySem.W.findIn K (.ref A_NoWay) "__class__" = some (some (.builtin "object.__class__"))) (xb_NoWay : PySem.W.findIn K (.ref A_NoWay) "__getattribute__" = some (some (.builtin "BaseException.__getattribute__"))) (xc_NoWay : PySem.W.findIn K (.ref A_NoWay) "__getattr__" = some none) (xd_NoWay : PySem.W.subIn K (.ref A_NoWay) (.type "object") = some true) (xe_NoWay : PySem.W.subIn K (.ref A_NoWay) (.type "BaseException") = some true)
    (z0 : PySem.W.nsIn K mainGlobals "len" = some none) (z1 : PySem.W.nsIn K mainGlobals "range" = some none) (z2 : PySem.W.nsIn K mainGlobals "list" = some none) (z3 : PySem.W.nsIn K mainGlobals "int" = some none) (z4 : PySem.W.nsIn K mainGlobals "bool" = some none) (z5 : PySem.W.nsIn K mainGlobals "tuple" = some none) (z6 : PySem.W.nsIn K mainGlobals "isinstance" = some none) (z7 : PySem.W.nsIn K mainGlobals "min" = some none) (z8 : PySem.W.nsIn K mainGlobals "max" = some none) (z9 : PySem.W.nsIn K mainGlobals "all" = some none) (z10 : PySem.W.nsIn K mainGlobals "enumerate" = some none) (zx_reversed : PySem.W.nsIn K mainGlobals "reversed" = some none) (zx_ValueError : PySem.W.nsIn K mainGlobals "ValueError" = some none) (zx_sum : PySem.W.nsIn K mainGlobals "sum" = some none) :
    ∃ fd : FuncData, (∀ (s : Shared) (v : Value), BindsTo s fd ⟨[v], []⟩ [("_law_script", v)]) ∧ ∀ base : Heap, K.In base → base.Ns mainGlobals mg → FnOk l.prog w K mg base CX0 7 fa fd ["_law_script"] (sp_law K) := by
  have B : Blt mg := ⟨PySem.W.mg_none_of X G z0, PySem.W.mg_none_of X G z1, PySem.W.mg_none_of X G z2, PySem.W.mg_none_of X G z3, PySem.W.mg_none_of X G z4, PySem.W.mg_none_of X G z5, PySem.W.mg_none_of X G z6, PySem.W.mg_none_of X G z7, PySem.W.mg_none_of X G z8, PySem.W.mg_none_of X G z9, PySem.W.mg_none_of X G z10⟩
  have Z_reversed := PySem.W.mg_none_of X G zx_reversed
  have Z_ValueError := PySem.W.mg_none_of X G zx_ValueError
  have Z_sum := PySem.W.mg_none_of X G zx_sum
  have S0 : Src K mg "places_of" s_places_of ["bits"] := ⟨_, _, PySem.W.mg_of X G a0, fun_mk (st := s_places_of) l0 c0 k0, (fun_mk (st := s_places_of) l0 c0 k0).binds fun _ _ _ _ _ _ us hl => match us, hl with | [_], _ => rfl⟩
  have S1 : Src K mg "refuse_more" s_refuse_more ["many", "most"] := ⟨_, _, PySem.W.mg_of X G a1, fun_mk (st := s_refuse_more) l1 c1 k1, (fun_mk (st := s_refuse_more) l1 c1 k1).binds fun _ _ _ _ _ _ us hl => match us, hl with | [_, _], _ => rfl⟩
  have S2 : Src K mg "refuse_stranger" s_refuse_stranger ["thing", "many"] := ⟨_, _, PySem.W.mg_of X G a2, fun_mk (st := s_refuse_stranger) l2 c2 k2, (fun_mk (st := s_refuse_stranger) l2 c2 k2).binds fun _ _ _ _ _ _ us hl => match us, hl with | [_, _], _ => rfl⟩
  have S3 : Src K mg "with_all_below" s_with_all_below ["downs", "bits"] := ⟨_, _, PySem.W.mg_of X G a3, fun_mk (st := s_with_all_below) l3 c3 k3, (fun_mk (st := s_with_all_below) l3 c3 k3).binds fun _ _ _ _ _ _ us hl => match us, hl with | [_, _], _ => rfl⟩
  have S4 : Src K mg "downsets_of" s_downsets_of ["downs"] := ⟨_, _, PySem.W.mg_of X G a4, fun_mk (st := s_downsets_of) l4 c4 k4, (fun_mk (st := s_downsets_of) l4 c4 k4).binds fun _ _ _ _ _ _ us hl => match us, hl with | [_], _ => rfl⟩
  have S5 : Src K mg "ways_in" s_ways_in ["downs"] := ⟨_, _, PySem.W.mg_of X G a5, fun_mk (st := s_ways_in) l5 c5 k5, (fun_mk (st := s_ways_in) l5 c5 k5).binds fun _ _ _ _ _ _ us hl => match us, hl with | [_], _ => rfl⟩
  have S6 : Src K mg "ways_behind" s_ways_behind ["downs"] := ⟨_, _, PySem.W.mg_of X G a6, fun_mk (st := s_ways_behind) l6 c6 k6, (fun_mk (st := s_ways_behind) l6 c6 k6).binds fun _ _ _ _ _ _ us hl => match us, hl with | [_], _ => rfl⟩
  have S7 : Src K mg "ready_behind" s_ready_behind ["downs", "placed"] := ⟨_, _, PySem.W.mg_of X G a7, fun_mk (st := s_ready_behind) l7 c7 k7, (fun_mk (st := s_ready_behind) l7 c7 k7).binds fun _ _ _ _ _ _ us hl => match us, hl with | [_, _], _ => rfl⟩
  have S8 : Src K mg "way_at" s_way_at ["downs", "number"] := ⟨_, _, PySem.W.mg_of X G a8, fun_mk (st := s_way_at) l8 c8 k8, (fun_mk (st := s_way_at) l8 c8 k8).binds fun _ _ _ _ _ _ us hl => match us, hl with | [_, _], _ => rfl⟩
  have S9 : Src K mg "number_of" s_number_of ["downs", "row"] := ⟨_, _, PySem.W.mg_of X G a9, fun_mk (st := s_number_of) l9 c9 k9, (fun_mk (st := s_number_of) l9 c9 k9).binds fun _ _ _ _ _ _ us hl => match us, hl with | [_, _], _ => rfl⟩
  have S10 : Src K mg "refuse_no_way" s_refuse_no_way ["downs", "row"] := ⟨_, _, PySem.W.mg_of X G a10, fun_mk (st := s_refuse_no_way) l10 c10 k10, (fun_mk (st := s_refuse_no_way) l10 c10 k10).binds fun _ _ _ _ _ _ us hl => match us, hl with | [_, _], _ => rfl⟩
  have S11 : Src K mg "is_way" s_is_way ["downs", "row"] := ⟨_, _, PySem.W.mg_of X G a11, fun_mk (st := s_is_way) l11 c11 k11, (fun_mk (st := s_is_way) l11 c11 k11).binds fun _ _ _ _ _ _ us hl => match us, hl with | [_, _], _ => rfl⟩
  have S12 : Src K mg "ways_ahead" s_ways_ahead ["downs", "one", "other"] := ⟨_, _, PySem.W.mg_of X G a12, fun_mk (st := s_ways_ahead) l12 c12 k12, (fun_mk (st := s_ways_ahead) l12 c12 k12).binds fun _ _ _ _ _ _ us hl => match us, hl with | [_, _, _], _ => rfl⟩
  have S13 : Src K mg "steps_between" s_steps_between ["downs", "one", "other"] := ⟨_, _, PySem.W.mg_of X G a13, fun_mk (st := s_steps_between) l13 c13 k13, (fun_mk (st := s_steps_between) l13 c13 k13).binds fun _ _ _ _ _ _ us hl => match us, hl with | [_, _, _], _ => rfl⟩
  have S14 : Src K mg "one_step" s_one_step ["row", "other"] := ⟨_, _, PySem.W.mg_of X G a14, fun_mk (st := s_one_step) l14 c14 k14, (fun_mk (st := s_one_step) l14 c14 k14).binds fun _ _ _ _ _ _ us hl => match us, hl with | [_, _], _ => rfl⟩
  have S15 : Src K mg "_law_cell_at" s_law_cell_at ["_law_script", "_law_k"] := ⟨_, _, PySem.W.mg_of X G a15, fun_mk (st := s_law_cell_at) l15 c15 k15, (fun_mk (st := s_law_cell_at) l15 c15 k15).binds fun _ _ _ _ _ _ us hl => match us, hl with | [_, _], _ => rfl⟩
  have S16 : Src K mg "_law_drawn" s_law_drawn ["_law_script", "_law_k"] := ⟨_, _, PySem.W.mg_of X G a16, fun_mk (st := s_law_drawn) l16 c16 k16, (fun_mk (st := s_law_drawn) l16 c16 k16).binds fun _ _ _ _ _ _ us hl => match us, hl with | [_, _], _ => rfl⟩
  have S17 : Src K mg "_law_turn" s_law_turn ["_law_script", "_law_many"] := ⟨_, _, PySem.W.mg_of X G a17, fun_mk (st := s_law_turn) l17 c17 k17, (fun_mk (st := s_law_turn) l17 c17 k17).binds fun _ _ _ _ _ _ us hl => match us, hl with | [_, _], _ => rfl⟩
  have S18 : Src K mg "_law_pairs" s_law_pairs ["_law_script", "_law_row"] := ⟨_, _, PySem.W.mg_of X G a18, fun_mk (st := s_law_pairs) l18 c18 k18, (fun_mk (st := s_law_pairs) l18 c18 k18).binds fun _ _ _ _ _ _ us hl => match us, hl with | [_, _], _ => rfl⟩
  have S19 : Src K mg "_law_downs" s_law_downs ["_law_row", "_law_pairs_here"] := ⟨_, _, PySem.W.mg_of X G a19, fun_mk (st := s_law_downs) l19 c19 k19, (fun_mk (st := s_law_downs) l19 c19 k19).binds fun _ _ _ _ _ _ us hl => match us, hl with | [_, _], _ => rfl⟩
  have S20 : Src K mg "_law_order" s_law_order ["_law_script"] := ⟨_, _, PySem.W.mg_of X G a20, fun_mk (st := s_law_order) l20 c20 k20, (fun_mk (st := s_law_order) l20 c20 k20).binds fun _ _ _ _ _ _ us hl => match us, hl with | [_], _ => rfl⟩
  have S21 : Src K mg "_law_way" s_law_way ["_law_script", "_law_downs_here", "_law_at"] := ⟨_, _, PySem.W.mg_of X G a21, fun_mk (st := s_law_way) l21 c21 k21, (fun_mk (st := s_law_way) l21 c21 k21).binds fun _ _ _ _ _ _ us hl => match us, hl with | [_, _, _], _ => rfl⟩
  have S22 : Src K mg "_law_lays" s_law_lays ["_law_row", "_law_downs_here"] := ⟨_, _, PySem.W.mg_of X G a22, fun_mk (st := s_law_lays) l22 c22 k22, (fun_mk (st := s_law_lays) l22 c22 k22).binds fun _ _ _ _ _ _ us hl => match us, hl with | [_, _], _ => rfl⟩
  have S23 : Src K mg "_law_spoiled" s_law_spoiled ["_law_script", "_law_one"] := ⟨_, _, PySem.W.mg_of X G a23, fun_mk (st := s_law_spoiled) l23 c23 k23, (fun_mk (st := s_law_spoiled) l23 c23 k23).binds fun _ _ _ _ _ _ us hl => match us, hl with | [_, _], _ => rfl⟩
  have S24 : Src K mg "_law_kinds" s_law_kinds ["_law_kept"] := ⟨_, _, PySem.W.mg_of X G a24, fun_mk (st := s_law_kinds) l24 c24 k24, (fun_mk (st := s_law_kinds) l24 c24 k24).binds fun _ _ _ _ _ _ us hl => match us, hl with | [_], _ => rfl⟩
  have S25 : Src K mg "_law_asked" s_law_asked ["_law_way_here", "_law_downs_here", "_law_one", "_law_other"] := ⟨_, _, PySem.W.mg_of X G a25, fun_mk (st := s_law_asked) l25 c25 k25, (fun_mk (st := s_law_asked) l25 c25 k25).binds fun _ _ _ _ _ _ us hl => match us, hl with | [_, _, _, _], _ => rfl⟩
  have S26 : Src K mg "_law_large" s_law_large ["_law_script"] := ⟨_, _, PySem.W.mg_of X G a26, fun_mk (st := s_law_large) l26 c26 k26, (fun_mk (st := s_law_large) l26 c26 k26).binds fun _ _ _ _ _ _ us hl => match us, hl with | [_], _ => rfl⟩
  have S27 : Src K mg "law" s_law ["_law_script"] := ⟨_, _, PySem.W.mg_of X G a27, fun_mk (st := s_law) l27 c27 k27, (fun_mk (st := s_law) l27 c27 k27).binds fun _ _ _ _ _ _ us hl => match us, hl with | [_], _ => rfl⟩
  obtain ⟨t_MOST_LAID, rfl⟩ := i_MOST_LAID
  have C_MOST_LAID := PySem.W.mg_of X G q_MOST_LAID
  have M_TooMany := PySem.W.mg_of X G m_TooMany
  have XC_TooMany := xcls_exc x_TooMany
  have XO_TooMany := xobj_mk o_TooMany
  have M_NoThing := PySem.W.mg_of X G m_NoThing
  have XC_NoThing := xcls_exc x_NoThing
  have XO_NoThing := xobj_mk o_NoThing
  have M_NoWay := PySem.W.mg_of X G m_NoWay
  have XC_NoWay := xcls_exc x_NoWay
  have XO_NoWay := xobj_mk o_NoWay
  have M_OrderError := PySem.W.mg_of X G m_OrderError
  have XC_OrderError := xcls_exc x_OrderError
  have XO_OrderError := xobj_mk o_OrderError
  have M_Ring := PySem.W.mg_of X G m_Ring
  have M_NoTwoRows := PySem.W.mg_of X G m_NoTwoRows
  have M_NoLattice := PySem.W.mg_of X G m_NoLattice
  have M_NotSpreading := PySem.W.mg_of X G m_NotSpreading
  have KD_TooMany : KindsOf K A_TooMany [.ref A_TooMany, .ref A_NoThing, .ref A_NoWay, .ref A_Ring, .ref A_NoTwoRows, .ref A_NoLattice, .ref A_NotSpreading, .type "ValueError"] [true, false, false, false, false, false, false, true] := ⟨kit_own w_TooMany v_TooMany gk_TooMany_TooMany (fun _ => rfl), kit_own w_NoThing v_NoThing gk_TooMany_NoThing (fun z => by rw [nk_TooMany_NoThing] at z; cases z), kit_own w_NoWay v_NoWay gk_TooMany_NoWay (fun z => by rw [nk_TooMany_NoWay] at z; cases z), kit_own w_Ring v_Ring gk_TooMany_Ring (fun z => by rw [nk_TooMany_Ring] at z; cases z), kit_own w_NoTwoRows v_NoTwoRows gk_TooMany_NoTwoRows (fun z => by rw [nk_TooMany_NoTwoRows] at z; cases z), kit_own w_NoLattice v_NoLattice gk_TooMany_NoLattice (fun z => by rw [nk_TooMany_NoLattice] at z; cases z), kit_own w_NotSpreading v_NotSpreading gk_TooMany_NotSpreading (fun z => by rw [nk_TooMany_NotSpreading] at z; cases z), kit_typ (by decide +kernel) gv_TooMany, trivial⟩
  have XK_TooMany : XKit K A_TooMany := ⟨xa_TooMany, xb_TooMany, xc_TooMany, by rw [w_TooMany]; rfl, xd_TooMany, xe_TooMany⟩
  have KD_NoThing : KindsOf K A_NoThing [.ref A_TooMany, .ref A_NoThing, .ref A_NoWay, .ref A_Ring, .ref A_NoTwoRows, .ref A_NoLattice, .ref A_NotSpreading, .type "ValueError"] [false, true, false, false, false, false, false, true] := ⟨kit_own w_TooMany v_TooMany gk_NoThing_TooMany (fun z => by rw [nk_NoThing_TooMany] at z; cases z), kit_own w_NoThing v_NoThing gk_NoThing_NoThing (fun _ => rfl), kit_own w_NoWay v_NoWay gk_NoThing_NoWay (fun z => by rw [nk_NoThing_NoWay] at z; cases z), kit_own w_Ring v_Ring gk_NoThing_Ring (fun z => by rw [nk_NoThing_Ring] at z; cases z), kit_own w_NoTwoRows v_NoTwoRows gk_NoThing_NoTwoRows (fun z => by rw [nk_NoThing_NoTwoRows] at z; cases z), kit_own w_NoLattice v_NoLattice gk_NoThing_NoLattice (fun z => by rw [nk_NoThing_NoLattice] at z; cases z), kit_own w_NotSpreading v_NotSpreading gk_NoThing_NotSpreading (fun z => by rw [nk_NoThing_NotSpreading] at z; cases z), kit_typ (by decide +kernel) gv_NoThing, trivial⟩
  have XK_NoThing : XKit K A_NoThing := ⟨xa_NoThing, xb_NoThing, xc_NoThing, by rw [w_NoThing]; rfl, xd_NoThing, xe_NoThing⟩
  have KD_NoWay : KindsOf K A_NoWay [.ref A_TooMany, .ref A_NoThing, .ref A_NoWay, .ref A_Ring, .ref A_NoTwoRows, .ref A_NoLattice, .ref A_NotSpreading, .type "ValueError"] [false, false, true, false, false, false, false, true] := ⟨kit_own w_TooMany v_TooMany gk_NoWay_TooMany (fun z => by rw [nk_NoWay_TooMany] at z; cases z), kit_own w_NoThing v_NoThing gk_NoWay_NoThing (fun z => by rw [nk_NoWay_NoThing] at z; cases z), kit_own w_NoWay v_NoWay gk_NoWay_NoWay (fun _ => rfl), kit_own w_Ring v_Ring gk_NoWay_Ring (fun z => by rw [nk_NoWay_Ring] at z; cases z), kit_own w_NoTwoRows v_NoTwoRows gk_NoWay_NoTwoRows (fun z => by rw [nk_NoWay_NoTwoRows] at z; cases z), kit_own w_NoLattice v_NoLattice gk_NoWay_NoLattice (fun z => by rw [nk_NoWay_NoLattice] at z; cases z), kit_own w_NotSpreading v_NotSpreading gk_NoWay_NotSpreading (fun z => by rw [nk_NoWay_NotSpreading] at z; cases z), kit_typ (by decide +kernel) gv_NoWay, trivial⟩
  have XK_NoWay : XKit K A_NoWay := ⟨xa_NoWay, xb_NoWay, xc_NoWay, by rw [w_NoWay]; rfl, xd_NoWay, xe_NoWay⟩
  have y_TooMany_OrderError := kit_sub w_OrderError v_OrderError g_TooMany_OrderError
  have y_NoThing_OrderError := kit_sub w_OrderError v_OrderError g_NoThing_OrderError
  have y_NoWay_OrderError := kit_sub w_OrderError v_OrderError g_NoWay_OrderError
  have e := hfa.symm.trans (PySem.W.mg_of X G a27)
  cases e
  refine ⟨PySem.W.fnOf "law" "law" (defArgs s_law) (defBody s_law) (defScope s_law) .none kV27 dc27 pm27 an27 cd27 ct27, fun s v => .of_eq rfl, fun base _ _ => ?_⟩
  have F_places_of := fn_places_of (P := l.prog) (w := w) (base := base) B S0
  have F_cell := fn_law_cell_at (P := l.prog) (w := w) (base := base) B S15
  have F_drawn := fn_law_drawn S16 F_cell
  have F_ready := fn_ready_behind (P := l.prog) (w := w) (base := base) B S7
  have F_more := fn_refuse_more (P := l.prog) (w := w) (K := K) (base := base) S1
  have F_moreX := fn_refuse_moreX (P := l.prog) (w := w) (K := K) (base := base) S1 M_TooMany XC_TooMany
  have F_downsets := fn_downsets_of B S4 C_MOST_LAID F_more (fn_with_all_below B S3 F_places_of)
  have F_behind := fn_ways_behind B Z_sum Z_reversed S6 F_downsets F_ready
  have F_downX := fn_downsetsX B S4 C_MOST_LAID F_moreX
  have F_behX := fn_behindX S6 F_downX
  have F_is := fn_is_wayI B S11 F_ready
  have F_no := fn_refuse_no_way S10 F_is
  have F_noX := fn_refuse_no_wayX S10 M_NoWay XC_NoWay F_is
  have F_num := FnX.or (fn_number27 B Z_sum S9 F_behind F_no F_ready) (fn_number_ofX S9 (FnX.or F_behind F_behX) F_noX)
  have F_steps := FnX.or (fn_steps27 B S13 C_MOST_LAID F_more F_no (fn_one_step (P := l.prog) (w := w) (base := base) S14)) (fn_steps_betweenX B S13 C_MOST_LAID F_moreX (FnX.or F_no F_noX))
  have F_ahead := fn_ways_aheadX B S12 C_MOST_LAID F_moreX (fn_strangerX (P := l.prog) (w := w) (K := K) (base := base) S2 M_NoThing XC_NoThing)
  have F_kinds := fn_kinds (P := l.prog) (w := w) (base := base) B Z_ValueError S24 M_TooMany M_NoThing M_NoWay M_Ring M_NoTwoRows M_NoLattice M_NotSpreading
  have eT : ErrK K A_OrderError A_TooMany _ _ := ⟨⟨_, XO_TooMany, s_TooMany_OrderError⟩, XK_TooMany, KD_TooMany⟩
  have eN : ErrK K A_OrderError A_NoThing _ _ := ⟨⟨_, XO_NoThing, s_NoThing_OrderError⟩, XK_NoThing, KD_NoThing⟩
  have eW : ErrK K A_OrderError A_NoWay _ _ := ⟨⟨_, XO_NoWay, s_NoWay_OrderError⟩, XK_NoWay, KD_NoWay⟩
  have D : ErrD K A_OrderError A_TooMany A_NoThing A_NoWay _ := ⟨eT, eN, eW, eT.ne eN, eT.ne eW, eN.ne2 eW⟩
  have F_asked := fn_law_asked B S25 F_kinds M_OrderError XO_OrderError BE_OrderError D F_num F_steps F_ahead (fn_way_atX S8 F_behX) F_downX (fn_ways_inX B S5 F_behX)
  have F_order := fn_law_order23 B S20 F_cell (fn_law_turn B S17 F_cell) (fn_law_pairs B S18 F_cell F_drawn) (fn_law_downs B S19)
  exact fn_law B (fun_mk (st := s_law) l27 c27 k27) D F_cell F_order (fn_law_way B S21 F_drawn) (fn_law_spoiled27 B S23 F_cell) (fn_law_laysI B S22) F_asked (fn_law_large27 B S26 F_cell)
theorem walk {l : PySem.W.OpenLaw} {q : Program} {loose : List Str} {XP : (Str → Option Value) → Heap → Prop} {YP : World → Heap → Prop} {d : DefRec} {K : Params → PySem.W.Frag} (hn : l.most = some 63) (hdf : d.params.defaults = [])
    (hY : ∀ (w : World) (h : Heap), YP w h → (K w.params).In h)
    (F : ∀ (w : World) (mg : Str → Option Value) (fa : Addr) (h : Heap), (K w.params).In h → h.Ns mainGlobals mg → mg d.name = some (.ref fa) →
      ∃ fd : FuncData, (∀ (s : Shared) (u : Value), BindsTo s fd ⟨[u], []⟩ [("_law_script", u)]) ∧ ∀ base : Heap, (K w.params).In base → base.Ns mainGlobals mg → FnOk l.prog w (K w.params) mg base CX0 7 fa fd ["_law_script"] (sp_law (K w.params))) :
    PySem.W.WalkO q loose XP YP l.row.toRowW d [] (fun f vs => PySem.call f vs) :=
  L2.walk_of (n := 63) (k := 7) (x := "_law_script") (CX := fun _ => CX0) (sp := fun w => sp_law (K w.params)) hn (by decide) hdf ⟨rfl, by decide, by decide, rfl⟩ hY F (fun _ _ a ns hl _ hS => ⟨a, ns, rfl, hS, hl, fun _ => rfl⟩) fun _ _ _ _ _ z => z
end OH
open PySem PySem.W PyProof.Rows
set_option maxRecDepth 100000 in
set_option maxHeartbeats 0 in
theorem PySem.Challenge.cw_orderhall_k27_refused_ways_holds : PySem.Challenge.rw_orderhall_k27_refused_ways.Holds := by
  w_on; o_law; k_head; (case hw => w_witness2)
  k_fill
  refine OH.walk (l := PySem.Challenge.rw_orderhall_k27_refused_ways) rfl rfl (fun w h Y => PySem.W.kIn_of Y) ?F
  case F =>
    intro w mg fa h KX G hmg
    refine' OH.all_mk KX G hmg ?a0 ?l0 ?c0 ?k0 ?a1 ?l1 ?c1 ?k1 ?a2 ?l2 ?c2 ?k2 ?a3 ?l3 ?c3 ?k3 ?a4 ?l4 ?c4 ?k4 ?a5 ?l5 ?c5 ?k5 ?a6 ?l6 ?c6 ?k6 ?a7 ?l7 ?c7 ?k7 ?a8 ?l8 ?c8 ?k8 ?a9 ?l9 ?c9 ?k9 ?a10 ?l10 ?c10 ?k10 ?a11 ?l11 ?c11 ?k11 ?a12 ?l12 ?c12 ?k12 ?a13 ?l13 ?c13 ?k13 ?a14 ?l14 ?c14 ?k14 ?a15 ?l15 ?c15 ?k15 ?a16 ?l16 ?c16 ?k16 ?a17 ?l17 ?c17 ?k17 ?a18 ?l18 ?c18 ?k18 ?a19 ?l19 ?c19 ?k19 ?a20 ?l20 ?c20 ?k20 ?a21 ?l21 ?c21 ?k21 ?a22 ?l22 ?c22 ?k22 ?a23 ?l23 ?c23 ?k23 ?a24 ?l24 ?c24 ?k24 ?a25 ?l25 ?c25 ?k25 ?a26 ?l26 ?c26 ?k26 ?a27 ?l27 ?c27 ?k27 ?q_MOST_LAID ?i_MOST_LAID ?m_TooMany ?o_TooMany ?x_TooMany ?BE_TooMany ?w_TooMany ?v_TooMany ?m_NoThing ?o_NoThing ?x_NoThing ?BE_NoThing ?w_NoThing ?v_NoThing ?m_NoWay ?o_NoWay ?x_NoWay ?BE_NoWay ?w_NoWay ?v_NoWay ?m_OrderError ?o_OrderError ?x_OrderError ?BE_OrderError ?w_OrderError ?v_OrderError ?s_TooMany_OrderError ?g_TooMany_OrderError ?s_NoThing_OrderError ?g_NoThing_OrderError ?s_NoWay_OrderError ?g_NoWay_OrderError ?m_Ring ?w_Ring ?v_Ring ?m_NoTwoRows ?w_NoTwoRows ?v_NoTwoRows ?m_NoLattice ?w_NoLattice ?v_NoLattice ?m_NotSpreading ?w_NotSpreading ?v_NotSpreading ?gk_TooMany_TooMany ?gk_TooMany_NoThing ?nk_TooMany_NoThing ?gk_TooMany_NoWay ?nk_TooMany_NoWay ?gk_TooMany_Ring ?nk_TooMany_Ring ?gk_TooMany_NoTwoRows ?nk_TooMany_NoTwoRows ?gk_TooMany_NoLattice ?nk_TooMany_NoLattice ?gk_TooMany_NotSpreading ?nk_TooMany_NotSpreading ?gv_TooMany ?xa_TooMany ?xb_TooMany ?xc_TooMany ?xd_TooMany ?xe_TooMany ?gk_NoThing_TooMany ?nk_NoThing_TooMany ?gk_NoThing_NoThing ?gk_NoThing_NoWay ?nk_NoThing_NoWay ?gk_NoThing_Ring ?nk_NoThing_Ring ?gk_NoThing_NoTwoRows ?nk_NoThing_NoTwoRows ?gk_NoThing_NoLattice ?nk_NoThing_NoLattice ?gk_NoThing_NotSpreading ?nk_NoThing_NotSpreading ?gv_NoThing ?xa_NoThing ?xb_NoThing ?xc_NoThing ?xd_NoThing ?xe_NoThing ?gk_NoWay_TooMany ?nk_NoWay_TooMany ?gk_NoWay_NoThing ?nk_NoWay_NoThing ?gk_NoWay_NoWay ?gk_NoWay_Ring ?nk_NoWay_Ring ?gk_NoWay_NoTwoRows ?nk_NoWay_NoTwoRows ?gk_NoWay_NoLattice ?nk_NoWay_NoLattice ?gk_NoWay_NotSpreading ?nk_NoWay_NotSpreading ?gv_NoWay ?xa_NoWay ?xb_NoWay ?xc_NoWay ?xd_NoWay ?xe_NoWay ?z0 ?z1 ?z2 ?z3 ?z4 ?z5 ?z6 ?z7 ?z8 ?z9 ?z10 ?zx_reversed ?zx_ValueError ?zx_sum
    (case a0 => k_is)
    (case l0 => k_is)
    (case c0 => k_is)
    (case k0 => k_is)
    (case a1 => k_is)
    (case l1 => k_is)
    (case c1 => k_is)
    (case k1 => k_is)
    (case a2 => k_is)
    (case l2 => k_is)
    (case c2 => k_is)
    (case k2 => k_is)
    (case a3 => k_is)
    (case l3 => k_is)
    (case c3 => k_is)
    (case k3 => k_is)
    (case a4 => k_is)
    (case l4 => k_is)
    (case c4 => k_is)
    (case k4 => k_is)
    (case a5 => k_is)
    (case l5 => k_is)
    (case c5 => k_is)
    (case k5 => k_is)
    (case a6 => k_is)
    (case l6 => k_is)
    (case c6 => k_is)
    (case k6 => k_is)
    (case a7 => k_is)
    (case l7 => k_is)
    (case c7 => k_is)
    (case k7 => k_is)
    (case a8 => k_is)
    (case l8 => k_is)
    (case c8 => k_is)
    (case k8 => k_is)
    (case a9 => k_is)
    (case l9 => k_is)
    (case c9 => k_is)
    (case k9 => k_is)
    (case a10 => k_is)
    (case l10 => k_is)
    (case c10 => k_is)
    (case k10 => k_is)
    (case a11 => k_is)
    (case l11 => k_is)
    (case c11 => k_is)
    (case k11 => k_is)
    (case a12 => k_is)
    (case l12 => k_is)
    (case c12 => k_is)
    (case k12 => k_is)
    (case a13 => k_is)
    (case l13 => k_is)
    (case c13 => k_is)
    (case k13 => k_is)
    (case a14 => k_is)
    (case l14 => k_is)
    (case c14 => k_is)
    (case k14 => k_is)
    (case a15 => k_is)
    (case l15 => k_is)
    (case c15 => k_is)
    (case k15 => k_is)
    (case a16 => k_is)
    (case l16 => k_is)
    (case c16 => k_is)
    (case k16 => k_is)
    (case a17 => k_is)
    (case l17 => k_is)
    (case c17 => k_is)
    (case k17 => k_is)
    (case a18 => k_is)
    (case l18 => k_is)
    (case c18 => k_is)
    (case k18 => k_is)
    (case a19 => k_is)
    (case l19 => k_is)
    (case c19 => k_is)
    (case k19 => k_is)
    (case a20 => k_is)
    (case l20 => k_is)
    (case c20 => k_is)
    (case k20 => k_is)
    (case a21 => k_is)
    (case l21 => k_is)
    (case c21 => k_is)
    (case k21 => k_is)
    (case a22 => k_is)
    (case l22 => k_is)
    (case c22 => k_is)
    (case k22 => k_is)
    (case a23 => k_is)
    (case l23 => k_is)
    (case c23 => k_is)
    (case k23 => k_is)
    (case a24 => k_is)
    (case l24 => k_is)
    (case c24 => k_is)
    (case k24 => k_is)
    (case a25 => k_is)
    (case l25 => k_is)
    (case c25 => k_is)
    (case k25 => k_is)
    (case a26 => k_is)
    (case l26 => k_is)
    (case c26 => k_is)
    (case k26 => k_is)
    (case a27 => k_is)
    (case l27 => k_is)
    (case c27 => k_is)
    (case k27 => k_is)
    (case q_MOST_LAID => k_is)
    (case i_MOST_LAID => exact ⟨_, rfl⟩)
    (case m_TooMany => k_is)
    (case o_TooMany => k_is)
    (case x_TooMany => first | k_is | kernel_rfl | decide +kernel)
    (case BE_TooMany => first | rfl | decide +kernel | k_is)
    (case w_TooMany => k_is)
    (case v_TooMany => k_is)
    (case m_NoThing => k_is)
    (case o_NoThing => k_is)
    (case x_NoThing => first | k_is | kernel_rfl | decide +kernel)
    (case BE_NoThing => first | rfl | decide +kernel | k_is)
    (case w_NoThing => k_is)
    (case v_NoThing => k_is)
    (case m_NoWay => k_is)
    (case o_NoWay => k_is)
    (case x_NoWay => first | k_is | kernel_rfl | decide +kernel)
    (case BE_NoWay => first | rfl | decide +kernel | k_is)
    (case w_NoWay => k_is)
    (case v_NoWay => k_is)
    (case m_OrderError => k_is)
    (case o_OrderError => k_is)
    (case x_OrderError => first | k_is | kernel_rfl | decide +kernel)
    (case BE_OrderError => first | rfl | decide +kernel | k_is)
    (case w_OrderError => k_is)
    (case v_OrderError => k_is)
    (case s_TooMany_OrderError => first | rfl | decide +kernel | k_is)
    (case g_TooMany_OrderError => k_is)
    (case s_NoThing_OrderError => first | rfl | decide +kernel | k_is)
    (case g_NoThing_OrderError => k_is)
    (case s_NoWay_OrderError => first | rfl | decide +kernel | k_is)
    (case g_NoWay_OrderError => k_is)
    (case m_Ring => k_is)
    (case w_Ring => k_is)
    (case v_Ring => k_is)
    (case m_NoTwoRows => k_is)
    (case w_NoTwoRows => k_is)
    (case v_NoTwoRows => k_is)
    (case m_NoLattice => k_is)
    (case w_NoLattice => k_is)
    (case v_NoLattice => k_is)
    (case m_NotSpreading => k_is)
    (case w_NotSpreading => k_is)
    (case v_NotSpreading => k_is)
    (case gk_TooMany_TooMany => k_is)
    (case gk_TooMany_NoThing => k_is)
    (case nk_TooMany_NoThing => first | rfl | decide +kernel | k_is)
    (case gk_TooMany_NoWay => k_is)
    (case nk_TooMany_NoWay => first | rfl | decide +kernel | k_is)
    (case gk_TooMany_Ring => k_is)
    (case nk_TooMany_Ring => first | rfl | decide +kernel | k_is)
    (case gk_TooMany_NoTwoRows => k_is)
    (case nk_TooMany_NoTwoRows => first | rfl | decide +kernel | k_is)
    (case gk_TooMany_NoLattice => k_is)
    (case nk_TooMany_NoLattice => first | rfl | decide +kernel | k_is)
    (case gk_TooMany_NotSpreading => k_is)
    (case nk_TooMany_NotSpreading => first | rfl | decide +kernel | k_is)
    (case gv_TooMany => k_is)
    (case xa_TooMany => k_is)
    (case xb_TooMany => k_is)
    (case xc_TooMany => k_is)
    (case xd_TooMany => k_is)
    (case xe_TooMany => k_is)
    (case gk_NoThing_TooMany => k_is)
    (case nk_NoThing_TooMany => first | rfl | decide +kernel | k_is)
    (case gk_NoThing_NoThing => k_is)
    (case gk_NoThing_NoWay => k_is)
    (case nk_NoThing_NoWay => first | rfl | decide +kernel | k_is)
    (case gk_NoThing_Ring => k_is)
    (case nk_NoThing_Ring => first | rfl | decide +kernel | k_is)
    (case gk_NoThing_NoTwoRows => k_is)
    (case nk_NoThing_NoTwoRows => first | rfl | decide +kernel | k_is)
    (case gk_NoThing_NoLattice => k_is)
    (case nk_NoThing_NoLattice => first | rfl | decide +kernel | k_is)
    (case gk_NoThing_NotSpreading => k_is)
    (case nk_NoThing_NotSpreading => first | rfl | decide +kernel | k_is)
    (case gv_NoThing => k_is)
    (case xa_NoThing => k_is)
    (case xb_NoThing => k_is)
    (case xc_NoThing => k_is)
    (case xd_NoThing => k_is)
    (case xe_NoThing => k_is)
    (case gk_NoWay_TooMany => k_is)
    (case nk_NoWay_TooMany => first | rfl | decide +kernel | k_is)
    (case gk_NoWay_NoThing => k_is)
    (case nk_NoWay_NoThing => first | rfl | decide +kernel | k_is)
    (case gk_NoWay_NoWay => k_is)
    (case gk_NoWay_Ring => k_is)
    (case nk_NoWay_Ring => first | rfl | decide +kernel | k_is)
    (case gk_NoWay_NoTwoRows => k_is)
    (case nk_NoWay_NoTwoRows => first | rfl | decide +kernel | k_is)
    (case gk_NoWay_NoLattice => k_is)
    (case nk_NoWay_NoLattice => first | rfl | decide +kernel | k_is)
    (case gk_NoWay_NotSpreading => k_is)
    (case nk_NoWay_NotSpreading => first | rfl | decide +kernel | k_is)
    (case gv_NoWay => k_is)
    (case xa_NoWay => k_is)
    (case xb_NoWay => k_is)
    (case xc_NoWay => k_is)
    (case xd_NoWay => k_is)
    (case xe_NoWay => k_is)
    (case z0 => k_is)
    (case z1 => k_is)
    (case z2 => k_is)
    (case z3 => k_is)
    (case z4 => k_is)
    (case z5 => k_is)
    (case z6 => k_is)
    (case z7 => k_is)
    (case z8 => k_is)
    (case z9 => k_is)
    (case z10 => k_is)
    (case zx_reversed => k_is)
    (case zx_ValueError => k_is)
    (case zx_sum => k_is)
#print axioms PySem.Challenge.cw_orderhall_k27_refused_ways_holds
