import PyProof.Rows.All
import Wide.All
import OpenK.AllK
import Wide.FinOn
import Lean
import PyProof.EqAt
import PyProof.EqKinds
import PyProof.TupleCall
import PyProof.CompFree
import PyProof.Draws
import PyProof.EnumMake
import KE.KLam
import KE.KMinKey
import KE.KSortTup
import PyProof.StrCalls2
import PyProof.Rows.StrSplitAre
import KE.KIntText
import PyProof.StrWalks
import PyProof.SliceStr2
import PyProof.StrBlockI
import PyProof.StrLawsTight
import PyProof.StrLawsNeg
import PyProof.StrLawsAffix
import PyProof.StrLawsJoin
import PyProof.StrLawsIn
import PyProof.FactsAll.str_0
import PyProof.FactsAll.str_3
import PyProof.FactsAll.str_5
import PyProof.FactsAll.str_7
import PyProof.TupleKey
import PyProof.IsRules
import PyProof.Rows.SetFrom
import PyProof.FactsAll.set_1
import PyProof.SetRoads
import PyProof.CollectWalk
import PyProof.Rows.SortShell
import PyProof.Rows.SortWalk
import KE.KTupSum
import PyProof.Rows.SumAny
import PyProof.ReprStr
import PyProof.EqKinds
import PyProof.FactsAll.tuple_1
import PyProof.StrLawsRepr
import PySem.Challenge.RW_middleweb_k44_texts_of_no_webs
-- CHANGE: your row's module here, as the last of these rows
set_option Elab.async false
set_option linter.all false
set_option maxRecDepth 100000
namespace L2
open PySem PySem.Spec PyProof.Rows
abbrev Key := Sum Int Str
def keyIs : Key → Value → Bool
  | .inl k, v => Value.isInt k v
  | .inr x, v => Value.isStrOf x v
def keyH (w : World) : Key → Int
  | .inl k => hashInt k
  | .inr x => hashStr w x
theorem keyIs_shape : ∀ {k : Key} {v : Value}, keyIs k v = true → (∃ i t, k = Sum.inl i ∧ v = Value.int i t) ∨ (∃ x t, k = Sum.inr x ∧ v = Value.str x t)
  | .inl i, v, h => by
    obtain ⟨t, e⟩ := Value.isInt_shape (k := i) (v := v) h
    exact .inl ⟨i, t, rfl, e⟩
  | .inr x, v, h => by
    obtain ⟨t, e⟩ := Value.isStrOf_shape (x := x) (v := v) h
    exact .inr ⟨x, t, rfl, e⟩
theorem key_ll (a b : Int) : decide ((Sum.inl a : Key) = Sum.inl b) = (a == b) := by
  by_cases e : a = b
  · subst e; simp
  · have h : ¬ (Sum.inl a : Key) = Sum.inl b := fun q => e (Sum.inl.inj q)
    rw [decide_eq_false h]
    exact (beq_eq_false_iff_ne.mpr e).symm
theorem key_rr (a b : Str) : decide ((Sum.inr a : Key) = Sum.inr b) = decide (a = b) := by
  by_cases e : a = b
  · subst e; simp
  · have h : ¬ (Sum.inr a : Key) = Sum.inr b := fun q => e (Sum.inr.inj q)
    rw [decide_eq_false h, decide_eq_false e]
theorem key_lr (a : Int) (b : Str) : decide ((Sum.inl a : Key) = Sum.inr b) = false := decide_eq_false (fun q => nomatch q)
theorem key_rl (a : Str) (b : Int) : decide ((Sum.inr a : Key) = Sum.inl b) = false := decide_eq_false (fun q => nomatch q)
def mixKind (prog : Program) (w : World) : PySem.KeyKind prog w Key where
  is := keyIs
  hash := keyH w
  inj := fun v a b ha hb => by
    rcases keyIs_shape ha with ⟨i, t, rfl, rfl⟩ | ⟨x, t, rfl, rfl⟩
    · rcases keyIs_shape hb with ⟨j, u, rfl, e⟩ | ⟨y, u, rfl, e⟩
      · injection e with e1 _; rw [e1]
      · exact nomatch e
    · rcases keyIs_shape hb with ⟨j, u, rfl, e⟩ | ⟨y, u, rfl, e⟩
      · exact nomatch e
      · injection e with e1 _; rw [e1]
  byValue := fun k v h => by
    rcases keyIs_shape h with ⟨i, t, rfl, rfl⟩ | ⟨x, t, rfl, rfl⟩ <;> rfl
  pyHash := fun hv h => by
    rcases keyIs_shape hv with ⟨i, t, rfl, rfl⟩ | ⟨x, t, rfl, rfl⟩
    · exact wpAny_pyHash_int h
    · exact wpAny_pyHash_str h
  eqBool := fun hu hv h => by
    rcases keyIs_shape hu with ⟨i, t, rfl, rfl⟩ | ⟨x, t, rfl, rfl⟩
    · rcases keyIs_shape hv with ⟨j, u, rfl, rfl⟩ | ⟨y, u, rfl, rfl⟩
      · rw [key_ll] at h; exact wpAny_eqBool_int h
      · rw [key_lr] at h; exact SeqAt.EqAt.int_str i t y u _ _ _ _ h
    · rcases keyIs_shape hv with ⟨j, u, rfl, rfl⟩ | ⟨y, u, rfl, rfl⟩
      · rw [key_rl] at h; exact SeqAt.EqAt.str_int x t j u _ _ _ _ h
      · rw [key_rr] at h; exact wpAny_eqBool_str h
  «strs» := fun k x t v h => by
    rcases keyIs_shape h with ⟨i, u, rfl, e⟩ | ⟨y, u, rfl, e⟩
    · exact nomatch e
    · injection e with e1 _
      subst e1
      cases v <;> rfl
end L2
namespace L2
open PySem PySem.Spec PyProof.Rows
inductive V where
  | non | bl (b : Bool) | int (i : Int) | str (x : Str) | byt (b : Array UInt8) | flt (b : UInt64) | ref (a : Addr) | ty (n : String)
  deriving DecidableEq
def RelV : V → Value → Prop
  | .non, u => u = Value.none
  | .bl b, u => u = Value.bool b
  | .int i, u => ∃ t, u = Value.int i t
  | .str x, u => ∃ t, u = Value.str x t
  | .byt b, u => ∃ t, u = Value.bytes b t
  | .flt b, u => ∃ t, u = Value.float b t
  | .ref a, u => u = Value.ref a
  | .ty n, u => u = Value.type n
abbrev Vals : List V → List Value → Prop := Paired RelV
theorem Vals.length {xs : List V} {us : List Value} (r : Vals xs us) : xs.length = us.length := Paired.length r
theorem Vals.get : ∀ {xs : List V} {us : List Value} {i : Nat} {x : V}, Vals xs us → xs[i]? = some x → ∃ u, us[i]? = some u ∧ RelV x u
  | _, _, _, _, .nil, e => by simp at e
  | _, _, 0, _, .cons r _, e => by simp at e; subst e; exact ⟨_, rfl, r⟩
  | _, _, i + 1, x, .cons _ t, e => by
    obtain ⟨u, h1, h2⟩ := Vals.get (i := i) (x := x) t (by simpa using e)
    exact ⟨u, by simpa using h1, h2⟩
theorem Vals.set {x : V} {u : Value} (r : RelV x u) : ∀ {xs : List V} {us : List Value} (i : Nat), Vals xs us → Vals (xs.set i x) (us.set i u)
  | _, _, _, .nil => .nil
  | _, _, 0, .cons _ t => .cons r t
  | _, _, i + 1, .cons q t => .cons q (Vals.set r i t)
theorem Vals.append : ∀ {xs ys : List V} {us ws : List Value}, Vals xs us → Vals ys ws → Vals (xs ++ ys) (us ++ ws)
  | _, _, _, _, .nil, s => s
  | _, _, _, _, .cons r t, s => .cons r (Vals.append t s)
theorem Vals.take : ∀ {xs : List V} {us : List Value} (n : Nat), Vals xs us → Vals (xs.take n) (us.take n)
  | _, _, 0, _ => .nil
  | _, _, _ + 1, .nil => .nil
  | _, _, n + 1, .cons r t => .cons r (Vals.take n t)
theorem Vals.drop : ∀ {xs : List V} {us : List Value} (n : Nat), Vals xs us → Vals (xs.drop n) (us.drop n)
  | _, _, 0, r => r
  | _, _, _ + 1, .nil => .nil
  | _, _, n + 1, .cons _ t => Vals.drop n t
def RelO : Option V → Option Value → Prop
  | some v, some u => RelV v u
  | none, none => True
  | _, _ => False
def KV {κ : Type} : List (κ × V) → List (κ × Value) → Prop := Paired fun (p : κ × V) (q : κ × Value) => p.1 = q.1 ∧ RelV p.2 q.2
def kV : Key → V
  | .inl i => .int i
  | .inr x => .str x
inductive HO where
    | lst (xs : List V)
    | tup (xs : List V)
    | dK (kvs : List (Key × V)) | dT (kvs : List (List Key × V))
    | set (S : Int → Bool) (n : Nat)
    | ins (C dx : Addr) (fs : List (Str × V))
    | own (x : Addr)
    | xd (fs : List (Str × V))
    | met (f x : Addr)
    | rng (lo hi : Int)
    | frz (o : Obj) (u : HO)
    | tbl (ps : Array Value)
    | ext (φ : Heap → Prop)
    | tab (p : Pos) (q : Str)
abbrev Hp := Addr → Option HO
def upd (H : Hp) (a : Addr) (o : HO) : Hp := fun b => if b = a then some o else H b
theorem upd_same {H : Hp} {a : Addr} {o : HO} : upd H a o a = some o := by unfold upd; rw [if_pos rfl]
theorem upd_ne {H : Hp} {a b : Addr} {o : HO} (h : b ≠ a) : upd H a o b = H b := by unfold upd; rw [if_neg h]
theorem ne_of_none {H : Hp} {a b : Addr} {o : HO} (h : H a = some o) (h' : H b = none) : a ≠ b := by
  intro e; subst e; rw [h] at h'; cases h'
section
variable (P : Program) (w : World)
def ObjOk (H : Hp) (h : Heap) (a : Addr) : HO → Prop
  | .lst xs => xs.length ≤ sizeLine ∧ ∃ (its : List Value) (n : Nat), Vals xs its ∧ h.get? a = some { cls := .type "list", data := .seq its.toArray n }
  | .tup xs => xs.length ≤ sizeLine ∧ ∃ its : List Value, Vals xs its ∧ IsTup h a its.toArray
  | .dK kvs => kvs.length ≤ sizeLine ∧ (a == sysModules) = false ∧ ∃ vs, KV kvs vs ∧ h.DictOf (mixKind P w) a vs
  | .dT kvs => kvs.length ≤ sizeLine ∧ (a == sysModules) = false ∧ ∃ xs : List (List Key × Addr × Value),
      Paired (fun (p : List Key × V) (q : List Key × Addr × Value) => p.1 = q.1 ∧ H q.2.1 = some (.tup (p.1.map kV)) ∧ RelV p.2 q.2.2) kvs xs ∧
      ∃ o es ep, h.get? a = some o ∧ o.ExactDict ∧ o.data = .dict es ep ∧ es.toList = xs.map (entryOfKey (tupleKind (mixKind P w))) ∧ (xs.map (·.1)).Nodup
  | .set S n => h.SetOf (intKind P w) a S n
  | .ins C dx fs => H dx = some (.own a) ∧ fs.length ≤ 1000 ∧ dx ≠ a ∧ h.get? a = some (PySem.W.instObj C dx) ∧
      ∃ mA, h.Ns1 dx mA ∧ (∀ f, RelO (fs.lookup f) (mA f)) ∧ PySem.Within mA (fs.map (·.1))
  | .own _ => ∃ o, h.get? a = some o
  | .xd fs => ∃ mA, h.Ns1 a mA ∧ ∀ f, RelO (fs.lookup f) (mA f)
  | .rng lo hi => ∃ t u v, h.get? a = some { cls := .type "range", data := .fields #[.int lo t, .int hi u, .int 1 v] }
  | .frz o u => h.get? a = some o ∧ ObjOk H h a u
  | .tbl ps => h.get? a = some { cls := .none, data := .fields ps }
  | .met f x => h.get? a = some (PySem.W.methodObj (.ref f) (.ref x))
  | .ext φ => φ h ∧ (∃ o, h.get? a = some o) ∧ ∀ h1 h2 : Heap, φ h1 → (∀ o, h1.get? a = some o → h2.get? a = some o) → φ h2
  | .tab p q => ∃ ps : Array Value, h.get? a = some { cls := .none, data := .fields ps } ∧ TriplesOk ps.toList ∧ ∀ cv, codeAmong p ps.toList = some cv →
      ∃ (c : Addr) (o : Obj) (vs : Array Value) (t : Tok), cv = .ref c ∧ H c = some (.own a) ∧ h.get? c = some o ∧ o.data = .fields vs ∧ vs[1]? = some (.str q t)
def HOk (H : Hp) (h : Heap) : Prop := ∀ a o, H a = some o → ObjOk P w H h a o
end
section
variable {P : Program} {w : World} {H H' : Hp} {h h' : Heap} {a : Addr} {o : HO}
theorem ObjOk.lt (x : ObjOk P w H h a o) : a < h.objs.size := by
  cases o with
  | lst xs => obtain ⟨_, _, _, _, e⟩ := x; exact Heap.lt_size e
  | tup xs => obtain ⟨_, _, _, p⟩ := x; exact p.lt
  | dK kvs => obtain ⟨_, _, _, _, o, _, _, e, _⟩ := x; exact Heap.lt_size e
  | dT kvs => obtain ⟨_, _, _, _, o, _, _, e, _⟩ := x; exact Heap.lt_size e
  | set S n => obtain ⟨o, _, _, _, e, _⟩ := x; exact Heap.lt_size e
  | ins C dx fs => obtain ⟨_, _, _, e, _⟩ := x; exact Heap.lt_size e
  | own y => obtain ⟨_, e⟩ := x; exact Heap.lt_size e
  | xd fs => obtain ⟨_, ⟨_, _, _, e, _⟩, _⟩ := x; exact Heap.lt_size e
  | rng lo hi => obtain ⟨_, _, _, e⟩ := x; exact Heap.lt_size e
  | frz ob u => obtain ⟨e, _⟩ := x; exact Heap.lt_size e
  | tbl ps => exact Heap.lt_size (show h.get? a = some _ from x)
  | met f y => exact Heap.lt_size (show h.get? a = some _ from x)
  | ext φ => obtain ⟨_, ⟨_, e⟩, _⟩ := x; exact Heap.lt_size e
  | tab p q => obtain ⟨_, e, _⟩ := x; exact Heap.lt_size e
theorem Paired.mapP {α β : Type} {F G : α → β → Prop} : ∀ {l₁ : List α} {l₂ : List β}, Paired F l₁ l₂ → (∀ a b, F a b → G a b) → Paired G l₁ l₂
  | _, _, .nil, _ => .nil
  | _, _, .cons r t, f => .cons (f _ _ r) (Paired.mapP t f)
theorem ObjOk.stay (x : ObjOk P w H h a o) (k : ∀ b u, (b = a ∨ H b = some (.own a)) → h.get? b = some u → h'.get? b = some u)
    (ho : ∀ b, H b = some (.own a) → H' b = some (.own a)) (ht : ∀ b xs, H b = some (.tup xs) → H' b = some (.tup xs)) : ObjOk P w H' h' a o := by
  induction o with
  | lst xs => obtain ⟨z, its, n, r, e⟩ := x; exact ⟨z, its, n, r, k _ _ (.inl rfl) e⟩
  | tup xs => obtain ⟨z, its, r, ob, e, c⟩ := x; exact ⟨z, its, r, ob, k _ _ (.inl rfl) e, c⟩
  | dK kvs => obtain ⟨z, y, vs, r, ob, es, ep, e, c⟩ := x; exact ⟨z, y, vs, r, ob, es, ep, k _ _ (.inl rfl) e, c⟩
  | dT kvs =>
    obtain ⟨z, y, xs, r, ob, es, ep, e, c⟩ := x
    exact ⟨z, y, xs, Paired.mapP r fun p q z => ⟨z.1, ht _ _ z.2.1, z.2.2⟩, ob, es, ep, k _ _ (.inl rfl) e, c⟩
  | set S n => obtain ⟨ob, es, ep, t, e, c⟩ := x; exact ⟨ob, es, ep, t, k _ _ (.inl rfl) e, c⟩
  | ins C dx fs =>
    obtain ⟨d, z, ne, e, mA, ⟨od, es, ep, e2, c⟩, r⟩ := x
    exact ⟨ho _ d, z, ne, k _ _ (.inl rfl) e, mA, ⟨od, es, ep, k _ _ (.inr d) e2, c⟩, r⟩
  | own y => obtain ⟨ob, e⟩ := x; exact ⟨ob, k _ _ (.inl rfl) e⟩
  | xd fs => obtain ⟨mA, ⟨od, es, ep, e, c⟩, r⟩ := x; exact ⟨mA, ⟨od, es, ep, k _ _ (.inl rfl) e, c⟩, r⟩
  | rng lo hi => obtain ⟨t, u, v, e⟩ := x; exact ⟨t, u, v, k _ _ (.inl rfl) e⟩
  | frz ob u ih => obtain ⟨e, q⟩ := x; exact ⟨k _ _ (.inl rfl) e, ih q⟩
  | tbl ps =>
    have e : h.get? a = some { cls := .none, data := .fields ps } := x
    show h'.get? a = some { cls := .none, data := .fields ps }
    exact k a _ (.inl rfl) e
  | met f y =>
    have e : h.get? a = some (PySem.W.methodObj (.ref f) (.ref y)) := x
    show h'.get? a = some (PySem.W.methodObj (.ref f) (.ref y))
    exact k a _ (.inl rfl) e
  | ext φ => obtain ⟨p, ⟨o, e⟩, st⟩ := x; exact ⟨st _ _ p fun o q => k _ _ (.inl rfl) q, ⟨o, k _ _ (.inl rfl) e⟩, st⟩
  | tab p q =>
    obtain ⟨ps, e, h2, f⟩ := x
    refine ⟨ps, k _ _ (.inl rfl) e, h2, fun cv hcv => ?_⟩
    obtain ⟨c, o, vs, t, rfl, h3, h4, r⟩ := f cv hcv
    exact ⟨c, o, vs, t, rfl, ho _ h3, k _ _ (.inr h3) h4, r⟩
theorem HOk.lt (x : HOk P w H h) (e : H a = some o) : a < h.objs.size := (x a o e).lt
theorem HOk.fresh (x : HOk P w H h) (e : h.objs.size ≤ a) : H a = none := by
  cases q : H a with
  | none => rfl
  | some u => exact absurd (Nat.lt_of_lt_of_le (x.lt q) e) (Nat.lt_irrefl _)
theorem HOk.kept (x : HOk P w H h) (k : ∀ b u, h.get? b = some u → h'.get? b = some u) : HOk P w H h' := fun a o e =>
  (x a o e).stay (fun b u _ q => k b u q) (fun _ q => q) fun _ _ q => q
theorem HOk.laid (x : HOk P w H h) (k : ∀ b u, h.get? b = some u → h'.get? b = some u) (hp : h.objs.size ≤ a) (new : ObjOk P w (upd H a o) h' a o) : HOk P w (upd H a o) h' := fun b u e => by
  have hn := x.fresh hp
  by_cases hb : b = a
  · subst hb; rw [upd_same] at e; cases e; exact new
  · rw [upd_ne hb] at e
    exact (x b u e).stay (fun c v _ q => k c v q) (fun c q => by rw [upd_ne (ne_of_none q hn)]; exact q) fun c xs q => by rw [upd_ne (ne_of_none q hn)]; exact q
end
def Rd (H : Hp) (a : Addr) (u : HO) : Prop := H a = some u ∨ ∃ o, H a = some (.frz o u)
theorem Rd.of {H : Hp} {a : Addr} {u : HO} (h : H a = some u) : Rd H a u := .inl h
theorem Rd.ok {P : Program} {w : World} {H : Hp} {h : Heap} {a : Addr} {u : HO} (r : Rd H a u) (x : HOk P w H h) : ObjOk P w H h a u := by
  rcases r with r | ⟨o, r⟩
  · exact x a u r
  · obtain ⟨_, q⟩ := x a _ r
    exact q
def Mut : Option HO → Prop
  | some (.lst _) => True
  | some (.dK _) => True
  | some (.dT _) => True
  | some (.set _ _) => True
  | some (.ins _ _ _) => True
  | some (.ext _) => True
  | _ => False
section
variable {P : Program} {w : World} {H : Hp} {h h' : Heap} {x e : Addr} {o' : HO}
theorem HOk.write (ok : HOk P w H h) (mu : Mut (H x)) (he : e = x ∨ H e = some (.own x)) (k : ∀ b u, b ≠ e → h.get? b = some u → h'.get? b = some u) (heo : ∃ u, h'.get? e = some u)
    (new : ObjOk P w (upd H x o') h' x o') : HOk P w (upd H x o') h' := fun b u q => by
  have nown : ∀ c y, H c = some (.own y) → c ≠ x := fun c y r z => by subst z; rw [r] at mu; exact mu
  have ntup : ∀ c xs, H c = some (.tup xs) → c ≠ x := fun c xs r z => by subst z; rw [r] at mu; exact mu
  by_cases hb : b = x
  · subst hb; rw [upd_same] at q; cases q; exact new
  · rw [upd_ne hb] at q
    by_cases hbe : b = e
    · have q' : H b = some (.own x) := by
        rcases he with z | z
        · exact absurd (hbe.trans z) hb
        · rw [hbe]; exact z
      rw [q] at q'; cases q'
      obtain ⟨v, hv⟩ := heo
      exact ⟨v, by rw [hbe]; exact hv⟩
    · refine (ok b u q).stay (fun c v hc r => k c v ?_ r) (fun c r => by rw [upd_ne (nown c b r)]; exact r) fun c xs r => by rw [upd_ne (ntup c xs r)]; exact r
      rcases hc with rfl | hc
      · exact hbe
      · rintro rfl
        rcases he with z | z
        · exact nown c b hc z
        · rw [hc] at z; cases z; exact hb rfl
end
structure Un (fs ex : List Addr) (H H' : Hp) (h h' : Heap) : Prop where
  keep : ∀ b o, h.get? b = some o → H b = none → b ∉ fs → b ∉ ex → h'.get? b = some o
  slot : ∀ b o, h.get? b = some o → H b = none → b ∈ fs → b ∉ ex → ∃ sl, h'.get? b = some { o with slots := sl }
  free : ∀ b o, h.get? b = some o → H b = none → b ∉ ex → H' b = none
  there : ∀ b o, h.get? b = some o → b ∉ ex → ∃ o', h'.get? b = some o'
  tups : ∀ b xs, H b = some (.tup xs) → H' b = some (.tup xs)
  frzs : ∀ b o u, H b = some (.frz o u) → H' b = some (.frz o u)
  tbls : ∀ b ps, H b = some (.tbl ps) → ∃ more, H' b = some (.tbl (ps ++ more))
section
variable {fs fs' ex ex' : List Addr} {H H1 H2 : Hp} {h h1 h2 h' : Heap} {a x e : Addr} {o : HO}
theorem Un.any (u : Un fs ex H H1 h h1) {b : Addr} {ob : Obj} (q : h.get? b = some ob) (n : H b = none) (hx : b ∉ ex) : ∃ sl, h1.get? b = some { ob with slots := sl } := by
  by_cases hb : b ∈ fs
  · exact u.slot b ob q n hb hx
  · exact ⟨ob.slots, u.keep b ob q n hb hx⟩
theorem Un.trans (a : Un fs ex H H1 h h1) (b : Un fs ex H1 H2 h1 h2) : Un fs ex H H2 h h2 where
  keep := fun c ob q n hc hx => b.keep c ob (a.keep c ob q n hc hx) (a.free c ob q n hx) hc hx
  slot := fun c ob q n hc hx => by
    obtain ⟨sl, e1⟩ := a.slot c ob q n hc hx
    obtain ⟨sl', e2⟩ := b.slot c _ e1 (a.free c ob q n hx) hc hx
    exact ⟨sl', e2⟩
  free := fun c ob q n hx => by
    obtain ⟨o', e1⟩ := a.there c ob q hx
    exact b.free c o' e1 (a.free c ob q n hx) hx
  there := fun c ob q hx => by
    obtain ⟨o', e1⟩ := a.there c ob q hx
    exact b.there c o' e1 hx
  tups := fun c xs q => b.tups c xs (a.tups c xs q)
  frzs := fun c ob xs q => b.frzs c ob xs (a.frzs c ob xs q)
  tbls := fun c ps q => by
    obtain ⟨m1, e1⟩ := a.tbls c ps q
    obtain ⟨m2, e2⟩ := b.tbls c _ e1
    exact ⟨m1 ++ m2, by rw [e2, Array.append_assoc]⟩
theorem Un.kept (k : ∀ b u, h.get? b = some u → h'.get? b = some u) : Un fs ex H H h h' :=
  ⟨fun b ob q _ _ _ => k b ob q, fun b ob q _ _ _ => ⟨ob.slots, k b ob q⟩, fun _ _ _ n _ => n, fun b ob q _ => ⟨ob, k b ob q⟩, fun _ _ q => q, fun _ _ _ q => q, fun _ ps q => ⟨#[], by rw [q]; simp⟩⟩
theorem Un.refl : Un fs ex H H h h := Un.kept fun _ _ q => q
theorem Un.laid (k : ∀ b u, h.get? b = some u → h'.get? b = some u) (hp : h.objs.size ≤ a) (hn : H a = none) : Un fs ex H (upd H a o) h h' where
  keep := fun b u q _ _ _ => k b u q
  slot := fun b u q _ _ _ => ⟨u.slots, k b u q⟩
  free := fun b u q n _ => by rw [upd_ne (Nat.ne_of_lt (Nat.lt_of_lt_of_le (Heap.lt_size q) hp))]; exact n
  there := fun b u q _ => ⟨u, k b u q⟩
  tups := fun b xs q => by rw [upd_ne (ne_of_none q hn)]; exact q
  frzs := fun b u xs q => by rw [upd_ne (ne_of_none q hn)]; exact q
  tbls := fun b ps q => ⟨#[], by rw [upd_ne (ne_of_none q hn), q]; simp⟩
theorem Un.write (mu : Mut (H x)) (he : e = x ∨ H e = some (.own x)) (k : ∀ b u, b ≠ e → h.get? b = some u → h'.get? b = some u) (heo : ∃ u, h'.get? e = some u) : Un fs ex H (upd H x o) h h' := by
  have hx : ∀ b, H b = none → b ≠ x := fun b n z => by subst z; rw [n] at mu; exact mu
  have hb : ∀ b, H b = none → b ≠ e := fun b n z => by
    subst z
    rcases he with r | r
    · exact hx b n r
    · rw [n] at r; cases r
  have hm : ∀ b u, H b = some u → ¬ Mut (some u) → b ≠ x := fun b u q nm z => by subst z; rw [q] at mu; exact nm mu
  refine ⟨fun b u q n _ _ => k b u (hb b n) q, fun b u q n _ _ => ⟨u.slots, k b u (hb b n) q⟩, fun b u q n _ => by rw [upd_ne (hx b n)]; exact n, fun b u q _ => ?_,
    fun b xs q => by rw [upd_ne (hm b _ q fun z => z)]; exact q, fun b u xs q => by rw [upd_ne (hm b _ q fun z => z)]; exact q, fun b ps q => ⟨#[], by rw [upd_ne (hm b _ q fun z => z), q]; simp⟩⟩
  by_cases hbe : b = e
  · subst hbe; exact heo
  · exact ⟨u, k b u hbe q⟩
theorem Un.mono (u : Un fs ex H H1 h h1) (hs : ∀ b ∈ fs, b ∈ fs') (hx : ∀ b ∈ ex, b ∈ ex') : Un fs' ex' H H1 h h1 :=
  ⟨fun b ob q n hb he => u.keep b ob q n (fun z => hb (hs b z)) fun z => he (hx b z), fun _ _ q n _ he => u.any q n fun z => he (hx _ z), fun b ob q n he => u.free b ob q n fun z => he (hx b z), fun b ob q he => u.there b ob q fun z => he (hx b z), u.tups, u.frzs, u.tbls⟩
end
def trk (h : Heap) (H : Hp) : List Addr := (List.range h.objs.size).filter fun a => (H a).isSome
def hidT (h : Heap) (H : Hp) : Heap := PySem.W.hideAll h (trk h H)
theorem hidT_size (h : Heap) (H : Hp) : (hidT h H).objs.size = h.objs.size := PySem.W.hideAll_size _ _
theorem hidT_get {h : Heap} {H : Hp} {b : Addr} {o : Obj} (e : h.get? b = some o) (n : H b = none) : (hidT h H).get? b = some o :=
  PySem.W.hideAll_get _ e fun hm => by
    have q : (H b).isSome = true := (List.mem_filter.mp hm).2
    rw [n] at q; simp at q
theorem of_hidT {h : Heap} {H : Hp} {b : Addr} {o : Obj} (e : (hidT h H).get? b = some o) : h.get? b = some o ∧ H b = none := by
  have e' : h.get? b = some o := PySem.W.of_hideAll (trk h H) e
  refine ⟨e', ?_⟩
  cases q : H b with
  | none => rfl
  | some x =>
    have hm : b ∈ trk h H := List.mem_filter.mpr ⟨List.mem_range.mpr (Heap.lt_size e'), by simp [q]⟩
    have z : (hidT h H).get? b = none := PySem.W.hideAll_none (trk h H) hm
    rw [z] at e; cases e
def allNews (g h : Heap) (L : Addr) : List (Addr × Obj) := (List.range h.objs.size).filterMap fun a => if a = L ∨ (g.get? a).isSome = true then none else (h.get? a).map fun o => (a, o)
theorem mem_allNews {g h : Heap} {L a : Addr} {o : Obj} (h1 : a ≠ L) (h2 : g.get? a = none) (h3 : h.get? a = some o) : (a, o) ∈ allNews g h L :=
  List.mem_filterMap.mpr ⟨a, List.mem_range.mpr (Heap.lt_size h3), by simp [h1, h2, h3]⟩
theorem of_mem_allNews {g h : Heap} {L : Addr} {p : Addr × Obj} (hp : p ∈ allNews g h L) : p.1 ≠ L ∧ g.get? p.1 = none ∧ h.get? p.1 = some p.2 := by
  obtain ⟨b, _, e⟩ := List.mem_filterMap.mp hp
  split at e
  · cases e
  · rename_i hn
    cases q : h.get? b with
    | none => rw [q] at e; simp at e
    | some u =>
      rw [q] at e
      simp only [Option.map_some, Option.some.injEq] at e
      subst e
      refine ⟨fun z => hn (.inl z), ?_, q⟩
      show g.get? b = none
      cases r : g.get? b with
      | none => rfl
      | some v => exact (hn (.inr (by simp [r]))).elim
def rest (g h : Heap) (L d : Addr) : List (Addr × Obj) := (allNews g h L).filter fun p => decide (p.1 ≠ d)
theorem news_all {g h : Heap} {L : Addr} : News g L h (allNews g h L) := fun p hp => let ⟨a, b, c⟩ := of_mem_allNews hp; ⟨c, a, b⟩
end L2
namespace L2
open PySem PySem.Spec PyProof.Rows
structure Mod (K : PySem.W.Frag) (mg : Str → Option Value) (base : Heap) : Prop where
  kin : K.In base
  glob : base.Ns mainGlobals mg
  blt : ∃ mb, base.Ns builtinsNs mb ∧ ∀ x : Str, x ≠ "__name__" → mb x = bootBuiltins x
  nolimit : base.NoLimit
structure Cx where
  prog : Program
  w : World
  K : PySem.W.Frag
  mg : Str → Option Value
  base : Heap
  A : Around
  N : List Str
  s₀ : Shared
  H₀ : Hp
  env : Env
  outer : List Env
  stack : List Env
  ex : List Addr
  fn : Str → Bool
  calm : Bool
  pn : List (Addr × Obj)
  xe : Value → Shared → Prop
def frs (l : List Env) : List Addr := l.filterMap (·.frame)
abbrev Cx.fs (X : Cx) : List Addr := frs X.outer
def Vis (sc : Scope) (x : Str) : Prop := sc.names.lookup x = some .local ∨ sc.names.lookup x = some .cell ∨ sc.names.lookup x = some .free
def Loc (sc : Scope) (x : Str) : Prop := sc.names.lookup x = some .local ∨ sc.names.lookup x = some .cell
def Look (env : Env) (h : Heap) (m : Str → Option Value) (x : Str) (u : Value) : Prop :=
  (env.kindOf x = some .local ∧ m x = some u) ∨ ((env.kindOf x = some .cell ∨ env.kindOf x = some .free) ∧ ∃ c, env.cells.lookup x = some c ∧ h.IsCell c (some u))
structure Cx.Ok (X : Cx) : Prop where
  mod : Mod X.K X.mg X.base
  kind : X.env.scope.kind = .function
  glob : X.env.globals = mainGlobals
  blt : X.env.builtins = builtinsNs
  above : X.s₀.heap.objs.size ≤ X.env.locals
  inj : ∀ x y c, X.env.cells.lookup x = some c → X.env.cells.lookup y = some c → x = y
  has : ∀ x, (X.env.kindOf x = some .cell ∨ X.env.kindOf x = some .free) → ∃ c, X.env.cells.lookup x = some c
  cab : ∀ x c, X.fn x = true → X.env.cells.lookup x = some c → X.s₀.heap.objs.size ≤ c
  hd : X.calm = true → X.A.handled = none
  frames : X.A.frames = some X.stack
  stk : X.stack = X.outer ∨ (X.stack = X.env :: X.outer ∧ X.env.frame = some X.env.locals)
  exf : ∀ b ∈ X.ex, b ≠ X.env.locals ∧ ∀ x c, X.env.cells.lookup x = some c → c ≠ b
  bs : ∀ b o, X.base.get? b = some o → X.s₀.heap.get? b = some o ∧ X.H₀ b = none
  bsz : X.base.objs.size ≤ X.s₀.heap.objs.size
  noex : ∀ b o, X.base.get? b = some o → b ∉ X.ex
  exfs : ∀ b ∈ X.ex, b ∉ X.fs
  funs : X.s₀.heap.FunFrames X.base X.outer
  frf : ∀ b ∈ X.fs, X.H₀ b = none
structure Inv (X : Cx) (pins : List (Addr × Obj)) (σ : List (Option V)) (H : Hp) (s : Shared) : Prop where
  ok : X.Ok
  os : s.os = X.s₀.os
  bare : AllBare s.gens
  base : Un X.fs X.ex X.H₀ H X.s₀.heap s.heap
  loc : ∃ m, s.heap.Ns X.env.locals m ∧ ∀ (i : Nat) (x : Str) (v : V), X.N[i]? = some x → σ[i]? = some (some v) → Vis X.env.scope x → ∃ u, RelV v u ∧ Look X.env s.heap m x u
  cell : ∀ x c, X.env.cells.lookup x = some c → ∃ v, s.heap.IsCell c v
  free : H X.env.locals = none
  freeC : ∀ x c, X.env.cells.lookup x = some c → H c = none
  pin : ∀ p ∈ X.pn ++ pins, s.heap.get? p.1 = some p.2 ∧ H p.1 = none ∧ p.1 ≠ X.env.locals ∧ p.1 ∉ X.fs ∧ ∀ v, p.2.data ≠ .cell v
  hok : HOk X.prog X.w H s.heap
  len : σ.length = X.N.length
section
variable {X : Cx} {pins : List (Addr × Obj)} {σ : List (Option V)} {H H' : Hp} {s : Shared} {h' : Heap}
theorem Cx.Ok.nofr (ok : X.Ok) {b : Addr} {o : Obj} (e : X.base.get? b = some o) : b ∉ X.fs := fun hb => by
  have := (ok.funs.mem hb).1
  rw [e] at this; cases this
theorem Inv.bs (I : Inv X pins σ H s) : ∀ b o, X.base.get? b = some o → s.heap.get? b = some o ∧ H b = none := fun b o e =>
  ⟨I.base.keep b o (I.ok.bs b o e).1 (I.ok.bs b o e).2 (I.ok.nofr e) (I.ok.noex b o e), I.base.free b o (I.ok.bs b o e).1 (I.ok.bs b o e).2 (I.ok.noex b o e)⟩
theorem Inv.bk (I : Inv X pins σ H s) : ∀ b o, X.base.get? b = some o → s.heap.get? b = some o := fun b o e => (I.bs b o e).1
theorem Inv.mod (I : Inv X pins σ H s) : Mod X.K X.mg X.base := I.ok.mod
theorem Inv.kIn (I : Inv X pins σ H s) : X.K.In s.heap := I.ok.mod.kin.keeps I.bk
theorem Inv.nolimit (I : Inv X pins σ H s) : s.heap.NoLimit := I.ok.mod.nolimit.keeps I.bk
theorem Inv.fr (I : Inv X pins σ H s) : ∃ m, Fr X.base X.env.locals s.heap m :=
  let ⟨m, hn, _⟩ := I.loc
  ⟨m, hn, I.bk, Nat.le_trans I.ok.bsz I.ok.above⟩
theorem Inv.lt (I : Inv X pins σ H s) : X.env.locals < s.heap.objs.size := let ⟨_, hn, _⟩ := I.loc; hn.lt
theorem Inv.sz (I : Inv X pins σ H s) : X.s₀.heap.objs.size ≤ s.heap.objs.size := Nat.le_trans I.ok.above (Nat.le_of_lt I.lt)
theorem Inv.nofs (I : Inv X pins σ H s) {a : Addr} (h : s.heap.objs.size ≤ a) : a ∉ X.fs := fun hb => by
  obtain ⟨_, o, ho, _⟩ := I.ok.funs.mem hb
  exact absurd (Nat.lt_of_lt_of_le (Heap.lt_size ho) (Nat.le_trans I.sz h)) (Nat.lt_irrefl _)
theorem Inv.cne (I : Inv X pins σ H s) : ∀ x c, X.env.cells.lookup x = some c → c ≠ X.env.locals := fun x c e z => by
  obtain ⟨v, o, ho, hd⟩ := I.cell x c e
  obtain ⟨m, ⟨o', es, ep, ho', hd', _⟩, _⟩ := I.loc
  rw [z, ho'] at ho; cases ho; rw [hd'] at hd; cases hd
theorem Inv.funs (I : Inv X pins σ H s) : s.heap.FunFrames X.base X.outer := by
  have all : ∀ (l : List Env), (∀ b ∈ frs l, b ∈ X.fs) → X.s₀.heap.FunFrames X.base l → s.heap.FunFrames X.base l := by
    intro l
    induction l with
    | nil => intro _ _; trivial
    | cons env r ih =>
      intro hs hl
      obtain ⟨hk, ⟨L, o, hf, hn, ho, hd⟩, hr⟩ := hl
      have hL : L ∈ X.fs := hs L (by unfold frs; rw [List.filterMap_cons, hf]; exact List.mem_cons_self)
      obtain ⟨sl, e⟩ := I.base.slot L o ho (I.ok.frf L hL) hL fun z => I.ok.exfs L z hL
      exact ⟨hk, ⟨L, _, hf, hn, e, hd⟩, ih (fun b hb => hs b (by unfold frs; rw [List.filterMap_cons, hf]; exact List.mem_cons_of_mem _ hb)) hr⟩
  exact all X.outer (fun _ hb => hb) I.ok.funs
theorem Inv.stack (I : Inv X pins σ H s) : s.heap.FunFrames X.base X.stack := by
  rcases I.ok.stk with e | ⟨e, hf⟩
  · rw [e]; exact I.funs
  · rw [e]
    obtain ⟨m, hn, _⟩ := I.loc
    refine .cons (by rw [I.ok.kind]; decide) hf hn ?_ I.funs
    exact Heap.get?_none_of_le (Nat.le_trans I.ok.bsz I.ok.above)
theorem Inv.stkSub (I : Inv X pins σ H s) : ∀ b ∈ frs X.stack, b ∈ X.env.locals :: X.fs := fun b hb => by
  rcases I.ok.stk with e | ⟨e, hf⟩
  · rw [e] at hb; exact List.mem_cons_of_mem _ hb
  · rw [e] at hb
    unfold frs at hb
    rw [List.filterMap_cons, hf] at hb
    exact hb
theorem Inv.stkFree (I : Inv X pins σ H s) : ∀ b ∈ frs X.stack, H b = none := fun b hb => by
  rcases List.mem_cons.mp (I.stkSub b hb) with e | hb
  · rw [e]; exact I.free
  · obtain ⟨_, o, ho, _⟩ := I.ok.funs.mem hb
    exact I.base.free b o ho (I.ok.frf b hb) fun z => I.ok.exfs b z hb
theorem Inv.step {g' : Array GenState} {t' : Nat} {d' : Drawn} {ch : List Addr} (I : Inv X pins σ H s)
    (hch : ∀ b ∈ ch, (b ∈ X.ex ∨ X.s₀.heap.objs.size ≤ b) ∧ b ≠ X.env.locals ∧ (∀ x c, X.env.cells.lookup x = some c → c ≠ b) ∧ ∀ p ∈ X.pn ++ pins, p.1 ≠ b)
    (keep : ∀ b o, b ≠ X.env.locals → b ∉ X.fs → b ∉ ch → s.heap.get? b = some o → H b = none → h'.get? b = some o)
    (slot : ∀ b o, b ≠ X.env.locals → b ∈ X.fs → b ∉ ch → s.heap.get? b = some o → H b = none → ∃ sl, h'.get? b = some { o with slots := sl }) (free : ∀ b o, b ∉ ch → s.heap.get? b = some o → H b = none → H' b = none)
    (there : ∀ b o, b ∉ ch → s.heap.get? b = some o → ∃ o', h'.get? b = some o')
    (tups : ∀ b xs, H b = some (.tup xs) → H' b = some (.tup xs)) (frzs : ∀ b o u, H b = some (.frz o u) → H' b = some (.frz o u)) (tbls : ∀ b ps, H b = some (.tbl ps) → ∃ more, H' b = some (.tbl (ps ++ more)))
    (ns : ∀ m, s.heap.Ns X.env.locals m → h'.Ns X.env.locals m) (hok : HOk X.prog X.w H' h') (hg : AllBare g') :
    Inv X pins σ H' { s with heap := h', gens := g', drawn := d', toks := t' } := by
  have neL : ∀ b o, X.s₀.heap.get? b = some o → b ≠ X.env.locals := fun b o e => Nat.ne_of_lt (Nat.lt_of_lt_of_le (Heap.lt_size e) I.ok.above)
  have neC : ∀ b o, X.s₀.heap.get? b = some o → b ∉ X.ex → b ∉ ch := fun b o e hx hb => by
    rcases (hch b hb).1 with z | z
    · exact hx z
    · exact absurd (Nat.lt_of_lt_of_le (Heap.lt_size e) z) (Nat.lt_irrefl _)
  have cellK : ∀ x c, X.env.cells.lookup x = some c → ∀ v, s.heap.IsCell c v → h'.IsCell c v := fun x c e v ⟨o, ho, hd⟩ => by
    have nch : c ∉ ch := fun z => (hch c z).2.2.1 x c e rfl
    by_cases hc : c ∈ X.fs
    · obtain ⟨sl, q⟩ := slot c o (I.cne x c e) hc nch ho (I.freeC x c e)
      exact ⟨_, q, hd⟩
    · exact ⟨o, keep c o (I.cne x c e) hc nch ho (I.freeC x c e), hd⟩
  refine ⟨I.ok, I.os, hg, ⟨fun b o e n hb hx => ?_, fun b o e n hb hx => ?_, fun b o e n hx => ?_, fun b o e hx => ?_, fun b xs e => tups b xs (I.base.tups b xs e), fun b o xs e => frzs b o xs (I.base.frzs b o xs e), fun b ps e => ?_⟩, ?_, fun x c e => ?_, ?_, fun x c e => ?_, fun p hp => ?_, hok, I.len⟩
  · exact keep b o (neL b o e) hb (neC b o e hx) (I.base.keep b o e n hb hx) (I.base.free b o e n hx)
  · obtain ⟨sl, e1⟩ := I.base.slot b o e n hb hx
    obtain ⟨sl', e2⟩ := slot b _ (neL b o e) hb (neC b o e hx) e1 (I.base.free b o e n hx)
    exact ⟨sl', e2⟩
  · obtain ⟨o', e1⟩ := I.base.there b o e hx
    exact free b o' (neC b o e hx) e1 (I.base.free b o e n hx)
  · obtain ⟨o', e1⟩ := I.base.there b o e hx
    exact there b o' (neC b o e hx) e1
  · obtain ⟨m1, e1⟩ := I.base.tbls b ps e
    obtain ⟨m2, e2⟩ := tbls b _ e1
    exact ⟨m1 ++ m2, by rw [e2, Array.append_assoc]⟩
  · obtain ⟨m, hn, hl⟩ := I.loc
    refine ⟨m, ns m hn, fun i x v e1 e2 e3 => ?_⟩
    obtain ⟨u, r, l⟩ := hl i x v e1 e2 e3
    refine ⟨u, r, ?_⟩
    rcases l with l | ⟨k, c, e, z⟩
    · exact .inl l
    · exact .inr ⟨k, c, e, cellK x c e _ z⟩
  · obtain ⟨v, z⟩ := I.cell x c e
    exact ⟨v, cellK x c e v z⟩
  · obtain ⟨m, ⟨o, _, _, ho, _⟩, _⟩ := I.loc
    exact free _ o (fun z => (hch _ z).2.1 rfl) ho I.free
  · obtain ⟨v, o, ho, hd⟩ := I.cell x c e
    exact free c o (fun z => (hch c z).2.2.1 x c e rfl) ho (I.freeC x c e)
  · obtain ⟨e, n, ne, nf, d⟩ := I.pin p hp
    have nch : p.1 ∉ ch := fun z => (hch p.1 z).2.2.2 p hp rfl
    exact ⟨keep p.1 p.2 ne nf nch e n, free p.1 p.2 nch e n, ne, nf, d⟩
theorem Inv.un {t' : Nat} (I : Inv X pins σ H s) (u : Un X.fs [] H H' s.heap h') (hok : HOk X.prog X.w H' h') : Inv X pins σ H' { s with heap := h', toks := t' } := by
  obtain ⟨m, ⟨o, es, ep, ho, r⟩, _⟩ := id I.loc
  obtain ⟨sl, hL⟩ := u.any ho I.free (by simp)
  exact I.step (g' := s.gens) (d' := s.drawn) (ch := []) (fun _ z => nomatch z) (fun b o _ hb _ e n => u.keep b o e n hb (by simp)) (fun b o _ hb _ e n => u.slot b o e n hb (by simp)) (fun b o _ e n => u.free b o e n (by simp)) (fun b o _ e => u.there b o e (by simp)) u.tups u.frzs u.tbls (fun m' hm => by
    obtain ⟨o', es', ep', ho', r'⟩ := hm
    rw [ho] at ho'; cases ho'
    exact ⟨_, es', ep', hL, r'⟩) hok I.bare
theorem Inv.call {g' : Array GenState} {t' : Nat} {d' : Drawn} {ch : List Addr} (I : Inv X pins σ H s) (u : Un (frs X.stack) ch H H' s.heap h') (hok : HOk X.prog X.w H' h') (hg : AllBare g')
    (hch : ∀ b ∈ ch, (b ∈ X.ex ∨ X.s₀.heap.objs.size ≤ b) ∧ b ≠ X.env.locals ∧ (∀ x c, X.env.cells.lookup x = some c → c ≠ b) ∧ ∀ p ∈ X.pn ++ pins, p.1 ≠ b) :
    Inv X pins σ H' { s with heap := h', gens := g', drawn := d', toks := t' } := by
  obtain ⟨m, ⟨o, es, ep, ho, r⟩, _⟩ := id I.loc
  obtain ⟨sl, hL⟩ := u.any ho I.free fun z => (hch _ z).2.1 rfl
  exact I.step (ch := ch) hch (fun b o hL hb hc e n => u.keep b o e n (fun z => (List.mem_cons.mp (I.stkSub b z)).elim hL hb) hc) (fun b o _ _ hc e n => u.any e n hc) (fun b o hc e n => u.free b o e n hc) (fun b o hc e => u.there b o e hc) u.tups u.frzs u.tbls (fun m' hm => by
    obtain ⟨o', es', ep', ho', r'⟩ := hm
    rw [ho] at ho'; cases ho'
    exact ⟨_, es', ep', hL, r'⟩) hok hg
theorem Inv.turned {t' : Nat} {it : Addr} (I : Inv X pins σ H s) (k : ∀ b o, b ≠ it → s.heap.get? b = some o → h'.get? b = some o) (hn : H it = none) (hL : it ≠ X.env.locals)
    (h1 : it ∈ X.ex ∨ X.s₀.heap.objs.size ≤ it) (h2 : ∀ x c, X.env.cells.lookup x = some c → c ≠ it) (h3 : ∀ p ∈ X.pn ++ pins, p.1 ≠ it) : Inv X pins σ H { s with heap := h', toks := t' } := by
  have nit : ∀ b u, H b = some u → b ≠ it := fun b u e z => by rw [z, hn] at e; cases e
  refine I.step (g' := s.gens) (d' := s.drawn) (ch := [it]) (fun b hb => ?_) (fun b o _ _ hc e _ => k b o (fun z => hc (by simp [z])) e) (fun b o _ _ hc e _ => ⟨o.slots, k b o (fun z => hc (by simp [z])) e⟩) (fun _ _ _ _ n => n)
    (fun b o hc e => ⟨o, k b o (fun z => hc (by simp [z])) e⟩) (fun _ _ e => e) (fun _ _ _ e => e) (fun b ps e => ⟨#[], by rw [e]; simp⟩) (fun m hm => ?_) (fun b u e => ?_) I.bare
  · have e : b = it := by simpa using hb
    subst e
    exact ⟨h1, hL, h2, h3⟩
  · obtain ⟨o, es, ep, ho, r⟩ := hm
    exact ⟨o, es, ep, k _ o (Ne.symm hL) ho, r⟩
  · refine (I.hok b u e).stay (fun c v hc q => k c v ?_ q) (fun _ q => q) fun _ _ q => q
    rcases hc with z | z
    · rw [z]; exact nit b u e
    · exact nit c _ z
theorem Inv.tok (I : Inv X pins σ H s) (t : Nat) : Inv X pins σ H { s with toks := t } := I.un (h' := s.heap) (t' := t) Un.refl I.hok
theorem Inv.kept {t' : Nat} (I : Inv X pins σ H s) (k : ∀ b u, s.heap.get? b = some u → h'.get? b = some u) : Inv X pins σ H { s with heap := h', toks := t' } := I.un (Un.kept k) (I.hok.kept k)
theorem Inv.laid {a : Addr} {o : HO} {t' : Nat} (I : Inv X pins σ H s) (k : ∀ b u, s.heap.get? b = some u → h'.get? b = some u) (hp : s.heap.objs.size ≤ a) (new : ObjOk X.prog X.w (upd H a o) h' a o) :
    Inv X pins σ (upd H a o) { s with heap := h', toks := t' } := I.un (Un.laid k hp (I.hok.fresh hp)) (I.hok.laid k hp new)
theorem Inv.write {x e : Addr} {o : HO} {t' : Nat} (I : Inv X pins σ H s) (mu : Mut (H x)) (he : e = x ∨ H e = some (.own x)) (k : ∀ b u, b ≠ e → s.heap.get? b = some u → h'.get? b = some u) (heo : ∃ u, h'.get? e = some u)
    (new : ObjOk X.prog X.w (upd H x o) h' x o) : Inv X pins σ (upd H x o) { s with heap := h', toks := t' } := I.un (Un.write mu he k heo) (I.hok.write mu he k heo new)
theorem Inv.weak {σ' : List (Option V)} (I : Inv X pins σ H s) (hl : σ'.length = σ.length) (w : ∀ (i : Nat) v, σ'[i]? = some (some v) → σ[i]? = some (some v)) : Inv X pins σ' H s :=
  ⟨I.ok, I.os, I.bare, I.base, let ⟨m, hn, hl'⟩ := I.loc; ⟨m, hn, fun i x v e1 e2 e3 => hl' i x v e1 (w i v e2) e3⟩, I.cell, I.free, I.freeC, I.pin, I.hok, hl.trans I.len⟩
theorem Inv.pins_of {pins' : List (Addr × Obj)} (I : Inv X pins σ H s) (h : ∀ p ∈ pins', s.heap.get? p.1 = some p.2 ∧ H p.1 = none ∧ p.1 ≠ X.env.locals ∧ p.1 ∉ X.fs ∧ ∀ v, p.2.data ≠ .cell v) : Inv X pins' σ H s :=
  ⟨I.ok, I.os, I.bare, I.base, I.loc, I.cell, I.free, I.freeC, fun p hp => (List.mem_append.mp hp).elim (fun z => I.pin p (List.mem_append_left _ z)) (h p), I.hok, I.len⟩
theorem nodup_ix {N : List Str} (hN : N.Nodup) {i j : Nat} {x : Str} (a : N[i]? = some x) (b : N[j]? = some x) : i = j := by
  obtain ⟨h1, e1⟩ := List.getElem?_eq_some_iff.mp a
  obtain ⟨h2, e2⟩ := List.getElem?_eq_some_iff.mp b
  exact (List.getElem_inj hN).mp (e1.trans e2.symm)
theorem store_ok2 {M : Model} {A : Around} {E : Value → Shared → Prop} {i : Nat} {x : Str} {v : V} {u : Value} {Q : Unit → Shared → Prop} (I : Inv X pins σ H s) (hN : X.N.Nodup) (hi : X.N[i]? = some x) (hx : Loc X.env.scope x) (r : RelV v u)
    (h : ∀ s', Inv X pins (σ.set i (some v)) H s' → (∃ a, Heap.SameBut a s.heap s'.heap ∧ (a = X.env.locals ∨ X.env.cells.lookup x = some a)) → Q () s') (hf : X.fn x = true ∨ X.env.scope.names.lookup x = some .local := by first | exact .inl rfl | exact .inr rfl | assumption) : wpAny M A (storeName X.env x u) Q E s := by
  obtain ⟨m, hn, hl⟩ := id I.loc
  have hcls : (X.env.scope.kind == .class || (X.env.scope.kind == .module && X.env.locals != X.env.globals)) = false := by rw [I.ok.kind]; rfl
  have hiσ : i < σ.length := by rw [I.len]; exact (List.getElem?_eq_some_iff.mp hi).1
  have cne := I.cne
  have tracked : ∀ {a : Addr} {h' : Heap}, (∃ o, s.heap.get? a = some o ∧ H a = none) → Heap.SameBut a s.heap h' → HOk X.prog X.w H h' := fun {a h'} ha hs b ob e => by
    obtain ⟨_, _, hfree⟩ := ha
    refine (I.hok b ob e).stay (fun c w' hc q => (hs.2 c ?_).trans q) (fun _ q => q) fun _ _ q => q
    rintro rfl
    rcases hc with rfl | hc
    · rw [hfree] at e; cases e
    · rw [hfree] at hc; cases hc
  rcases hx with hk | hk
  · refine wpAny_storeName_local hk hn (fun h' hn' hs => ?_) hcls
    obtain ⟨oL, _, _, hoL, _⟩ := id hn
    refine h _ ⟨I.ok, I.os, I.bare, ⟨fun b o e n hb hx => ?_, fun b o e n hb hx => ?_, I.base.free, fun b o e hx => ?_, I.base.tups, I.base.frzs, I.base.tbls⟩, ⟨_, hn', fun j y v' e1 e2 e3 => ?_⟩, fun y c e => ?_, I.free, I.freeC, fun p hp => ?_, tracked ⟨oL, hoL, I.free⟩ hs, by simpa using I.len⟩ ⟨_, hs, .inl rfl⟩
    · exact (hs.2 b (Nat.ne_of_lt (Nat.lt_of_lt_of_le (Heap.lt_size e) I.ok.above))).trans (I.base.keep b o e n hb hx)
    · obtain ⟨sl, e1⟩ := I.base.slot b o e n hb hx
      exact ⟨sl, (hs.2 b (Nat.ne_of_lt (Nat.lt_of_lt_of_le (Heap.lt_size e) I.ok.above))).trans e1⟩
    · obtain ⟨o', e1⟩ := I.base.there b o e hx
      exact ⟨o', (hs.2 b (Nat.ne_of_lt (Nat.lt_of_lt_of_le (Heap.lt_size e) I.ok.above))).trans e1⟩
    · by_cases hj : j = i
      · subst hj
        rw [hi] at e1; cases e1
        rw [List.getElem?_set_self hiσ] at e2
        cases e2
        exact ⟨u, r, .inl ⟨hk, by simp⟩⟩
      · rw [List.getElem?_set_ne (Ne.symm hj)] at e2
        obtain ⟨u', r', q⟩ := hl j y v' e1 e2 e3
        refine ⟨u', r', ?_⟩
        rcases q with ⟨k, e⟩ | ⟨k, c, e, z⟩
        · refine .inl ⟨k, ?_⟩
          have : y ≠ x := fun e => hj (nodup_ix hN e1 (e ▸ hi))
          simp [this, e]
        · exact .inr ⟨k, c, e, z.sameBut hs (cne y c e)⟩
    · obtain ⟨w', z⟩ := I.cell y c e
      exact ⟨w', z.sameBut hs (cne y c e)⟩
    · obtain ⟨e, n, ne, nf, d⟩ := I.pin p hp
      exact ⟨(hs.2 p.1 ne).trans e, n, ne, nf, d⟩
  · have hfn : X.fn x = true := by
      rcases hf with z | z
      · exact z
      · rw [z] at hk; cases hk
    obtain ⟨c, hc⟩ := I.ok.has x (.inl hk)
    obtain ⟨w', z⟩ := I.cell x c hc
    refine wpAny_storeName_cell I.ok.kind hk hc z (fun h' hc' hs => ?_)
    obtain ⟨oc, hoc, hocd⟩ := id z
    refine h { s with heap := h' } ⟨I.ok, I.os, I.bare, ⟨fun b o e n hb hx => ?_, fun b o e n hb hx => ?_, I.base.free, fun b o e hx => ?_, I.base.tups, I.base.frzs, I.base.tbls⟩, ⟨m, hn.sameBut hs (Ne.symm (cne x c hc)), fun j y v' e1 e2 e3 => ?_⟩, fun y c' e => ?_, I.free, I.freeC, fun p hp => ?_, tracked ⟨oc, hoc, I.freeC x c hc⟩ hs, by simpa using I.len⟩ ⟨c, hs, .inr hc⟩
    · exact (hs.2 b (Nat.ne_of_lt (Nat.lt_of_lt_of_le (Heap.lt_size e) (I.ok.cab x c hfn hc)))).trans (I.base.keep b o e n hb hx)
    · obtain ⟨sl, e1⟩ := I.base.slot b o e n hb hx
      exact ⟨sl, (hs.2 b (Nat.ne_of_lt (Nat.lt_of_lt_of_le (Heap.lt_size e) (I.ok.cab x c hfn hc)))).trans e1⟩
    · obtain ⟨o', e1⟩ := I.base.there b o e hx
      exact ⟨o', (hs.2 b (Nat.ne_of_lt (Nat.lt_of_lt_of_le (Heap.lt_size e) (I.ok.cab x c hfn hc)))).trans e1⟩
    · by_cases hj : j = i
      · subst hj
        rw [hi] at e1; cases e1
        rw [List.getElem?_set_self hiσ] at e2
        cases e2
        exact ⟨u, r, .inr ⟨.inl hk, c, hc, hc'⟩⟩
      · rw [List.getElem?_set_ne (Ne.symm hj)] at e2
        obtain ⟨u', r', q⟩ := hl j y v' e1 e2 e3
        refine ⟨u', r', ?_⟩
        rcases q with q | ⟨k, c', e, z'⟩
        · exact .inl q
        · refine .inr ⟨k, c', e, z'.sameBut hs ?_⟩
          rintro rfl
          exact hj (nodup_ix hN e1 (I.ok.inj _ _ _ e hc ▸ hi))
    · by_cases hcc : c' = c
      · subst hcc; exact ⟨_, hc'⟩
      · obtain ⟨w2, z2⟩ := I.cell y c' e
        exact ⟨w2, z2.sameBut hs hcc⟩
    · obtain ⟨e, n, ne, nf, d⟩ := I.pin p hp
      refine ⟨(hs.2 p.1 ?_).trans e, n, ne, nf, d⟩
      intro q
      rw [q, hoc] at e
      have q' : oc = p.2 := Option.some.inj e
      exact d w' (by rw [← q']; exact hocd)
theorem store_ok {M : Model} {A : Around} {E : Value → Shared → Prop} {i : Nat} {x : Str} {v : V} {u : Value} {Q : Unit → Shared → Prop} (I : Inv X pins σ H s) (hN : X.N.Nodup) (hi : X.N[i]? = some x) (hx : Loc X.env.scope x) (r : RelV v u)
    (h : ∀ s', Inv X pins (σ.set i (some v)) H s' → Q () s') (hf : X.fn x = true ∨ X.env.scope.names.lookup x = some .local := by first | exact .inl rfl | exact .inr rfl | assumption) : wpAny M A (storeName X.env x u) Q E s :=
  store_ok2 I hN hi hx r (fun s' I' _ => h s' I') hf
theorem Inv.call' {s' : Shared} {ch : List Addr} (I : Inv X pins σ H s) (ho : s'.os = s.os) (u : Un (frs X.stack) ch H H' s.heap s'.heap) (hok : HOk X.prog X.w H' s'.heap) (hg : AllBare s'.gens)
    (hch : ∀ b ∈ ch, (b ∈ X.ex ∨ X.s₀.heap.objs.size ≤ b) ∧ b ≠ X.env.locals ∧ (∀ x c, X.env.cells.lookup x = some c → c ≠ b) ∧ ∀ p ∈ X.pn ++ pins, p.1 ≠ b) : Inv X pins σ H' s' := by
  obtain ⟨h', g', d', t', o'⟩ := s'
  have e : o' = s.os := ho
  subst e
  exact I.call (g' := g') (t' := t') (d' := d') u hok hg hch
end
abbrev XK := Value → Option Addr → Hp → Prop
abbrev St := List (Option V)
abbrev VK := V → Hp → Prop
abbrev TE := St → Hp → VK → Prop
abbrev TT := St → Hp → (Bool → Hp → Prop) → Prop
abbrev TA := St → Hp → (List V → Hp → Prop) → Prop
structure Ends where
  nx : St → Hp → Prop
  rt : VK
  bk : St → Hp → Prop := fun _ _ => False
  ct : St → Hp → Prop := fun _ _ => False
abbrev TS := Ends → St → Hp → Prop
def EP (X : Cx) (pins : List (Addr × Obj)) (σ : St) (Q : VK) (u : Value) (s' : Shared) : Prop := ∃ v H', Inv X pins σ H' s' ∧ RelV v u ∧ Q v H'
def TP (X : Cx) (pins : List (Addr × Obj)) (σ : St) (Q : Bool → Hp → Prop) (b : Bool) (s' : Shared) : Prop := ∃ H', Inv X pins σ H' s' ∧ Q b H'
def AP (X : Cx) (pins : List (Addr × Obj)) (σ : St) (Q : List V → Hp → Prop) (us : List Value) (s' : Shared) : Prop := ∃ vs H', Inv X pins σ H' s' ∧ Vals vs us ∧ Q vs H'
def SP (X : Cx) (pins : List (Addr × Obj)) (D : Ends) (f : Flow) (s' : Shared) : Prop :=
  match f with
  | .next => ∃ σ' H', Inv X pins σ' H' s' ∧ D.nx σ' H'
  | .brk => ∃ σ' H', Inv X pins σ' H' s' ∧ D.bk σ' H'
  | .cont => ∃ σ' H', Inv X pins σ' H' s' ∧ D.ct σ' H'
  | .ret u => ∃ v σ' H', Inv X pins σ' H' s' ∧ RelV v u ∧ D.rt v H'
def PE (X : Cx) (e : Expr) (t : TE) : Prop :=
  ∀ (pins : List (Addr × Obj)) (s : Shared) (σ : St) (H : Hp) (Q : VK), Inv X pins σ H s → t σ H Q → wpAny (model X.prog X.w) X.A (eval e X.env) (EP X pins σ Q) X.xe s
def PT (X : Cx) (e : Expr) (t : TT) : Prop :=
  ∀ (pins : List (Addr × Obj)) (s : Shared) (σ : St) (H : Hp) (Q : Bool → Hp → Prop), Inv X pins σ H s → t σ H Q → wpAny (model X.prog X.w) X.A (isTrue e X.env (eval e X.env)) (TP X pins σ Q) X.xe s
def PW (X : Cx) (e : Expr) (t : TT) : Prop :=
  ∀ (whole : Sem Value) (pins : List (Addr × Obj)) (s : Shared) (σ : St) (H : Hp) (Q : Bool → Hp → Prop), Inv X pins σ H s → t σ H Q → wpAny (model X.prog X.w) X.A (isTrue e X.env whole) (TP X pins σ Q) X.xe s
theorem PW.pt {X : Cx} {e : Expr} {t : TT} (h : PW X e t) : PT X e t := h _
def PA (X : Cx) (es : List Expr) (t : TA) : Prop :=
  ∀ (pos : Pos) (pins : List (Addr × Obj)) (s : Shared) (σ : St) (H : Hp) (Q : List V → Hp → Prop), Inv X pins σ H s → t σ H Q → wpAny (model X.prog X.w) X.A (spliced (backTo pos (starEach es X.env))) (AP X pins σ Q) X.xe s
def PS (X : Cx) (st : Stmt) (t : TS) : Prop :=
  ∀ (pins : List (Addr × Obj)) (s : Shared) (σ : St) (H : Hp) (D : Ends), Inv X pins σ H s → t D σ H → wpAny (model X.prog X.w) X.A (exec st X.env) (SP X pins D) X.xe s
def PSs (X : Cx) (st : List Stmt) (t : TS) : Prop :=
  ∀ (pins : List (Addr × Obj)) (s : Shared) (σ : St) (H : Hp) (D : Ends), Inv X pins σ H s → t D σ H → wpAny (model X.prog X.w) X.A (execs st X.env) (SP X pins D) X.xe s
theorem thn {α : Type} {t : Sem α} {Q Q' : α → Shared → Prop} {M : Model} {A : Around} {E : Value → Shared → Prop} {s : Shared} (h : wpAny M A t Q E s) (hQ : ∀ a s, Q a s → Q' a s) : wpAny M A t Q' E s := wpAny_mono h hQ fun _ _ x => x
end L2
namespace L2
open PySem PySem.Spec PyProof.Rows
section
variable {X : Cx}
def tVar (i : Nat) : TE := fun σ H Q => ∃ v, σ[i]? = some (some v) ∧ Q v H
def tC (v : V) : TE := fun _ H Q => Q v H
theorem pe_var {i : Nat} {x : Str} {pos : Pos} (hN : X.N[i]? = some x) (hv : Vis X.env.scope x) (hd : (x == ("__debug__" : Str)) = false := by decide) (hcd : (x == ("__classdict__" : Str)) = false := by decide) : PE X (.Name x pos) (tVar i) := by
  intro pins s σ H Q I h
  obtain ⟨v, e, h⟩ := h
  obtain ⟨m, hn, hl⟩ := I.loc
  obtain ⟨u, r, l⟩ := hl i x v hN e hv
  have fin : EP X pins σ Q u s := ⟨v, H, I, r, h⟩
  rcases l with ⟨hk, hm⟩ | ⟨hk, c, hc, hcell⟩
  · exact wpAny_Name (wpAny_loadName_local I.ok.kind hk hn hm fin) hd
  · rcases hk with hk | hk
    · exact wpAny_Name (wpAny_loadName_cell I.ok.kind hk hc hcell fin) hd
    · exact wpAny_Name (wpAny_loadName_free I.ok.kind hk hc hcell fin hcd) hd
theorem pe_int {i j pos} : PE X (.Constant (.int i) j pos) (tC (.int i)) := fun _ _ _ H _ I h => wpAny_Constant_int ⟨.int i, H, I.tok _, ⟨_, rfl⟩, h⟩
theorem pe_bl {b j pos} : PE X (.Constant (.bool b) j pos) (tC (.bl b)) := fun _ _ _ H _ I h => Constant_bool ⟨.bl b, H, I, rfl, h⟩
theorem pe_non {j pos} : PE X (.Constant .none j pos) (tC .non) := fun _ _ _ H _ I h => Constant_none ⟨.non, H, I, rfl, h⟩
theorem pe_str {x j pos} : PE X (.Constant (.str x) j pos) (tC (.str x)) := fun _ _ _ H _ I h => Calls.Constant_str ⟨.str x, H, I.tok _, ⟨_, rfl⟩, h⟩
def Gl (X : Cx) (x : Str) : Prop := X.env.kindOf x = some .globalImplicit
theorem ld_glob {E : Value → Shared → Prop} {pins : List (Addr × Obj)} {s : Shared} {σ : St} {H : Hp} {x : Str} {u : Value} {pos : Pos} {Q : Value → Shared → Prop} (I : Inv X pins σ H s) (hg : Gl X x) (hm : X.mg x = some u) (h : Q u s)
    (hd : (x == ("__debug__" : Str)) = false := by decide) : wpAny (model X.prog X.w) X.A (eval (.Name x pos) X.env) Q E s :=
  Calls.Name_function_global I.ok.kind hg (Calls.loadGlobal_global (by rw [I.ok.glob]; exact I.mod.glob.keeps I.bk) hm h) hd
theorem ld_blt {E : Value → Shared → Prop} {pins : List (Addr × Obj)} {s : Shared} {σ : St} {H : Hp} {x : Str} {u : Value} {pos : Pos} {Q : Value → Shared → Prop} (I : Inv X pins σ H s) (hg : Gl X x) (hm : X.mg x = none) (hv : bootBuiltins x = some u) (h : Q u s)
    (hn : x ≠ "__name__" := by decide) (hd : (x == ("__debug__" : Str)) = false := by decide) : wpAny (model X.prog X.w) X.A (eval (.Name x pos) X.env) Q E s := by
  obtain ⟨mb, h1, h2⟩ := I.mod.blt
  exact Calls.Name_function_global I.ok.kind hg (Calls.loadGlobal_builtin (by rw [I.ok.glob]; exact I.mod.glob.keeps I.bk) hm (by rw [I.ok.blt]; exact h1.keeps I.bk) ((h2 x hn).trans hv) h) hd
theorem pe_glob {x : Str} {v : V} {u : Value} {pos : Pos} (hg : Gl X x) (hm : X.mg x = some u) (r : RelV v u) (hd : (x == ("__debug__" : Str)) = false := by decide) : PE X (.Name x pos) (tC v) :=
  fun _ _ _ H _ I h => ld_glob I hg hm ⟨v, H, I, r, h⟩ hd
theorem pe_bltn {x : Str} {v : V} {u : Value} {pos : Pos} (hg : Gl X x) (hm : X.mg x = none) (hv : bootBuiltins x = some u) (r : RelV v u) (hn : x ≠ "__name__" := by decide) (hd : (x == ("__debug__" : Str)) = false := by decide) : PE X (.Name x pos) (tC v) :=
  fun _ _ _ H _ I h => ld_blt I hg hm hv ⟨v, H, I, r, h⟩ hn hd
variable {a b : Expr} {ta tb : TE} {pos : Pos}
def tB (t : TE) : TT := fun σ H Q => t σ H fun x H1 => ∃ c, x = .bl c ∧ Q c H1
theorem pt_val {e : Expr} {t : TE} (h : PE X e t) (he : ∀ whole, isTrue e X.env whole = (do let v ← whole; standAt e.pos; holding [v] (truthy v)) := by intro _; rfl) : PT X e (tB t) := by
  intro pins s σ H Q I hw
  refine isTrue_plain (thn (h pins s σ H _ I hw) fun v s1 ⟨x, H1, I1, r1, q1⟩ => ?_) (he _)
  obtain ⟨d, rfl, q⟩ := q1
  cases r1
  exact wpAny_truthy_bool ⟨H1, I1, q⟩
variable {tA tB' : TT} {rest : List Expr}
def tAnd (t u : TT) : TT := fun σ H Q => t σ H fun c H1 => if c = true then u σ H1 Q else Q false H1
def tOr (t u : TT) : TT := fun σ H Q => t σ H fun c H1 => if c = true then Q true H1 else u σ H1 Q
def tNot (t : TT) : TT := fun σ H Q => t σ H fun c H1 => Q (!c) H1
theorem pw_and1 (ha : PT X a tA) : PW X (.BoolOp .And [a] pos) tA := by
  intro wh pins s σ H Q I h
  refine isTrue_and (thn (ha pins s σ H Q I h) fun c s1 e => ?_)
  cases c with
  | true => exact isTrue_and_nil e
  | false => exact e
theorem pw_or1 (ha : PT X a tA) : PW X (.BoolOp .Or [a] pos) tA := by
  intro wh pins s σ H Q I h
  refine isTrue_or (thn (ha pins s σ H Q I h) fun c s1 e => ?_)
  cases c with
  | false => exact isTrue_or_nil e
  | true => exact e
theorem pw_and (ha : PT X a tA) (hb : PW X (.BoolOp .And (b :: rest) pos) tB') : PW X (.BoolOp .And (a :: b :: rest) pos) (tAnd tA tB') := by
  intro wh pins s σ H Q I h
  refine isTrue_and (thn (ha pins s σ H _ I h) fun c s1 ⟨H1, I1, q1⟩ => ?_)
  cases c with
  | true => exact hb wh pins s1 σ H1 Q I1 q1
  | false => exact ⟨H1, I1, q1⟩
theorem pw_or (ha : PT X a tA) (hb : PW X (.BoolOp .Or (b :: rest) pos) tB') : PW X (.BoolOp .Or (a :: b :: rest) pos) (tOr tA tB') := by
  intro wh pins s σ H Q I h
  refine isTrue_or (thn (ha pins s σ H _ I h) fun c s1 ⟨H1, I1, q1⟩ => ?_)
  cases c with
  | true => exact ⟨H1, I1, q1⟩
  | false => exact hb wh pins s1 σ H1 Q I1 q1
theorem pt_not (ha : PT X a tA) : PT X (.UnaryOp .Not a pos) (tNot tA) := by
  intro pins s σ H Q I h
  exact isTrue_not (ha pins s σ H (fun c H1 => Q (!c) H1) I h)
def tAndV (ta tb : TE) : TE := fun σ H Q => ta σ H fun x H1 => ∃ c, x = .bl c ∧ if c = true then tb σ H1 Q else Q (.bl false) H1
def tNotV (ta : TE) : TE := fun σ H Q => ta σ H fun x H1 => ∃ c, x = .bl c ∧ Q (.bl (!c)) H1
theorem pe_one {op} {t : TE} (h : PE X a t) : PE X (.BoolOp op [a] pos) t := fun pins s σ H Q I hw => BoolOp_one (h pins s σ H Q I hw)
theorem pe_and (ha : PE X a ta) (hb : PE X (.BoolOp .And (b :: rest) pos) tb) : PE X (.BoolOp .And (a :: b :: rest) pos) (tAndV ta tb) := by
  intro pins s σ H Q I h
  refine BoolOp_and (thn (ha pins s σ H _ I h) fun v s1 ⟨x, H1, I1, r1, q1⟩ => ?_)
  obtain ⟨c, rfl, q1⟩ := q1
  cases r1
  refine wpAny_truthy_bool ?_
  cases c with
  | true => exact hb pins s1 σ H1 Q I1 q1
  | false => exact ⟨.bl false, H1, I1, rfl, q1⟩
theorem pe_not (ha : PE X a ta) : PE X (.UnaryOp .Not a pos) (tNotV ta) := by
  intro pins s σ H Q I h
  refine UnaryOp_ (thn (ha pins s σ H _ I h) fun v s1 ⟨x, H1, I1, r1, q1⟩ => ?_)
  obtain ⟨c, rfl, q1⟩ := q1
  cases r1
  exact not_of (wpAny_truthy_bool ⟨.bl (!c), H1, I1, rfl, q1⟩)
end
end L2
namespace L2
open PySem PySem.Spec PyProof.Rows
def SqL (K : PySem.W.Frag) (H : Hp) (a : Addr) (xs : List V) : Prop :=
  Rd H a (.lst xs) ∨
    ∃ (o : Obj) (its : Array Value) (n : Nat), K.lookup a = some o ∧ o.cls = .type "list" ∧ o.dict = none ∧ o.data = .seq its n ∧ its.size ≤ sizeLine ∧ Vals xs its.toList
def SqT (K : PySem.W.Frag) (H : Hp) (a : Addr) (xs : List V) : Prop :=
  Rd H a (.tup xs) ∨
    ∃ (o : Obj) (its : Array Value) (n : Nat), K.lookup a = some o ∧ o.cls = .type "tuple" ∧ o.data = .seq its n ∧ its.size ≤ sizeLine ∧ Vals xs its.toList
def absV : Value → Option V
  | .none => some .non
  | .bool b => some (.bl b)
  | .int i _ => some (.int i)
  | .str x _ => some (.str x)
  | .bytes b _ => some (.byt b)
  | .float b _ => some (.flt b)
  | .ref a => some (.ref a)
  | .type n => some (.ty n)
  | _ => none
theorem RelV.abs {x : V} {u : Value} (r : RelV x u) : absV u = some x := by
  cases x with
  | non => cases r; rfl
  | bl _ => cases r; rfl
  | int _ => obtain ⟨t, rfl⟩ := r; rfl
  | str _ => obtain ⟨t, rfl⟩ := r; rfl
  | byt _ => obtain ⟨t, rfl⟩ := r; rfl
  | flt _ => obtain ⟨t, rfl⟩ := r; rfl
  | ref _ => cases r; rfl
  | ty _ => cases r; rfl
theorem RelV.inj {x y : V} {u : Value} (r : RelV x u) (q : RelV y u) : x = y := Option.some.inj (r.abs.symm.trans q.abs)
theorem Vals.inj : ∀ {xs ys : List V} {us : List Value}, Vals xs us → Vals ys us → xs = ys
  | _, _, _, .nil, .nil => rfl
  | _, _, _, .cons r t, .cons r' t' => by rw [r.inj r', Vals.inj t t']
section
variable {X : Cx} {pins : List (Addr × Obj)} {σ : St} {H : Hp} {s : Shared} {a : Addr} {xs ys : List V}
theorem SqL.of {K : PySem.W.Frag} (h : H a = some (.lst xs)) : SqL K H a xs := .inl (.inl h)
theorem SqT.of {K : PySem.W.Frag} (h : H a = some (.tup xs)) : SqT K H a xs := .inl (.inl h)
theorem Inv.list (I : Inv X pins σ H s) (h : SqL X.K H a xs) : ∃ its : List Value, Vals xs its ∧ PlainL s.heap a its.toArray ∧ xs.length ≤ sizeLine := by
  rcases h with h | ⟨o, its, n, hk, hc, hd, hs, hz, r⟩
  · obtain ⟨z, its, n, r, e⟩ := h.ok I.hok
    exact ⟨its, r, ⟨_, n, e, rfl, rfl, rfl⟩, z⟩
  · refine ⟨its.toList, r, ⟨o, n, I.kIn a o hk, hc, hd, by simpa using hs⟩, ?_⟩
    have e := r.length
    simp only [Array.length_toList] at e
    omega
theorem Inv.tuple (I : Inv X pins σ H s) (h : SqT X.K H a xs) : ∃ its : List Value, Vals xs its ∧ IsTup s.heap a its.toArray ∧ xs.length ≤ sizeLine := by
  rcases h with h | ⟨o, its, n, hk, hc, hs, hz, r⟩
  · obtain ⟨z, its, r, p⟩ := h.ok I.hok
    exact ⟨its, r, p, z⟩
  · refine ⟨its.toList, r, ⟨o, I.kIn a o hk, hc, n, by simpa using hs⟩, ?_⟩
    have e := r.length
    simp only [Array.length_toList] at e
    omega
theorem Inv.list_inj (I : Inv X pins σ H s) (h : SqL X.K H a xs) (h' : SqL X.K H a ys) : xs = ys := by
  obtain ⟨its, r, ⟨o, n, e, _, _, d⟩, _⟩ := I.list h
  obtain ⟨its', r', ⟨o', n', e', _, _, d'⟩, _⟩ := I.list h'
  rw [e] at e'; cases e'
  rw [d] at d'
  injection d' with d1 _
  have : its = its' := by simpa using congrArg Array.toList d1
  subst this
  exact r.inj r'
theorem Inv.tuple_inj (I : Inv X pins σ H s) (h : SqT X.K H a xs) (h' : SqT X.K H a ys) : xs = ys := by
  obtain ⟨its, r, ⟨o, e, _, n, d⟩, _⟩ := I.tuple h
  obtain ⟨its', r', ⟨o', e', _, n', d'⟩, _⟩ := I.tuple h'
  rw [e] at e'; cases e'
  rw [d] at d'
  injection d' with d1 _
  have : its = its' := by simpa using congrArg Array.toList d1
  subst this
  exact r.inj r'
end
abbrev Cx.wish (X : Cx) (E : Value → Shared → Prop) : Cx := { X with xe := E }
abbrev Cx.nox (X : Cx) : Cx := X.wish fun _ _ => False
theorem Cx.Ok.wish {X : Cx} (ok : X.Ok) (E : Value → Shared → Prop) : (X.wish E).Ok :=
  ⟨ok.mod, ok.kind, ok.glob, ok.blt, ok.above, ok.inj, ok.has, ok.cab, ok.hd, ok.frames, ok.stk, ok.exf, ok.bs, ok.bsz, ok.noex, ok.exfs, ok.funs, ok.frf⟩
theorem Cx.Ok.unwish {X : Cx} {E : Value → Shared → Prop} (ok : (X.wish E).Ok) : X.Ok :=
  ⟨ok.mod, ok.kind, ok.glob, ok.blt, ok.above, ok.inj, ok.has, ok.cab, ok.hd, ok.frames, ok.stk, ok.exf, ok.bs, ok.bsz, ok.noex, ok.exfs, ok.funs, ok.frf⟩
section
variable {X : Cx} {pins : List (Addr × Obj)} {σ : St} {H : Hp} {s : Shared} {E : Value → Shared → Prop}
theorem Inv.wish (I : Inv X pins σ H s) (E : Value → Shared → Prop) : Inv (X.wish E) pins σ H s := ⟨I.ok.wish E, I.os, I.bare, I.base, I.loc, I.cell, I.free, I.freeC, I.pin, I.hok, I.len⟩
theorem Inv.unwish (I : Inv (X.wish E) pins σ H s) : Inv X pins σ H s := ⟨I.ok.unwish, I.os, I.bare, I.base, I.loc, I.cell, I.free, I.freeC, I.pin, I.hok, I.len⟩
theorem SP.unwish {D : Ends} {f : Flow} {s' : Shared} (h : SP (X.wish E) pins D f s') : SP X pins D f s' := by
  cases f with
  | next => obtain ⟨σ', H', I, q⟩ := h; exact ⟨σ', H', I.unwish, q⟩
  | brk => obtain ⟨σ', H', I, q⟩ := h; exact ⟨σ', H', I.unwish, q⟩
  | cont => obtain ⟨σ', H', I, q⟩ := h; exact ⟨σ', H', I.unwish, q⟩
  | ret u => obtain ⟨v, σ', H', I, r, q⟩ := h; exact ⟨v, σ', H', I.unwish, r, q⟩
theorem PE.nox {e : Expr} {t : TE} (h : PE X.nox e t) : PE X e t := fun pins s σ H Q I hw =>
  wpAny_mono (h pins s σ H Q (I.wish _) hw) (fun _ _ ⟨v, H', I', r, q⟩ => ⟨v, H', I'.unwish, r, q⟩) fun _ _ z => False.elim z
theorem PT.nox {e : Expr} {t : TT} (h : PT X.nox e t) : PT X e t := fun pins s σ H Q I hw =>
  wpAny_mono (h pins s σ H Q (I.wish _) hw) (fun _ _ ⟨H', I', q⟩ => ⟨H', I'.unwish, q⟩) fun _ _ z => False.elim z
theorem PSs.nox {st : List Stmt} {t : TS} (h : PSs X.nox st t) : PSs X st t := fun pins s σ H D I hw =>
  wpAny_mono (h pins s σ H D (I.wish _) hw) (fun _ _ q => q.unwish) fun _ _ z => False.elim z
end
section
variable {X : Cx} {st : Stmt} {rest : List Stmt} {t u : TS} {e : Expr} {te : TE} {pos : Pos}
def tNext : TS := fun D σ H => D.nx σ H
def tSeq (t u : TS) : TS := fun D σ H => t { D with nx := u D } σ H
theorem pss_nil : PSs X [] tNext := fun _ _ σ H _ I h => wpAny_execs_nil ⟨σ, H, I, h⟩
theorem pss_cons (h1 : PS X st t) (h2 : PSs X rest u) : PSs X (st :: rest) (tSeq t u) := by
  intro pins s σ H D I h
  refine wpAny_execs_cons (thn (h1 pins s σ H { D with nx := u D } I h) fun f s1 q => ?_)
  cases f with
  | next =>
    obtain ⟨σ', H', I', q⟩ := q
    exact h2 pins s1 σ' H' D I' q
  | ret v => exact q
  | brk => exact q
  | cont => exact q
theorem pss_one (h1 : PS X st t) : PSs X [st] t := by
  intro pins s σ H D I h
  refine wpAny_execs_cons (thn (h1 pins s σ H D I h) fun f s1 q => ?_)
  cases f with
  | next => exact wpAny_execs_nil q
  | ret v => exact q
  | brk => exact q
  | cont => exact q
theorem Inv.quiet {pins : List (Addr × Obj)} {σ : St} {H : Hp} {s : Shared} (I : Inv X pins σ H s) : interactive X.env = false := by simp [interactive, I.ok.kind]
def tDrop (te : TE) : TS := fun D σ H => te σ H fun _ H1 => D.nx σ H1
theorem ps_expr (he : PE X e te) (hs : swapsWith e none pos.line X.env = pure false := by rfl) : PS X (.Expr e pos) (tDrop te) := by
  intro pins s σ H D I h
  exact wpAny_Expr_any (thn (he pins s σ H _ I h) fun v s1 ⟨x, H1, I1, r1, q1⟩ => ⟨σ, H1, I1, q1⟩) I.quiet hs
def tRet (te : TE) : TS := fun D σ H => te σ H D.rt
theorem ps_ret (he : PE X e te) : PS X (.Return (some e) pos) (tRet te) := by
  intro pins s σ H D I h
  exact wpAny_Return_some (thn (he pins s σ H _ I h) fun v s1 ⟨x, H1, I1, r1, q1⟩ => ⟨x, σ, H1, I1, r1, q1⟩)
def tIfS (c : TT) (t u : TS) : TS := fun D σ H => c σ H fun b H1 => if b = true then t D σ H1 else u D σ H1
theorem ps_if {c : Expr} {a b : List Stmt} {tc : TT} (hc : PT X c tc) (ha : PSs X a t) (hb : PSs X b u) : PS X (.If c a b pos) (tIfS tc t u) := by
  intro pins s σ H D I h
  refine wpAny_If (thn (hc pins s σ H _ I h) fun d s1 ⟨H1, I1, q1⟩ => ?_)
  cases d with
  | true => exact ha pins s1 σ H1 D I1 q1
  | false => exact hb pins s1 σ H1 D I1 q1
def tNever : TS := fun _ _ _ => False
theorem pss_never {sts : List Stmt} : PSs X sts tNever := fun _ _ _ _ _ _ h => h.elim
end
abbrev TG := V → St → Hp → (St → Hp → Prop) → Prop
abbrev TGs := List V → St → Hp → (St → Hp → Prop) → Prop
def PG (X : Cx) (target : Expr) (t : TG) : Prop :=
  ∀ (pins : List (Addr × Obj)) (s : Shared) (σ : St) (H : Hp) (v : V) (u : Value) (Q : St → Hp → Prop), Inv X pins σ H s → RelV v u → t v σ H Q →
    wpAny (model X.prog X.w) X.A (assign target X.env u) (fun _ s' => ∃ σ' H', Inv X pins σ' H' s' ∧ Q σ' H') X.xe s
def PGs (X : Cx) (ts : List Expr) (t : TGs) : Prop :=
  ∀ (pins : List (Addr × Obj)) (s : Shared) (σ : St) (H : Hp) (vs : List V) (us : List Value) (Q : St → Hp → Prop), Inv X pins σ H s → Vals vs us → t vs σ H Q →
    wpAny (model X.prog X.w) X.A (assignInOrder ((assignEach ts X.env).map (·.2)) us) (fun _ s' => ∃ σ' H', Inv X pins σ' H' s' ∧ Q σ' H') X.xe s
abbrev TSet := V → V → V → Hp → (Hp → Prop) → Prop
def PSet (X : Cx) (t : TSet) : Prop :=
  ∀ (pins : List (Addr × Obj)) (s : Shared) (σ : St) (H : Hp) (o i v : V) (ov iv u : Value) (Q : Hp → Prop), Inv X pins σ H s → RelV o ov → RelV i iv → RelV v u → t o i v H Q →
    wpAny (model X.prog X.w) X.A (setItem ov iv u) (fun _ s' => ∃ H', Inv X pins σ H' s' ∧ Q H') X.xe s
section
variable {X : Cx} {pos : Pos}
def gName (i : Nat) : TG := fun v σ H Q => Q (σ.set i (some v)) H
theorem pg_name {i : Nat} {x : Str} (hN : X.N.Nodup) (hi : X.N[i]? = some x) (hx : Loc X.env.scope x) (hf : X.fn x = true ∨ X.env.scope.names.lookup x = some .local := by first | exact .inl rfl | exact .inr rfl | assumption) : PG X (.Name x pos) (gName i) := by
  intro pins s σ H v u Q I r h
  exact wpAny_assign_Name (store_ok I hN hi hx r (fun s' I' => ⟨_, H, I', h⟩) hf)
def gNil : TGs := fun vs σ H Q => vs = [] ∧ Q σ H
def gCons (t : TG) (u : TGs) : TGs := fun vs σ H Q => ∃ v r, vs = v :: r ∧ t v σ H fun σ' H' => u r σ' H' Q
theorem pgs_nil : PGs X [] gNil := by
  intro pins s σ H vs us Q I r h
  obtain ⟨e, h⟩ := h
  subst e
  cases r
  exact assignInOrder_nil ⟨σ, H, I, h⟩
theorem pgs_cons {e : Expr} {es : List Expr} {t : TG} {u : TGs} (h1 : PG X e t) (h2 : PGs X es u)
    (hs : (assignEach (e :: es) X.env).map (·.2) = assign e X.env :: (assignEach es X.env).map (·.2) := by rfl) : PGs X (e :: es) (gCons t u) := by
  intro pins s σ H vs us Q I r h
  obtain ⟨v, vr, e1, h⟩ := h
  subst e1
  cases r with
  | cons r rr =>
    rw [hs]
    refine assignInOrder_cons (thn (h1 pins s σ H _ _ _ I r h) fun _ s1 ⟨σ1, H1, I1, q1⟩ => ?_)
    exact h2 pins s1 σ1 H1 _ _ Q I1 rr q1
def gTup (K : PySem.W.Frag) (n : Nat) (t : TGs) : TG := fun v σ H Q => ∃ a xs, v = .ref a ∧ SqT K H a xs ∧ xs.length = n ∧ t xs σ H Q
theorem pg_tup {es : List Expr} {k : Nat} {t : TGs} {n : Nat} (hc : X.calm = true) (h : PGs X es t)
    (hn : (assignEach es X.env).length = n := by rfl) (hst : (assignEach es X.env).findIdx? (·.1) = none := by rfl) : PG X (.Tuple es k pos) (gTup X.K n t) := by
  intro pins s σ H v u Q I r hw
  obtain ⟨a, xs, e1, hq, hl, hw⟩ := hw
  subst e1
  cases r
  obtain ⟨its, rv, ht, hz⟩ := I.tuple hq
  refine assign_Tuple_tuple (I.ok.hd hc) ht (by simp [hn, ← hl, rv.length]) hst fun h' hx => ?_
  have I1 : Inv X pins σ H { s with heap := h' } := I.kept (t' := s.toks) fun b o e => hx b o (Nat.ne_of_lt (Heap.lt_size e)) e
  exact h pins _ σ H xs _ Q I1 (by simpa using rv) hw
def gSub (to ti : TE) (t : TSet) : TG := fun v σ H Q => to σ H fun o H1 => ti σ H1 fun i H2 => t o i v H2 fun H3 => Q σ H3
theorem pg_sub {o i : Expr} {to ti : TE} {t : TSet} (ho : PE X o to) (hi : PE X i ti) (hs : PSet X t)
    (ha : ∀ v, assign (.Subscript o i pos) X.env v = (do
      let ov ← holding [v] (eval o X.env)
      let iv ← holding [v, ov] (eval i X.env)
      standAt pos
      holding [v, ov, iv] (setItem ov iv v)
      release [v, ov, iv] []) := by intro _; rfl) : PG X (.Subscript o i pos) (gSub to ti t) := by
  intro pins s σ H v u Q I r h
  rw [ha]
  refine wpAny_bind (wpAny_holding (thn (ho pins s σ H _ I h) fun ov s1 ⟨x, H1, I1, r1, q1⟩ => ?_))
  refine wpAny_bind (wpAny_holding (thn (hi pins s1 σ H1 _ I1 q1) fun iv s2 ⟨y, H2, I2, r2, q2⟩ => ?_))
  refine wpAny_bind (wpAny_standAt (wpAny_bind (wpAny_holding (thn (hs pins s2 σ H2 x y v ov iv u _ I2 r1 r2 r q2) fun _ s3 ⟨H3, I3, q3⟩ => ?_))))
  exact wpAny_release ⟨σ, H3, I3, q3⟩
def tAsg (te : TE) (g : TG) : TS := fun D σ H => te σ H fun x H1 => g x σ H1 D.nx
theorem ps_asg {tg e : Expr} {te : TE} {g : TG} (he : PE X e te) (hg : PG X tg g) (hs : swapsWithSole [tg] e pos.line X.env = pure false := by rfl) (hw : swappedStores [tg] e X.env = pure none := by rfl)
    (h1 : (assignEach [tg] X.env).map (·.2) = [assign tg X.env] := by rfl) : PS X (.Assign [tg] e pos) (tAsg te g) := by
  intro pins s σ H D I h
  refine wpAny_Assign_stores (thn (he pins s σ H _ I h) fun v s1 ⟨x, H1, I1, r1, q1⟩ => ?_) hs hw
  rw [h1]
  exact thn (hg pins s1 σ H1 x v _ I1 r1 q1) fun _ s2 q => q
theorem ps_set {i : Nat} {x : Str} {e : Expr} {te : TE} {pos' : Pos} (hN : X.N.Nodup) (hi : X.N[i]? = some x) (hx : Loc X.env.scope x) (he : PE X e te) (hs : swapsWith e (some (.Name x pos')) pos.line X.env = pure false := by rfl) (hf : X.fn x = true ∨ X.env.scope.names.lookup x = some .local := by first | exact .inl rfl | exact .inr rfl | assumption) :
    PS X (.Assign [.Name x pos'] e pos) (tAsg te (gName i)) := by
  intro pins s σ H D I h
  refine wpAny_Assign_Name (thn (he pins s σ H _ I h) fun v s1 ⟨y, H1, I1, r1, q1⟩ => ?_) hs
  exact store_ok I1 hN hi hx r1 (fun s2 I2 => ⟨_, H1, I2, q1⟩) hf
end
section
variable {X : Cx} {pos : Pos}
end
structure It where
  go : Nat → Hp → Prop
  yld : Nat → Hp → V → Hp → Prop
  stop : Nat → Hp → Prop
def FpOk (X : Cx) (pins : List (Addr × Obj)) (H : Hp) (b : Addr) : Prop :=
  H b = none ∧ b ≠ X.env.locals ∧ b ∉ X.fs ∧ (b ∈ X.ex ∨ X.s₀.heap.objs.size ≤ b) ∧ (∀ x c, X.env.cells.lookup x = some c → c ≠ b) ∧ ∀ p ∈ X.pn ++ pins, p.1 ≠ b
theorem Inv.fpOk {X : Cx} {pins : List (Addr × Obj)} {σ : St} {H H' : Hp} {s : Shared} {b : Addr} (I : Inv X pins σ H s) (hb : s.heap.objs.size ≤ b) (hn : H' b = none) : FpOk X pins H' b := by
  refine ⟨hn, Nat.ne_of_gt (Nat.lt_of_lt_of_le I.lt hb), I.nofs hb, .inr (Nat.le_trans I.sz hb), fun x c e z => ?_, fun p hp z => ?_⟩
  · obtain ⟨v, q⟩ := I.cell x c e
    exact absurd (Nat.lt_of_lt_of_le q.lt (by rw [z]; exact hb)) (Nat.lt_irrefl _)
  · exact absurd (Nat.lt_of_lt_of_le (Heap.lt_size (I.pin p hp).1) (by rw [z]; exact hb)) (Nat.lt_irrefl _)
structure Turn (P : Program) (w : World) (K : PySem.W.Frag) (tg : Expr) (J : It) (fp : List Addr) (it : Addr) (tn : Nat → Heap → Prop) : Prop where
  mem : it ∈ fp
  obj : ∀ i h, tn i h → ∀ b ∈ fp, ∃ o, h.get? b = some o ∧ ∀ v, o.data ≠ .cell v
  keep : ∀ i h h', tn i h → (∀ b ∈ fp, ∀ o, h.get? b = some o → h'.get? b = some o) → tn i h'
  item : ∀ (X : Cx), X.prog = P → X.w = w → X.K = K → X.calm = true → ∀ (i : Nat) (pins : List (Addr × Obj)) (s : Shared) (σ : St) (H : Hp) (E : Value → Shared → Prop), Inv X pins σ H s → (∀ b ∈ fp, FpOk X pins H b) → tn i s.heap → J.go i H →
    wpAny (model P w) X.A (pyNext (.ref it)) (fun r s1 => ∃ u, r = some u ∧
      wpAny (model P w) X.A (letOwnedTupleGo tg (.ref it) u) (fun _ s2 => ∃ x H', Inv X pins σ H' s2 ∧ RelV x u ∧ J.yld i H x H' ∧ tn (i + 1) s2.heap ∧ ∀ b ∈ fp, H' b = none) E s1) E s
  done : ∀ (X : Cx), X.prog = P → X.w = w → X.K = K → X.calm = true → ∀ (i : Nat) (pins : List (Addr × Obj)) (s : Shared) (σ : St) (H : Hp) (E : Value → Shared → Prop), Inv X pins σ H s → (∀ b ∈ fp, FpOk X pins H b) → tn i s.heap → J.stop i H →
    wpAny (model P w) X.A (pyNext (.ref it)) (fun r s1 => r = none ∧ Inv X pins σ H s1) E s
  self : ∀ (A : Around) (i : Nat) (s : Shared) (Q : Value → Shared → Prop) (E : Value → Shared → Prop), tn i s.heap → Q (.ref it) s → wpAny (model P w) A (pyIter (.ref it)) Q E s
abbrev TI := St → Hp → (It → Hp → Prop) → Prop
def PIE (X : Cx) (pins : List (Addr × Obj)) (σ : St) (tg : Expr) (R : It → Hp → Prop) (itv : Value) (s2 : Shared) : Prop :=
  ∃ (it : Addr) (fp : List Addr) (tn : Nat → Heap → Prop) (J : It) (H' : Hp), itv = .ref it ∧ Inv X pins σ H' s2 ∧ Turn X.prog X.w X.K tg J fp it tn ∧ tn 0 s2.heap ∧ (∀ b ∈ fp, FpOk X pins H' b) ∧ R J H'
def PI (X : Cx) (tg iter : Expr) (wi : TI) : Prop :=
  ∀ (pins : List (Addr × Obj)) (s : Shared) (σ : St) (H : Hp) (R : It → Hp → Prop), Inv X pins σ H s → wi σ H R →
    wpAny (model X.prog X.w) X.A (eval iter X.env) (fun v s1 => wpAny (model X.prog X.w) X.A (pyIter v) (PIE X pins σ tg R) X.xe s1) X.xe s
theorem go_of {M : Model} {A : Around} {E : Value → Shared → Prop} {s : Shared} {tg : Expr} {it : Addr} {u : Value} {o : Obj} {n : String} {vs : Array Value} {Q : Unit → Shared → Prop} (ho : s.heap.get? it = some o) (hc : o.cls = .type n) (hd : o.data = .fields vs)
    (hn : ["enumerate", "zip", "dict_itemiterator", "dict_reverseitemiterator", "odict_iterator", "itertools.zip_longest", "itertools.pairwise"].contains n = false) (hQ : Q () s) : wpAny M A (letOwnedTupleGo tg (.ref it) u) Q E s := by
  unfold letOwnedTupleGo
  cases tg <;> first
    | exact wpAny_pure hQ
    | (cases u <;> first
        | exact wpAny_pure hQ
        | (refine wpAny_bind (wpAny_load ho ?_)
           rw [hc, hd]
           show wpAny M A (if (["enumerate", "zip", "dict_itemiterator", "dict_reverseitemiterator", "odict_iterator", "itertools.zip_longest", "itertools.pairwise"].contains n && vs[0]? == some (rawInt _)) = true then _ else _) Q E s
           rw [if_neg (by intro h; rw [hn, Bool.false_and] at h; cases h)]
           exact wpAny_pure hQ))
def Itl (K : PySem.W.Frag) (a : Addr) : It :=
  ⟨fun i H => ∃ xs x, SqL K H a xs ∧ xs[i]? = some x, fun i H x H' => H' = H ∧ ∀ xs, SqL K H a xs → xs[i]? = some x, fun i H => ∃ xs, SqL K H a xs ∧ xs.length ≤ i⟩
def Itt (K : PySem.W.Frag) (a : Addr) : It :=
  ⟨fun i H => ∃ xs x, SqT K H a xs ∧ xs[i]? = some x, fun i H x H' => H' = H ∧ ∀ xs, SqT K H a xs → xs[i]? = some x, fun i H => ∃ xs, SqT K H a xs ∧ xs.length ≤ i⟩
def Itr (lo : Int) (n : Nat) : It := ⟨fun i _ => i < n, fun i H x H' => H' = H ∧ x = .int (lo + i), fun i _ => n ≤ i⟩
theorem turn_list {P : Program} {w : World} {K : PySem.W.Frag} {tg : Expr} (a it : Addr) : Turn P w K tg (Itl K a) [it] it (fun i h => h.IsListIter it a i) where
  mem := by simp
  obj := fun i h st b hb => by
    have e : b = it := by simpa using hb
    subst e
    obtain ⟨o, e, c, d⟩ := st
    exact ⟨o, e, fun v z => by rw [d] at z; cases z⟩
  keep := fun i h h' st k => st.at fun o e => k it (by simp) o e
  item := by
    intro X hP hw hK hc i pins s σ H E I hf st hg
    subst hP hw hK
    obtain ⟨xs, x, hq, hx⟩ := hg
    obtain ⟨its, rv, p, hz⟩ := I.list hq
    obtain ⟨u, hu, ru⟩ := rv.get hx
    obtain ⟨f0, f1, f2, f3, f4, f5⟩ := hf it (by simp)
    refine wpAny_pyNext_list_item st p.isList (x := u) (by simpa using hu) fun h' st' sb => ?_
    have I1 : Inv X pins σ H { s with heap := h' } := I.turned (t' := s.toks) (fun b o hb e => (sb.2 b hb).trans e) f0 f1 f3 f4 f5
    obtain ⟨o, e, c, d⟩ := id st'
    exact ⟨u, rfl, go_of (s := { s with heap := h' }) e c d (by decide) ⟨x, H, I1, ru, ⟨rfl, fun ys hy => by rw [I.list_inj hy hq]; exact hx⟩, st', fun b hb => (hf b hb).1⟩⟩
  done := by
    intro X hP hw hK hc i pins s σ H E I hf st hg
    subst hP hw hK
    obtain ⟨xs, hq, hx⟩ := hg
    obtain ⟨its, rv, p, hz⟩ := I.list hq
    obtain ⟨f0, f1, f2, f3, f4, f5⟩ := hf it (by simp)
    have hl := rv.length
    exact wpAny_pyNext_list_end (I.ok.hd hc) st p.isList (by simp; omega) fun h' eb => ⟨rfl, I.turned (t' := s.toks) (fun b o hb e => eb b o hb e) f0 f1 f3 f4 f5⟩
  self := fun _ _ _ _ _ st h => wpAny_pyIter_listiter st h
theorem turn_tuple {P : Program} {w : World} {K : PySem.W.Frag} {tg : Expr} (a it : Addr) : Turn P w K tg (Itt K a) [it] it (fun i h => h.IsTupleIter it a i) where
  mem := by simp
  obj := fun i h st b hb => by
    have e : b = it := by simpa using hb
    subst e
    obtain ⟨o, e, c, d⟩ := st
    exact ⟨o, e, fun v z => by rw [d] at z; cases z⟩
  keep := fun i h h' st k => st.at fun o e => k it (by simp) o e
  item := by
    intro X hP hw hK hc i pins s σ H E I hf st hg
    subst hP hw hK
    obtain ⟨xs, x, hq, hx⟩ := hg
    obtain ⟨its, rv, p, hz⟩ := I.tuple hq
    obtain ⟨u, hu, ru⟩ := rv.get hx
    obtain ⟨f0, f1, f2, f3, f4, f5⟩ := hf it (by simp)
    refine wpAny_pyNext_tuple_item st (show s.heap.IsTuple a its.toArray from p) (x := u) (by simpa using hu) fun h' st' sb => ?_
    have I1 : Inv X pins σ H { s with heap := h' } := I.turned (t' := s.toks) (fun b o hb e => (sb.2 b hb).trans e) f0 f1 f3 f4 f5
    obtain ⟨o, e, c, d⟩ := id st'
    exact ⟨u, rfl, go_of (s := { s with heap := h' }) e c d (by decide) ⟨x, H, I1, ru, ⟨rfl, fun ys hy => by rw [I.tuple_inj hy hq]; exact hx⟩, st', fun b hb => (hf b hb).1⟩⟩
  done := by
    intro X hP hw hK hc i pins s σ H E I hf st hg
    subst hP hw hK
    obtain ⟨xs, hq, hx⟩ := hg
    obtain ⟨its, rv, p, hz⟩ := I.tuple hq
    obtain ⟨f0, f1, f2, f3, f4, f5⟩ := hf it (by simp)
    have hl := rv.length
    exact wpAny_pyNext_tuple_end (I.ok.hd hc) st (show s.heap.IsTuple a its.toArray from p) (by simp; omega) fun h' eb => ⟨rfl, I.turned (t' := s.toks) (fun b o hb e => eb b o hb e) f0 f1 f3 f4 f5⟩
  self := fun _ _ _ _ _ st h => wpAny_pyIter_tupleiter st h
theorem turn_range {P : Program} {w : World} {K : PySem.W.Frag} {tg : Expr} (it : Addr) (lo : Int) (n : Nat) : Turn P w K tg (Itr lo n) [it] it (fun i h => IsRangeIter h it (lo + (i : Nat) * 1) ((n : Int) - (i : Nat)) 1) where
  mem := by simp
  obj := fun i h st b hb => by
    have e : b = it := by simpa using hb
    subst e
    exact ⟨_, st, fun v z => by
      have z' : Data.fields _ = Data.cell v := z
      cases z'⟩
  keep := fun i h h' st k => k it (by simp) _ st
  item := by
    intro X hP hw hK hc i pins s σ H E I hf st hg
    subst hP hw hK
    obtain ⟨f0, f1, f2, f3, f4, f5⟩ := hf it (by simp)
    have W := Walks.range (prog := X.prog) (w := X.w) (I.ok.hd hc) it lo 1 n
    refine W.item i s _ _ hg st fun v h' tk hv st' kk => ?_
    obtain ⟨t, rfl⟩ := hv
    have I1 : Inv X pins σ H { s with heap := h', toks := tk } := I.turned (fun b o hb e => kk b o (by simpa using hb) e) f0 f1 f3 f4 f5
    refine ⟨_, rfl, go_of (s := { s with heap := h', toks := tk }) (n := "range_iterator") st' rfl rfl (by decide) ⟨.int (lo + i), H, I1, ⟨t, ?_⟩, ⟨rfl, rfl⟩, st', fun b hb => (hf b hb).1⟩⟩
    rw [Int.mul_one]
  done := by
    intro X hP hw hK hc i pins s σ H E I hf st hg
    subst hP hw hK
    obtain ⟨f0, f1, f2, f3, f4, f5⟩ := hf it (by simp)
    exact wpAny_pyNext_range_end (I.ok.hd hc) st (by have : n ≤ i := hg; omega) fun h' eb => ⟨rfl, I.turned (t' := s.toks) (fun b o hb e => eb b o hb e) f0 f1 f3 f4 f5⟩
  self := fun _ _ _ _ _ st h => wpAny_pyIter_rangeiter st h
end L2
namespace L2
open PySem PySem.Spec PyProof.Rows
section
variable {X : Cx} {tg : Expr}
def iList (K : PySem.W.Frag) (tl : TE) : TI := fun σ H R => tl σ H fun x H1 => ∃ a, x = .ref a ∧ (∃ xs, SqL K H1 a xs) ∧ R (Itl K a) H1
def iTup (K : PySem.W.Frag) (tl : TE) : TI := fun σ H R => tl σ H fun x H1 => ∃ a, x = .ref a ∧ (∃ xs, SqT K H1 a xs) ∧ R (Itt K a) H1
theorem pi_list {l : Expr} {tl : TE} (hl : PE X l tl) : PI X tg l (iList X.K tl) := by
  intro pins s σ H R I h
  refine thn (hl pins s σ H _ I h) fun v s1 ⟨x, H1, I1, r1, q1⟩ => ?_
  obtain ⟨a, e, ⟨xs, hq⟩, q⟩ := q1
  subst e
  cases r1
  obtain ⟨its, rv, p, hz⟩ := I1.list hq
  refine wpAny_pyIter_list p.isList ?_
  refine ⟨s1.heap.objs.size, [s1.heap.objs.size], _, _, H1, rfl, I1.kept (t' := s1.toks) fun b o e => Heap.get?_push_of_some _ e, turn_list a _, ⟨_, Heap.get?_push_size _ rfl, rfl, rfl⟩, fun b hb => ?_, q⟩
  have e : b = s1.heap.objs.size := by simpa using hb
  subst e
  exact I1.fpOk (Nat.le_refl _) (I1.hok.fresh (Nat.le_refl _))
theorem pi_tup {l : Expr} {tl : TE} (hl : PE X l tl) : PI X tg l (iTup X.K tl) := by
  intro pins s σ H R I h
  refine thn (hl pins s σ H _ I h) fun v s1 ⟨x, H1, I1, r1, q1⟩ => ?_
  obtain ⟨a, e, ⟨xs, hq⟩, q⟩ := q1
  subst e
  cases r1
  obtain ⟨its, rv, p, hz⟩ := I1.tuple hq
  refine wpAny_pyIter_tuple (show s1.heap.IsTuple a its.toArray from p) ?_
  refine ⟨s1.heap.objs.size, [s1.heap.objs.size], _, _, H1, rfl, I1.kept (t' := s1.toks) fun b o e => Heap.get?_push_of_some _ e, turn_tuple a _, ⟨_, Heap.get?_push_size _ rfl, rfl, rfl⟩, fun b hb => ?_, q⟩
  have e : b = s1.heap.objs.size := by simpa using hb
  subst e
  exact I1.fpOk (Nat.le_refl _) (I1.hok.fresh (Nat.le_refl _))
theorem range_it {pins : List (Addr × Obj)} {σ : St} {H : Hp} {s : Shared} {R : It → Hp → Prop} {E : Value → Shared → Prop} {lo hi : Int} {t u v : Tok} {tk : Nat} (I : Inv X pins σ H s) (h1 : -(2 ^ 62) ≤ lo) (h2 : lo < 2 ^ 62) (h3 : -(2 ^ 62) ≤ hi) (h4 : hi < 2 ^ 62)
    (q : R (Itr lo (hi - lo).toNat) H) : wpAny (model X.prog X.w) X.A (pyIter (.ref s.heap.objs.size)) (PIE X pins σ tg R) E { s with heap := s.heap.push { cls := .type "range", data := .fields #[.int lo t, .int hi u, .int 1 v] }, toks := tk } := by
  refine wpAny_pyIter_range (IsRange.new ..) (small_one h1 h2 h3 h4) ?_
  have I1 : Inv X pins σ H { s with heap := s.heap.push { cls := .type "range", data := .fields #[.int lo t, .int hi u, .int 1 v] }, toks := tk } := I.kept fun b o e => Heap.get?_push_of_some _ e
  refine ⟨(s.heap.push { cls := .type "range", data := .fields #[.int lo t, .int hi u, .int 1 v] }).objs.size, [(s.heap.push { cls := .type "range", data := .fields #[.int lo t, .int hi u, .int 1 v] }).objs.size], _, _, H, rfl,
    I1.kept (t' := tk) fun b o e => Heap.get?_push_of_some _ e, turn_range _ lo (hi - lo).toNat, ?_, fun b hb => ?_, q⟩
  · have e1 : lo + ((0 : Nat) : Int) * 1 = lo := by simp
    have e2 : (((hi - lo).toNat : Nat) : Int) - ((0 : Nat) : Int) = Builtin.Range.rangeSize lo hi 1 := by rw [rangeSize_one]; split <;> omega
    show IsRangeIter _ _ (lo + ((0 : Nat) : Int) * 1) ((((hi - lo).toNat : Nat) : Int) - ((0 : Nat) : Int)) 1
    rw [e1, e2]
    exact Heap.get?_push_size _ rfl
  · have e : b = (s.heap.push { cls := .type "range", data := .fields #[.int lo t, .int hi u, .int 1 v] }).objs.size := by simpa using hb
    subst e
    exact I1.fpOk (Nat.le_refl _) (I1.hok.fresh (Nat.le_refl _))
def iRng1 (ta : TA) : TI := fun σ H R => ta σ H fun vs H1 => ∃ j : Int, vs = [.int j] ∧ -(2 ^ 62) ≤ j ∧ j < 2 ^ 62 ∧ R (Itr 0 j.toNat) H1
def iRng2 (ta : TA) : TI := fun σ H R => ta σ H fun vs H1 => ∃ i j : Int, vs = [.int i, .int j] ∧ (-(2 ^ 62) ≤ i ∧ i < 2 ^ 62 ∧ -(2 ^ 62) ≤ j ∧ j < 2 ^ 62) ∧ R (Itr i (j - i).toNat) H1
theorem pi_range1 {a : Expr} {ta : TA} {p pos : Pos} (hg : Gl X "range") (hm : X.mg "range" = none) (ha : PA X [a] ta) (hs : starEach [a] X.env = [(false, eval a X.env)] := by rfl) : PI X tg (.Call (.Name "range" p) [a] [] pos) (iRng1 ta) := by
  intro pins s σ H R I h
  refine Call_ (ld_blt I hg hm boot_range (PyProof.Rows.callWith_type1 (thn (ha pos pins s σ H _ I h) fun us s1 ⟨vs, H1, I1, r1, q1⟩ => ?_) hs rfl))
  obtain ⟨j, e, q1, q2, q⟩ := q1
  subst e
  cases r1 with
  | cons r rr =>
    cases rr
    obtain ⟨t, rfl⟩ := r
    exact call_range_1 (range_it I1 (by omega) (by omega) q1 q2 (by simpa using q))
theorem pi_range2 {a b : Expr} {ta : TA} {p pos : Pos} (hg : Gl X "range") (hm : X.mg "range" = none) (ha : PA X [a, b] ta) (hs : starEach [a, b] X.env = [(false, eval a X.env), (false, eval b X.env)] := by rfl) (hs2 : starEach [b] X.env = [(false, eval b X.env)] := by rfl) :
    PI X tg (.Call (.Name "range" p) [a, b] [] pos) (iRng2 ta) := by
  intro pins s σ H R I h
  refine Call_ (ld_blt I hg hm boot_range (PyProof.Rows.callWith_type1 (thn (ha pos pins s σ H _ I h) fun us s1 ⟨vs, H1, I1, r1, q1⟩ => ?_) (by rw [hs, hs2]) (by rw [hs2]; rfl)))
  obtain ⟨i, j, e, ⟨q1, q2, q3, q4⟩, q⟩ := q1
  subst e
  cases r1 with
  | cons r rr =>
    cases rr with
    | cons r' rr =>
      cases rr
      obtain ⟨t, rfl⟩ := r
      obtain ⟨t', rfl⟩ := r'
      exact call_range_2 (range_it I1 q1 q2 q3 q4 q)
def tFor (wi : TI) (g : TG) (tb : TS) : TS := fun D σ H => wi σ H fun J H1 => ∃ W : Nat → Nat → St → Hp → Prop, (∃ m, W 0 m σ H1) ∧ ∀ i m σ H, W i m σ H →
  (J.stop i H ∧ D.nx σ H) ∨ (J.go i H ∧ ∃ N : St → Hp → Prop, (∀ σ' H', N σ' H' → ∃ m', m' < m ∧ W (i + 1) m' σ' H') ∧ ∀ x H', J.yld i H x H' → g x σ H' fun σ2 H2 => tb { D with nx := N, ct := N, bk := D.nx } σ2 H2)
def pinsAt (fp : List Addr) (h : Heap) : List (Addr × Obj) := fp.filterMap fun b => (h.get? b).map fun o => (b, o)
theorem mem_pinsAt {fp : List Addr} {h : Heap} {b : Addr} {o : Obj} (hb : b ∈ fp) (e : h.get? b = some o) : (b, o) ∈ pinsAt fp h := List.mem_filterMap.mpr ⟨b, hb, by rw [e]; rfl⟩
theorem of_pinsAt {fp : List Addr} {h : Heap} {p : Addr × Obj} (hp : p ∈ pinsAt fp h) : p.1 ∈ fp ∧ h.get? p.1 = some p.2 := by
  obtain ⟨b, hb, e⟩ := List.mem_filterMap.mp hp
  cases q : h.get? b with
  | none => rw [q] at e; cases e
  | some o =>
    rw [q] at e
    have e' : (b, o) = p := Option.some.inj e
    subst e'
    exact ⟨hb, q⟩
theorem Inv.pinned {pins : List (Addr × Obj)} {σ : St} {H : Hp} {s : Shared} {fp : List Addr} (I : Inv X pins σ H s) (hf : ∀ b ∈ fp, FpOk X pins H b) (ho : ∀ b ∈ fp, ∃ o, s.heap.get? b = some o ∧ ∀ v, o.data ≠ .cell v) : Inv X (pins ++ pinsAt fp s.heap) σ H s :=
  I.pins_of fun p hp => (List.mem_append.mp hp).elim (fun z => I.pin p (List.mem_append_right _ z)) fun z => by
    obtain ⟨hb, e⟩ := of_pinsAt z
    obtain ⟨f0, f1, f2, _⟩ := hf p.1 hb
    obtain ⟨o, e', d⟩ := ho p.1 hb
    rw [e] at e'; cases e'
    exact ⟨e, f0, f1, f2, d⟩
theorem Inv.unpinned {pins pl : List (Addr × Obj)} {σ : St} {H : Hp} {s : Shared} (I : Inv X (pins ++ pl) σ H s) : Inv X pins σ H s := I.pins_of fun p hp => I.pin p (List.mem_append_right _ (List.mem_append_left _ hp))
theorem ps_for {iter : Expr} {body : List Stmt} {wi : TI} {g : TG} {tb : TS} {pos : Pos} (hp : PassesOwn (model X.prog X.w) X.A X.env X.xe) (hc : X.calm = true) (hi : PI X tg iter wi) (hg : PG X tg g) (hb : PSs X body tb)
    (hs : ∀ x, foldedSetIterable iter X.env x = pure x := by intro _; rfl) : PS X (.For tg iter body [] pos) (tFor wi g tb) := by
  intro pins s σ H D I h
  refine wpAny_For (thn (hi pins s σ H _ I h) fun v s1 h1 => thn h1 fun itv s2 h2 => ?_) hs
  obtain ⟨it, fp, tn, J, H2, e, I2, T, st2, f2, W, ⟨m0, w0⟩, turn⟩ := h2
  subst e
  -- what stays true of the iterator's objects through the loop
  have stat : ∀ {H' : Hp}, (∀ b ∈ fp, H' b = none) → ∀ b ∈ fp, FpOk X pins H' b := fun hn b hb => ⟨hn b hb, (f2 b hb).2⟩
  refine codeAny_forLoop_any (fun n s' => ∃ i σ' H', Inv X pins σ' H' s' ∧ tn i s'.heap ∧ (∀ b ∈ fp, H' b = none) ∧ W i n σ' H') ?_ m0 ⟨0, σ, H2, I2, st2, fun b hb => (f2 b hb).1, w0⟩
  rintro n s3 ⟨i, σ3, H3, I3, st3, fr3, w3⟩
  rcases turn i n σ3 H3 w3 with ⟨stop, qn⟩ | ⟨go, N, hN, step⟩
  · refine wpAny_passesOwn hp (thn (T.done X rfl rfl rfl hc i pins s3 σ3 H3 X.xe I3 (stat fr3) st3 stop) fun r s4 ⟨hr, I4⟩ => ?_)
    subst hr
    exact wpAny_execs_nil ⟨σ3, H3, I4, qn⟩
  · refine wpAny_passesOwn hp (thn (T.item X rfl rfl rfl hc i pins s3 σ3 H3 X.xe I3 (stat fr3) st3 go) fun r s4 ⟨u, hr, h4⟩ => ?_)
    subst hr
    refine wpAny_passesOwn hp (thn h4 fun _ s5 ⟨x, H5, I5, r5, y5, st5, fr5⟩ => ?_)
    have I5' := I5.pinned (stat fr5) (T.obj _ _ st5)
    refine wpAny_passesOwn hp (thn (hg _ s5 σ3 H5 x u _ I5' r5 (step x H5 y5)) fun _ s6 ⟨σ6, H6, I6, q6⟩ => ?_)
    refine wpAny_passesOwn hp (thn (hb _ s6 σ6 H6 _ I6 q6) fun f s7 q7 => ?_)
    have again : ∀ {σ7 : St} {H7 : Hp}, Inv X (pins ++ pinsAt fp s5.heap) σ7 H7 s7 → N σ7 H7 → ∃ m, m < n ∧ ∃ i σ' H', Inv X pins σ' H' s7 ∧ tn i s7.heap ∧ (∀ b ∈ fp, H' b = none) ∧ W i m σ' H' := fun {σ7 H7} I7 n7 => by
      obtain ⟨m', hm, w7⟩ := hN σ7 H7 n7
      refine ⟨m', hm, i + 1, σ7, H7, I7.unpinned, T.keep _ _ _ st5 fun b hb o e => (I7.pin (b, o) (List.mem_append_right _ (List.mem_append_right _ (mem_pinsAt hb e)))).1, fun b hb => ?_, w7⟩
      obtain ⟨o, e, d⟩ := T.obj _ _ st5 b hb
      exact (I7.pin (b, o) (List.mem_append_right _ (List.mem_append_right _ (mem_pinsAt hb e)))).2.1
    cases f with
    | next => obtain ⟨σ7, H7, I7, n7⟩ := q7; exact again I7 n7
    | cont => obtain ⟨σ7, H7, I7, n7⟩ := q7; exact again I7 n7
    | brk => obtain ⟨σ7, H7, I7, q7⟩ := q7; exact ⟨σ7, H7, I7.unpinned, q7⟩
    | ret v => obtain ⟨x7, σ7, H7, I7, r7, q7⟩ := q7; exact ⟨x7, σ7, H7, I7.unpinned, r7, q7⟩
end
theorem for_list {K : PySem.W.Frag} {a : Addr} {xs : List V} {g : TG} {tb : TS} {D : Ends} {σ : St} {H : Hp} (Pv : Nat → St → Hp → Prop) (h0 : Pv 0 σ H) (hl : ∀ i σ H, i ≤ xs.length → Pv i σ H → SqL K H a xs)
    (hs : ∀ i x σ H, xs[i]? = some x → Pv i σ H → g x σ H fun σ2 H2 => tb { D with nx := Pv (i + 1), ct := Pv (i + 1), bk := D.nx } σ2 H2) (hd : ∀ σ H, Pv xs.length σ H → D.nx σ H) :
    ∃ W : Nat → Nat → St → Hp → Prop, (∃ m, W 0 m σ H) ∧ ∀ i m σ H, W i m σ H →
      ((Itl K a).stop i H ∧ D.nx σ H) ∨ ((Itl K a).go i H ∧ ∃ N : St → Hp → Prop, (∀ σ' H', N σ' H' → ∃ m', m' < m ∧ W (i + 1) m' σ' H') ∧ ∀ x H', (Itl K a).yld i H x H' → g x σ H' fun σ2 H2 => tb { D with nx := N, ct := N, bk := D.nx } σ2 H2) := by
  refine ⟨fun i m σ H => m = xs.length - i ∧ i ≤ xs.length ∧ Pv i σ H, ⟨xs.length, by simp, Nat.zero_le _, h0⟩, ?_⟩
  rintro i m σ H ⟨rfl, hi, p⟩
  have q := hl i σ H hi p
  by_cases hlt : i < xs.length
  · refine .inr ⟨⟨xs, xs[i], q, by simp [hlt]⟩, Pv (i + 1), fun σ' H' p' => ⟨xs.length - (i + 1), by omega, rfl, hlt, p'⟩, fun x H' y => ?_⟩
    obtain ⟨e, y⟩ := y
    subst e
    exact hs i x σ _ (y xs q) p
  · have e : i = xs.length := by omega
    subst e
    exact .inl ⟨⟨xs, q, Nat.le_refl _⟩, hd σ H p⟩
theorem for_tup {K : PySem.W.Frag} {a : Addr} {xs : List V} {g : TG} {tb : TS} {D : Ends} {σ : St} {H : Hp} (Pv : Nat → St → Hp → Prop) (h0 : Pv 0 σ H) (hl : ∀ i σ H, i ≤ xs.length → Pv i σ H → SqT K H a xs)
    (hs : ∀ i x σ H, xs[i]? = some x → Pv i σ H → g x σ H fun σ2 H2 => tb { D with nx := Pv (i + 1), ct := Pv (i + 1), bk := D.nx } σ2 H2) (hd : ∀ σ H, Pv xs.length σ H → D.nx σ H) :
    ∃ W : Nat → Nat → St → Hp → Prop, (∃ m, W 0 m σ H) ∧ ∀ i m σ H, W i m σ H →
      ((Itt K a).stop i H ∧ D.nx σ H) ∨ ((Itt K a).go i H ∧ ∃ N : St → Hp → Prop, (∀ σ' H', N σ' H' → ∃ m', m' < m ∧ W (i + 1) m' σ' H') ∧ ∀ x H', (Itt K a).yld i H x H' → g x σ H' fun σ2 H2 => tb { D with nx := N, ct := N, bk := D.nx } σ2 H2) := by
  refine ⟨fun i m σ H => m = xs.length - i ∧ i ≤ xs.length ∧ Pv i σ H, ⟨xs.length, by simp, Nat.zero_le _, h0⟩, ?_⟩
  rintro i m σ H ⟨rfl, hi, p⟩
  have q := hl i σ H hi p
  by_cases hlt : i < xs.length
  · refine .inr ⟨⟨xs, xs[i], q, by simp [hlt]⟩, Pv (i + 1), fun σ' H' p' => ⟨xs.length - (i + 1), by omega, rfl, hlt, p'⟩, fun x H' y => ?_⟩
    obtain ⟨e, y⟩ := y
    subst e
    exact hs i x σ _ (y xs q) p
  · have e : i = xs.length := by omega
    subst e
    exact .inl ⟨⟨xs, q, Nat.le_refl _⟩, hd σ H p⟩
theorem for_range {lo : Int} {n : Nat} {g : TG} {tb : TS} {D : Ends} {σ : St} {H : Hp} (Pv : Nat → St → Hp → Prop) (h0 : Pv 0 σ H)
    (hs : ∀ i σ H, i < n → Pv i σ H → g (.int (lo + i)) σ H fun σ2 H2 => tb { D with nx := Pv (i + 1), ct := Pv (i + 1), bk := D.nx } σ2 H2) (hd : ∀ σ H, Pv n σ H → D.nx σ H) :
    ∃ W : Nat → Nat → St → Hp → Prop, (∃ m, W 0 m σ H) ∧ ∀ i m σ H, W i m σ H →
      ((Itr lo n).stop i H ∧ D.nx σ H) ∨ ((Itr lo n).go i H ∧ ∃ N : St → Hp → Prop, (∀ σ' H', N σ' H' → ∃ m', m' < m ∧ W (i + 1) m' σ' H') ∧ ∀ x H', (Itr lo n).yld i H x H' → g x σ H' fun σ2 H2 => tb { D with nx := N, ct := N, bk := D.nx } σ2 H2) := by
  refine ⟨fun i m σ H => m = n - i ∧ i ≤ n ∧ Pv i σ H, ⟨n, by simp, Nat.zero_le _, h0⟩, ?_⟩
  rintro i m σ H ⟨rfl, hi, p⟩
  by_cases hlt : i < n
  · refine .inr ⟨hlt, Pv (i + 1), fun σ' H' p' => ⟨n - (i + 1), by omega, rfl, hlt, p'⟩, fun x H' y => ?_⟩
    obtain ⟨e, y⟩ := y
    subst e y
    exact hs i σ _ hlt p
  · have e : i = n := by omega
    subst e
    exact .inl ⟨Nat.le_refl _, hd σ H p⟩
end L2
namespace L2
open PySem PySem.Spec PyProof.Rows
abbrev R2 := V → V → Hp → VK → Prop
def OpR (X : Cx) (f : Value → Value → Sem Value) (r : R2) : Prop :=
  ∀ (pins : List (Addr × Obj)) (s : Shared) (σ : St) (H : Hp) (x y : V) (v u : Value) (Q : VK), Inv X pins σ H s → RelV x v → RelV y u → r x y H Q →
    wpAny (model X.prog X.w) X.A (f v u) (EP X pins σ Q) X.xe s
def UnR (X : Cx) (f : Value → Sem Value) (r : V → Hp → VK → Prop) : Prop :=
  ∀ (pins : List (Addr × Obj)) (s : Shared) (σ : St) (H : Hp) (x : V) (v : Value) (Q : VK), Inv X pins σ H s → RelV x v → r x H Q →
    wpAny (model X.prog X.w) X.A (f v) (EP X pins σ Q) X.xe s
def CallR (X : Cx) (f : Value) (r : List V → Hp → VK → Prop) : Prop :=
  ∀ (pins : List (Addr × Obj)) (s : Shared) (σ : St) (H : Hp) (xs : List V) (us : List Value) (Q : VK), Inv X pins σ H s → Vals xs us → r xs H Q →
    wpAny (model X.prog X.w) X.A (call f us) (EP X pins σ Q) X.xe s
def tOp (r : R2) (ta tb : TE) : TE := fun σ H Q => ta σ H fun x H1 => tb σ H1 fun y H2 => r x y H2 Q
def tUn (r : V → Hp → VK → Prop) (ta : TE) : TE := fun σ H Q => ta σ H fun x H1 => r x H1 Q
def rI (C : Int → Int → Prop) (g : Int → Int → V) : R2 := fun x y H Q => ∃ i j, x = .int i ∧ y = .int j ∧ C i j ∧ Q (g i j) H
def rI0 (g : Int → Int → V) : R2 := fun x y H Q => ∃ i j, x = .int i ∧ y = .int j ∧ Q (g i j) H
def rU (g : Int → V) : V → Hp → VK → Prop := fun x H Q => ∃ i, x = .int i ∧ Q (g i) H
section
variable {X : Cx} {a b c : Expr} {ta tb tc : TE} {pos : Pos}
theorem binT (ha : PE X a ta) (hb : PE X b tb) {pins : List (Addr × Obj)} {s : Shared} {σ : St} {H : Hp} {R : V → V → Hp → Prop} (I : Inv X pins σ H s)
    (h : ta σ H fun x H1 => tb σ H1 fun y H2 => R x y H2) {Q : Value → Shared → Prop} {f : Value → Value → Sem Value}
    (hf : ∀ v u s2 x y H2, Inv X pins σ H2 s2 → RelV x v → RelV y u → R x y H2 → wpAny (model X.prog X.w) X.A (f v u) Q X.xe s2) :
    wpAny (model X.prog X.w) X.A (eval a X.env) (fun v s₁ => wpAny (model X.prog X.w) X.A (eval b X.env) (fun u s₂ => wpAny (model X.prog X.w) X.A (f v u) Q X.xe s₂) X.xe s₁) X.xe s := by
  refine thn (ha pins s σ H _ I h) fun v s1 ⟨x, H1, I1, r1, q1⟩ => ?_
  refine thn (hb pins s1 σ H1 _ I1 q1) fun u s2 ⟨y, H2, I2, r2, q2⟩ => ?_
  exact hf v u s2 x y H2 I2 r1 r2 q2
theorem pe_op {op : Operator} {r : R2} (ho : OpR X (binaryOp op) r) (ha : PE X a ta) (hb : PE X b tb) : PE X (.BinOp a op b pos) (tOp r ta tb) := by
  intro pins s σ H Q I h
  exact wpAny_BinOp (binT ha hb I h fun v u s2 x y H2 I2 rx ry q => ho pins s2 σ H2 x y v u Q I2 rx ry q)
theorem pe_un {op : UnaryOp} {r : V → Hp → VK → Prop} (ho : UnR X (unaryOp op) r) (ha : PE X a ta) : PE X (.UnaryOp op a pos) (tUn r ta) := by
  intro pins s σ H Q I h
  exact UnaryOp_ (thn (ha pins s σ H _ I h) fun v s1 ⟨x, H1, I1, r1, q1⟩ => ho pins s1 σ H1 x v Q I1 r1 q1)
theorem opI {f : Value → Value → Sem Value} {C : Int → Int → Prop} {g : Int → Int → Int}
    (rule : ∀ (i j : Int) (t u : Tok) (s : Shared) (Q : Value → Shared → Prop) (E : Value → Shared → Prop), C i j → Q (.int (g i j) s.toks) { s with toks := s.toks + 1 } → wpAny (model X.prog X.w) X.A (f (.int i t) (.int j u)) Q E s) :
    OpR X f (rI C fun i j => .int (g i j)) := by
  intro pins s σ H x y v u Q I rx ry h
  obtain ⟨i, j, rfl, rfl, hc, q⟩ := h
  obtain ⟨t, rfl⟩ := rx
  obtain ⟨t', rfl⟩ := ry
  exact rule i j t t' s _ _ hc ⟨.int (g i j), H, I.tok _, ⟨_, rfl⟩, q⟩
theorem opI0 {f : Value → Value → Sem Value} {g : Int → Int → Int}
    (rule : ∀ (i j : Int) (t u : Tok) (s : Shared) (Q : Value → Shared → Prop) (E : Value → Shared → Prop), Q (.int (g i j) s.toks) { s with toks := s.toks + 1 } → wpAny (model X.prog X.w) X.A (f (.int i t) (.int j u)) Q E s) :
    OpR X f (rI0 fun i j => .int (g i j)) := by
  intro pins s σ H x y v u Q I rx ry h
  obtain ⟨i, j, rfl, rfl, q⟩ := h
  obtain ⟨t, rfl⟩ := rx
  obtain ⟨t', rfl⟩ := ry
  exact rule i j t t' s _ _ ⟨.int (g i j), H, I.tok _, ⟨_, rfl⟩, q⟩
theorem opB0 {f : Value → Value → Sem Value} {g : Int → Int → Bool}
    (rule : ∀ (i j : Int) (t u : Tok) (s : Shared) (Q : Value → Shared → Prop) (E : Value → Shared → Prop), Q (.bool (g i j)) s → wpAny (model X.prog X.w) X.A (f (.int i t) (.int j u)) Q E s) :
    OpR X f (rI0 fun i j => .bl (g i j)) := by
  intro pins s σ H x y v u Q I rx ry h
  obtain ⟨i, j, rfl, rfl, q⟩ := h
  obtain ⟨t, rfl⟩ := rx
  obtain ⟨t', rfl⟩ := ry
  exact rule i j t t' s _ _ ⟨.bl (g i j), H, I, rfl, q⟩
def CDiv (i j : Int) : Prop := 0 < j ∧ j < 1073741824
def CPow (i j : Int) : Prop := 0 ≤ j ∧ j ≤ 1000000 ∧ i.natAbs < 2 ^ 64
def CMul (i j : Int) : Prop := (-(2 ^ 64) < i ∧ i < 2 ^ 64) ∨ (-(2 ^ 64) < j ∧ j < 2 ^ 64)
theorem CMul.ok {i j : Int} (h : CMul i j) : IntMulOk i j := by
  rcases h with ⟨h1, h2⟩ | ⟨h1, h2⟩
  · exact .of_left (intBits_le_64 h1 h2)
  · exact .of_right (intBits_le_64 h1 h2)
theorem op_add : OpR X (binaryOp .Add) (rI0 fun i j => .int (i + j)) := opI0 fun _ _ _ _ _ _ _ q => add_int q
theorem op_sub : OpR X (binaryOp .Sub) (rI0 fun i j => .int (i - j)) := opI0 fun _ _ _ _ _ _ _ q => sub_int q
theorem op_mul : OpR X (binaryOp .Mult) (rI CMul fun i j => .int (i * j)) := opI fun _ _ _ _ _ _ _ hc q => mul_int q hc.ok
theorem op_fdiv : OpR X (binaryOp .FloorDiv) (rI CDiv fun i j => .int (i / j)) := opI fun i j _ _ _ _ _ hc q => by
  have h1 : (0 : Int) < j := hc.1
  have h2 : j < 1073741824 := hc.2
  exact floordiv_int (by omega) (by rw [Int.fdiv_eq_ediv_of_nonneg i (by omega)]; exact q) (.inl (PyProof.noPylong_small (by omega)))
theorem op_mod : OpR X (binaryOp .Mod) (rI (fun _ j => 0 < j) fun i j => .int (i % j)) := opI fun i j _ _ _ _ _ hc q => by
  have h1 : (0 : Int) < j := hc
  exact mod_int' (by omega) (by rw [Int.fmod_eq_emod_of_nonneg i (by omega)]; exact q)
theorem op_pow : OpR X (binaryOp .Pow) (rI CPow fun i j => .int (i ^ j.toNat)) := opI fun _ _ _ _ _ _ _ hc q => pow_int_small hc.1 hc.2.1 hc.2.2 q
theorem unI {f : Value → Sem Value} {g : Int → Int}
    (rule : ∀ (i : Int) (t : Tok) (s : Shared) (Q : Value → Shared → Prop) (E : Value → Shared → Prop), Q (.int (g i) s.toks) { s with toks := s.toks + 1 } → wpAny (model X.prog X.w) X.A (f (.int i t)) Q E s) :
    UnR X f (rU fun i => .int (g i)) := by
  intro pins s σ H x v Q I rx h
  obtain ⟨i, rfl, q⟩ := h
  obtain ⟨t, rfl⟩ := rx
  exact rule i t s _ _ ⟨.int (g i), H, I.tok _, ⟨_, rfl⟩, q⟩
theorem un_neg : UnR X (unaryOp .USub) (rU fun i => .int (-i)) := unI fun _ _ _ _ _ q => neg_int q
end
def scal : V → V → Bool
  | .non, .non => true | .non, .int _ => true | .int _, .non => true | .non, .bl _ => true | .bl _, .non => true | .non, .str _ => true | .str _, .non => true
  | .int _, .int _ => true | .bl _, .bl _ => true | .str _, .str _ => true | .byt _, .byt _ => true
  | .int _, .str _ => true | .str _, .int _ => true | .bl _, .str _ => true | .str _, .bl _ => true
  | _, _ => false
def rEq : R2 := fun x y H Q => scal x y = true ∧ Q (.bl (decide (x = y))) H
def rNe : R2 := fun x y H Q => scal x y = true ∧ Q (.bl (!decide (x = y))) H
theorem dec_int {i j : Int} : decide (V.int i = V.int j) = (i == j) := by
  rw [Bool.eq_iff_iff]
  simp
theorem dec_bl {i j : Bool} : decide (V.bl i = V.bl j) = (i == j) := by
  rw [Bool.eq_iff_iff]
  simp
theorem dec_str {i j : Str} : decide (V.str i = V.str j) = (i == j) := by
  rw [Bool.eq_iff_iff]
  simp
theorem dec_byt {i j : Array UInt8} : decide (V.byt i = V.byt j) = (i.toList == j.toList) := by
  rw [Bool.eq_iff_iff]
  cases i
  cases j
  simp
section
variable {X : Cx} {a b c : Expr} {ta tb tc : TE} {pos : Pos}
theorem fin_bl {pins : List (Addr × Obj)} {σ : St} {H : Hp} {s : Shared} {Q : VK} {k k' : Bool} (I : Inv X pins σ H s) (q : Q (.bl k) H) (e : k = k') : EP X pins σ Q (.bool k') s := by
  subst e
  exact ⟨.bl k, H, I, rfl, q⟩
theorem op_eq : OpR X (compareOp .Eq) rEq := by
  intro pins s σ H x y v u Q I rx ry h
  obtain ⟨hs, q⟩ := h
  cases x with
  | non =>
    cases rx
    cases y with
    | non => cases ry; exact PySem.EqNone.eq_none_none (fin_bl I q (by simp))
    | bl j => cases ry; exact PySem.EqNone.eq_none_bool (fin_bl I q (by simp))
    | int j => obtain ⟨t', rfl⟩ := ry; exact PySem.EqNone.eq_none_int (fin_bl I q (by simp))
    | str j => obtain ⟨t', rfl⟩ := ry; exact PySem.EqNone.eq_none_str (fin_bl I q (by simp))
    | _ => exact absurd (show false = true from hs) Bool.false_ne_true
  | bl i =>
    cases rx
    cases y with
    | non => cases ry; exact PySem.EqNone.eq_bool_none (fin_bl I q (by simp))
    | bl j => cases ry; exact eq_bool (fin_bl I q dec_bl)
    | str j => obtain ⟨t', rfl⟩ := ry; exact PySem.EqMixed.eq_bool_str (fin_bl I q (by simp))
    | _ => exact absurd (show false = true from hs) Bool.false_ne_true
  | int i =>
    obtain ⟨t, rfl⟩ := rx
    cases y with
    | non => cases ry; exact PySem.EqNone.eq_int_none (fin_bl I q (by simp))
    | int j => obtain ⟨t', rfl⟩ := ry; exact eq_int (fin_bl I q dec_int)
    | str j => obtain ⟨t', rfl⟩ := ry; exact PySem.EqMixed.eq_int_str (fin_bl I q (by simp))
    | _ => exact absurd (show false = true from hs) Bool.false_ne_true
  | str i =>
    obtain ⟨t, rfl⟩ := rx
    cases y with
    | non => cases ry; exact PySem.EqNone.eq_str_none (fin_bl I q (by simp))
    | bl j => cases ry; exact PySem.EqMixed.eq_str_bool (fin_bl I q (by simp))
    | int j => obtain ⟨t', rfl⟩ := ry; exact PySem.EqMixed.eq_str_int (fin_bl I q (by simp))
    | str j => obtain ⟨t', rfl⟩ := ry; exact eq_str (fin_bl I q dec_str)
    | _ => exact absurd (show false = true from hs) Bool.false_ne_true
  | byt i =>
    obtain ⟨t, rfl⟩ := rx
    cases y with
    | byt j => obtain ⟨t', rfl⟩ := ry; exact PySem.W.eq_bytes (fin_bl I q dec_byt)
    | _ => exact absurd (show false = true from hs) Bool.false_ne_true
  | _ => cases y <;> exact absurd (show false = true from hs) Bool.false_ne_true
theorem op_ne : OpR X (compareOp .NotEq) rNe := by
  intro pins s σ H x y v u Q I rx ry h
  obtain ⟨hs, q⟩ := h
  cases x with
  | non =>
    cases rx
    cases y with
    | non => cases ry; exact PySem.EqNone.ne_none_none (fin_bl I q (by simp))
    | bl j => cases ry; exact PySem.EqNone.ne_none_bool (fin_bl I q (by simp))
    | int j => obtain ⟨t', rfl⟩ := ry; exact PySem.EqNone.ne_none_int (fin_bl I q (by simp))
    | str j => obtain ⟨t', rfl⟩ := ry; exact PySem.EqNone.ne_none_str (fin_bl I q (by simp))
    | _ => exact absurd (show false = true from hs) Bool.false_ne_true
  | bl i =>
    cases rx
    cases y with
    | non => cases ry; exact PySem.EqNone.ne_bool_none (fin_bl I q (by simp))
    | bl j => cases ry; exact ne_bool (fin_bl I q (congrArg not dec_bl))
    | str j => obtain ⟨t', rfl⟩ := ry; exact PySem.EqMixed.ne_bool_str (fin_bl I q (by simp))
    | _ => exact absurd (show false = true from hs) Bool.false_ne_true
  | int i =>
    obtain ⟨t, rfl⟩ := rx
    cases y with
    | non => cases ry; exact PySem.EqNone.ne_int_none (fin_bl I q (by simp))
    | int j => obtain ⟨t', rfl⟩ := ry; exact ne_int (fin_bl I q (congrArg not dec_int))
    | str j => obtain ⟨t', rfl⟩ := ry; exact PySem.EqMixed.ne_int_str (fin_bl I q (by simp))
    | _ => exact absurd (show false = true from hs) Bool.false_ne_true
  | str i =>
    obtain ⟨t, rfl⟩ := rx
    cases y with
    | non => cases ry; exact PySem.EqNone.ne_str_none (fin_bl I q (by simp))
    | bl j => cases ry; exact PySem.EqMixed.ne_str_bool (fin_bl I q (by simp))
    | int j => obtain ⟨t', rfl⟩ := ry; exact PySem.EqMixed.ne_str_int (fin_bl I q (by simp))
    | str j => obtain ⟨t', rfl⟩ := ry; exact ne_str (fin_bl I q (congrArg not dec_str))
    | _ => exact absurd (show false = true from hs) Bool.false_ne_true
  | byt i =>
    obtain ⟨t, rfl⟩ := rx
    cases y with
    | byt j => obtain ⟨t', rfl⟩ := ry; exact PySem.W.ne_bytes (fin_bl I q (congrArg not dec_byt))
    | _ => exact absurd (show false = true from hs) Bool.false_ne_true
  | _ => cases y <;> exact absurd (show false = true from hs) Bool.false_ne_true
theorem op_lt : OpR X (compareOp .Lt) (rI0 fun i j => .bl (decide (i < j))) := opB0 fun _ _ _ _ _ _ _ q => lt_int q
theorem op_le : OpR X (compareOp .LtE) (rI0 fun i j => .bl (decide (i ≤ j))) := opB0 fun _ _ _ _ _ _ _ q => le_int q
theorem op_gt : OpR X (compareOp .Gt) (rI0 fun i j => .bl (decide (j < i))) := opB0 fun _ _ _ _ _ _ _ q => gt_int q
theorem op_in_str : OpR X (compareOp .In) (fun x y H Q => ∃ i j, x = .str i ∧ y = .str j ∧ Q (.bl (!(Builtin.Str.occurrences j i 0 j.length 1).isEmpty)) H) := by
  intro pins s σ H x y v u Q I rx ry h
  obtain ⟨i, j, rfl, rfl, q⟩ := h
  obtain ⟨t, rfl⟩ := rx
  obtain ⟨t', rfl⟩ := ry
  exact in_str (fin_bl I q rfl)
theorem op_isN : OpR X (compareOp .Is) (fun x y H Q => y = .non ∧ Q (.bl (decide (x = .non))) H) := by
  intro pins s σ H x y v u Q I rx ry h
  obtain ⟨rfl, q⟩ := h
  cases ry
  refine is_none_gen (fin_bl I q ?_)
  cases x <;> first
    | (cases rx; rfl)
    | (obtain ⟨t, rfl⟩ := rx; rfl)
theorem nomark (b : Expr) {op : CmpOp} (h : op ≠ .In := by decide) (h2 : op ≠ .NotIn := by decide) : behindInMarks op b = false := by
  have e1 : (op == CmpOp.In) = false := by cases op <;> first | rfl | exact absurd rfl h
  have e2 : (op == CmpOp.NotIn) = false := by cases op <;> first | rfl | exact absurd rfl h2
  cases b <;> simp [behindInMarks, e1, e2]
theorem pe_cmpR {op : CmpOp} {r : R2} (ho : OpR X (compareOp op) r) (ha : PE X a ta) (hb : PE X b tb) (hm : behindInMarks op b = false) : PE X (.Compare a [op] [b] pos) (tOp r ta tb) := by
  intro pins s σ H Q I h
  exact wpAny_Compare1 (binT ha hb I h fun v u s2 x y H2 I2 rx ry q => ho pins s2 σ H2 x y v u Q I2 rx ry q) hm
def tTest (t : TE) : TT := fun σ H Q => t σ H fun x H' => ∃ k, x = .bl k ∧ Q k H'
theorem pt_cmpR {op : CmpOp} {r : R2} (ho : OpR X (compareOp op) r) (ha : PE X a ta) (hb : PE X b tb) (hm : behindInMarks op b = false) : PT X (.Compare a [op] [b] pos) (tTest (tOp r ta tb)) := by
  intro pins s σ H Q I h
  refine wpAny_isTrue_Compare1 (thn (ha pins s σ H _ I h) fun v s1 ⟨x, H1, I1, r1, q1⟩ => thn (hb pins s1 σ H1 _ I1 q1) fun u s2 ⟨y, H2, I2, r2, q2⟩ =>
    thn (ho pins s2 σ H2 x y v u _ I2 r1 r2 q2) fun c s3 ⟨z, H3, I3, r3, k, e, q3⟩ => ?_) hm
  subst e
  cases r3
  exact wpAny_truthy_bool ⟨H3, I3, q3⟩
def tChain (r r' : R2) (ta tb tc : TE) : TE := fun σ H Q => ta σ H fun x H1 => tb σ H1 fun y H2 => r x y H2 fun z H3 => ∃ k, z = .bl k ∧
  (if k = true then tc σ H3 fun w' H4 => r' y w' H4 Q else Q (.bl false) H3)
theorem pe_chain {op op' : CmpOp} {r r' : R2} (ho : OpR X (compareOp op) r) (ho' : OpR X (compareOp op') r') (ha : PE X a ta) (hb : PE X b tb) (hc : PE X c tc)
    (hm : lastMarks [op, op'] [b, c] = false := by with_unfolding_all rfl) : PE X (.Compare a [op, op'] [b, c] pos) (tChain r r' ta tb tc) := by
  intro pins s σ H Q I h
  refine Compare_chain (thn (ha pins s σ H _ I h) fun v s1 ⟨x, H1, I1, r1, q1⟩ => chain_link (thn (hb pins s1 σ H1 _ I1 q1) fun u s2 ⟨y, H2, I2, r2, q2⟩ =>
    thn (ho pins s2 σ H2 x y v u _ I2 r1 r2 q2) fun d s3 ⟨z, H3, I3, r3, k, e, q3⟩ => ?_)) hm
  subst e
  cases r3
  refine wpAny_truthy_bool ?_
  cases k with
  | false => exact ite_ff ⟨.bl false, H3, I3, rfl, q3⟩
  | true => exact ite_tt (chain_last (thn (hc pins s3 σ H3 _ I3 q3) fun w' s4 ⟨z', H4, I4, r4, q4⟩ => ho' pins s4 σ H4 y z' u w' Q I4 r2 r4 q4))
theorem pt_chain {op op' : CmpOp} {r r' : R2} (ho : OpR X (compareOp op) r) (ho' : OpR X (compareOp op') r') (ha : PE X a ta) (hb : PE X b tb) (hc : PE X c tc)
    (hm : lastMarks [op, op'] [b, c] = false := by with_unfolding_all rfl) : PT X (.Compare a [op, op'] [b, c] pos) (tTest (tChain r r' ta tb tc)) := by
  intro pins s σ H Q I h
  refine isTrue_chain (thn (ha pins s σ H _ I h) fun v s1 ⟨x, H1, I1, r1, q1⟩ => test_link (thn (hb pins s1 σ H1 _ I1 q1) fun u s2 ⟨y, H2, I2, r2, q2⟩ =>
    thn (ho pins s2 σ H2 x y v u _ I2 r1 r2 q2) fun d s3 ⟨z, H3, I3, r3, k, e, q3⟩ => ?_)) hm
  subst e
  cases r3
  refine wpAny_truthy_bool ?_
  cases k with
  | false =>
    obtain ⟨k', e', q'⟩ := q3
    cases e'
    exact ite_ff ⟨H3, I3, q'⟩
  | true =>
    refine ite_tt (test_last (thn (hc pins s3 σ H3 _ I3 q3) fun w' s4 ⟨z', H4, I4, r4, q4⟩ => thn (ho' pins s4 σ H4 y z' u w' _ I4 r2 r4 q4) fun d' s5 ⟨z2, H5, I5, r5, k2, e2, q5⟩ => ?_))
    subst e2
    cases r5
    exact wpAny_truthy_bool ⟨H5, I5, q5⟩
theorem line63 : (sizeLine : Nat) < 2 ^ 63 := by rw [sizeLine_eq]; decide
theorem op_add_str : OpR X (binaryOp .Add) (fun x y H Q => ∃ i j, x = .str i ∧ y = .str j ∧ i.length + j.length ≤ sizeLine ∧ Q (.str (i ++ j)) H) := by
  intro pins s σ H x y v u Q I rx ry h
  obtain ⟨i, j, rfl, rfl, hz, q⟩ := h
  obtain ⟨t, rfl⟩ := rx
  obtain ⟨t', rfl⟩ := ry
  exact add_str (fun t' tk => ⟨.str (i ++ j), H, I.tok _, ⟨_, rfl⟩, q⟩) hz
theorem vals1 {x : V} {us : List Value} (r : Vals [x] us) : ∃ u, us = [u] ∧ RelV x u := by
  cases r with
  | cons r1 r2 => cases r2; exact ⟨_, rfl, r1⟩
theorem vals2 {x y : V} {us : List Value} (r : Vals [x, y] us) : ∃ u w', us = [u, w'] ∧ RelV x u ∧ RelV y w' := by
  cases r with
  | cons r1 r2 =>
    cases r2 with
    | cons r3 r4 => cases r4; exact ⟨_, _, rfl, r1, r3⟩
theorem call_str_int : CallR X (.type "str") (fun xs H Q => ∃ i, xs = [.int i] ∧ i.natAbs.log2 < 1920 ∧ Q (.str (toString i)) H) := by
  intro pins s σ H xs us Q I r h
  obtain ⟨i, rfl, hz, q⟩ := h
  obtain ⟨u, rfl, t, rfl⟩ := vals1 r
  exact PySem.P.str_of_int hz ⟨.str _, H, I.tok _, ⟨_, rfl⟩, q⟩
end
end L2
namespace L2
open PySem PySem.Spec PyProof.Rows
structure ObjM (h : Heap) (x dx C : Addr) (mA : Str → Option Value) : Prop where
  obj : h.get? x = some (PySem.W.instObj C dx)
  ns : h.Ns1 dx mA
  ne : dx ≠ x
theorem lookIn_ns {h : Heap} {dx : Addr} {mA : Str → Option Value} (n : h.Ns1 dx mA) : ∃ od, h.get? dx = some od ∧ ∀ name, PySem.W.lookIn name od = some (mA name) := by
  obtain ⟨o, es, ep, ho, hd, hk, _, hm⟩ := n
  refine ⟨o, ho, fun name => ?_⟩
  have e := hm name
  unfold nsFind findBy at e
  rw [← Array.find?_toList] at e
  unfold PySem.W.lookIn
  rw [hd]
  dsimp only
  split
  · rename_i y q
    rw [q] at e
    exact congrArg some e
  · rename_i q
    rw [q] at e
    have a : es.toList.any (·.refKey) = false := by
      rw [List.any_eq_false]
      intro y hy
      obtain ⟨z, t, hkey⟩ := hk y (Array.mem_toList_iff.mp hy)
      simp [DictEntry.refKey, hkey]
    have a' : ¬ es.toList.any (·.refKey) = true := by rw [a]; exact Bool.false_ne_true
    rw [if_neg a']
    exact congrArg some e
theorem ObjM.look {h : Heap} {x dx C : Addr} {mA : Str → Option Value} (I : ObjM h x dx C mA) : ∃ od, PySem.W.InstAt h x (PySem.W.instObj C dx) C (some od) ∧ ∀ name, PySem.W.lookIn name od = some (mA name) :=
  let ⟨od, ho, hl⟩ := lookIn_ns I.ns
  ⟨od, ⟨I.obj, rfl, rfl, ho⟩, hl⟩
section
variable {prog : Program} {w : World} {A : Around} {E : Value → Shared → Prop} {s : Shared} {K : PySem.W.Frag} {x dx C f : Addr} {mA : Str → Option Value} {name : Str} {v : Value}
end
section
variable {P : Program} {w : World} {H H' : Hp} {h h' : Heap} {a C dx : Addr} {fs fs' : List (Str × V)}
theorem ins_get (hok : HOk P w H h) (e : H a = some (.ins C dx fs)) : ∃ mA, ObjM h a dx C mA ∧ (∀ f, RelO (fs.lookup f) (mA f)) ∧ PySem.Within mA (fs.map (·.1)) ∧ fs.length ≤ 1000 ∧ H dx = some (.own a) := by
  obtain ⟨d, z, ne, ob, mA, n, r, q⟩ := (show ObjOk P w H h a (.ins C dx fs) from hok a _ e)
  exact ⟨mA, ⟨ob, n, ne⟩, r, q, z, d⟩
end
structure Cls (K : PySem.W.Frag) (C : Addr) : Prop where
  pg : PySem.W.plainGet K C Str.empty = true
  hd : PySem.W.hasDictIn K C = true
  po : PySem.W.plainOver K C = true
  sa : PySem.W.findIn K (.ref C) "__setattr__" = some (some (.builtin "object.__setattr__"))
theorem Cls.get {K : PySem.W.Frag} {C : Addr} (c : Cls K C) (f : Str) : PySem.W.plainGet K C f = true := c.pg
section
variable {X : Cx} {pins : List (Addr × Obj)} {σ : St} {H : Hp} {s : Shared} {a C dx : Addr} {fs : List (Str × V)} {f : Str} {v : V} {A : Around} {E : Value → Shared → Prop}
theorem Inv.made (I : Inv X pins σ H s) : Inv X pins σ (upd (upd H s.heap.objs.size (.own (s.heap.objs.size + 1))) (s.heap.objs.size + 1) (.ins C s.heap.objs.size []))
    { s with heap := (s.heap.push PySem.W.emptyDict).push (PySem.W.instObj C s.heap.objs.size) } := by
  have e1 : (s.heap.push PySem.W.emptyDict).get? s.heap.objs.size = some PySem.W.emptyDict := Heap.get?_push_size s.heap rfl
  have e2 : ((s.heap.push PySem.W.emptyDict).push (PySem.W.instObj C s.heap.objs.size)).get? (s.heap.objs.size + 1) = some (PySem.W.instObj C s.heap.objs.size) := by
    have := Heap.get?_push_size (s.heap.push PySem.W.emptyDict) (o := PySem.W.instObj C s.heap.objs.size) rfl
    rwa [Heap.size_push] at this
  have e3 : (s.heap.push PySem.W.emptyDict).Ns s.heap.objs.size (fun _ => none) := ⟨PySem.W.emptyDict, #[], _, e1, rfl, (fun e he => absurd he (by simp)), fun _ => rfl⟩
  have I1 := I.laid (a := s.heap.objs.size) (o := .own (s.heap.objs.size + 1)) (h' := s.heap.push PySem.W.emptyDict) (t' := s.toks) (fun b u q => Heap.get?_push_of_some _ q) (Nat.le_refl _) ⟨_, e1⟩
  refine I1.laid (a := s.heap.objs.size + 1) (o := .ins C s.heap.objs.size []) (t' := s.toks) (fun b u q => Heap.get?_push_of_some _ q) (Nat.le_of_eq (Heap.size_push _ _)) ?_
  have ne : s.heap.objs.size ≠ s.heap.objs.size + 1 := Nat.ne_of_lt (Nat.lt_succ_self _)
  refine ⟨by rw [upd_ne ne, upd_same], Nat.zero_le _, ne, e2, fun _ => none, (Heap.Ns1.of_empty e3).at fun o q => Heap.get?_push_of_some _ q, fun _ => True.intro, fun y hy => absurd rfl hy⟩
end
section
variable {X : Cx} {o e value : Expr} {f : Str} {pos pos' tpos : Pos} {ta tv : TE}
end
section
variable {X : Cx} {pins : List (Addr × Obj)} {σ : St} {H : Hp} {s : Shared} {A : Around} {E : Value → Shared → Prop} {Q : Value → Shared → Prop} {c : Value} {b : Bool}
inductive TyOf (K : PySem.W.Frag) (H : Hp) : V → Value → Prop where
  | non : TyOf K H .non (.type "NoneType")
  | bl (x : Bool) : TyOf K H (.bl x) (.type "bool")
  | int (i : Int) : TyOf K H (.int i) (.type "int")
  | str (x : Str) : TyOf K H (.str x) (.type "str")
  | flt (x : UInt64) : TyOf K H (.flt x) (.type "float")
  | lst {a : Addr} {xs : List V} (e : H a = some (.lst xs)) : TyOf K H (.ref a) (.type "list")
  | frz {a : Addr} {o : Obj} {xs : List V} (e : H a = some (.frz o (.lst xs))) : TyOf K H (.ref a) (.type "list")
  | tup {a : Addr} {xs : List V} (e : H a = some (.tup xs)) : TyOf K H (.ref a) (.type "tuple")
  | dK {a : Addr} {kvs : List (Key × V)} (e : H a = some (.dK kvs)) : TyOf K H (.ref a) (.type "dict")
  | dT {a : Addr} {kvs : List (List Key × V)} (e : H a = some (.dT kvs)) : TyOf K H (.ref a) (.type "dict")
  | ins {a C dx : Addr} {fs : List (Str × V)} (e : H a = some (.ins C dx fs)) (cl : Cls K C) (ha : PySem.W.findIn K (.ref C) "__class__" = some (some (.builtin "object.__class__")))
      (hn : PySem.W.specialIn K (.builtin "object.__class__") "__get__" = some (some (.builtin "getset_descriptor.__get__"))) (htk : PySem.W.takesIn K (.builtin "object.__class__") = some true)
      (hm : PySem.W.mroIn K C (.type "object") = some true) : TyOf K H (.ref a) (.ref C)
theorem isinst_ok {x : V} {u t : Value} (I : Inv X pins σ H s) (rx : RelV x u) (ty : TyOf X.K H x t) (e : PySem.W.kitOne X.K t c = some b) (h : ∀ tk, Q (.bool b) { s with toks := tk }) :
    wpAny (model X.prog X.w) A (call (.builtin "isinstance") [u, c]) Q E s := by
  cases ty with
  | non => cases (show u = Value.none from rx); exact PySem.W.kia_one PySem.W.kitx_none I.kIn True.intro e (fun z => nomatch z) h
  | bl y => cases (show u = Value.bool y from rx); exact PySem.W.kia_one PySem.W.kitx_bool I.kIn True.intro e (fun z => nomatch z) h
  | int i => obtain ⟨t, q⟩ := (show ∃ t, u = Value.int i t from rx); cases q; exact PySem.W.kia_one PySem.W.kitx_int I.kIn True.intro e (fun z => nomatch z) h
  | str y => obtain ⟨t, q⟩ := (show ∃ t, u = Value.str y t from rx); cases q; exact PySem.W.kia_one PySem.W.kitx_str I.kIn True.intro e (fun z => nomatch z) h
  | flt y => obtain ⟨t, q⟩ := (show ∃ t, u = Value.float y t from rx); cases q; exact PySem.W.kia_one PySem.W.kitx_float I.kIn True.intro e (fun z => nomatch z) h
  | @lst a xs ea =>
    cases (show u = Value.ref a from rx)
    obtain ⟨_, _, n, _, h1⟩ := (show ObjOk X.prog X.w H s.heap a (.lst xs) from I.hok a _ ea)
    exact PySem.W.kia_one PySem.W.kitx_list I.kIn ⟨_, h1, rfl⟩ e (fun z => nomatch z) h
  | @frz a ob xs ea =>
    cases (show u = Value.ref a from rx)
    obtain ⟨_, _, _, n, _, h1⟩ := (show ObjOk X.prog X.w H s.heap a (.frz ob (.lst xs)) from I.hok a _ ea)
    exact PySem.W.kia_one PySem.W.kitx_list I.kIn ⟨_, h1, rfl⟩ e (fun z => nomatch z) h
  | @tup a xs ea =>
    cases (show u = Value.ref a from rx)
    obtain ⟨_, _, _, p⟩ := (show ObjOk X.prog X.w H s.heap a (.tup xs) from I.hok a _ ea)
    obtain ⟨o, h1, h2, _⟩ := p
    exact PySem.W.kia_one PySem.W.kitx_tuple I.kIn ⟨o, h1, h2⟩ e (fun z => nomatch z) h
  | @dK a kvs ea =>
    cases (show u = Value.ref a from rx)
    obtain ⟨_, _, vs, _, p⟩ := (show ObjOk X.prog X.w H s.heap a (.dK kvs) from I.hok a _ ea)
    obtain ⟨o, es, ep, h1, h2, _⟩ := p
    exact PySem.W.kia_one PySem.W.kitx_dict I.kIn ⟨o, h1, h2.1⟩ e (fun z => nomatch z) h
  | @dT a kvs ea =>
    cases (show u = Value.ref a from rx)
    obtain ⟨_, _, xs, _, o, es, ep, h1, h2, _⟩ := (show ObjOk X.prog X.w H s.heap a (.dT kvs) from I.hok a _ ea)
    exact PySem.W.kia_one PySem.W.kitx_dict I.kIn ⟨o, h1, h2.1⟩ e (fun z => nomatch z) h
  | @ins a C dx fs ea cl ha hn htk hm =>
    cases (show u = Value.ref a from rx)
    obtain ⟨mA, O, _⟩ := ins_get I.hok ea
    obtain ⟨od, J, _⟩ := O.look
    exact PySem.W.kia_one (PySem.W.kitx_own (cl.get _) cl.hd ha hn htk hm) I.kIn J e (fun z => nomatch z) h
end
end L2
namespace L2
open PySem PySem.Spec PyProof.Rows
structure Room (k : Nat) (A : Around) : Prop where
  hd : A.handled = none
  dp : A.depth + 3 * k + 5 < recursionLimit
  un : A.units + 16 * k + 200 < cLine
theorem Room.mono {j k : Nat} {A : Around} (r : Room k A) (h : j ≤ k) : Room j A := ⟨r.hd, by have := r.dp; omega, by have := r.un; omega⟩
theorem Room.deeper {k : Nat} {A : Around} (r : Room (k + 1) A) (env : Env) : Room k (A.deeper env) :=
  ⟨r.hd, by have := r.dp; show A.depth + 1 + 3 * k + 5 < _; omega, by have := r.un; show A.units + 3 + 16 * k + 200 < _; omega⟩
theorem Room.in1 {k : Nat} {A : Around} (r : Room (k + 1) A) : Room k A.in1 :=
  ⟨r.hd, by have := r.dp; show A.depth + 3 * k + 5 < _; omega, by have := r.un; show A.units + 1 + 16 * k + 200 < _; omega⟩
theorem Room.depth {k : Nat} {A : Around} (r : Room k A) : A.depth < recursionLimit := by have := r.dp; omega
theorem Room.units {k : Nat} {A : Around} (r : Room k A) : A.units + 64 < cLine := by have := r.un; omega
theorem Room.units0 {k : Nat} {A : Around} (r : Room k A) : A.units < cLine := by have := r.un; omega
def tNil : TA := fun _ H Q => Q [] H
def tCons (ta : TE) (tr : TA) : TA := fun σ H Q => ta σ H fun x H1 => tr σ H1 fun xs H2 => Q (x :: xs) H2
section
variable {X : Cx} {e : Expr} {es : List Expr} {te : TE} {t : TA} {pos : Pos}
theorem pa_nil : PA X [] tNil := fun _ _ _ _ H Q I h => Calls.spliced_nil ⟨[], H, I, .nil, h⟩
theorem pa_cons (ha : PE X e te) (hr : PA X es t) (hs : starEach (e :: es) X.env = (false, eval e X.env) :: starEach es X.env := by rfl) : PA X (e :: es) (tCons te t) := by
  intro pos pins s σ H Q I h
  rw [hs]
  show wpAny _ _ (spliced ((false, eval e X.env) :: backTo pos (starEach es X.env))) _ _ s
  refine Calls.spliced_cons (thn (ha pins s σ H _ I h) fun u s1 ⟨x, H1, I1, r1, q1⟩ => ?_)
  exact thn (hr pos pins s1 σ H1 _ I1 q1) fun us s2 ⟨xs, H2, I2, r2, q2⟩ => ⟨x :: xs, H2, I2, .cons r1 r2, q2⟩
def tTup (t : TA) : TE := fun σ H Q => t σ H fun xs H1 => xs.length ≤ sizeLine ∧ ∀ p, H1 p = none → Q (.ref p) (upd H1 p (.tup xs))
def tLst (t : TA) : TE := fun σ H Q => t σ H fun xs H1 => xs.length ≤ sizeLine ∧ ∀ p, H1 p = none → Q (.ref p) (upd H1 p (.lst xs))
theorem pe_tup {x1} (h : PA X es t) : PE X (.Tuple es x1 pos) (tTup t) := by
  intro pins s σ H Q I hq
  refine wpAny_Tuple_spliced (thn (h pos pins s σ H _ I hq) fun us s1 ⟨xs, H1, I1, r, z, q⟩ => ⟨by rw [← r.length]; exact z, ?_⟩)
  have hf : H1 s1.heap.objs.size = none := I1.hok.fresh (Nat.le_refl _)
  refine ⟨.ref s1.heap.objs.size, upd H1 s1.heap.objs.size (.tup xs), I1.laid (t' := s1.toks) (fun b u e => Heap.get?_push_of_some _ e) (Nat.le_refl _) ?_, rfl, q _ hf⟩
  exact ⟨z, us, r, ⟨_, Heap.get?_push_size _ rfl, rfl, _, rfl⟩⟩
theorem pe_lst (h : PA X es t) : PE X (.List es pos) (tLst t) := by
  intro pins s σ H Q I hq
  refine wpAny_List_spliced (thn (h pos pins s σ H _ I hq) fun us s1 ⟨xs, H1, I1, r, z, q⟩ => ⟨by rw [← r.length]; exact z, ?_⟩)
  have hf : H1 s1.heap.objs.size = none := I1.hok.fresh (Nat.le_refl _)
  refine ⟨.ref s1.heap.objs.size, upd H1 s1.heap.objs.size (.lst xs), I1.laid (t' := s1.toks) (fun b u e => Heap.get?_push_of_some _ e) (Nat.le_refl _) ?_, rfl, q _ hf⟩
  exact ⟨z, us, 0, r, Heap.get?_push_size _ rfl⟩
end
abbrev Sp := List V → Hp → VK → XK → Prop
abbrev CXT := List Env → Hp → Shared → XK → Value → Shared → Prop
structure Env0 (P : Program) (w : World) (K : PySem.W.Frag) (mg : Str → Option Value) (base : Heap) (A : Around) (outer : List Env) (s : Shared) (H : Hp) : Prop where
  frames : A.frames = some outer
  mod : Mod K mg base
  bs : ∀ b o, base.get? b = some o → s.heap.get? b = some o ∧ H b = none
  bsz : base.objs.size ≤ s.heap.objs.size
  funs : s.heap.FunFrames base outer
  frf : ∀ b ∈ frs outer, H b = none
  hok : HOk P w H s.heap
  bare : AllBare s.gens
def CE (outer : List Env) (P : Program) (w : World) (H : Hp) (s : Shared) (Q : VK) (u : Value) (s' : Shared) : Prop :=
  ∃ v H', s'.os = s.os ∧ AllBare s'.gens ∧ Un (frs outer) [] H H' s.heap s'.heap ∧ HOk P w H' s'.heap ∧ RelV v u ∧ Q v H'
def CR (CX : CXT) (outer : List Env) (P : Program) (w : World) (H : Hp) (s : Shared) (Q : VK) (E : XK) (r : Result) (s' : Shared) : Prop :=
  match r with
  | .ok (.ret u) => CE outer P w H s Q u s'
  | .ok _ => False
  | .error e => CX outer H s E e s'
structure FnOk (P : Program) (w : World) (K : PySem.W.Frag) (mg : Str → Option Value) (base : Heap) (CX : CXT) (k : Nat) (f : Addr) (fd : FuncData) (ps : List Str) (sp : Sp) : Prop where
  len : ∀ vs H Q E, sp vs H Q E → vs.length = ps.length
  run : ∀ (A : Around) (outer : List Env) (s : Shared) (H : Hp) (args : Args) (us : List Value) (vs : List V) (Q : VK) (E : XK), Room k A → Env0 P w K mg base A outer s H → BindsTo s fd args (ps.zip us) → Vals vs us → sp vs H Q E →
    codeAny (model P w) A (.call (.ref f) args) (CR CX outer P w H s Q E) s
theorem FnOk.mono {P : Program} {w : World} {K : PySem.W.Frag} {mg : Str → Option Value} {base : Heap} {CX : CXT} {j k : Nat} {f : Addr} {fd : FuncData} {ps : List Str} {sp : Sp} (F : FnOk P w K mg base CX j f fd ps sp) (h : j ≤ k) :
    FnOk P w K mg base CX k f fd ps sp := ⟨F.len, fun A outer s H args us vs Q E hr => F.run A outer s H args us vs Q E (hr.mono h)⟩
theorem FnOk.imp {P : Program} {w : World} {K : PySem.W.Frag} {mg : Str → Option Value} {base : Heap} {CX : CXT} {k : Nat} {f : Addr} {fd : FuncData} {ps : List Str} {sp sp' : Sp} (F : FnOk P w K mg base CX k f fd ps sp)
    (h : ∀ vs H Q E, sp' vs H Q E → sp vs H Q E) : FnOk P w K mg base CX k f fd ps sp' :=
  ⟨fun vs H Q E q => F.len vs H Q E (h _ _ _ _ q), fun A outer s H args us vs Q E hr he hb hv hs => F.run A outer s H args us vs Q E hr he hb hv (h _ _ _ _ hs)⟩
theorem Env0.in1 {P : Program} {w : World} {K : PySem.W.Frag} {mg : Str → Option Value} {base : Heap} {A : Around} {outer : List Env} {s : Shared} {H : Hp} (e : Env0 P w K mg base A outer s H) :
    Env0 P w K mg base A.in1 outer s H := ⟨e.frames, e.mod, e.bs, e.bsz, e.funs, e.frf, e.hok, e.bare⟩
section
variable {X : Cx} {pins : List (Addr × Obj)} {σ : St} {H : Hp} {s s' : Shared}
theorem Inv.env0 (I : Inv X pins σ H s) : Env0 X.prog X.w X.K X.mg X.base X.A X.stack s H :=
  ⟨I.ok.frames, I.ok.mod, I.bs, Nat.le_trans I.ok.bsz I.sz, I.stack, I.stkFree, I.hok, I.bare⟩
theorem Inv.after {Q : VK} {u : Value} (I : Inv X pins σ H s) (h : CE X.stack X.prog X.w H s Q u s') : EP X pins σ Q u s' := by
  obtain ⟨v, H', os, bare, un, hok, r, q⟩ := h
  obtain ⟨hh, g, d, t, os'⟩ := s'
  obtain rfl : os' = s.os := os
  exact ⟨v, H', I.call (h' := hh) (g' := g) (d' := d) (t' := t) (ch := []) un hok bare (fun b z => absurd z (by simp)), r, q⟩
end
def tCall (sp : Sp) (dvs : List V) (E : XK) (t : TA) : TE := fun σ H Q => t σ H fun vs H1 => sp (vs ++ dvs) H1 Q E
def Binds (K : PySem.W.Frag) (fd : FuncData) (ps : List Str) (ds : List Value) : Prop :=
  ∀ (s : Shared) (us : List Value), K.In s.heap → (us ++ ds).length = ps.length → BindsTo s fd ⟨us, []⟩ (ps.zip (us ++ ds))
theorem Binds.all {K : PySem.W.Frag} {fd : FuncData} {ps : List Str} (h : ∀ us : List Value, us.length = ps.length → bindArgs fd ⟨us, []⟩ = pure (ps.zip us)) : Binds K fd ps [] := fun s us _ hl => by
  rw [List.append_nil] at hl ⊢
  exact .of_eq (h us hl)
def Passes (CX : CXT) (X : Cx) (E : XK) : Prop := ∀ (pins : List (Addr × Obj)) (σ : St) (H : Hp) (s : Shared) (e : Value) (s' : Shared), Inv X pins σ H s → CX X.stack H s E e s' → X.xe e s'
section
variable {X : Cx} {CX : CXT} {k : Nat} {f C : Addr} {fd : FuncData} {ps : List Str} {sp : Sp} {dvs : List V} {ds : List Value} {E : XK} {x m : Str} {p pos apos : Pos} {e o : Expr} {es : List Expr} {ta : TE} {t : TA}
theorem run_fn {pins : List (Addr × Obj)} {σ : St} {H : Hp} {s : Shared} {Q : VK} {us : List Value} {vs : List V} (F : FnOk X.prog X.w X.K X.mg X.base CX k f fd ps sp) (hr : Room k X.A) (hb : Binds X.K fd ps ds) (hd : Vals dvs ds) (hx : Passes CX X E)
    (I : Inv X pins σ H s) (r : Vals vs us) (h : sp (vs ++ dvs) H Q E) : wpAny (model X.prog X.w) X.A (call (.ref f) us) (EP X pins σ Q) X.xe s := by
  have r2 : Vals (vs ++ dvs) (us ++ ds) := r.append hd
  have hl : (us ++ ds).length = ps.length := by rw [← r2.length]; exact F.len _ _ _ _ h
  refine wpAny_call (codeAny_mono (F.run X.A X.stack s H ⟨us, []⟩ (us ++ ds) (vs ++ dvs) Q E hr I.env0 (hb s us I.kIn hl) r2 h) fun r s' hq => ?_)
  cases r with
  | error e => exact hx pins σ H s e s' I hq
  | ok fl =>
    cases fl with
    | ret u => exact I.after hq
    | next => exact False.elim hq
    | brk => exact False.elim hq
    | cont => exact False.elim hq
theorem pe_call (F : FnOk X.prog X.w X.K X.mg X.base CX k f fd ps sp) (hr : Room k X.A) (hg : Gl X x) (hm : X.mg x = some (.ref f)) (hk : PySem.W.keepIn X.K (.ref f) = true) (hb : Binds X.K fd ps ds) (hd : Vals dvs ds) (hx : Passes CX X E)
    (ha : PA X (e :: es) t) (hdb : (x == ("__debug__" : Str)) = false := by decide) (he : starEach (e :: es) X.env = (false, eval e X.env) :: starEach es X.env := by rfl) (hpl : (backTo pos (starEach es X.env)).any (·.1) = false := by rfl) :
    PE X (.Call (.Name x p) (e :: es) [] pos) (tCall sp dvs E t) := by
  intro pins s σ H Q I h
  refine wpAny_Call_Name_kw (ld_glob I hg hm ?_ hdb)
  refine PySem.W.callWith_K (h₀ := X.base) I.ok.mod.kin hk (thn (ha pos pins s σ H _ I h) fun us s1 ⟨vs, H1, I1, r, q⟩ => ⟨I1.kIn, ?_⟩) he hpl
  exact run_fn F hr hb hd hx I1 r q
end
section
variable {X : Cx} {CX : CXT} {k : Nat} {f C : Addr} {fd : FuncData} {ps ks : List Str} {sp : Sp} {E : XK} {x m : Str} {p pos apos kpos : Pos} {e o : Expr} {es : List Expr} {kws : List Keyword} {te ta : TE} {t tk : TA} {nm : Option Str}
variable {g : List Value → List Value → List Value} {gV : List V → List V → List V}
end
structure FnScope (N P : List Str) (sc : Scope) : Prop where
  kind : sc.kind = .function
  co : sc.isCoroutine = false
  gen : sc.isGenerator = false
  nd : N.Nodup
  pre : N.take P.length = P
  par : ∀ x ∈ P, sc.names.lookup x = some .local ∨ sc.names.lookup x = some .cell
  nofree : ∀ y ∈ sc.names, y.2 ≠ .free
theorem bindL_out {kindOf : Str → Option NameKind} {x : Str} : ∀ {binds : List (Str × Value)} {m : Str → Option Value}, (∀ v, (x, v) ∉ binds) → bindL kindOf binds m x = m x
  | [], _, _ => rfl
  | (n, v) :: r, m, h => by
    unfold bindL
    rw [bindL_out fun w hw => h w (List.mem_cons_of_mem _ hw)]
    split
    · have : x ≠ n := by rintro rfl; exact h v List.mem_cons_self
      simp [this]
    · rfl
theorem bindC_out {kindOf : Str → Option NameKind} {x : Str} : ∀ {binds : List (Str × Value)} {m : Str → Option Value}, (∀ v, (x, v) ∉ binds) → bindC kindOf binds m x = m x
  | [], _, _ => rfl
  | (n, v) :: r, m, h => by
    unfold bindC
    rw [bindC_out fun w hw => h w (List.mem_cons_of_mem _ hw)]
    split
    · rfl
    · have : x ≠ n := by rintro rfl; exact h v List.mem_cons_self
      simp [this]
theorem bindL_get {kindOf : Str → Option NameKind} {x : Str} {v : Value} : ∀ {P : List Str} {vs : List Value} {i : Nat} {m : Str → Option Value}, P.Nodup → P[i]? = some x → vs[i]? = some v → kindOf x = some .local →
    bindL kindOf (P.zip vs) m x = some v
  | [], _, _, _, _, h, _, _ => by simp at h
  | _ :: _, [], _, _, _, _, h, _ => by simp at h
  | p :: P, w :: vs, 0, m, nd, h1, h2, hk => by
    simp at h1 h2; subst h1; subst h2
    show bindL kindOf ((p, w) :: P.zip vs) m p = _
    unfold bindL
    rw [bindL_out fun v hv => (List.nodup_cons.mp nd).1 (List.of_mem_zip hv).1, if_pos hk]
    simp
  | p :: P, w :: vs, i + 1, m, nd, h1, h2, hk => by
    show bindL kindOf ((p, w) :: P.zip vs) m x = _
    unfold bindL
    exact bindL_get (i := i) (List.nodup_cons.mp nd).2 (by simpa using h1) (by simpa using h2) hk
theorem bindC_get {kindOf : Str → Option NameKind} {x : Str} {v : Value} : ∀ {P : List Str} {vs : List Value} {i : Nat} {m : Str → Option Value}, P.Nodup → P[i]? = some x → vs[i]? = some v → kindOf x ≠ some .local →
    bindC kindOf (P.zip vs) m x = some v
  | [], _, _, _, _, h, _, _ => by simp at h
  | _ :: _, [], _, _, _, _, h, _ => by simp at h
  | p :: P, w :: vs, 0, m, nd, h1, h2, hk => by
    simp at h1 h2; subst h1; subst h2
    show bindC kindOf ((p, w) :: P.zip vs) m p = _
    unfold bindC
    rw [bindC_out fun v hv => (List.nodup_cons.mp nd).1 (List.of_mem_zip hv).1, if_neg hk]
    simp
  | p :: P, w :: vs, i + 1, m, nd, h1, h2, hk => by
    show bindC kindOf ((p, w) :: P.zip vs) m x = _
    unfold bindC
    exact bindC_get (i := i) (List.nodup_cons.mp nd).2 (by simpa using h1) (by simpa using h2) hk
def start (N : List Str) (vs : List V) : St := vs.map some ++ List.replicate (N.length - vs.length) none
def cxOf (CX : CXT) (P : Program) (w : World) (K : PySem.W.Frag) (mg : Str → Option Value) (base : Heap) (N : List Str) (qual : Str) (scope : Scope) (f : Addr) (cd : Value) (A : Around) (outer : List Env) (s : Shared) (H : Hp) (E : XK) : Cx where
  prog := P
  w := w
  K := K
  mg := mg
  base := base
  A := A.deeper (envOfC qual scope s.heap.objs.size f cd)
  N := N
  s₀ := s
  H₀ := H
  env := envOfC qual scope s.heap.objs.size f cd
  outer := outer
  stack := envOfC qual scope s.heap.objs.size f cd :: outer
  ex := []
  calm := true
  fn := fun _ => true
  pn := []
  xe := fun e s' => wpAny (model P w) (A.deeper (envOfC qual scope s.heap.objs.size f cd)) (leaving (envOfC qual scope s.heap.objs.size f cd) e) (fun _ s'' => CX outer H s E e s'') (fun e' s'' => CX outer H s E e' s'') s'
theorem cell_has {sc : Scope} {n : Nat} {x : Str} (h : sc.names.lookup x = some .cell) : ∃ c, (cellsFrom n sc.names []).lookup x = some c := by
  have q := PySem.W.cellsFrom_some sc.names n [] (.inl h)
  exact Option.isSome_iff_exists.mp q
theorem inv_start {CX : CXT} {P : Program} {w : World} {K : PySem.W.Frag} {mg : Str → Option Value} {base : Heap} {N ps : List Str} {qual : Str} {scope : Scope} {f : Addr} {cd : Value} {A : Around} {outer : List Env} {s s1 : Shared} {H : Hp} {E : XK} {us : List Value} {vs : List V}
    (S : FnScope N ps scope) (hd : A.handled = none) (e0 : Env0 P w K mg base A outer s H) (hl : vs.length = ps.length) (r : Vals vs us)
    (x : InCallC s s.heap.objs.size (bindL (envOfC qual scope s.heap.objs.size f cd).kindOf (ps.zip us) fun _ => none) (cellsFrom (s.heap.objs.size + 1) scope.names []) (bindC (envOfC qual scope s.heap.objs.size f cd).kindOf (ps.zip us) fun _ => none) s1) :
    Inv (cxOf CX P w K mg base N qual scope f cd A outer s H E) [] (start N vs) H s1 := by
  have hpl : ps.length ≤ N.length := by have := congrArg List.length S.pre; rw [List.length_take] at this; omega
  obtain ⟨h1, tk, rfl, hk⟩ := x.done
  have noA : ∀ b : Addr, b ∉ (cxOf CX P w K mg base N qual scope f cd A outer s H E).ex := fun b z => absurd (show b ∈ ([] : List Addr) from z) (by simp)
  refine ⟨⟨e0.mod, S.kind, rfl, rfl, Nat.le_refl _, fun y z c h1 h2 => ?_, fun y hy => ?_, fun y c _ h => ?_, fun _ => hd, Around.frames_deeper e0.frames, .inr ⟨rfl, rfl⟩, fun b z => absurd z (noA b), e0.bs, e0.bsz, fun b _ _ => noA b, fun b z => absurd z (noA b), e0.funs, e0.frf⟩,
    rfl, e0.bare, Un.kept hk, ⟨_, x.toInCall.ns, fun i y v h1 h2 h3 => ?_⟩, fun y c h => ⟨_, x.cell y c h⟩, e0.hok.fresh (Nat.le_refl _), fun y c h => ?_, fun p hp => absurd (show p ∈ ([] : List (Addr × Obj)) from hp) (by simp), e0.hok.kept hk, ?_⟩
  · exact name_of_addr x.apart (PySem.mem_of_lookup h1) (PySem.mem_of_lookup h2)
  · have hy : scope.names.lookup y = some .cell ∨ scope.names.lookup y = some .free := hy
    rcases hy with hy | hy
    · exact cell_has hy
    · exact absurd rfl (S.nofree _ (PySem.mem_of_lookup hy))
  · exact Nat.le_of_lt (x.above y c (PySem.mem_of_lookup h))
  · have hi : i < vs.length := by
      unfold start at h2
      by_cases hi : i < vs.length
      · exact hi
      · rw [List.getElem?_append_right (by simpa using hi)] at h2
        rw [List.getElem?_replicate] at h2
        split at h2 <;> cases h2
    have ha : vs[i]? = some v := by
      unfold start at h2
      rw [List.getElem?_append_left (by simpa using hi), List.getElem?_map] at h2
      cases e : vs[i]? with
      | none => rw [e] at h2; cases h2
      | some a => rw [e] at h2; cases h2; rfl
    obtain ⟨u, hu, rv⟩ := r.get ha
    have hp : ps[i]? = some y := by
      rw [← S.pre, List.getElem?_take_of_lt (by omega)]; exact h1
    have ndP : ps.Nodup := by rw [← S.pre]; exact S.nd.sublist (List.take_sublist _ _)
    refine ⟨u, rv, ?_⟩
    rcases S.par y (List.mem_of_getElem? hp) with k | k
    · exact .inl ⟨k, bindL_get ndP hp hu k⟩
    · obtain ⟨c, e⟩ := cell_has (n := s.heap.objs.size + 1) k
      refine .inr ⟨.inl k, c, e, ?_⟩
      have q := x.cell y c e
      rw [bindC_get ndP hp hu (by show scope.names.lookup y ≠ _; rw [k]; decide)] at q
      exact q
  · exact e0.hok.fresh (Nat.le_of_lt (x.above y c (PySem.mem_of_lookup h)))
  · unfold start
    show _ = N.length
    rw [List.length_append, List.length_map, List.length_replicate]
    omega
theorem fn_of {CX : CXT} {P : Program} {w : World} {K : PySem.W.Frag} {mg : Str → Option Value} {base : Heap} {k : Nat} {f : Addr} {name qual : Str} {params : Arguments} {body : List Stmt} {scope : Scope} {dV kV doc pm cdv ct oc : Value} {an od : Option Addr}
    {osl : Array (Option Value)} {N ps : List Str} {sp : Sp} (lk : K.lookup f = some ⟨oc, od, .func (PySem.W.fnOf name qual params body scope dV kV doc pm an cdv ct), osl⟩) (hcd : PySem.W.codeIn K cdv qual = true) (S : FnScope N ps scope)
    (len : ∀ vs H Q E, sp vs H Q E → vs.length = ps.length)
    (hbody : ∀ (A : Around) (outer : List Env) (s : Shared) (H : Hp) (vs : List V) (Q : VK) (E : XK), Room k (A.deeper (envOfC qual scope s.heap.objs.size f cdv)) → sp vs H Q E →
      ∃ t, PSs (cxOf CX P w K mg base N qual scope f cdv A outer s H E) body t ∧ t { nx := fun _ H' => Q .non H', rt := Q } (start N vs) H) :
    FnOk P w K mg base CX (k + 1) f (PySem.W.fnOf name qual params body scope dV kV doc pm an cdv ct) ps sp := by
  refine ⟨len, fun A outer s H args us vs Q E hr e0 hb r hsp => ?_⟩
  have hl := len _ _ _ _ hsp
  have KX : K.In s.heap := e0.mod.kin.keeps fun b o e => (e0.bs b o e).1
  have lim : s.heap.NoLimit := e0.mod.nolimit.keeps fun b o e => (e0.bs b o e).1
  have hkind : ∀ y ∈ ps.zip us, scope.names.lookup y.1 = some .local ∨ (scope.names.lookup y.1 = some .cell ∧ ((cellsFrom (s.heap.objs.size + 1) scope.names []).lookup y.1).isSome = true) := fun ⟨n, v⟩ hy => by
    rcases S.par n (List.of_mem_zip hy).1 with q | q
    · exact .inl q
    · exact .inr ⟨q, PySem.W.cellsFrom_some _ _ _ (.inl q)⟩
  refine codeAny_call_function hr.depth (KX _ _ lk) rfl S.co S.gen rfl (PySem.W.codeRec_of KX hcd) (hb _ _ _ _ ?_)
  refine wpAny_newFunctionEnv_cells S.kind hkind fun env he s1 x => ?_
  subst he
  refine ⟨lim.keeps x.toInCall.keep, codeAny_func ?_⟩
  obtain ⟨t, ht, hq⟩ := hbody A outer s H vs Q E (hr.deeper _) hsp
  have I : Inv (cxOf CX P w K mg base N qual scope f cdv A outer s H E) [] (start N vs) H s1 := inv_start S hr.hd e0 hl r x
  refine wpAny_mono (ht [] s1 (start N vs) H _ I hq) (fun fl s' hs => ?_) fun e s' hs => hs
  have fin : ∀ {σ' : St} {H' : Hp} {v : V} {u : Value}, Inv (cxOf CX P w K mg base N qual scope f cdv A outer s H E) [] σ' H' s' → RelV v u → Q v H' → CE outer P w H s Q u s' :=
    fun {σ' H' v u} J rv q => ⟨v, H', J.os, J.bare, J.base, J.hok, rv, q⟩
  cases fl with
  | ret u =>
    obtain ⟨v, σ', H', J, rv, q⟩ := hs
    exact fin J rv q
  | next =>
    obtain ⟨σ', H', J, q⟩ := hs
    exact fin (v := V.non) (u := Value.none) J rfl q
  | brk =>
    obtain ⟨_, _, _, q⟩ := hs
    exact False.elim q
  | cont =>
    obtain ⟨_, _, _, q⟩ := hs
    exact False.elim q
end L2
namespace L2
open PySem PySem.Spec PyProof.Rows
section
variable {X : Cx} {x : Str} {p pos : Pos} {e : Expr} {es : List Expr} {t : TA} {id T : String} {r : List V → Hp → VK → Prop}
def tCB (r : List V → Hp → VK → Prop) (t : TA) : TE := fun σ H Q => t σ H fun vs H1 => r vs H1 Q
theorem pe_callB (hc : CallR X (.builtin id) r) (hg : Gl X x) (hm : X.mg x = none) (hv : bootBuiltins x = some (.builtin id)) (ha : PA X (e :: es) t) (hn : x ≠ "__name__" := by decide) (hdb : (x == ("__debug__" : Str)) = false := by decide)
    (he : starEach (e :: es) X.env = (false, eval e X.env) :: starEach es X.env := by rfl) (hpl : (backTo pos (starEach es X.env)).any (·.1) = false := by rfl) : PE X (.Call (.Name x p) (e :: es) [] pos) (tCB r t) := by
  intro pins s σ H Q I h
  refine wpAny_Call_Name_kw (ld_blt I hg hm hv ?_ hn hdb)
  exact PyProof.Rows.callWith_builtin1 (thn (ha pos pins s σ H _ I h) fun us s1 ⟨vs, H1, I1, r1, q1⟩ => hc pins s1 σ H1 vs us Q I1 r1 q1) he hpl
theorem pe_callTy (hc : CallR X (.type T) r) (hg : Gl X x) (hm : X.mg x = none) (hv : bootBuiltins x = some (.type T)) (ha : PA X (e :: es) t) (hn : x ≠ "__name__" := by decide) (hdb : (x == ("__debug__" : Str)) = false := by decide)
    (he : starEach (e :: es) X.env = (false, eval e X.env) :: starEach es X.env := by rfl) (hpl : (backTo pos (starEach es X.env)).any (·.1) = false := by rfl) : PE X (.Call (.Name x p) (e :: es) [] pos) (tCB r t) := by
  intro pins s σ H Q I h
  refine wpAny_Call_Name_kw (ld_blt I hg hm hv ?_ hn hdb)
  exact PyProof.Rows.callWith_type1 (thn (ha pos pins s σ H _ I h) fun us s1 ⟨vs, H1, I1, r1, q1⟩ => hc pins s1 σ H1 vs us Q I1 r1 q1) he hpl
end
end L2
namespace HT
open PySem PyProof.Rows
def lexLt : List Int → List Int → Bool
  | [], [] => false
  | [], _ :: _ => true
  | _ :: _, [] => false
  | x :: xs, y :: ys => if x = y then lexLt xs ys else decide (x < y)
theorem lexLt_cons (x y : Int) (xs ys : List Int) : lexLt (x :: xs) (y :: ys) = if x = y then lexLt xs ys else decide (x < y) := rfl
theorem lexLt_nil_nil : lexLt [] [] = false := rfl
theorem lexLt_nil_cons (y : Int) (ys : List Int) : lexLt [] (y :: ys) = true := rfl
theorem lexLt_cons_nil (x : Int) (xs : List Int) : lexLt (x :: xs) [] = false := rfl
theorem eqAt_int (A : Around) (s : Shared) (a : Int) (t : Tok) (c : Int) (u : Tok) : ∃ e, SeqAt.EqAt A s (.int a t) (.int c u) e ∧ (e = true ↔ a = c) :=
  ⟨(a == c), SeqAt.EqAt.int_int a t c u, by simp⟩
section
open PySem.SeqAt
open PySem.AutoSeq1 (wpAny_loadPart')
open PySem.MeetsSeq PySem.MeetsSeq2 PySem.MeetsSeq3
end
section
variable {prog : Program} {w : World} {A : Around} {E : Value → Shared → Prop} {s : Shared}
def sIx (n d : Nat) : Option Int → Nat
  | none => d
  | some v => if v < 0 then (v + (n : Int)).toNat else min v.toNat n
end
end HT
namespace L2
open PySem PySem.Spec PyProof.Rows
abbrev TO := St → Hp → (Option Int → Hp → Prop) → Prop
def PO (X : Cx) (e : Option Expr) (t : TO) : Prop :=
  ∀ (pins : List (Addr × Obj)) (s : Shared) (σ : St) (H : Hp) (Q : Option Int → Hp → Prop), Inv X pins σ H s → t σ H Q →
    wpAny (model X.prog X.w) X.A (evalPart e X.env) (fun u s' => ∃ o H', Inv X pins σ H' s' ∧ IsPart u o ∧ Q o H') X.xe s
def tNoPart : TO := fun _ H Q => Q none H
def tPart (t : TE) : TO := fun σ H Q => t σ H fun x H1 => ∃ i, x = .int i ∧ Q (some i) H1
theorem intsAre_of {ns : List Int} : ∀ {us : List Value}, Vals (ns.map V.int) us → IntsAre us ns := by
  induction ns with
  | nil => intro us r; rw [List.map_nil] at r; cases r; exact .nil
  | cons n ns ih =>
    intro us r
    rw [List.map_cons] at r
    cases r with
    | cons r1 r2 =>
      obtain ⟨t, e⟩ := r1
      subst e
      exact .cons n t (ih r2)
section
variable {X : Cx} {e : Expr} {te : TE} {lo hi : Option Expr} {tl th : TO} {pos p2 : Pos}
theorem po_none : PO X none tNoPart := by
  intro pins s σ H Q I h
  rw [evalPart_none]
  exact wpAny_pure ⟨none, H, I, .none, h⟩
theorem po_some (h : PE X e te) : PO X (some e) (tPart te) := by
  intro pins s σ H Q I hw
  rw [evalPart_some]
  refine thn (h pins s σ H _ I hw) fun u s1 ⟨x, H1, I1, r1, q1⟩ => ?_
  obtain ⟨i, rfl, q⟩ := q1
  obtain ⟨t, rfl⟩ := r1
  exact ⟨some i, H1, I1, .int i t, q⟩
def SlR (X : Cx) (r : V → Option Int → Option Int → Hp → VK → Prop) : Prop :=
  ∀ (pins : List (Addr × Obj)) (s : Shared) (σ : St) (H : Hp) (x : V) (v vl vu : Value) (lo hi : Option Int) (sl : Addr) (Q : VK), Inv X pins σ H s → RelV x v → s.heap.IsSliceOf sl vl vu .none → IsPart vl lo → IsPart vu hi → r x lo hi H Q →
    ∃ T id, typeLookup (.type T) "__getitem__" = pure (some (.builtin id)) ∧ s.TypeIs v T ∧ wpAny (model X.prog X.w) X.A (getItem v (.ref sl)) (EP X pins σ Q) X.xe s
def tSl (r : V → Option Int → Option Int → Hp → VK → Prop) (te : TE) (tl th : TO) : TE := fun σ H Q => te σ H fun x H1 => tl σ H1 fun l H2 => th σ H2 fun u H3 => r x l u H3 Q
theorem pe_slice {r : V → Option Int → Option Int → Hp → VK → Prop} (hr : SlR X r) (he : PE X e te) (hl : PO X lo tl) (hu : PO X hi th) : PE X (.Subscript e (.Slice lo hi none p2) pos) (tSl r te tl th) := by
  intro pins s σ H Q I h
  refine Subscript_ (thn (he pins s σ H _ I h) fun v s1 ⟨x, H1, I1, r1, q1⟩ => ?_)
  refine wpAny_Slice (thn (hl pins s1 σ H1 _ I1 q1) fun vl s2 ⟨l, H2, I2, pl, q2⟩ => thn (hu pins s2 σ H2 _ I2 q2) fun vu s3 ⟨u, H3, I3, pu, q3⟩ => ?_)
  rw [evalPart_none]
  refine wpAny_pure ?_
  have I4 : Inv X pins σ H3 { s3 with heap := s3.heap.push { cls := .type "slice", data := .fields #[vl, vu, .none] } } := I3.kept (t' := s3.toks) fun b ob q => Heap.get?_push_of_some _ q
  obtain ⟨T, id, hT, ht, hg⟩ := hr pins { s3 with heap := s3.heap.push { cls := .type "slice", data := .fields #[vl, vu, .none] } } σ H3 x v vl vu l u s3.heap.objs.size Q I4 r1 (Heap.IsSliceOf.new ..) pl pu q3
  show wpAny (model X.prog X.w) X.A (subscriptTail e (.Slice lo hi none p2) v (.ref s3.heap.objs.size)) (EP X pins σ Q) X.xe { s3 with heap := s3.heap.push { cls := .type "slice", data := .fields #[vl, vu, .none] } }
  exact tail_any (ops := [.ref s3.heap.objs.size, v]) ht hT hg (by with_unfolding_all rfl)
def cutV (xs : List V) (lo hi : Option Int) : List V := (xs.drop (HT.sIx xs.length 0 lo)).take (HT.sIx xs.length xs.length hi - HT.sIx xs.length 0 lo)
theorem cutV_length (xs : List V) (lo hi : Option Int) : (cutV xs lo hi).length ≤ xs.length := by
  unfold cutV
  rw [List.length_take, List.length_drop]
  omega
end
end L2
namespace L2
open PySem PySem.Spec PyProof.Rows
def ixN (n : Nat) (i : Int) : Option Nat := if 0 ≤ i then (if i < n then some i.toNat else none) else if -(n : Int) ≤ i then some (i + n).toNat else none
def atI {α : Type} (xs : List α) (i : Int) : Option α := (ixN xs.length i).bind fun j => xs[j]?
theorem ixN_seq {n : Nat} {i : Int} {j : Nat} (h : ixN n i = some j) : seqIndex? i n = some j ∧ j < n ∧ -(n : Int) ≤ i ∧ i < n := by
  unfold ixN at h
  by_cases h0 : 0 ≤ i
  · rw [if_pos h0] at h
    by_cases h1 : i < n
    · rw [if_pos h1] at h
      have e : i.toNat = j := Option.some.inj h
      exact ⟨by rw [seqIndex_of h0 h1, e], by omega, by omega, h1⟩
    · rw [if_neg h1] at h; cases h
  · rw [if_neg h0] at h
    by_cases h1 : -(n : Int) ≤ i
    · rw [if_pos h1] at h
      have e : (i + n).toNat = j := Option.some.inj h
      exact ⟨by rw [seqIndex_neg (by omega) h1, e], by omega, h1, by omega⟩
    · rw [if_neg h1] at h; cases h
theorem atI_get {α : Type} {xs : List α} {i : Int} {v : α} (h : atI xs i = some v) : ∃ j, seqIndex? i xs.length = some j ∧ xs[j]? = some v ∧ j < xs.length ∧ -(xs.length : Int) ≤ i ∧ i < xs.length := by
  unfold atI at h
  cases e : ixN xs.length i with
  | none => rw [e] at h; cases h
  | some j =>
    rw [e] at h
    obtain ⟨h1, h2, h3, h4⟩ := ixN_seq e
    exact ⟨j, h1, h, h2, h3, h4⟩
theorem atI_nat {α : Type} {xs : List α} {j : Nat} {v : α} (h : xs[j]? = some v) : atI xs (j : Int) = some v := by
  have hj : j < xs.length := (List.getElem?_eq_some_iff.mp h).1
  have e : ixN xs.length (j : Int) = some j := by
    unfold ixN
    rw [if_pos (by omega), if_pos (by omega)]; simp
  unfold atI; rw [e]; exact h
def PlainIx (b : Expr) : Prop := ∀ o i, subscripted b false o i = operate [o, i] (getItem o i)
def IxR (X : Cx) (r : R2) : Prop :=
  ∀ (value slice : Expr) (pins : List (Addr × Obj)) (s : Shared) (σ : St) (H : Hp) (x y : V) (v u : Value) (Q : VK), Inv X pins σ H s → RelV x v → RelV y u → r x y H Q →
    subscripted slice false v u = operate [v, u] (getItem v u) → wpAny (model X.prog X.w) X.A (subscriptTail value slice v u) (EP X pins σ Q) X.xe s
def MtR (X : Cx) (id : String) (r : V → List V → Hp → VK → Prop) : Prop :=
  ∀ (pins : List (Addr × Obj)) (s : Shared) (σ : St) (H : Hp) (x : V) (xs : List V) (v : Value) (us : List Value) (Q : VK), Inv X pins σ H s → RelV x v → Vals xs us → r x xs H Q →
    wpAny (model X.prog X.w) X.A (call (.builtin id) (v :: us)) (EP X pins σ Q) X.xe s
section
variable {X : Cx} {a b : Expr} {ta tb : TE} {pos : Pos}
theorem pe_ix {r : R2} (hr : IxR X r) (ha : PE X a ta) (hb : PE X b tb) (hs : PlainIx b) : PE X (.Subscript a b pos) (tOp r ta tb) := by
  intro pins s σ H Q I h
  exact Subscript_ (binT ha hb I h fun v u s2 x y H2 I2 rx ry q => hr a b pins s2 σ H2 x y v u Q I2 rx ry q (hs _ _))
def rIxL (K : PySem.W.Frag) : R2 := fun x y H Q => ∃ p xs i v, x = .ref p ∧ y = .int i ∧ SqL K H p xs ∧ atI xs i = some v ∧ Q v H
def rIxT (K : PySem.W.Frag) : R2 := fun x y H Q => ∃ p xs i v, x = .ref p ∧ y = .int i ∧ SqT K H p xs ∧ atI xs i = some v ∧ Q v H
def rIxS : R2 := fun x y H Q => ∃ z i c, x = .str z ∧ y = .int i ∧ z.length ≤ sizeLine ∧ atI z.cps.toList i = some c ∧ Q (.str ⟨#[c]⟩) H
theorem ix_list : IxR X (rIxL X.K) := by
  intro value slice pins s σ H x y v u Q I rx ry h hs
  obtain ⟨p, xs, i, z, rfl, rfl, hq, he, q⟩ := h
  cases rx
  obtain ⟨t, rfl⟩ := ry
  obtain ⟨its, r, pl, hz⟩ := I.list hq
  obtain ⟨j, h1, h2, h3, h4, h5⟩ := atI_get he
  obtain ⟨w, ew, rw'⟩ := r.get h2
  have hl := r.length
  have hn := line63
  have fin : EP X pins σ Q w s := ⟨z, H, I, rw', q⟩
  by_cases h0 : 0 ≤ i
  · have hj : i.toNat = j := by
      rw [seqIndex_of h0 h5] at h1
      exact Option.some.inj h1
    exact item_listR pl.isList h0 (by omega) (by rw [hj]; simpa using ew) fin hs
  · have hj : (i + (its.toArray.size : Int)).toNat = j := by
      rw [seqIndex_neg (by omega) h4] at h1
      rw [List.size_toArray, ← hl]
      exact Option.some.inj h1
    exact subscriptTail_builtinR (x := w) pl.isList.typeIs slot_list_getitem.lookup
      (wpAny_getItem_list_neg (Q := fun r s' => r = w ∧ EP X pins σ Q r s') pl.isList (by omega) (by rw [List.size_toArray] <;> omega) (by omega) (by rw [hj]; simpa using ew) ⟨rfl, fin⟩) hs
theorem ix_tup : IxR X (rIxT X.K) := by
  intro value slice pins s σ H x y v u Q I rx ry h hs
  obtain ⟨p, xs, i, z, rfl, rfl, hq, he, q⟩ := h
  cases rx
  obtain ⟨t, rfl⟩ := ry
  obtain ⟨its, r, pl, hz⟩ := I.tuple hq
  obtain ⟨j, h1, h2, h3, h4, h5⟩ := atI_get he
  obtain ⟨w, ew, rw'⟩ := r.get h2
  have hl := r.length
  have hn := line63
  have fin : EP X pins σ Q w s := ⟨z, H, I, rw', q⟩
  exact subscriptTail_builtinR (x := w) pl.typeIs slot_tuple_getitem.lookup
    (getItem_tuple (j := j) (Q := fun r s' => r = w ∧ EP X pins σ Q r s') pl (by omega) (by omega) (by rw [List.size_toArray, ← hl]; exact h1) (by simpa using ew) ⟨rfl, fin⟩) hs
theorem ix_str : IxR X rIxS := by
  intro value slice pins s σ H x y v u Q I rx ry h hs
  obtain ⟨z, i, c, rfl, rfl, hz, he, q⟩ := h
  obtain ⟨t, rfl⟩ := rx
  obtain ⟨t', rfl⟩ := ry
  obtain ⟨j, h1, h2, h3, h4, h5⟩ := atI_get he
  have hl : z.cps.toList.length = z.length := by simp [Str.length]
  rw [hl] at h1 h4 h5
  have hn := line63
  exact tail_any (typeIs_str s z t) slot_str_getitem.lookup (getItem_str (c := c) (by
    have e1 : decide (i < -(2 ^ 63 : Int)) = false := decide_eq_false (by omega)
    have e2 : decide (i ≥ 2 ^ 63) = false := decide_eq_false (by omega)
    rw [e1, e2, Bool.or_false]) (by rw [h1]; simpa using h2) ⟨.str ⟨#[c]⟩, H, I.tok _, ⟨_, rfl⟩, q⟩) hs
theorem mapSeq_set (its : List Value) (n j : Nat) (u : Value) : Obj.mapSeq (·.setIfInBounds j u) { cls := .type "list", data := .seq its.toArray n } = { cls := .type "list", data := .seq (its.set j u).toArray n } := by
  simp [Obj.mapSeq]
theorem Inv.lst {pins : List (Addr × Obj)} {σ : St} {H : Hp} {s : Shared} {p : Addr} {xs : List V} (I : Inv X pins σ H s) (h : H p = some (.lst xs)) :
    ∃ (its : List Value) (n : Nat), Vals xs its ∧ s.heap.get? p = some { cls := .type "list", data := .seq its.toArray n } ∧ xs.length ≤ sizeLine := by
  obtain ⟨z, its, n, r, e⟩ := I.hok p _ h
  exact ⟨its, n, r, e, z⟩
theorem Inv.lstUpd {pins : List (Addr × Obj)} {σ : St} {H : Hp} {s : Shared} {p : Addr} {xs ys : List V} {its its' : List Value} {n n' : Nat} {f : Obj → Obj} (I : Inv X pins σ H s) (h : H p = some (.lst xs))
    (ho : s.heap.get? p = some { cls := .type "list", data := .seq its.toArray n }) (hf : f { cls := .type "list", data := .seq its.toArray n } = { cls := .type "list", data := .seq its'.toArray n' }) (r : Vals ys its') (hz : ys.length ≤ sizeLine) (t : Nat) :
    Inv X pins σ (upd H p (.lst ys)) { s with heap := s.heap.update p f, toks := t } := by
  have e : (s.heap.update p f).get? p = some { cls := .type "list", data := .seq its'.toArray n' } := by
    rw [Heap.get?_update_self f ho (by rw [hf] <;> rfl), hf]
  refine I.write (x := p) (e := p) (by rw [h]; trivial) (.inl rfl) (fun b u hb q => (Heap.get?_update_other _ _ (Ne.symm hb)).trans q) ⟨_, e⟩ ?_
  exact ⟨hz, its', n', r, e⟩
def rSetL : V → V → V → Hp → (Hp → Prop) → Prop := fun o i v H Q => ∃ p xs k j, o = .ref p ∧ i = .int k ∧ H p = some (.lst xs) ∧ ixN xs.length k = some j ∧ Q (upd H p (.lst (xs.set j v)))
theorem set_list : PSet X rSetL := by
  intro pins s σ H o i v ov iv u Q I ro ri rv h
  obtain ⟨p, xs, k, j, rfl, rfl, hp, hj, q⟩ := h
  cases ro
  obtain ⟨t, rfl⟩ := ri
  obtain ⟨its, n, r, ho, hz⟩ := I.lst hp
  obtain ⟨h1, h2, h3, h4⟩ := ixN_seq hj
  have hl := r.length
  have hn := line63
  have I' : Inv X pins σ (upd H p (.lst (xs.set j v))) { s with heap := s.heap.update p (Obj.mapSeq (·.setIfInBounds j u)) } :=
    I.lstUpd hp ho (mapSeq_set its n j u) (r.set rv j) (by rw [List.length_set]; exact hz) s.toks
  by_cases h0 : 0 ≤ k
  · have hk : k.toNat = j := by
      rw [seqIndex_of h0 h4] at h1
      exact Option.some.inj h1
    exact PySem.W.ki_setAt ho h0 (by omega) (by rw [List.size_toArray, ← hl]; exact h4) (by rw [hk]; exact ⟨_, I', q⟩)
  · have hk : (k + (its.toArray.size : Int)).toNat = j := by
      rw [seqIndex_neg (by omega) h3] at h1
      rw [List.size_toArray, ← hl]
      exact Option.some.inj h1
    exact PySem.W.ki_setBack ho (by omega) (by rw [List.size_toArray, ← hl]; exact h3) (by omega) (by rw [hk]; exact ⟨_, I', q⟩)
theorem slice_bounds (lo hi : Option Int) (n : Nat) : (sliceBounds lo hi none n).1 = ((HT.sIx n 0 lo : Nat) : Int) ∧ (sliceBounds lo hi none n).2.1 = ((HT.sIx n n hi : Nat) : Int) ∧ (sliceBounds lo hi none n).2.2 = 1 := by
  refine ⟨?_, ?_, rfl⟩
  · cases lo with
    | none => simp [sliceBounds, HT.sIx]
    | some i =>
      simp only [sliceBounds, HT.sIx, Option.getD_none, show (1 : Int) > 0 by decide, if_true]
      by_cases h : i < 0
      · simp only [h, if_true] <;> omega
      · simp only [h, if_false] <;> omega
  · cases hi with
    | none => simp [sliceBounds, HT.sIx]
    | some i =>
      simp only [sliceBounds, HT.sIx, Option.getD_none, show (1 : Int) > 0 by decide, if_true]
      by_cases h : i < 0
      · simp only [h, if_true] <;> omega
      · simp only [h, if_false] <;> omega
theorem slicePick_cut (its : List Value) (lo hi : Option Int) : slicePick its.toArray lo hi none = ((its.drop (HT.sIx its.length 0 lo)).take (HT.sIx its.length its.length hi - HT.sIx its.length 0 lo)).toArray := by
  obtain ⟨h1, h2, h3⟩ := slice_bounds lo hi its.toArray.size
  unfold slicePick
  rw [h1, h2, h3]
  simp only [sliceRange_one, pick_run, List.size_toArray] <;> rfl
def rSlL (K : PySem.W.Frag) : V → Option Int → Option Int → Hp → VK → Prop := fun x lo hi H Q => ∃ a xs, x = .ref a ∧ SqL K H a xs ∧ ∀ p, H p = none → Q (.ref p) (upd H p (.lst (cutV xs lo hi)))
theorem sl_list : SlR X (rSlL X.K) := by
  intro pins s σ H x v vl vu lo hi sl Q I rx hs pl pu h
  obtain ⟨a, xs, rfl, hx, q⟩ := h
  cases rx
  obtain ⟨its, r, ht, hz⟩ := I.list hx
  have hlen := r.length
  refine ⟨"list", _, slot_list_getitem.lookup, ht.isList.typeIs, ?_⟩
  refine wpAny_getItem_list_slice ht.isList hs pl pu .none (by simp) ?_ (by rw [List.size_toArray] <;> omega)
  rw [slicePick_cut, ← hlen]
  refine ⟨.ref s.heap.objs.size, _, I.laid (t' := s.toks) (o := .lst (cutV xs lo hi)) (fun b ob q => Heap.get?_push_of_some _ q) (Nat.le_refl _) ?_, rfl, q _ (I.hok.fresh (Nat.le_refl _))⟩
  exact ⟨Nat.le_trans (cutV_length xs lo hi) hz, _, 0, (r.drop (HT.sIx xs.length 0 lo)).take (HT.sIx xs.length xs.length hi - HT.sIx xs.length 0 lo), Heap.get?_push_size _ rfl⟩
def flatV : V → Bool
  | .non => true
  | .bl _ => true
  | .int _ => true
  | .str _ => true
  | _ => false
def eqV : V → V → Bool
  | .non, .non => true
  | .bl a, .bl b => a == b
  | .bl a, .int b => (if a then 1 else 0) == b
  | .int a, .bl b => a == (if b then 1 else 0)
  | .int a, .int b => a == b
  | .str a, .str b => a == b
  | _, _ => false
theorem eqAt_V {A : Around} {s : Shared} {y x : V} {u v : Value} (ry : RelV y u) (rx : RelV x v) (fy : flatV y = true) (fx : flatV x = true) : SeqAt.EqAt A s u v (eqV y x) := by
  cases y with
  | non =>
    cases ry
    cases x with
    | non => cases rx; exact SeqAt.EqAt.same _
    | bl b => cases rx; exact SeqAt.EqAt.none_bool b
    | int b => obtain ⟨t, rfl⟩ := rx; exact SeqAt.EqAt.none_int b t
    | str b => obtain ⟨t, rfl⟩ := rx; exact SeqAt.EqAt.none_str b t
    | _ => exact absurd (show false = true from fx) Bool.false_ne_true
  | bl a =>
    cases ry
    cases x with
    | non => cases rx; exact SeqAt.EqAt.bool_none a
    | bl b => cases rx; exact SeqAt.EqAt.bool_bool a b
    | int b => obtain ⟨t, rfl⟩ := rx; exact SeqAt.EqAt.bool_int a b t
    | str b => obtain ⟨t, rfl⟩ := rx; exact SeqAt.EqAt.bool_str a b t
    | _ => exact absurd (show false = true from fx) Bool.false_ne_true
  | int a =>
    obtain ⟨t', rfl⟩ := ry
    cases x with
    | non => cases rx; exact SeqAt.EqAt.int_none a t'
    | bl b => cases rx; exact SeqAt.EqAt.int_bool a t' b
    | int b => obtain ⟨t, rfl⟩ := rx; exact SeqAt.EqAt.int_int a t' b t
    | str b => obtain ⟨t, rfl⟩ := rx; exact SeqAt.EqAt.int_str a t' b t
    | _ => exact absurd (show false = true from fx) Bool.false_ne_true
  | str a =>
    obtain ⟨t', rfl⟩ := ry
    cases x with
    | non => cases rx; exact SeqAt.EqAt.str_none a t'
    | bl b => cases rx; exact SeqAt.EqAt.str_bool a t' b
    | int b => obtain ⟨t, rfl⟩ := rx; exact SeqAt.EqAt.str_int a t' b t
    | str b => obtain ⟨t, rfl⟩ := rx; exact SeqAt.EqAt.str_str a t' b t
    | _ => exact absurd (show false = true from fx) Bool.false_ne_true
  | _ => exact absurd (show false = true from fy) Bool.false_ne_true
def eqU (x : V) (u : Value) : Bool := match u with
  | .none => eqV .non x
  | .bool b => eqV (.bl b) x
  | .int i _ => eqV (.int i) x
  | .str z _ => eqV (.str z) x
  | _ => false
theorem eqU_of {x y : V} {u : Value} (r : RelV y u) (f : flatV y = true) : eqU x u = eqV y x := by
  cases y with
  | non => cases r; rfl
  | bl b => cases r; rfl
  | int i => obtain ⟨t, rfl⟩ := r; rfl
  | str z => obtain ⟨t, rfl⟩ := r; rfl
  | _ => exact absurd (show false = true from f) Bool.false_ne_true
theorem any_eqU {x : V} : ∀ {xs : List V} {us : List Value}, Vals xs us → xs.all flatV = true → us.any (eqU x) = xs.any fun y => eqV y x
  | _, _, .nil, _ => rfl
  | y :: xs, u :: us, .cons r t, f => by
    rw [List.all_cons, Bool.and_eq_true] at f
    rw [List.any_cons, List.any_cons, eqU_of r f.1, any_eqU t f.2]
theorem mem_eqAt {A : Around} {s : Shared} {x : V} {v : Value} (rx : RelV x v) (fx : flatV x = true) : ∀ {xs : List V} {us : List Value}, Vals xs us → xs.all flatV = true → ∀ u ∈ us, SeqAt.EqAt A s u v (eqU x u)
  | _, _, .nil, _ => fun u hu => by cases hu
  | y :: xs, u :: us, .cons r t, f => fun u' hu => by
    rw [List.all_cons, Bool.and_eq_true] at f
    rcases List.mem_cons.mp hu with rfl | hu
    · rw [eqU_of r f.1]; exact eqAt_V r rx f.1 fx
    · exact mem_eqAt rx fx t f.2 u' hu
def inV (x : V) (xs : List V) : Bool := xs.any fun y => eqV y x
def rIn (K : PySem.W.Frag) (neg : Bool) : R2 := fun x y H Q => ∃ p xs, y = .ref p ∧ (SqL K H p xs ∨ SqT K H p xs) ∧ flatV x = true ∧ xs.all flatV = true ∧ Q (.bl (if neg then !inV x xs else inV x xs)) H
theorem op_in_seq : OpR X (compareOp .In) (rIn X.K false) := by
  intro pins s σ H x y v u Q I rx ry h
  obtain ⟨p, xs, rfl, hq, fx, fs, q⟩ := h
  cases ry
  rcases hq with hq | hq
  · obtain ⟨its, r, pl, hz⟩ := I.list hq
    refine SeqAt.in_listAt (eqU x) pl.isList (fun w hw => mem_eqAt rx fx r fs w (by simpa using hw)) ⟨.bl _, H, I, rfl, ?_⟩
    rw [show its.toArray.any (eqU x) = its.any (eqU x) by simp, any_eqU r fs]
    exact q
  · obtain ⟨its, r, pl, hz⟩ := I.tuple hq
    refine SeqAt.in_tupleAt (eqU x) pl (fun w hw => mem_eqAt rx fx r fs w (by simpa using hw)) ⟨.bl _, H, I, rfl, ?_⟩
    rw [show its.toArray.any (eqU x) = its.any (eqU x) by simp, any_eqU r fs]
    exact q
theorem op_notIn_str : OpR X (compareOp .NotIn) (fun x y H Q => ∃ i j, x = .str i ∧ y = .str j ∧ Q (.bl (!(!(Builtin.Str.occurrences j i 0 j.length 1).isEmpty))) H) := by
  intro pins s σ H x y v u Q I rx ry h
  obtain ⟨i, j, rfl, rfl, q⟩ := h
  obtain ⟨t, rfl⟩ := rx
  obtain ⟨t', rfl⟩ := ry
  exact notIn_str ⟨.bl _, H, I, rfl, q⟩
theorem call_len_seq : CallR X (.builtin "len") (fun xs H Q => ∃ p ys, xs = [.ref p] ∧ (SqL X.K H p ys ∨ SqT X.K H p ys) ∧ Q (.int ys.length) H) := by
  intro pins s σ H xs us Q I r h
  obtain ⟨p, ys, rfl, hq, q⟩ := h
  obtain ⟨u, rfl, rx⟩ := vals1 r
  cases rx
  have hn := line63
  rcases hq with hq | hq
  · obtain ⟨its, r', pl, hz⟩ := I.list hq
    have hlen := r'.length
    exact Calls.call_len_list pl.isList (by simp only [List.size_toArray] <;> omega) ⟨.int ys.length, H, I.tok _, ⟨s.toks + 1, by rw [List.size_toArray, hlen]⟩, q⟩
  · obtain ⟨its, r', pl, hz⟩ := I.tuple hq
    have hlen := r'.length
    exact len_tuple pl (by simp only [List.size_toArray] <;> omega) ⟨.int ys.length, H, I.tok _, ⟨s.toks + 1, by rw [List.size_toArray, hlen]⟩, q⟩
theorem call_len_str : CallR X (.builtin "len") (fun xs H Q => ∃ z, xs = [.str z] ∧ z.length ≤ sizeLine ∧ Q (.int z.length) H) := by
  intro pins s σ H xs us Q I r h
  obtain ⟨z, rfl, hz, q⟩ := h
  obtain ⟨u, rfl, t, rfl⟩ := vals1 r
  have hn := line63
  exact len_str (by omega) ⟨.int z.length, H, I.tok _, ⟨_, rfl⟩, q⟩
theorem call_tuple_of : CallR X (.type "tuple") (fun xs H Q => ∃ p ys, xs = [.ref p] ∧ ((SqL X.K H p ys ∧ ∀ l, H l = none → Q (.ref l) (upd H l (.tup ys))) ∨ (SqT X.K H p ys ∧ Q (.ref p) H))) := by
  intro pins s σ H xs us Q I r h
  obtain ⟨p, ys, rfl, h⟩ := h
  obtain ⟨u, rfl, rx⟩ := vals1 r
  cases rx
  rcases h with ⟨hq, q⟩ | ⟨hq, q⟩
  · obtain ⟨its, r', pl, hz⟩ := I.list hq
    have hlen := r'.length
    refine call_tuple_list pl.isList (fun h' kp => ?_) (by simp only [List.size_toArray] <;> omega)
    have I1 : Inv X pins σ H { s with heap := h' } := I.kept (t' := s.toks) kp
    have I2 : Inv X pins σ (upd H h'.objs.size (.tup ys)) { s with heap := h'.push { cls := .type "tuple", data := .seq its.toArray } } :=
      I1.laid (t' := s.toks) (fun b o e => Heap.get?_push_of_some _ e) (Nat.le_refl _) (show ObjOk X.prog X.w _ _ _ (.tup ys) from ⟨hz, its, r', IsTup.new _ _⟩)
    exact ⟨.ref h'.objs.size, _, I2, rfl, q _ (I1.hok.fresh (Nat.le_refl _))⟩
  · obtain ⟨its, r', pl, hz⟩ := I.tuple hq
    exact call_tuple_same pl ⟨.ref p, H, I, rfl, q⟩
def tyV (K : PySem.W.Frag) (T : String) (x : V) (H : Hp) : Prop := match x with
  | .str _ => T = "str"
  | .int _ => T = "int"
  | .ref p => (T = "list" ∧ ∃ xs, SqL K H p xs) ∨ (T = "tuple" ∧ ∃ o, K.lookup p = some o ∧ o.cls = .type "tuple" ∧ o.dict = none) ∨
      (T = "dict" ∧ ((∃ kvs, H p = some (.dK kvs)) ∨ ∃ kvs, H p = some (.dT kvs))) ∨ (T = "set" ∧ ∃ S n, H p = some (.set S n))
  | _ => False
theorem tyV_is {pins : List (Addr × Obj)} {σ : St} {H : Hp} {s : Shared} {T : String} {x : V} {v : Value} (I : Inv X pins σ H s) (r : RelV x v) (ty : tyV X.K T x H) :
    s.TypeIs v T ∧ ∀ a, v = .ref a → ∃ ob, s.heap.get? a = some ob ∧ ob.dict = none := by
  cases x with
  | str z =>
    obtain ⟨t, rfl⟩ := r
    cases (show T = "str" from ty)
    exact ⟨typeIs_str s z t, fun _ e => nomatch e⟩
  | int i =>
    obtain ⟨t, rfl⟩ := r
    cases (show T = "int" from ty)
    exact ⟨typeIs_int s i t, fun _ e => nomatch e⟩
  | ref p =>
    cases r
    rcases ty with ⟨rfl, xs, hq⟩ | ⟨rfl, o, hk, hc, hd⟩ | ⟨rfl, hk⟩ | ⟨rfl, S, n, hk⟩
    · obtain ⟨its, _, pl, _⟩ := I.list hq
      refine ⟨pl.isList.typeIs, fun a e => ?_⟩
      cases e
      obtain ⟨o, n, e, c, hd, _⟩ := pl
      exact ⟨o, e, hd⟩
    · refine ⟨⟨o, I.kIn p o hk, hc⟩, fun a e => ?_⟩
      cases e
      exact ⟨o, I.kIn _ o hk, hd⟩
    · have z : ∃ o, s.heap.get? p = some o ∧ o.ExactDict := by
        rcases hk with ⟨kvs, hk⟩ | ⟨kvs, hk⟩
        · obtain ⟨_, _, _, _, o, _, _, e, ex, _⟩ := I.hok p _ hk
          exact ⟨o, e, ex⟩
        · obtain ⟨_, _, _, _, o, _, _, e, ex, _⟩ := I.hok p _ hk
          exact ⟨o, e, ex⟩
      obtain ⟨o, e, ex⟩ := z
      refine ⟨⟨o, e, ex.1⟩, fun a e2 => ?_⟩
      cases e2
      exact ⟨o, e, ex.2.1⟩
    · obtain ⟨o, _, _, _, e, ex, _⟩ := I.hok p _ hk
      refine ⟨⟨o, e, ex.1⟩, fun a e2 => ?_⟩
      cases e2
      exact ⟨o, e, ex.2.1⟩
  | _ => exact False.elim ty
def tBM (K : PySem.W.Frag) (T : String) (r : V → List V → Hp → VK → Prop) (to : TE) (t : TA) : TE := fun σ H Q => to σ H fun x H1 => tyV K T x H1 ∧ t σ H1 fun xs H2 => r x xs H2 Q
variable {o e : Expr} {es : List Expr} {to : TE} {t : TA} {name : Str} {apos cpos : Pos} {T id : String} {r : V → List V → Hp → VK → Prop}
theorem pe_bm (pa : PlainAttrs T) (slot : Slot T name id) (hty : typeOf (.builtin id) = pure (.type "method_descriptor")) (hm : MtR X id r) (ho : PE X o to) (ha : PA X (e :: es) t)
    (hbase : attributeBase o name X.env (eval o X.env) = eval o X.env := by rfl)
    (hfew : ((backTo cpos (starEach (e :: es) X.env)).all (fun x => !x.1) && (backToKw cpos (keywordEach [] X.env)).all (fun x => x.1.isSome)
      && decide ((e :: es).length + ([] : List Keyword).length + (if ([] : List Keyword).isEmpty then 0 else 1) < 30)) = true := by rfl)
    (hline : (apos.endLine == cpos.line) = true := by rfl) (hs : starEach (e :: es) X.env = (false, eval e X.env) :: starEach es X.env := by rfl) (hplain : (backTo cpos (starEach es X.env)).any (·.1) = false := by rfl) :
    PE X (.Call (.Attribute o name apos) (e :: es) [] cpos) (tBM X.K T r to t) := by
  intro pins s σ H Q I h
  refine wpAny_Call_method_late hbase hfew hline rfl (thn (ho pins s σ H _ I h) fun v s1 ⟨x, H1, I1, r1, ty, q1⟩ => ?_)
  obtain ⟨h1, h2⟩ := tyV_is I1 r1 ty
  refine ⟨T, id, pa, slot, hty, h1, h2, ?_⟩
  have hA := ha cpos pins s1 σ H1 _ I1 q1
  rw [hs] at hA ⊢
  refine Calls.callWith_builtin (by show (false || (backTo cpos (starEach es X.env)).any (·.1)) = false; rw [hplain] <;> rfl) (Calls.evalArgs_plain ?_)
  exact thn hA fun us s2 ⟨vs, H2, I2, r2, q2⟩ => hm pins s2 σ H2 x vs v us Q I2 r1 r2 q2
/- xs.append(e), list.index on a module's tuple .. are MtR facts of 06m -/
end
end L2
namespace L2
open PySem PySem.Spec PyProof.Rows
def MtM (X : Cx) (id : String) (r : V → List V → Hp → VK → Prop) : Prop :=
  ∀ (pins : List (Addr × Obj)) (s : Shared) (σ : St) (H : Hp) (x : V) (xs : List V) (v : Value) (us : List Value) (Q : VK), Inv X pins σ H s → RelV x v → Vals xs us → r x xs H Q →
    wpAny (model X.prog X.w) X.A (call (.builtin id) (v :: us)) (EP X pins σ Q) X.xe s
theorem Vals.one : ∀ {x : V} {us : List Value}, Vals [x] us → ∃ u, us = [u] ∧ RelV x u
  | _, _, .cons r .nil => ⟨_, rfl, r⟩
theorem Vals.two : ∀ {x y : V} {us : List Value}, Vals [x, y] us → ∃ u v, us = [u, v] ∧ RelV x u ∧ RelV y v
  | _, _, _, .cons r (.cons q .nil) => ⟨_, _, rfl, r, q⟩
theorem Vals.zero : ∀ {us : List Value}, Vals [] us → us = []
  | _, .nil => rfl
theorem Vals.dropLast {xs : List V} {us : List Value} (h : Vals xs us) : Vals xs.dropLast us.dropLast := by
  induction h with
  | nil => exact .nil
  | cons r t ih =>
    cases t with
    | nil => exact .nil
    | cons q t' => exact .cons r ih
theorem Vals.eraseIdx : ∀ {xs : List V} {us : List Value} (i : Nat), Vals xs us → Vals (xs.eraseIdx i) (us.eraseIdx i)
  | _, _, _, .nil => .nil
  | _, _, 0, .cons _ t => t
  | _, _, i + 1, .cons r t => .cons r (Vals.eraseIdx i t)
theorem Vals.reverse {xs : List V} {us : List Value} (h : Vals xs us) : Vals xs.reverse us.reverse := by
  induction h with
  | nil => exact .nil
  | cons r t ih => rw [List.reverse_cons, List.reverse_cons]; exact Vals.append ih (.cons r .nil)
theorem Vals.rep {xs : List V} {us : List Value} (h : Vals xs us) : ∀ k : Nat, Vals (List.replicate k xs).flatten (List.replicate k us).flatten
  | 0 => .nil
  | k + 1 => by
    rw [List.replicate_succ, List.replicate_succ, List.flatten_cons, List.flatten_cons]
    exact Vals.append h (Vals.rep h k)
theorem foldl_rep (its : List Value) : ∀ (k : Nat) (acc : List Value),
    List.foldl (fun x1 x2 => x1 ++ x2) acc.toArray (List.replicate k its.toArray) = (acc ++ (List.replicate k its).flatten).toArray
  | 0, acc => by simp
  | k + 1, acc => by
    have e : acc.toArray ++ its.toArray = (acc ++ its).toArray := by simp
    have e2 : (acc ++ its) ++ (List.replicate k its).flatten = acc ++ (List.replicate (k + 1) its).flatten := by
      rw [List.replicate_succ, List.flatten_cons, List.append_assoc]
    rw [← e2, ← foldl_rep its k (acc ++ its), ← e, List.replicate_succ, List.foldl_cons]
section
variable {X : Cx} {pins : List (Addr × Obj)} {σ : St} {H : Hp} {s : Shared} {l b : Addr} {xs ys zs : List V}
theorem Inv.lset {its its' : List Value} {n : Nat} {f : Array Value → Array Value} {t' : Nat} (I : Inv X pins σ H s) (hH : H l = some (.lst xs))
    (e : s.heap.get? l = some { cls := .type "list", data := .seq its.toArray n }) (hf : f its.toArray = its'.toArray) (hv : Vals ys its') (hz : ys.length ≤ sizeLine) :
    Inv X pins σ (upd H l (.lst ys)) { s with heap := s.heap.update l (Obj.mapSeq f), toks := t' } := by
  have q := PySem.IsL.update e f
  rw [hf] at q
  refine I.write (x := l) (e := l) (by rw [hH]; exact trivial) (.inl rfl) (fun b' u hb hu => (Heap.get?_update_other s.heap (Obj.mapSeq f) (Ne.symm hb)).trans hu) ⟨_, q⟩ ?_
  exact ⟨hz, its', _, hv, q⟩
theorem Inv.lnew {its : List Value} {t' : Nat} (I : Inv X pins σ H s) (hv : Vals ys its) (hz : ys.length ≤ sizeLine) :
    Inv X pins σ (upd H s.heap.objs.size (.lst ys)) { s with heap := s.heap.push { cls := .type "list", data := .seq its.toArray }, toks := t' } :=
  I.laid (fun _ _ q => Heap.get?_push_of_some _ q) (Nat.le_refl _) ⟨hz, its, 0, hv, Heap.get?_push_size _ rfl⟩
theorem Inv.fresh (I : Inv X pins σ H s) : H s.heap.objs.size = none := I.hok.fresh (Nat.le_refl _)
theorem Inv.lstM (I : Inv X pins σ H s) (hH : H l = some (.lst xs)) : xs.length ≤ sizeLine ∧ ∃ (its : List Value) (n : Nat), Vals xs its ∧ xs.length = its.length ∧ s.heap.get? l = some { cls := .type "list", data := .seq its.toArray n } := by
  obtain ⟨z, its, n, r, e⟩ := I.hok l _ hH
  exact ⟨z, its, n, r, r.length, e⟩
theorem notLongL {n : Nat} (h : n ≤ sizeLine) : Builtin.List.listTooLong n = false := by
  unfold Builtin.List.listTooLong
  exact decide_eq_false (by omega)
end
section
variable {X : Cx}
def rAppend : V → List V → Hp → VK → Prop := fun x vs H Q => ∃ l xs y, x = .ref l ∧ vs = [y] ∧ H l = some (.lst xs) ∧ xs.length < sizeLine ∧ Q .non (upd H l (.lst (xs ++ [y])))
theorem mt_append : MtM X "list.append" rAppend := by
  intro pins s σ H x vs v us Q I rx rv h
  obtain ⟨l, xs, y, rfl, rfl, hH, hz, q⟩ := h
  cases rx
  obtain ⟨u, rfl, ru⟩ := rv.one
  obtain ⟨z, its, n, r, hl, e⟩ := I.lstM hH
  refine call_meets F.slot_list_append ⟨_, e, rfl⟩ F.entry_list_append (F.args_list_append_2 _ _) (PySem.list_append l its.toArray n u (by rw [List.size_toArray]; omega)) ⟨e, ?_⟩
  refine ⟨.non, _, I.lset (its' := its ++ [u]) hH e (by simp) (r.append (.cons ru .nil)) ?_, rfl, q⟩
  rw [List.length_append, List.length_singleton]
  omega
def rExtend : V → List V → Hp → VK → Prop := fun x vs H Q => ∃ l b xs zs, x = .ref l ∧ vs = [.ref b] ∧ H l = some (.lst xs) ∧ H b = some (.lst zs) ∧ xs.length + zs.length ≤ sizeLine ∧ Q .non (upd H l (.lst (xs ++ zs)))
theorem mt_extend : MtM X "list.extend" rExtend := by
  intro pins s σ H x vs v us Q I rx rv h
  obtain ⟨l, b, xs, zs, rfl, rfl, hH, hB, hz, q⟩ := h
  cases rx
  obtain ⟨u, rfl, ru⟩ := rv.one
  cases ru
  obtain ⟨z, its, n, r, hl, e⟩ := I.lstM hH
  obtain ⟨z2, its2, n2, r2, hl2, e2⟩ := I.lstM hB
  have hsz : its.toArray.size + its2.toArray.size ≤ sizeLine := by rw [List.size_toArray, List.size_toArray]; omega
  have hlong : ¬ (!its.toArray.isEmpty && Builtin.List.listTooLong (its.toArray.size + its2.toArray.size)) = true := by
    rw [notLongL hsz, Bool.and_false]
    exact Bool.false_ne_true
  refine call_meets F.slot_list_extend ⟨_, e, rfl⟩ F.entry_list_extend (F.args_list_extend_2 _ _)
    (AutoSeq1.list_extend_list_list_0 l its.toArray n b its2.toArray n2 hlong (by rw [List.size_toArray]; omega) (by omega)) ⟨e, e2, ?_⟩
  refine ⟨.non, _, I.lset (its' := its ++ its2) hH e (by simp) (r.append r2) ?_, rfl, q⟩
  rw [List.length_append]
  omega
def rCat : R2 := fun x y H Q => ∃ l b xs zs, x = .ref l ∧ y = .ref b ∧ H l = some (.lst xs) ∧ H b = some (.lst zs) ∧ xs.length + zs.length ≤ sizeLine ∧ ∀ p, H p = none → Q (.ref p) (upd H p (.lst (xs ++ zs)))
theorem op_cat : OpR X (binaryOp .Add) rCat := by
  intro pins s σ H x y v u Q I rx ry h
  obtain ⟨l, b, xs, zs, rfl, rfl, hH, hB, hz, q⟩ := h
  cases rx
  cases ry
  obtain ⟨z, its, n, r, hl, e⟩ := I.lstM hH
  obtain ⟨z2, its2, n2, r2, hl2, e2⟩ := I.lstM hB
  refine PySem.P.add_list e e2 ?_ (by rw [List.size_toArray, List.size_toArray]; omega)
  have ea : its.toArray ++ its2.toArray = (its ++ its2).toArray := by simp
  rw [ea]
  exact ⟨.ref _, _, I.lnew (t' := s.toks) (r.append r2) (by rw [List.length_append]; omega), rfl, q _ I.fresh⟩
def rRep : R2 := fun x y H Q => ∃ l k xs, x = .ref l ∧ y = .int k ∧ H l = some (.lst xs) ∧ -(2 ^ 63) ≤ k ∧ k < 2 ^ 63 ∧ xs.length * k.toNat ≤ sizeLine ∧
  ∀ p, H p = none → Q (.ref p) (upd H p (.lst (List.replicate k.toNat xs).flatten))
theorem len_rep {α : Type} (xs : List α) (k : Nat) : (List.replicate k xs).flatten.length = k * xs.length := by
  induction k with
  | zero => simp
  | succ k ih => rw [List.replicate_succ, List.flatten_cons, List.length_append, ih, Nat.succ_mul, Nat.add_comm]
theorem op_rep : OpR X (binaryOp .Mult) rRep := by
  intro pins s σ H x y v u Q I rx ry h
  obtain ⟨l, k, xs, rfl, rfl, hH, h1, h2, hz, q⟩ := h
  cases rx
  obtain ⟨t, rfl⟩ := ry
  obtain ⟨z, its, n, r, hl, e⟩ := I.lstM hH
  have hlen : its.toArray.size * k.toNat ≤ sizeLine := by rw [List.size_toArray, ← hl]; exact hz
  have hcap : ¬ its.toArray.size * k.toNat > (2 ^ 63 - 1) / 8 := by
    have : (sizeLine : Nat) ≤ (2 ^ 63 - 1) / 8 := by decide
    omega
  have hfit : ¬ (!Builtin.List.listFitsIndex k) = true := by
    rw [fitsIndex_both h1 h2]
    exact Bool.false_ne_true
  have hlong : ¬ Builtin.List.listTooLong (its.toArray.size * k.toNat) = true := by
    rw [notLongL hlen]
    exact Bool.false_ne_true
  have hnew : List.foldl (fun x1 x2 => x1 ++ x2) #[] (List.replicate (if its.toArray.isEmpty = true then 0 else k.toNat) its.toArray) = (List.replicate k.toNat its).flatten.toArray := by
    have f0 : ∀ m : Nat, List.foldl (fun x1 x2 => x1 ++ x2) #[] (List.replicate m its.toArray) = (List.replicate m its).flatten.toArray := fun m => by
      have := foldl_rep its m []
      rw [List.nil_append] at this
      exact this
    rw [f0]
    cases its with
    | nil => simp
    | cons a r' => rw [if_neg (by simp)]
  refine wpAny_binaryOp_repeat_ref (T := "list") (U := "int") (by decide) ⟨_, e, rfl⟩ (fun s' => typeIs_int s' k t) noFill_list_mul F.fills_int_mul F.slot_int_rmul repeat_list F.slot_int_index.lookup
    (call_meets F.slot_int_rmul (typeIs_int s k t) F.entry_int_rmul (F.args_int_rmul_2 _ _) (int___rmul___int_list k t l its.toArray n)
      ⟨e, rfl, ⟨_, e, rfl⟩, call_meets F.slot_list_mul ⟨_, e, rfl⟩ F.entry_list_mul (F.args_list_mul_2 _ _) (AutoListH.list___mul___list_int_3 l its.toArray n k t hfit hcap hlong) ⟨e, ?_⟩⟩)
  rw [hnew]
  exact ⟨.ref _, _, I.lnew (t' := s.toks) (r.rep k.toNat) (by rw [len_rep, Nat.mul_comm]; exact hz), rfl, q _ I.fresh⟩
end
section
variable {prog : Program} {w : World} {A : Around} {E : Value → Shared → Prop} {s : Shared}
set_option maxRecDepth 100000 in
end
section
variable {X : Cx}
end
end L2
namespace Att
open PySem PySem.W PySem.Calls PyProof.Rows
theorem ints_of_wellAll {P : Params} {h : Heap} : ∀ (ns : List Int) (vs : List Value), WellAll P h vs (ns.map WData.int) → IntsAre vs ns := by
  intro ns
  induction ns with
  | nil =>
    intro vs w
    rw [List.map_nil] at w
    cases w
    exact .nil
  | cons n ns ih =>
    intro vs w
    rw [List.map_cons] at w
    cases w with
    | cons a b =>
      cases a
      exact .cons _ _ (ih _ b)
theorem script_of {l : OpenLaw} {n : Nat} (hn : l.most = some n) {P : Params} {h : Heap} {args : List WData} {vals : List Value}
    (hpre : l.row.toRowW.claim.pre args = true) (hwl : WellAll P h vals args) :
    ∃ a vs ns, vals = [Value.ref a] ∧ args = [WData.list (ns.map WData.int)] ∧ h.get? a = some { cls := .type "list", data := .seq vs.toArray } ∧ IntsAre vs ns ∧ ns.length ≤ n := by
  have hsh : WShape.hasAll [] args [.list .int] = true := (pre_splitW hpre).1
  have hc : l.pre.holds [] { args := args } = true := (pre_splitW hpre).2
  obtain ⟨d, r, rfl, h1, h2⟩ := hasAllW_cons hsh
  obtain rfl := hasAllW_nil h2
  obtain ⟨xs, rfl, h3⟩ := hasW_list h1
  obtain ⟨ns, rfl⟩ := items_int h3
  have hlen : ns.length ≤ n := by
    unfold OpenLaw.pre at hc
    have h4 : (WTm.not (.lt (.lit (.int (n : Int))) (.len (.arg 0)))).holds [] { args := [.list (ns.map .int)] } = true := by
      have h4 := (holds_andW hc).1
      rw [hn] at h4
      exact h4
    have h5 := condW_of h4 (w_not (w_lt w_lit (w_len_list (w_arg rfl))))
    rw [List.length_map] at h5
    refine Nat.le_of_not_lt fun q => ?_
    have q' : (n : Int) < ((ns.length : Nat) : Int) := by omega
    first
      | (rw [decide_eq_true q'] at h5; exact absurd h5 (by decide))
      | (simp at h5; omega)
  cases hwl with
  | cons w1 w2 =>
    cases w2
    cases w1 with
    | list ho hall => exact ⟨_, _, ns, rfl, rfl, ho, ints_of_wellAll ns _ hall, hlen⟩
theorem post_true (l : OpenLaw) (args : List WData) : l.row.toRowW.claim.post args (.bool true) args = true :=
  postW_of (r := l.row.toRowW) (X := (true == true))
    (show WShape.has [] (.bool true) .bool = true by first | rfl | decide | simp [WShape.has, WShape.arms, WShape.armsAll])
    (show (WTm.eq .res (.lit (.bool true))).value [] { args := args, res := some (.bool true), after := args } = some (.bool (true == true)) from w_eq_bool (w_res rfl) w_lit) rfl
theorem attach_call {l : OpenLaw} {n : Nat} {q : Program} {loose : List Str} {XP : (Str → Option Value) → Heap → Prop} {YP : World → Heap → Prop} {d : DefRec}
    (hn : l.most = some n) (hdf : d.params.defaults = [])
    (call : ∀ (w : World) (s₀ s₁ : Shared) (mg mb : Str → Option Value) (fa : Addr) (o : Obj) (pm cd doc : Value) (a : Addr) (vs : List Value) (ns : List Int),
      Ground q loose [] XP w s₀ mg mb s₁.heap → YP w s₁.heap →
      s₁.heap.get? fa = some o → o.data = .func (docDef d.name d.params d.body d.scope pm cd doc) → s₁.heap.CodeRec cd d.name → mg d.name = some (.ref fa) →
      s₁.heap.get? a = some { cls := .type "list", data := .seq vs.toArray } → IntsAre vs ns → ns.length ≤ n → s₁.gens = #[] →
      codeAny (model l.prog w) callerA (.call (.ref fa) ⟨[.ref a], []⟩) (fun r s' => r = .ok (.ret (.bool true)) ∧ OldK s₁.heap s'.heap ∧ s'.os = s₁.os ∧ AllBare s'.gens) s₁) :
    WalkO q loose XP YP l.row.toRowW d [] (fun f vs => PySem.call f vs) := by
  intro w s₀ s₁ mg mb G Y fa o pm cd doc dV kV ho hd hcd hD hmg hg args vals as hpre hlay hrd hwl hlo
  obtain rfl : dV = .none := Dflts.none hD hdf
  obtain rfl : kV = .none := Dflts.noKw hD
  obtain ⟨a, vs, ns, rfl, rfl, hobj, hints, hlen⟩ := script_of hn hpre hwl
  refine enter_call (codeAny_mono (call w s₀ s₁ mg mb fa o pm cd doc a vs ns G Y ho (fd_plain hd) hcd hmg hobj hints hlen hg) fun r s' hq => ?_)
  obtain ⟨rfl, h2, h3, h4⟩ := hq
  exact ⟨.inl ⟨.bool true, .bool true, [], rfl, fun _ => rfl, .bool true, post_true l _, fun _ => ⟨List.Pairwise.nil, fun _ hm => (nomatch hm)⟩⟩, h2, h3, h4⟩
section
variable {prog : Program} {w : World} {A : Around} {E : Value → Shared → Prop} {s : Shared} {K : Frag}
end
end Att
namespace L2
open PySem PySem.Spec PyProof.Rows
theorem vals_ints : ∀ {vs : List Value} {ns : List Int}, IntsAre vs ns → Vals (ns.map V.int) vs
  | _, _, .nil => .nil
  | _, _, .cons n t h => .cons ⟨t, rfl⟩ (vals_ints h)
def Only (H : Hp) : Prop := ∀ b, H b = none ∨ ∃ o xs, H b = some (.frz o (.lst xs))
theorem law_call {P : Program} {w : World} {K : PySem.W.Frag} {mg mb : Str → Option Value} {CX : CXT} {k : Nat} {fa a : Addr} {fd : FuncData} {x : Str} {sp : Sp} {s₁ : Shared} {vs : List Value} {ns : List Int}
    (KX : K.In s₁.heap) (hns : s₁.heap.Ns mainGlobals mg) (hb : s₁.heap.Ns builtinsNs mb) (hbb : ∀ x : Str, x ≠ "__name__" → mb x = bootBuiltins x) (hlim : s₁.heap.NoLimit) (hg : s₁.gens = #[])
    (ha : s₁.heap.get? a = some { cls := .type "list", data := .seq vs.toArray }) (hi : IntsAre vs ns) (hl : ns.length ≤ sizeLine) (hr : Room k callerA)
    (F : ∀ base : Heap, K.In base → base.Ns mainGlobals mg → FnOk P w K mg base CX k fa fd [x] sp) (hbind : ∀ (s : Shared) (u : Value), BindsTo s fd ⟨[u], []⟩ [(x, u)])
    (hsp : ∀ H : Hp, Only H → SqL K H a (ns.map V.int) → sp [.ref a] H (fun v _ => v = .bl true) fun _ _ _ => False)
    (hCX : ∀ H e s', CX [] H s₁ (fun _ _ _ => False) e s' → False) :
    codeAny (model P w) callerA (.call (.ref fa) ⟨[.ref a], []⟩) (fun r s' => r = .ok (.ret (.bool true)) ∧ OldK s₁.heap s'.heap ∧ s'.os = s₁.os ∧ AllBare s'.gens) s₁ := by
  have rv := vals_ints hi
  have lenV := hi.length
  -- from an abstract heap in which nothing but the script may be tracked
  have core : ∀ H : Hp, Only H → SqL K H a (ns.map V.int) → HOk P w H s₁.heap → (∀ b, H b ≠ none → b = a) → (H a ≠ none → K.lookup a = none) →
      codeAny (model P w) callerA (.call (.ref fa) ⟨[.ref a], []⟩) (fun r s' => r = .ok (.ret (.bool true)) ∧ OldK s₁.heap s'.heap ∧ s'.os = s₁.os ∧ AllBare s'.gens) s₁ := by
    intro H hO hS hok hA hK
    have base_of : ∀ {b : Addr} {o : Obj}, s₁.heap.get? b = some o → H b = none → (hidT s₁.heap H).get? b = some o := fun e n => hidT_get e n
    have noA : ∀ {b : Addr} {o : Obj} {es : Array DictEntry} {ep : Nat}, s₁.heap.get? b = some o → o.data = .dict es ep → H b = none := fun {b o es ep} e d => by
      cases q : H b with
      | none => rfl
      | some u =>
        have e' : b = a := hA b (by rw [q]; simp)
        subst e'
        rw [ha] at e; cases e
        have d' : Data.seq vs.toArray _ = Data.dict es ep := d
        cases d'
    have nsK : ∀ {b : Addr} {m : Str → Option Value}, s₁.heap.Ns b m → (hidT s₁.heap H).Ns b m := fun {b m} ⟨o, es, ep, e, d, r⟩ => ⟨o, es, ep, base_of e (noA e d), d, r⟩
    have hKb : K.In (hidT s₁.heap H) := fun b o e => base_of (KX b o e) (by
      cases q : H b with
      | none => rfl
      | some u =>
        have e' : b = a := hA b (by rw [q]; simp)
        subst e'
        rw [hK (by rw [q]; simp)] at e; cases e)
    have hM : Mod K mg (hidT s₁.heap H) := ⟨hKb, nsK hns, ⟨mb, nsK hb, hbb⟩, let ⟨mc, h1, h2⟩ := hlim; ⟨mc, nsK h1, h2⟩⟩
    have e0 : Env0 P w K mg (hidT s₁.heap H) callerA [] s₁ H := ⟨rfl, hM, fun b o e => of_hidT e, Nat.le_of_eq (hidT_size _ _), trivial, fun b hb => absurd (show b ∈ ([] : List Addr) from hb) (by simp), hok, .of_eq hg⟩
    refine codeAny_mono ((F _ hKb (nsK hns)).run callerA [] s₁ H ⟨[.ref a], []⟩ [.ref a] [.ref a] _ _ hr e0 (hbind s₁ (.ref a)) (.cons rfl .nil) (hsp H hO hS)) fun r s' h => ?_
    cases r with
    | error e => exact (hCX H e s' h).elim
    | ok fl =>
      cases fl with
      | next => exact False.elim h
      | brk => exact False.elim h
      | cont => exact False.elim h
      | ret u =>
        obtain ⟨v, H', os, bare, un, hok', r', q⟩ := h
        have q' : v = .bl true := q
        subst q'
        obtain rfl : u = Value.bool true := r'
        refine ⟨rfl, OldK.of_keep fun b o e => ?_, os, bare⟩
        cases q : H b with
        | none => exact un.keep b o e q (by intro z; exact absurd (show b ∈ ([] : List Addr) from z) (by simp)) (by simp)
        | some u =>
          rcases hO b with z | ⟨ob, xs, z⟩
          · rw [q] at z; cases z
          · have z2 := un.frzs b ob _ z
            obtain ⟨e1, _⟩ := hok b _ z
            obtain ⟨e2, _⟩ := hok' b _ z2
            rw [e] at e1; cases e1
            exact e2
  cases hk : K.lookup a with
  | some o =>
    -- the script is one of the module's own objects
    have e := KX a o hk
    rw [ha] at e
    cases e
    refine core (fun _ => none) (fun _ => .inl rfl) (.inr ⟨_, vs.toArray, _, hk, rfl, rfl, rfl, by rw [List.size_toArray, lenV]; exact hl, by simpa using rv⟩) (fun b u z => by have z' : (none : Option HO) = some u := z; cases z') (fun b z => absurd rfl z) fun z => absurd rfl z
  | none =>
    refine core (fun b => if b = a then some (.frz { cls := .type "list", data := .seq vs.toArray } (.lst (ns.map V.int))) else none) (fun b => ?_) (.inl (.inr ⟨{ cls := .type "list", data := .seq vs.toArray }, if_pos rfl⟩)) (fun b u z => ?_) (fun b z => ?_) fun _ => hk
    · by_cases hb : b = a
      · exact .inr ⟨_, _, if_pos hb⟩
      · exact .inl (if_neg hb)
    · by_cases hb : b = a
      · have z' := (if_pos hb).symm.trans z
        cases z'
        subst hb
        exact ⟨ha, by rw [List.length_map]; exact hl, vs, _, rv, ha⟩
      · have z' := (if_neg hb).symm.trans z
        cases z'
    · by_cases hb : b = a
      · exact hb
      · exact absurd (if_neg hb) z
end L2
namespace L2
open PySem PySem.Spec PyProof.Rows
theorem walk_of {l : PySem.W.OpenLaw} {n k : Nat} {q : Program} {loose : List Str} {XP : (Str → Option Value) → Heap → Prop} {YP : World → Heap → Prop} {d : DefRec} {K : Params → PySem.W.Frag} {CX : World → CXT} {sp : World → Sp} {x : Str}
    (hn : l.most = some n) (hn2 : n ≤ sizeLine) (hdf : d.params.defaults = []) (hr : Room k callerA)
    (hY : ∀ (w : World) (h : Heap), YP w h → (K w.params).In h)
    (F : ∀ (w : World) (mg : Str → Option Value) (fa : Addr) (h : Heap), (K w.params).In h → h.Ns mainGlobals mg → mg d.name = some (.ref fa) →
      ∃ fd : FuncData, (∀ (s : Shared) (u : Value), BindsTo s fd ⟨[u], []⟩ [(x, u)]) ∧
        ∀ base : Heap, (K w.params).In base → base.Ns mainGlobals mg → FnOk l.prog w (K w.params) mg base (CX w) k fa fd [x] (sp w))
    (hsp : ∀ (w : World) (H : Hp) (a : Addr) (ns : List Int), ns.length ≤ n → Only H → SqL (K w.params) H a (ns.map V.int) → sp w [.ref a] H (fun v _ => v = .bl true) fun _ _ _ => False)
    (hCX : ∀ (w : World) (H : Hp) (s : Shared) (e : Value) (s' : Shared), CX w [] H s (fun _ _ _ => False) e s' → False) :
    PySem.W.WalkO q loose XP YP l.row.toRowW d [] (fun f vs => PySem.call f vs) := by
  refine Att.attach_call hn hdf fun w s₀ s₁ mg mb fa o pm cd doc a vs ns G Y ho hd hcd hmg hobj hints hlen hg => ?_
  have KX := hY w _ Y
  obtain ⟨fd, hb, hF⟩ := F w mg fa _ KX G.T.g hmg
  exact law_call KX G.T.g G.T.b G.T.builtins G.T.nolimit hg hobj hints (Nat.le_trans hlen hn2) hr hF hb (fun H hO hS => hsp w H a ns hlen hO hS) fun H e s' => hCX w H s₁ e s'
end L2
/- THE LAST THEOREM (shape; LID, My.* are yours):
   My.Adr: a structure of the addresses that your layer names (classes, functions); My.Txt K t: a structure (Prop) of the equations over K;
   My.txt_mk : {K} {implicit addresses ..} (e1 : nsIn K mainGlobals "law" = some (some (.ref f))) (e2 : K.lookup f = some ⟨oc, od, .func (fnOf "law" "law" params body scope dV kV doc pm an cdv ct), sl⟩) (e3 : codeIn K cdv "law" = true) .. : ∃ t, My.Txt K t
set_option maxRecDepth 100000 in
set_option maxHeartbeats 0 in
(the tactic k_is has no namespace: write k_is) -/
namespace L2
open PySem PySem.Spec PyProof.Rows
def defArgs (s : Stmt) : Arguments := match s with
  | .FunctionDef _ a _ _ _ _ _ _ _ _ => a
  | _ => { posonlyargs := [], args := [], vararg := none, kwonlyargs := [], kw_defaults := [], kwarg := none, defaults := [] }
def defBody (s : Stmt) : List Stmt := match s with
  | .FunctionDef _ _ b _ _ _ _ _ _ _ => b
  | _ => []
def defScope (s : Stmt) : Scope := match s with
  | .FunctionDef _ _ _ _ _ _ sc _ _ _ => sc
  | _ => { kind := .function, names := [], isGenerator := false, isCoroutine := false }
abbrev CX0 : CXT := fun _ _ _ _ _ _ => False
abbrev E0 : XK := fun _ _ _ => False
theorem pass0 {X : Cx} : Passes CX0 X E0 := fun _ _ _ _ _ _ _ h => h.elim
structure Fun (K : PySem.W.Frag) (x qual : Str) (st : Stmt) (f : Addr) (fd : FuncData) : Prop where
  ex : ∃ (oc : Value) (od : Option Addr) (kV doc pm : Value) (an : Option Addr) (cdv ct : Value) (osl : Array (Option Value)),
    fd = PySem.W.fnOf x qual (defArgs st) (defBody st) (defScope st) .none kV doc pm an cdv ct ∧ K.lookup f = some ⟨oc, od, .func fd, osl⟩ ∧ PySem.W.codeIn K cdv qual = true
  kp : PySem.W.keepIn K (.ref f) = true
section
variable {P : Program} {w : World} {K : PySem.W.Frag} {mg : Str → Option Value} {base : Heap}
theorem Fun.ok {x qual : Str} {st : Stmt} {f : Addr} {fd : FuncData} {N ps : List Str} {k : Nat} {sp : Sp} (F : Fun K x qual st f fd) (S : FnScope N ps (defScope st)) (len : ∀ vs H Q E, sp vs H Q E → vs.length = ps.length)
    (hbody : ∀ (cdv : Value) (A : Around) (outer : List Env) (s : Shared) (H : Hp) (vs : List V) (Q : VK) (E : XK), Room k (A.deeper (envOfC qual (defScope st) s.heap.objs.size f cdv)) → sp vs H Q E →
      ∃ t, PSs (cxOf CX0 P w K mg base N qual (defScope st) f cdv A outer s H E).nox (defBody st) t ∧ t { nx := fun _ H' => Q .non H', rt := Q } (start N vs) H) : FnOk P w K mg base CX0 (k + 1) f fd ps sp := by
  obtain ⟨oc, od, kV, doc, pm, an, cdv, ct, osl, rfl, lk, hcd⟩ := F.ex
  refine fn_of lk hcd S len fun A outer s H vs Q E hr hsp => ?_
  obtain ⟨t, h, q⟩ := hbody cdv A outer s H vs Q E hr hsp
  exact ⟨t, h.nox, q⟩
theorem Fun.binds {x qual : Str} {st : Stmt} {f : Addr} {fd : FuncData} {ps : List Str} (F : Fun K x qual st f fd)
    (h : ∀ (kV doc pm : Value) (an : Option Addr) (cdv ct : Value) (us : List Value), us.length = ps.length → bindArgs (PySem.W.fnOf x qual (defArgs st) (defBody st) (defScope st) .none kV doc pm an cdv ct) ⟨us, []⟩ = pure (ps.zip us)) : Binds K fd ps [] := by
  obtain ⟨oc, od, kV, doc, pm, an, cdv, ct, osl, rfl, lk, hcd⟩ := F.ex
  exact .all (h kV doc pm an cdv ct)
theorem fun_mk {x qual : Str} {st : Stmt} {f : Addr} {oc : Value} {od an : Option Addr} {osl : Array (Option Value)} {kV doc pm cdv ct : Value} (l : K.lookup f = some ⟨oc, od, .func (PySem.W.fnOf x qual (defArgs st) (defBody st) (defScope st) .none kV doc pm an cdv ct), osl⟩)
    (c : PySem.W.codeIn K cdv qual = true) (k : PySem.W.keepIn K (.ref f) = true) : Fun K x qual st f (PySem.W.fnOf x qual (defArgs st) (defBody st) (defScope st) .none kV doc pm an cdv ct) := ⟨⟨oc, od, kV, doc, pm, an, cdv, ct, osl, rfl, l, c⟩, k⟩
end
theorem small1000 {n : Nat} (h : n ≤ 1000) : n < sizeLine := Nat.lt_of_le_of_lt h (by decide)
section
variable {X : Cx}
theorem pv (i : Nat) {x : Str} {pos : Pos} (hN : X.N[i]? = some x := by rfl) (hv : Vis X.env.scope x := by first | exact Or.inl rfl | exact Or.inr (Or.inl rfl) | exact Or.inr (Or.inr rfl)) (hd : (x == ("__debug__" : Str)) = false := by decide)
    (hcd : (x == ("__classdict__" : Str)) = false := by decide) : PE X (.Name x pos) (tVar i) := pe_var hN hv hd hcd
end
theorem iteF {A B : Prop} (h : B) : if false = true then A else B := by
  rw [if_neg Bool.false_ne_true]
  exact h
theorem iteT {A B : Prop} (h : A) : if true = true then A else B := by
  rw [if_pos rfl]
  exact h
theorem ite2 {c A B : Prop} [Decidable c] (h1 : c → A) (h2 : ¬ c → B) : if c then A else B := by
  by_cases h : c
  · rw [if_pos h]
    exact h1 h
  · rw [if_neg h]
    exact h2 h
theorem iteNS {c A B : Prop} [Decidable c] (hc : c) (h : B) : if (!decide c) = true then A else B := by
  rw [decide_eq_true hc]
  exact iteF h
def Same (H H' : Hp) : Prop := ∀ b o, H b = some o → H' b = some o
theorem Same.refl (H : Hp) : Same H H := fun _ _ h => h
theorem Same.trans {H H1 H2 : Hp} (a : Same H H1) (b : Same H1 H2) : Same H H2 := fun c o h => b c o (a c o h)
theorem Same.free {H H' : Hp} (e : Same H H') {l : Addr} (h : H' l = Option.none) : H l = Option.none := by
  cases q : H l with
  | none => rfl
  | some o =>
    rw [e l o q] at h
    cases h
theorem Same.seq {K : PySem.W.Frag} {H H' : Hp} {a : Addr} {xs : List V} (e : Same H H') (h : SqL K H a xs) : SqL K H' a xs := by
  rcases h with (h | ⟨o, h⟩) | h
  · exact .inl (.inl (e _ _ h))
  · exact .inl (.inr ⟨o, e _ _ h⟩)
  · exact .inr h
end L2
set_option maxHeartbeats 4000000
namespace L2
open PySem PySem.Spec PyProof.Rows
section
variable {κ : Type} [DecidableEq κ]
def valV (kvs : List (κ × V)) (k : κ) : Option V := (kvs.find? fun kv => decide (kv.1 = k)).map (·.2)
def putK (kvs : List (κ × V)) (k : κ) (v : V) : List (κ × V) :=
  if (kvs.any fun kv => decide (kv.1 = k)) = true then kvs.map (fun kv => if kv.1 = k then (kv.1, v) else kv) else kvs ++ [(k, v)]
def dropK (kvs : List (κ × V)) (k : κ) : List (κ × V) := kvs.filter fun kv => decide (kv.1 ≠ k)
theorem valV_pos {p : κ × V} {r : List (κ × V)} {k : κ} (e : p.1 = k) : valV (p :: r) k = some p.2 := by simp [valV, List.find?_cons, e]
theorem valV_neg {p : κ × V} {r : List (κ × V)} {k : κ} (e : ¬ p.1 = k) : valV (p :: r) k = valV r k := by simp [valV, List.find?_cons, e]
theorem valV_any (k : κ) : ∀ kvs : List (κ × V), (kvs.any fun kv => decide (kv.1 = k)) = (valV kvs k).isSome
  | [] => rfl
  | p :: r => by
    rw [List.any_cons]
    by_cases e : p.1 = k
    · simp only [valV_pos e, decide_eq_true e, Bool.true_or, Option.isSome_some]
    · rw [valV_neg e, decide_eq_false e, Bool.false_or]; exact valV_any k r
theorem RelO.isSome_eq {o : Option V} {u : Option Value} (r : RelO o u) : o.isSome = u.isSome := by
  cases o with
  | none => cases u with
    | none => rfl
    | some _ => exact (show False from r).elim
  | some _ => cases u with
    | none => exact (show False from r).elim
    | some _ => rfl
theorem RelO.getD {o : Option V} {u : Option Value} {d : V} {d' : Value} (r : RelO o u) (rd : RelV d d') : RelV (o.getD d) (u.getD d') := by
  cases o with
  | none => cases u with
    | none => exact rd
    | some _ => exact (show False from r).elim
  | some _ => cases u with
    | none => exact (show False from r).elim
    | some _ => exact r
theorem KV.val {kvs : List (κ × V)} {vs : List (κ × Value)} (r : KV kvs vs) (k : κ) : RelO (valV kvs k) (valueAt vs k) := by
  unfold KV at r
  induction r with
  | nil => exact True.intro
  | @cons p q ps qs h t ih =>
    obtain ⟨h1, h2⟩ := h
    by_cases e : p.1 = k
    · have e' : q.1 = k := h1.symm.trans e
      have b : valueAt (q :: qs) k = some q.2 := by simp [valueAt, List.find?_cons, e']
      rw [valV_pos e, b]; exact h2
    · have e' : ¬ q.1 = k := fun z => e (h1.trans z)
      have b : valueAt (q :: qs) k = valueAt qs k := by simp [valueAt, List.find?_cons, e']
      rw [valV_neg e, b]; exact ih
theorem KV.any {kvs : List (κ × V)} {vs : List (κ × Value)} (r : KV kvs vs) (k : κ) : (kvs.any fun kv => decide (kv.1 = k)) = vs.any fun kv => decide (kv.1 = k) := by
  unfold KV at r
  induction r with
  | nil => rfl
  | cons h t ih => rw [List.any_cons, List.any_cons, ih, h.1]
theorem KV.repl {kvs : List (κ × V)} {vs : List (κ × Value)} (r : KV kvs vs) (k : κ) {y : V} {u : Value} (ry : RelV y u) :
    KV (kvs.map fun kv => if kv.1 = k then (kv.1, y) else kv) (vs.map fun kv => if kv.1 = k then (kv.1, u) else kv) := by
  unfold KV at r ⊢
  induction r with
  | nil => exact .nil
  | @cons p q ps qs h t ih =>
    rw [List.map_cons, List.map_cons]
    refine .cons ?_ ih
    obtain ⟨h1, h2⟩ := h
    by_cases e : p.1 = k
    · rw [if_pos e, if_pos (h1.symm.trans e)]; exact ⟨h1, ry⟩
    · rw [if_neg e, if_neg (fun z => e (h1.trans z))]; exact ⟨h1, h2⟩
theorem KV.put {kvs : List (κ × V)} {vs : List (κ × Value)} (r : KV kvs vs) (k : κ) {y : V} {u : Value} (ry : RelV y u) : KV (putK kvs k y) (stored vs k u) := by
  unfold putK stored
  rw [r.any k]
  by_cases e : (vs.any fun kv => decide (kv.1 = k)) = true
  · rw [if_pos e, if_pos e]; exact r.repl k ry
  · rw [if_neg e, if_neg e]; exact Paired.snoc r ⟨rfl, ry⟩
theorem KV.drop {kvs : List (κ × V)} {vs : List (κ × Value)} (r : KV kvs vs) (k : κ) : KV (dropK kvs k) (without vs k) := by
  unfold KV at r ⊢
  unfold dropK without
  induction r with
  | nil => exact .nil
  | @cons p q ps qs h t ih =>
    obtain ⟨h1, h2⟩ := h
    rw [List.filter_cons, List.filter_cons]
    by_cases e : p.1 = k
    · have a : ¬ decide (p.1 ≠ k) = true := by simp [e]
      have b : ¬ decide (q.1 ≠ k) = true := by simp [h1.symm.trans e]
      rw [if_neg a, if_neg b]; exact ih
    · have e' : ¬ q.1 = k := fun z => e (h1.trans z)
      have a : decide (p.1 ≠ k) = true := by simp [e]
      have b : decide (q.1 ≠ k) = true := by simp [e']
      rw [if_pos a, if_pos b]; exact .cons ⟨h1, h2⟩ ih
theorem KV.length {kvs : List (κ × V)} {vs : List (κ × Value)} (r : KV kvs vs) : kvs.length = vs.length := Paired.length r
end
abbrev KT (H : Hp) : List (List Key × V) → List (List Key × Addr × Value) → Prop := Paired fun p q => p.1 = q.1 ∧ H q.2.1 = some (.tup (p.1.map kV)) ∧ RelV p.2 q.2.2
theorem KT.val {H : Hp} {kvs : List (List Key × V)} {xs : List (List Key × Addr × Value)} (r : KT H kvs xs) (k : List Key) : RelO (valV kvs k) ((atKey xs k).map (·.2)) := by
  induction r with
  | nil => exact True.intro
  | @cons p q ps qs h t ih =>
    obtain ⟨h1, _, h2⟩ := h
    by_cases e : p.1 = k
    · have e' : q.1 = k := h1.symm.trans e
      have b : atKey (q :: qs) k = some q.2 := by simp [atKey, List.find?_cons, e']
      rw [valV_pos e, b]; exact h2
    · have e' : ¬ q.1 = k := fun z => e (h1.trans z)
      have b : atKey (q :: qs) k = atKey qs k := by simp [atKey, List.find?_cons, e']
      rw [valV_neg e, b]; exact ih
theorem KT.repl {H : Hp} {kvs : List (List Key × V)} {xs : List (List Key × Addr × Value)} (r : KT H kvs xs) (k : List Key) {y : V} {u : Value} (ry : RelV y u) :
    KT H (kvs.map fun kv => if kv.1 = k then (kv.1, y) else kv) (xs.map (putAt k u)) := by
  induction r with
  | nil => exact .nil
  | @cons p q ps qs h t ih =>
    rw [List.map_cons, List.map_cons]
    refine .cons ?_ ih
    obtain ⟨h1, h2, h3⟩ := h
    unfold putAt
    by_cases e : p.1 = k
    · rw [if_pos e, if_pos (h1.symm.trans e)]; exact ⟨h1, h2, ry⟩
    · rw [if_neg e, if_neg (fun z => e (h1.trans z))]; exact ⟨h1, h2, h3⟩
theorem KT.put {H : Hp} {kvs : List (List Key × V)} {xs : List (List Key × Addr × Value)} (r : KT H kvs xs) (k : List Key) {b : Addr} {y : V} {u : Value} (hb : H b = some (.tup (k.map kV))) (ry : RelV y u) :
    KT H (putK kvs k y) (storedH xs k b u) := by
  have e : (kvs.any fun kv => decide (kv.1 = k)) = (atKey xs k).isSome := by
    rw [valV_any, (r.val k).isSome_eq, Option.isSome_map]
  unfold putK storedH
  rw [e]
  by_cases q : (atKey xs k).isSome = true
  · rw [if_pos q, if_pos q]; exact r.repl k ry
  · rw [if_neg q, if_neg q]; exact Paired.snoc r ⟨rfl, hb, ry⟩
theorem KT.keeps {H H' : Hp} {kvs : List (List Key × V)} {xs : List (List Key × Addr × Value)} (r : KT H kvs xs) (ht : ∀ b ys, H b = some (.tup ys) → H' b = some (.tup ys)) : KT H' kvs xs :=
  Paired.mapP r fun _ _ z => ⟨z.1, ht _ _ z.2.1, z.2.2⟩
section
variable {P : Program} {w : World} {H : Hp} {h : Heap} {a : Addr}
end
def DGet (H : Hp) (a : Addr) (y : V) (r : Option V) : Prop :=
  (∃ kvs k, Rd H a (.dK kvs) ∧ y = kV k ∧ r = valV kvs k) ∨ ∃ kvs k b, Rd H a (.dT kvs) ∧ y = .ref b ∧ H b = some (.tup (k.map kV)) ∧ r = valV kvs k
def DPut (H : Hp) (a : Addr) (y v : V) (H' : Hp) : Prop :=
  (∃ kvs k, H a = some (.dK kvs) ∧ y = kV k ∧ kvs.length < sizeLine ∧ H' = upd H a (.dK (putK kvs k v))) ∨
  ∃ kvs k b, H a = some (.dT kvs) ∧ y = .ref b ∧ H b = some (.tup (k.map kV)) ∧ kvs.length < sizeLine ∧ H' = upd H a (.dT (putK kvs k v))
theorem DGet.k {H : Hp} {a : Addr} {kvs : List (Key × V)} {k : Key} (e : H a = some (.dK kvs)) : DGet H a (kV k) (valV kvs k) := .inl ⟨kvs, k, .inl e, rfl, rfl⟩
theorem DGet.t {H : Hp} {a b : Addr} {kvs : List (List Key × V)} {k : List Key} (e : H a = some (.dT kvs)) (eb : H b = some (.tup (k.map kV))) : DGet H a (.ref b) (valV kvs k) := .inr ⟨kvs, k, b, .inl e, rfl, eb, rfl⟩
theorem DPut.k {H : Hp} {a : Addr} {kvs : List (Key × V)} {k : Key} {v : V} (e : H a = some (.dK kvs)) (hl : kvs.length < sizeLine) : DPut H a (kV k) v (upd H a (.dK (putK kvs k v))) := .inl ⟨kvs, k, e, rfl, hl, rfl⟩
theorem DPut.t {H : Hp} {a b : Addr} {kvs : List (List Key × V)} {k : List Key} {v : V} (e : H a = some (.dT kvs)) (eb : H b = some (.tup (k.map kV))) (hl : kvs.length < sizeLine) :
    DPut H a (.ref b) v (upd H a (.dT (putK kvs k v))) := .inr ⟨kvs, k, b, e, rfl, eb, hl, rfl⟩
section
variable {X : Cx} {pins : List (Addr × Obj)} {σ : St} {H : Hp} {s : Shared} {a : Addr} {y v : V} {u r : Value} {o : Option V} {A : Around} {E : Value → Shared → Prop}
end
section
variable {X : Cx} {pins : List (Addr × Obj)} {σ : St} {H : Hp} {s : Shared} {a : Addr} {kvs : List (Key × V)} {k : Key} {u : Value} {A : Around} {E : Value → Shared → Prop}
end
section
variable {X : Cx} {o i e value : Expr} {pos pos' tpos : Pos} {td ty tv : TE}
end
section
variable {X : Cx} {pos : Pos}
end
structure M1 (X : Cx) (o : Expr) (m : Str) (apos : Pos) (e : Expr) (cpos : Pos) : Prop where
  base : attributeBase o m X.env (eval o X.env) = eval o X.env
  few : ((backTo cpos (starEach [e] X.env)).all (fun x => !x.1) && (backToKw cpos (keywordEach [] X.env)).all (fun x => x.1.isSome)
    && decide (([e] : List Expr).length + ([] : List Keyword).length + (if ([] : List Keyword).isEmpty then 0 else 1) < 30)) = true
  line : (apos.endLine == cpos.line) = true
  trees : backTo cpos (starEach [e] X.env) = [(false, eval e X.env)]
structure M2 (X : Cx) (o : Expr) (m : Str) (apos : Pos) (e f : Expr) (cpos : Pos) : Prop where
  base : attributeBase o m X.env (eval o X.env) = eval o X.env
  few : ((backTo cpos (starEach [e, f] X.env)).all (fun x => !x.1) && (backToKw cpos (keywordEach [] X.env)).all (fun x => x.1.isSome)
    && decide (([e, f] : List Expr).length + ([] : List Keyword).length + (if ([] : List Keyword).isEmpty then 0 else 1) < 30)) = true
  line : (apos.endLine == cpos.line) = true
  trees : backTo cpos (starEach [e, f] X.env) = [(false, eval e X.env), (false, eval f X.env)]
section
variable {X : Cx} {pins : List (Addr × Obj)} {σ : St} {H : Hp} {s : Shared} {a : Addr} {y d : V} {u r : Value} {o : Option V} {A : Around} {E : Value → Shared → Prop}
end
section
variable {X : Cx} {o e f : Expr} {apos cpos : Pos} {td ty tx : TE}
end
section
variable {X : Cx} {pins : List (Addr × Obj)} {σ : St} {H : Hp} {s : Shared} {a : Addr} {kvs : List (Key × V)} {A : Around} {E : Value → Shared → Prop}
end
section
variable {X : Cx} {pins : List (Addr × Obj)} {σ : St} {H : Hp} {s : Shared} {a : Addr} {y : V} {u : Value} {A : Around} {E : Value → Shared → Prop}
end
end L2
namespace L2
open PySem PySem.Spec PyProof.Rows
theorem forIn_step {α β : Type} {f : α → β → Sem (ForInStep β)} {g : β → α → β} : ∀ (l : List α) (c : β), (∀ x ∈ l, ∀ c, f x c = pure (.yield (g c x))) → forIn l c f = pure (l.foldl g c)
  | [], c, _ => rfl
  | x :: l, c, h => by
    rw [List.forIn_cons, h x List.mem_cons_self, pure_bind]
    exact forIn_step l (g c x) fun y hy => h y (List.mem_cons_of_mem _ hy)
def clStep (env : Env) (c : List (Str × Addr)) (x : Str × NameKind) : List (Str × Addr) := if x.2 == .free then (x.1, (env.cells.lookup x.1).getD 0) :: c else c
theorem clStep_free {env : Env} {c : List (Str × Addr)} {n : Str} {a : Addr} (e : env.cells.lookup n = some a) : clStep env c (n, .free) = (n, a) :: c := by
  unfold clStep
  rw [if_pos (by rfl)]
  show (n, (env.cells.lookup n).getD 0) :: c = _
  rw [e]; rfl
theorem clStep_not {env : Env} {c : List (Str × Addr)} {n : Str} {k : NameKind} (h : k ≠ .free) : clStep env c (n, k) = c := by
  unfold clStep
  rw [if_neg (by simpa using h)]
theorem look_cons {x n : Str} {a : Addr} {c : List (Str × Addr)} : ((n, a) :: c).lookup x = if x = n then some a else c.lookup x := by
  by_cases h : x = n
  · subst h; simp
  · rw [if_neg h, List.lookup_cons, show (x == n) = false by simpa using h]
theorem cl_fold {env : Env} : ∀ (l : List (Str × NameKind)) (c : List (Str × Addr)), (∀ x ∈ l, x.2 = .free → ∃ a, env.cells.lookup x.1 = some a) → (∀ x a, c.lookup x = some a → env.cells.lookup x = some a) →
    (∀ x a, (l.foldl (clStep env) c).lookup x = some a → env.cells.lookup x = some a) ∧ (∀ x, (∃ a, c.lookup x = some a) → ∃ a, (l.foldl (clStep env) c).lookup x = some a) ∧
    (∀ y ∈ l, y.2 = .free → ∃ a, (l.foldl (clStep env) c).lookup y.1 = some a)
  | [], c, _, h2 => ⟨h2, fun _ h => h, fun y hy => absurd hy (by simp)⟩
  | (n, k) :: l, c, h1, h2 => by
    have h1' : ∀ x ∈ l, x.2 = .free → ∃ a, env.cells.lookup x.1 = some a := fun x hx => h1 x (List.mem_cons_of_mem _ hx)
    rw [List.foldl_cons]
    by_cases hk : k = .free
    · subst hk
      obtain ⟨a0, e0⟩ := h1 (n, .free) List.mem_cons_self rfl
      rw [clStep_free e0]
      obtain ⟨q1, q2, q3⟩ := cl_fold l ((n, a0) :: c) h1' fun x a e => by
        rw [look_cons] at e
        split at e
        · rename_i hx; rw [hx, ← e]; exact e0
        · exact h2 x a e
      refine ⟨q1, fun x ⟨a, e⟩ => q2 x ?_, fun y hy hf => ?_⟩
      · rw [look_cons]; split
        · exact ⟨_, rfl⟩
        · exact ⟨a, e⟩
      · rcases List.mem_cons.mp hy with rfl | hy
        · exact q2 _ ⟨a0, by rw [look_cons, if_pos rfl]⟩
        · exact q3 y hy hf
    · rw [clStep_not hk]
      obtain ⟨q1, q2, q3⟩ := cl_fold l c h1' h2
      refine ⟨q1, q2, fun y hy hf => ?_⟩
      rcases List.mem_cons.mp hy with rfl | hy
      · exact absurd hf hk
      · exact q3 y hy hf
theorem closure_ok {sc : Scope} {env : Env} (h : ∀ x ∈ sc.names, x.2 = .free → ∃ a, env.cells.lookup x.1 = some a) : closureFor sc env = pure (sc.names.foldl (clStep env) []) := by
  simp only [closureFor]
  rw [forIn_step (g := clStep env) sc.names [] (fun x hx c => ?_)]
  · rfl
  · obtain ⟨n, k⟩ := x
    by_cases hk : k = .free
    · subst hk
      obtain ⟨a, e⟩ := h _ hx rfl
      rw [clStep_free e]
      have e' : cellOf env n = pure a := by unfold cellOf; rw [show env.cells.lookup n = some a from e]
      simp [e']
    · rw [clStep_not hk]
      simp [hk]
theorem lc_loop {prog : Program} {w : World} {A : Around} {R : Result → Shared → Prop} {s : Shared} {elt tg it₀ : Expr} {ifs : List Expr} {sc : Scope} {pos : Pos} {it acc : Value} {env : Env} (J : Nat → Shared → Prop)
    (step : ∀ k st, J k st → wpAny (model prog w) A (pyNext it) (fun r st1 => match r with
      | none => R (.ok .next) st1
      | some v => wpAny (model prog w) A (letOwnedTupleGo tg it v) (fun _ st2 => wpAny (model prog w) A (assign tg env v) (fun _ st3 =>
          wpAny (model prog w) A (forIn ifs true fun c r => if r = true then do let ok ← isTrue c env (eval c env); pure (ForInStep.yield ok) else pure (ForInStep.yield r)) (fun ok st4 =>
            if ok = true then wpAny (model prog w) A (eval elt env) (fun x st5 => wpAny (model prog w) A (call (.builtin "list.append") [acc, x]) (fun _ st6 => ∃ m, m < k ∧ J m st6) (fun _ _ => False) st5) (fun _ _ => False) st4
            else ∃ m, m < k ∧ J m st4) (fun _ _ => False) st3) (fun _ _ => False) st2) (fun _ _ => False) st1) (fun _ _ => False) st)
    (k₀ : Nat) (h₀ : J k₀ s) : codeAny (model prog w) A (.compLoop (.ListComp elt [⟨tg, it₀, ifs, 0⟩] sc pos) 0 it acc env) R s := by
  refine codeAny_loop rfl J (fun k st hJ => ?_) k₀ h₀
  show wpAny _ A ((compTurn (.ListComp elt [⟨tg, it₀, ifs, 0⟩] sc pos) 0 it acc env).onRaise (fun x => do noteFrame x env; theTreesLotGoes x)) _ _ st
  refine wpAny_noted ?_
  rw [compTurn_list]
  refine wpAny_bind (wpAny_standAt (wpAny_bind (wpAny_mono (step k st hJ) (fun r st1 q1 => ?_) fun _ _ z => z.elim)))
  cases r with
  | none => exact wpAny_pure q1
  | some v =>
    refine wpAny_bind (wpAny_mono q1 (fun _ st2 q2 => ?_) fun _ _ z => z.elim)
    refine wpAny_bind (wpAny_mono q2 (fun _ st3 q3 => wpAny_bind (wpAny_mono q3 (fun ok st4 q4 => ?_) fun _ _ z => z.elim)) fun _ _ z => z.elim)
    cases ok with
    | false => exact wpAny_pure ⟨rfl, q4⟩
    | true => exact wpAny_bind (wpAny_bind (wpAny_mono q4 (fun x st5 q5 => wpAny_bind (wpAny_mono q5 (fun _ st6 q6 => wpAny_pure (wpAny_pure ⟨rfl, q6⟩)) fun _ _ z => z.elim)) fun _ _ z => z.elim))
theorem relabel_look (c : Str → NameKind → Bool) (x : Str) : ∀ names : List (Str × NameKind), (names.map fun (n, k) => if c n k = true then (n, NameKind.cell) else (n, k)).lookup x = (names.lookup x).map fun k => if c x k = true then NameKind.cell else k
  | [] => rfl
  | (n, k) :: r => by
    have ih := relabel_look c x r
    rw [List.map_cons]
    by_cases h : x = n
    · subst h
      by_cases hc : c x k = true
      · simp [hc]
      · simp [hc]
    · have hb : (x == n) = false := by simpa using h
      have e1 : ((if c n k = true then (n, NameKind.cell) else (n, k)) :: (r.map fun (n, k) => if c n k = true then (n, NameKind.cell) else (n, k))).lookup x = (r.map fun (n, k) => if c n k = true then (n, NameKind.cell) else (n, k)).lookup x := by
        by_cases hc : c n k = true
        · rw [if_pos hc, List.lookup_cons, hb]
        · rw [if_neg hc, List.lookup_cons, hb]
      refine e1.trans (ih.trans ?_)
      rw [List.lookup_cons, hb]
theorem relabel_kind {sc : Scope} {env : Env} {x : Str} : (relabel sc env).names.lookup x = (sc.names.lookup x).map fun k => if (k == .free && env.scope.kind == .function && env.kindOf x == some .cell) = true then NameKind.cell else k :=
  relabel_look (fun n k => k == .free && env.scope.kind == .function && env.kindOf n == some .cell) x sc.names
theorem relabel_free {sc : Scope} {env : Env} {x : Str} (h : sc.names.lookup x = some .free) : (relabel sc env).names.lookup x = some .cell ∨ (relabel sc env).names.lookup x = some .free := by
  rw [relabel_kind, h, Option.map_some]
  split
  · exact .inl rfl
  · exact .inr rfl
theorem relabel_of {sc : Scope} {env : Env} {x : Str} (hc : sc.names.lookup x ≠ some .cell) (h : (relabel sc env).names.lookup x = some .cell ∨ (relabel sc env).names.lookup x = some .free) : sc.names.lookup x = some .free := by
  rw [relabel_kind] at h
  cases e : sc.names.lookup x with
  | none => rw [e] at h; simp at h
  | some k =>
    rw [e, Option.map_some] at h
    cases k <;> simp_all
theorem Inv.adopt {X : Cx} {pins : List (Addr × Obj)} {σ : St} {H : Hp} {s : Shared} {a : Addr} {o : HO} (I : Inv X pins σ H s) (hn : H a = none) (ho : ObjOk X.prog X.w (upd H a o) s.heap a o) (hs : X.s₀.heap.objs.size ≤ a) (hL : a ≠ X.env.locals)
    (hc : ∀ x c, X.env.cells.lookup x = some c → c ≠ a) (hp : ∀ p ∈ X.pn ++ pins, p.1 ≠ a) : Inv X pins σ (upd H a o) s := by
  have ne : ∀ b u, H b = some u → b ≠ a := fun b u e z => by rw [z, hn] at e; cases e
  refine ⟨I.ok, I.os, I.bare, ⟨I.base.keep, I.base.slot, fun b u e n hx => ?_, I.base.there, fun b xs e => ?_, fun b u v e => ?_, fun b ps e => ?_⟩, I.loc, I.cell, ?_, fun x c e => ?_, fun p q => ?_, fun b u e => ?_, I.len⟩
  · rw [upd_ne (Nat.ne_of_lt (Nat.lt_of_lt_of_le (Heap.lt_size e) hs))]
    exact I.base.free b u e n hx
  · have q := I.base.tups b xs e
    rw [upd_ne (ne _ _ q)]; exact q
  · have q := I.base.frzs b u v e
    rw [upd_ne (ne _ _ q)]; exact q
  · obtain ⟨m, q⟩ := I.base.tbls b ps e
    exact ⟨m, by rw [upd_ne (ne _ _ q)]; exact q⟩
  · rw [upd_ne hL.symm]; exact I.free
  · rw [upd_ne (hc x c e)]; exact I.freeC x c e
  · obtain ⟨q1, q2, q3⟩ := I.pin p q
    exact ⟨q1, by rw [upd_ne (hp p q)]; exact q2, q3⟩
  · by_cases hb : b = a
    · subst hb
      rw [upd_same] at e
      cases e
      exact ho
    · rw [upd_ne hb] at e
      exact (I.hok b u e).stay (fun _ _ _ q => q) (fun c q => by rw [upd_ne (ne _ _ q)]; exact q) fun c xs q => by rw [upd_ne (ne _ _ q)]; exact q
structure LcScope (N : List Str) (osc sc : Scope) (NB : List Str) (nt : Nat) (fr : List Nat) : Prop where
  kind : sc.kind = .function
  nocell : ∀ y ∈ sc.names, y.2 ≠ .cell
  locs : ∀ y ∈ sc.names, y.2 = .local → sc.names.lookup y.1 = some .local
  len : NB.length = nt + fr.length
  frN : ∀ (j i : Nat), fr[j]? = some i → NB[nt + j]? = N[i]?
  frF : ∀ (j : Nat) (x : Str), j < fr.length → NB[nt + j]? = some x → sc.names.lookup x = some .free
  out : ∀ y ∈ sc.names, y.2 = .free → osc.names.lookup y.1 = some .cell ∨ osc.names.lookup y.1 = some .free
def lcOk (N : List Str) (osc sc : Scope) (NB : List Str) (nt : Nat) (fr : List Nat) : Bool :=
  decide (sc.kind = .function) && sc.names.all (fun y => !decide (y.2 = .cell)) && sc.names.all (fun y => !decide (y.2 = .local) || decide (sc.names.lookup y.1 = some .local)) && decide (NB.length = nt + fr.length) &&
  (List.range fr.length).all (fun j => decide (NB[nt + j]? = N[fr.getD j 0]?) && (match NB[nt + j]? with | some x => decide (sc.names.lookup x = some .free) | none => false)) &&
  sc.names.all (fun y => !decide (y.2 = .free) || (decide (osc.names.lookup y.1 = some .cell) || decide (osc.names.lookup y.1 = some .free)))
theorem lcOk.mk {N : List Str} {osc sc : Scope} {NB : List Str} {nt : Nat} {fr : List Nat} (h : lcOk N osc sc NB nt fr = true) : LcScope N osc sc NB nt fr := by
  unfold lcOk at h
  simp only [Bool.and_eq_true, List.all_eq_true, decide_eq_true_eq, Bool.or_eq_true, Bool.not_eq_true', decide_eq_false_iff_not, List.mem_range] at h
  obtain ⟨⟨⟨⟨⟨h1, h2⟩, h3⟩, h4⟩, h5⟩, h6⟩ := h
  have lt : ∀ {j i : Nat}, fr[j]? = some i → j < fr.length := fun e => (List.getElem?_eq_some_iff.mp e).1
  refine ⟨h1, fun y hy => h2 y hy, fun y hy e => (h3 y hy).resolve_left fun z => z e, h4, fun j i e => ?_, fun j x hj e => ?_, fun y hy e => (h6 y hy).resolve_left fun z => z e⟩
  · have q := (h5 j (lt e)).1
    rw [q]
    rw [show fr.getD j 0 = i by rw [List.getD_eq_getElem?_getD, e]; rfl]
  · have q := (h5 j hj).2
    rw [e] at q
    simpa using q
abbrev Cx.blk (X : Cx) (NB : List Str) (sc : Scope) (cl : List (Str × Addr)) (C : Addr) (s₀ : Shared) (H₀ : Hp) (ex : List Addr) : Cx :=
  { X with N := NB, s₀ := s₀, H₀ := H₀, env := compEnvC sc cl C X.env, outer := X.stack, ex := ex, fn := fun _ => false, pn := [], xe := fun _ _ => False }
def lcSt (nt : Nat) (fr : List Nat) (σ : St) : St := List.replicate nt none ++ fr.map fun i => (σ[i]?).join
theorem blk_inv {X : Cx} {pins : List (Addr × Obj)} {σ : St} {H : Hp} {s3 s4 : Shared} {sc : Scope} {NB : List Str} {nt : Nat} {fr : List Nat} {cl : List (Str × Addr)} {C : Addr} {ex : List Addr} (I : Inv X pins σ H s3) (S : LcScope X.N X.env.scope sc NB nt fr)
    (P1 : ∀ x a, cl.lookup x = some a → X.env.cells.lookup x = some a) (P2 : ∀ y ∈ sc.names, y.2 = .free → ∃ a, cl.lookup y.1 = some a)
    (hC : C = s3.heap.objs.size) (hn : ∃ m, s4.heap.Ns C m) (hk : ∀ b o, s3.heap.get? b = some o → s4.heap.get? b = some o) (hos : s4.os = s3.os) (hgn : s4.gens = s3.gens)
    (hex : ∀ b ∈ ex, FpOk X pins H b ∧ b < s3.heap.objs.size) : Inv (X.blk NB sc cl C s3 H ex) [] (lcSt nt fr σ) H s4 := by
  have hcell : ∀ x, sc.names.lookup x ≠ some .cell := fun x e => S.nocell _ (PySem.mem_of_lookup e) rfl
  have isC : ∀ c v, s3.heap.IsCell c v → s4.heap.IsCell c v := fun c v ⟨o, ho, hd⟩ => ⟨o, hk _ _ ho, hd⟩
  obtain ⟨m, hn⟩ := hn
  refine ⟨⟨I.ok.mod, S.kind, I.ok.glob, I.ok.blt, Nat.le_of_eq hC.symm, fun x y c e1 e2 => I.ok.inj x y c (P1 x c e1) (P1 y c e2), fun x hx => ?_, fun x c h => ?_, I.ok.hd, I.ok.frames, .inl rfl, fun b hb => ?_, I.bs, Nat.le_trans I.ok.bsz I.sz, fun b o e hb => ?_, fun b hb hf => ?_, I.stack, I.stkFree⟩,
    hos, hgn ▸ I.bare, Un.kept hk, ⟨m, hn, fun j x v e1 e2 e3 => ?_⟩, fun x c e => ?_, I.hok.fresh (Nat.le_of_eq hC.symm), fun x c e => I.freeC x c (P1 x c e), fun p hp => absurd (show p ∈ ([] : List (Addr × Obj)) from hp) (by simp), I.hok.kept hk, ?_⟩
  · exact P2 (x, .free) (PySem.mem_of_lookup (relabel_of (hcell x) hx)) rfl
  · exact Bool.noConfusion (show false = true from h)
  · obtain ⟨f, hl⟩ := hex b hb
    exact ⟨by rw [hC]; exact Nat.ne_of_lt hl, fun x c e => f.2.2.2.2.1 x c (P1 x c e)⟩
  · obtain ⟨f, _⟩ := hex b hb
    rcases f.2.2.2.1 with z | z
    · exact I.ok.noex b o e z
    · exact absurd (Nat.lt_of_lt_of_le (Nat.lt_of_lt_of_le (Heap.lt_size e) I.ok.bsz) z) (Nat.lt_irrefl _)
  · obtain ⟨f, _⟩ := hex b hb
    rcases List.mem_cons.mp (I.stkSub b hf) with z | z
    · exact f.2.1 z
    · exact f.2.2.1 z
  · have e2' : (List.replicate nt none ++ fr.map fun i => (σ[i]?).join)[j]? = some (some v) := e2
    by_cases hj : j < nt
    · rw [List.getElem?_append_left (by simpa using hj), List.getElem?_replicate, if_pos hj] at e2'
      cases e2'
    · rw [List.getElem?_append_right (by simpa using Nat.le_of_not_lt hj), List.length_replicate, List.getElem?_map] at e2'
      obtain ⟨k, rfl⟩ : ∃ k, j = nt + k := ⟨j - nt, by omega⟩
      rw [show nt + k - nt = k by omega] at e2'
      cases ei : fr[k]? with
      | none => rw [ei] at e2'; cases e2'
      | some i =>
        rw [ei] at e2'
        have e2'' : (σ[i]?).join = some v := Option.some.inj e2'
        have es : σ[i]? = some (some v) := by
          cases q : σ[i]? with
          | none => rw [q] at e2''; cases e2''
          | some w' => rw [q] at e2''; exact congrArg some e2''
        have kl : k < fr.length := (List.getElem?_eq_some_iff.mp ei).1
        have ex' : X.N[i]? = some x := by rw [← S.frN k i ei]; exact e1
        have ef := S.frF k x kl e1
        have eo := S.out _ (PySem.mem_of_lookup ef) rfl
        obtain ⟨m', _, hl⟩ := I.loc
        obtain ⟨u, r, l⟩ := hl i x v ex' es (eo.elim (fun z => .inr (.inl z)) fun z => .inr (.inr z))
        refine ⟨u, r, .inr ⟨relabel_free ef, ?_⟩⟩
        obtain ⟨c, ec⟩ := P2 _ (PySem.mem_of_lookup ef) rfl
        refine ⟨c, ec, ?_⟩
        rcases l with ⟨z, _⟩ | ⟨_, c', ec', hc'⟩
        · have z' : X.env.scope.names.lookup x = some .local := z
          rcases eo with q | q
          · rw [show X.env.scope.names.lookup x = _ from q] at z'; cases z'
          · rw [show X.env.scope.names.lookup x = _ from q] at z'; cases z'
        · have := P1 x c ec
          rw [ec'] at this
          cases this
          exact isC _ _ hc'
  · obtain ⟨v, z⟩ := I.cell x c (P1 x c e)
    exact ⟨v, isC _ _ z⟩
  · show (List.replicate nt none ++ fr.map fun i => (σ[i]?).join).length = NB.length
    rw [List.length_append, List.length_replicate, List.length_map, S.len]
def PTs (X : Cx) (ifs : List Expr) (t : TT) : Prop :=
  ∀ (pins : List (Addr × Obj)) (s : Shared) (σ : St) (H : Hp) (Q : Bool → Hp → Prop), Inv X pins σ H s → t σ H Q →
    wpAny (model X.prog X.w) X.A (forIn ifs true fun c r => if r = true then do let ok ← isTrue c X.env (eval c X.env); pure (ForInStep.yield ok) else pure (ForInStep.yield r)) (TP X pins σ Q) X.xe s
def tYes : TT := fun _ H Q => Q true H
theorem pts_nil {X : Cx} : PTs X [] tYes := fun _ _ _ H _ I h => wpAny_tests_nil ⟨H, I, h⟩
theorem pts_one {X : Cx} {c : Expr} {t : TT} (h : PT X c t) : PTs X [c] t := fun pins s σ H Q I q => wpAny_tests_one (h pins s σ H Q I q)
def LcW (J : It) (g : TG) (tc : TT) (te : TE) (Fin : List V → Hp → Prop) (σ₀ : St) (H : Hp) : Prop := ∃ W : Nat → Nat → St → List V → Hp → Prop, (∃ m, W 0 m σ₀ [] H) ∧ ∀ i m σ ys H, W i m σ ys H → ys.length < sizeLine ∧
  ((J.stop i H ∧ Fin ys H) ∨ (J.go i H ∧ ∃ N : St → List V → Hp → Prop, (∀ σ' ys' H', N σ' ys' H' → ∃ m', m' < m ∧ W (i + 1) m' σ' ys' H') ∧
    ∀ x H', J.yld i H x H' → g x σ H' fun σ2 H2 => tc σ2 H2 fun b H3 => if b = true then te σ2 H3 fun v H4 => N σ2 (ys ++ [v]) H4 else N σ2 ys H3))
def tLC (nt : Nat) (fr : List Nat) (wi : TI) (g : TG) (tc : TT) (te : TE) : TE := fun σ H Q => wi σ H fun J H1 => LcW J g tc te (fun ys H2 => ∀ D, H2 D = none → Q (.ref D) (upd H2 D (.lst ys))) (lcSt nt fr σ) H1
theorem lc_core {X : Cx} {pins : List (Addr × Obj)} {σ : St} {H2 : Hp} {s2 : Shared} {sc : Scope} {NB : List Str} {nt : Nat} {fr : List Nat} {cl : List (Str × Addr)} {tg iter elt : Expr} {ifs : List Expr} {pos : Pos} {g : TG} {tc : TT} {te : TE} {J : It} {fp : List Addr} {it : Addr}
    {tn : Nat → Heap → Prop} {Fin : List V → Hp → Prop} {E : Value → Shared → Prop} (hcalm : X.calm = true) (S : LcScope X.N X.env.scope sc NB nt fr)
    (P1 : ∀ x a, cl.lookup x = some a → X.env.cells.lookup x = some a) (P2 : ∀ y ∈ sc.names, y.2 = .free → ∃ a, cl.lookup y.1 = some a)
    (hg : ∀ cl C s₀ H₀ ex, PG (X.blk NB sc cl C s₀ H₀ ex) tg g) (ht : ∀ cl C s₀ H₀ ex, PTs (X.blk NB sc cl C s₀ H₀ ex) ifs tc) (he : ∀ cl C s₀ H₀ ex, PE (X.blk NB sc cl C s₀ H₀ ex) elt te)
    (I2 : Inv X pins σ H2 s2) (T : Turn X.prog X.w X.K tg J fp it tn) (st2 : tn 0 s2.heap) (f2 : ∀ b ∈ fp, FpOk X pins H2 b) (hw : LcW J g tc te Fin (lcSt nt fr σ) H2) {RR : Value → Addr → Result → Shared → Prop}
    (hRR : ∀ D C s' H' ys, Fin ys H' → H' D = none → Inv X pins σ (upd H' D (.lst ys)) s' → FpOk X pins (upd H' D (.lst ys)) C → (∃ m, s'.heap.Ns C m) → RR (.ref D) C (.ok .next) s') :
    wpAny (model X.prog X.w) X.A (newList []) (fun acc s₃ => wpAny (model X.prog X.w) X.A (newFunctionEnv sc X.env.globals cl [] X.env.qual none .none (some X.env)) (fun cenv s₄ =>
      codeAny (model X.prog X.w) X.A (.compStart (.ListComp elt [⟨tg, iter, ifs, 0⟩] sc pos) 0 (.ref it) acc { cenv with scope := relabel sc X.env }) (RR acc cenv.locals) s₄) E s₃) E s2 := by
  obtain ⟨W, ⟨m0, w0⟩, turn⟩ := hw
  refine wpAny_newObj_type (wpAny_newFunctionEnv S.nocell (by intro y hy; simp at hy) (fun h1 hns hsb => ?_) S.kind)
  dsimp only at hns hsb ⊢
  generalize hH : s2.heap.push { cls := .type "list", dict := none, data := .seq ([] : List Value).toArray } = hp at hns hsb ⊢
  have eC : hp.objs.size = s2.heap.objs.size + 1 := by rw [← hH, Heap.size_push]
  -- the state with the empty list
  have k3 : ∀ b o, s2.heap.get? b = some o → hp.get? b = some o := fun b o e => by rw [← hH]; exact Heap.get?_push_of_some _ e
  have I3 : Inv X pins σ H2 { s2 with heap := hp } := I2.kept (t' := s2.toks) k3
  have oD : hp.get? s2.heap.objs.size = some { cls := .type "list", data := .seq ([] : List Value).toArray 0 } := by rw [← hH]; exact Heap.get?_push_size _ rfl
  have k4 : ∀ b o, hp.get? b = some o → h1.get? b = some o := fun b o e => hsb.extBut b o (Nat.ne_of_lt (Heap.lt_size e)) (Heap.get?_push_of_some _ e)
  have fD : ∀ (H' : Hp), H' s2.heap.objs.size = none → FpOk X pins H' s2.heap.objs.size := fun H' e => I2.fpOk (Nat.le_refl _) e
  have fC : ∀ (H' : Hp), H' hp.objs.size = none → FpOk X pins H' hp.objs.size := fun H' e => I3.fpOk (Nat.le_refl _) e
  have nD : H2 s2.heap.objs.size = none := I2.hok.fresh (Nat.le_refl _)
  have lfp : ∀ b ∈ fp, b < s2.heap.objs.size := fun b hb => by
    obtain ⟨o, e, _⟩ := T.obj _ _ st2 b hb
    exact Heap.lt_size e
  have hex : ∀ b ∈ s2.heap.objs.size :: fp, FpOk X pins H2 b ∧ b < hp.objs.size := fun b hb => by
    rcases List.mem_cons.mp hb with rfl | hb
    · exact ⟨fD H2 nD, by omega⟩
    · exact ⟨f2 b hb, Nat.lt_of_lt_of_le (lfp b hb) (by rw [eC]; exact Nat.le_succ _)⟩
  have loop : ∀ (s4 : Shared), s4 = { s2 with heap := h1, toks := s2.toks + ([] : List (Str × Value)).length } →
      codeAny (model X.prog X.w) X.A (.compLoop (.ListComp elt [⟨tg, iter, ifs, 0⟩] sc pos) 0 (.ref it) (.ref s2.heap.objs.size) (compEnvC sc cl hp.objs.size X.env)) (RR (.ref s2.heap.objs.size) hp.objs.size) s4 := by
    rintro s4 rfl
    have IB : Inv (X.blk NB sc cl hp.objs.size { s2 with heap := hp } H2 (s2.heap.objs.size :: fp)) [] (lcSt nt fr σ) H2 { s2 with heap := h1, toks := s2.toks + ([] : List (Str × Value)).length } :=
      blk_inv (s3 := { s2 with heap := hp }) I3 S P1 P2 rfl ⟨_, hns⟩ k4 rfl rfl hex
    have stat : ∀ {H' : Hp} {pl : List (Addr × Obj)}, (∀ b ∈ fp, H' b = none) → (∀ p ∈ pl, p.1 = s2.heap.objs.size) → ∀ b ∈ fp, FpOk (X.blk NB sc cl hp.objs.size { s2 with heap := hp } H2 (s2.heap.objs.size :: fp)) pl H' b := fun {H' pl} hn hpl b hb => by
      obtain ⟨f, hl⟩ := hex b (List.mem_cons_of_mem _ hb)
      refine ⟨hn b hb, Nat.ne_of_lt hl, fun z => ?_, .inl (List.mem_cons_of_mem _ hb), fun x c e => f.2.2.2.2.1 x c (P1 x c e), fun p hp' => ?_⟩
      · rcases List.mem_cons.mp (I3.stkSub b z) with q | q
        · exact f.2.1 q
        · exact f.2.2.1 q
      · rw [hpl p hp']
        exact Nat.ne_of_gt (lfp b hb)
    refine lc_loop (fun n s' => ∃ i σ' ys its H', Inv (X.blk NB sc cl hp.objs.size { s2 with heap := hp } H2 (s2.heap.objs.size :: fp)) [] σ' H' s' ∧ tn i s'.heap ∧ (∀ b ∈ fp, H' b = none) ∧ H' s2.heap.objs.size = none ∧
      (∃ e, s'.heap.get? s2.heap.objs.size = some { cls := .type "list", data := .seq (List.toArray its) e }) ∧ Vals ys its ∧ W i n σ' ys H') ?_ m0
      ⟨0, _, [], [], H2, IB, T.keep _ _ _ st2 fun b _ o e => k4 b o (k3 b o e), fun b hb => (f2 b hb).1, nD, ⟨0, k4 _ _ oD⟩, .nil, w0⟩
    rintro n s5 ⟨i, σ5, ys, its, H5, I5, st5, fr5, nD5, ⟨e5, o5⟩, rv, w5⟩
    have pinD : ∀ {σ' : St} {H' : Hp} {s' : Shared} {o : Obj}, Inv (X.blk NB sc cl hp.objs.size { s2 with heap := hp } H2 (s2.heap.objs.size :: fp)) [] σ' H' s' → s'.heap.get? s2.heap.objs.size = some o → (∀ v, o.data ≠ .cell v) → H' s2.heap.objs.size = none →
        Inv (X.blk NB sc cl hp.objs.size { s2 with heap := hp } H2 (s2.heap.objs.size :: fp)) [(s2.heap.objs.size, o)] σ' H' s' := fun {σ' H' s' o} J' eo ed en => J'.pins_of fun p hp' => by
      have ep : p = (s2.heap.objs.size, o) := by simpa using hp'
      subst ep
      refine ⟨eo, en, by show s2.heap.objs.size ≠ hp.objs.size; omega, fun z => ?_, ed⟩
      rcases List.mem_cons.mp (I3.stkSub _ z) with q | q
      · exact (fD H2 nD).2.1 q
      · exact (fD H2 nD).2.2.1 q
    obtain ⟨hlen, way⟩ := turn i n σ5 ys H5 w5
    rcases way with ⟨stop, fin⟩ | ⟨go, N, hN, step⟩
    · refine wpAny_mono (T.done (X.blk NB sc cl hp.objs.size { s2 with heap := hp } H2 (s2.heap.objs.size :: fp)) rfl rfl rfl hcalm i [(s2.heap.objs.size, _)] s5 σ5 H5 (fun _ _ => False) (pinD I5 o5 (fun v z => nomatch z) nD5) (stat fr5 (by simp)) st5 stop) (fun r s6 ⟨hr, I6⟩ => ?_) fun _ _ z => z
      subst hr
      have o6 := (I6.pin (s2.heap.objs.size, _) (List.mem_append_right _ (List.mem_singleton.mpr rfl))).1
      have I6' : Inv X pins σ H5 s6 := I3.call' (ch := s2.heap.objs.size :: fp) I6.os I6.base I6.hok I6.bare fun b hb => by
        obtain ⟨f, _⟩ := hex b hb
        exact ⟨f.2.2.2.1, f.2.1, f.2.2.2.2.1, f.2.2.2.2.2⟩
      obtain ⟨mC, hmC, _⟩ := I6.loc
      have fD' := fD H5 nD5
      have I7 : Inv X pins σ (upd H5 s2.heap.objs.size (.lst ys)) s6 := I6'.adopt nD5 ⟨Nat.le_of_lt hlen, its, _, rv, o6⟩ I2.sz fD'.2.1 fD'.2.2.2.2.1 fD'.2.2.2.2.2
      refine hRR _ _ s6 H5 ys fin nD5 I7 (fC _ ?_) ⟨mC, hmC⟩
      rw [upd_ne (by show hp.objs.size ≠ s2.heap.objs.size; omega)]
      exact I6.free
    · refine wpAny_mono (T.item (X.blk NB sc cl hp.objs.size { s2 with heap := hp } H2 (s2.heap.objs.size :: fp)) rfl rfl rfl hcalm i [(s2.heap.objs.size, _)] s5 σ5 H5 (fun _ _ => False) (pinD I5 o5 (fun v z => nomatch z) nD5) (stat fr5 (by simp)) st5 go) (fun r s6 ⟨u, hr, h6⟩ => ?_) fun _ _ z => z
      subst hr
      refine wpAny_mono h6 (fun _ s7 ⟨x, H7, I7, r7, y7, st7, fr7⟩ => ?_) fun _ _ z => z
      have n7 := (I7.pin (s2.heap.objs.size, _) (List.mem_append_right _ (List.mem_singleton.mpr rfl))).2.1
      have I7' := I7.pinned (stat fr7 (by simp)) (T.obj _ _ st7)
      refine wpAny_mono (hg _ _ _ _ _ _ s7 σ5 H7 x u _ I7' r7 (step x H7 y7)) (fun _ s8 ⟨σ8, H8, I8, q8⟩ => ?_) fun _ _ z => z
      refine wpAny_mono (ht _ _ _ _ _ _ s8 σ8 H8 _ I8 q8) (fun ok s9 ⟨H9, I9, q9⟩ => ?_) fun _ _ z => z
      have back : ∀ {H' : Hp} {s' : Shared} {ys' : List V}, Inv (X.blk NB sc cl hp.objs.size { s2 with heap := hp } H2 (s2.heap.objs.size :: fp)) ([(s2.heap.objs.size, { cls := .type "list", data := .seq its.toArray e5 })] ++ pinsAt fp s7.heap) σ8 H' s' →
          tn (i + 1) s'.heap ∧ (∀ b ∈ fp, H' b = none) ∧ H' s2.heap.objs.size = none ∧ s'.heap.get? s2.heap.objs.size = some { cls := .type "list", data := .seq its.toArray e5 } := fun {H' s' ys'} I' => by
        have pD := I'.pin (s2.heap.objs.size, _) (List.mem_append_right _ (List.mem_append_left _ (List.mem_singleton.mpr rfl)))
        refine ⟨T.keep _ _ _ st7 fun b hb o e => (I'.pin (b, o) (List.mem_append_right _ (List.mem_append_right _ (mem_pinsAt hb e)))).1, fun b hb => ?_, pD.2.1, pD.1⟩
        obtain ⟨o, e, d⟩ := T.obj _ _ st7 b hb
        exact (I'.pin (b, o) (List.mem_append_right _ (List.mem_append_right _ (mem_pinsAt hb e)))).2.1
      cases ok with
      | false =>
        obtain ⟨m', hm, w'⟩ := hN σ8 ys H9 q9
        obtain ⟨b1, b2, b3, b4⟩ := back (ys' := ys) I9
        exact ⟨m', hm, i + 1, σ8, ys, its, H9, I9.pins_of (fun p hp' => absurd hp' (by simp)), b1, b2, b3, ⟨_, b4⟩, rv, w'⟩
      | true =>
        refine wpAny_mono (he _ _ _ _ _ _ s9 σ8 H9 _ I9 q9) (fun y sa ⟨v, Ha, Ia, ra, qa⟩ => ?_) fun _ _ z => z
        obtain ⟨m', hm, w'⟩ := hN σ8 (ys ++ [v]) Ha qa
        obtain ⟨b1, b2, b3, b4⟩ := back (ys' := ys) Ia
        refine append_at (hsz := by show its.toArray.size ≤ sizeLine; rw [List.size_toArray, ← rv.length]; exact Nat.le_of_lt hlen) b4 fun h' hs' hD' => ?_
        have I0 : Inv (X.blk NB sc cl hp.objs.size { s2 with heap := hp } H2 (s2.heap.objs.size :: fp)) [] σ8 Ha sa := Ia.pins_of (fun p hp' => absurd hp' (by simp))
        refine ⟨m', hm, i + 1, σ8, ys ++ [v], its ++ [y], Ha, I0.turned (t' := sa.toks) (fun b o hb e => hs'.extBut b o hb e) b3 (by show s2.heap.objs.size ≠ hp.objs.size; omega) (.inl List.mem_cons_self) (fun x c e => (fD H2 nD).2.2.2.2.1 x c (P1 x c e)) (fun p hp' => absurd hp' (by simp)),
          T.keep _ _ _ b1 fun b hb o e => hs'.extBut b o (Nat.ne_of_lt (lfp b hb)) e, b2, b3, ⟨e5 + 1, ?_⟩, rv.append (.cons ra .nil), w'⟩
        rw [hD', List.push_toArray]
  exact codeAny_compStart_list (loop _ rfl) (T.self _ 0 _ _ _ (T.keep _ _ _ st2 fun b _ o e => k4 b o (k3 b o e)) (loop _ rfl))
theorem pe_lc {X : Cx} {sc : Scope} {NB : List Str} {nt : Nat} {fr : List Nat} {tg iter elt : Expr} {ifs : List Expr} {pos : Pos} {wi : TI} {g : TG} {tc : TT} {te : TE} (hcalm : X.calm = true) (S : lcOk X.N X.env.scope sc NB nt fr = true)
    (hi : PI X tg iter wi) (hg : ∀ cl C s₀ H₀ ex, PG (X.blk NB sc cl C s₀ H₀ ex) tg g) (ht : ∀ cl C s₀ H₀ ex, PTs (X.blk NB sc cl C s₀ H₀ ex) ifs tc) (he : ∀ cl C s₀ H₀ ex, PE (X.blk NB sc cl C s₀ H₀ ex) elt te)
    (hs : ∀ x, foldedSetIterable iter X.env x = pure x := by intro _; rfl) : PE X (.ListComp elt [⟨tg, iter, ifs, 0⟩] sc pos) (tLC nt fr wi g tc te) := by
  intro pins s σ H Q I h
  have S := lcOk.mk S
  have hfree : ∀ x ∈ sc.names, x.2 = .free → ∃ a, X.env.cells.lookup x.1 = some a := fun x hx e => I.ok.has x.1 (S.out x hx e)
  obtain ⟨P1, _, P2⟩ := cl_fold sc.names [] hfree (fun x a e => by simp at e)
  rw [eval_ListComp]
  refine wpAny_comprehension_free (use := none) rfl hs (closure_ok hfree) S.kind S.locs (thn (hi pins s σ H _ I h) fun xv s1 h1 => thn h1 fun itv s2 h2 => ?_)
  obtain ⟨it, fp, tn, J, H2, rfl, I2, T, st2, f2, hw⟩ := h2
  refine lc_core (RR := fun acc C => compPost (model X.prog X.w) X.A X.xe none (EP X pins σ Q) acc C) hcalm S P1 P2 hg ht he I2 T st2 f2 hw fun D C s' H' ys fin nD I' fC ⟨m, hm⟩ => ?_
  refine ⟨m, hm, fun h' hs' => ⟨.ref D, _, I'.turned (t' := s'.toks) (fun b o hb e => hs'.extBut b o hb e) fC.1 fC.2.1 fC.2.2.2.1 fC.2.2.2.2.1 fC.2.2.2.2.2, rfl, fin D nD⟩⟩
theorem ps_setLC {X : Cx} {sc : Scope} {NB : List Str} {nt : Nat} {fr : List Nat} {tg iter elt : Expr} {ifs : List Expr} {pos spos py : Pos} {wi : TI} {g : TG} {tc : TT} {te : TE} {i : Nat} {y : Str} (hcalm : X.calm = true) (S : lcOk X.N X.env.scope sc NB nt fr = true)
    (hN : X.N.Nodup) (hiy : X.N[i]? = some y) (hy : X.env.scope.names.lookup y = some .local)
    (hi : PI X tg iter wi) (hg : ∀ cl C s₀ H₀ ex, PG (X.blk NB sc cl C s₀ H₀ ex) tg g) (ht : ∀ cl C s₀ H₀ ex, PTs (X.blk NB sc cl C s₀ H₀ ex) ifs tc) (he : ∀ cl C s₀ H₀ ex, PE (X.blk NB sc cl C s₀ H₀ ex) elt te)
    (hsw : swapsWith (.ListComp elt [⟨tg, iter, ifs, 0⟩] sc pos) (some (.Name y py)) spos.line X.env = pure true := by rfl)
    (hs : ∀ x, foldedSetIterable iter X.env x = pure x := by intro _; rfl) : PS X (.Assign [.Name y py] (.ListComp elt [⟨tg, iter, ifs, 0⟩] sc pos) spos) (tAsg (tLC nt fr wi g tc te) (gName i)) := by
  intro pins s σ H D I h
  have S := lcOk.mk S
  have hfree : ∀ x ∈ sc.names, x.2 = .free → ∃ a, X.env.cells.lookup x.1 = some a := fun x hx e => I.ok.has x.1 (S.out x hx e)
  obtain ⟨P1, _, P2⟩ := cl_fold sc.names [] hfree (fun x a e => by simp at e)
  rw [exec_Assign_Name_used _ _ _ _ hsw]
  refine wpAny_bind (wpAny_standAt (wpAny_bind ?_))
  show wpAny _ X.A (do let _ ← comprehension (.ListComp elt [⟨tg, iter, ifs, 0⟩] sc pos) sc X.env _ (newList []) false (eval iter X.env) (some (assign (.Name y py) X.env))) _ _ s
  refine wpAny_bind (wpAny_mono (wpAny_comprehension_free (use := some (assign (.Name y py) X.env)) (Q := fun _ s' => SP X pins D .next s') rfl hs (closure_ok hfree) S.kind S.locs
    (thn (hi pins s σ H _ I h) fun xv s1 h1 => thn h1 fun itv s2 h2 => ?_)) (fun _ s' hq => wpAny_pure (wpAny_pure hq)) fun _ _ e => e)
  obtain ⟨it, fp, tn, J, H2, rfl, I2, T, st2, f2, hw⟩ := h2
  refine lc_core (RR := fun acc C => compPost (model X.prog X.w) X.A X.xe (some (assign (.Name y py) X.env)) (fun _ s' => SP X pins D .next s') acc C) hcalm S P1 P2 hg ht he I2 T st2 f2 hw fun d C s' H' ys fin nD I' fC ⟨m, hm⟩ => ?_
  show wpAny _ X.A (assign (.Name y py) X.env (.ref d)) _ _ _
  obtain ⟨oC, es, ep, hoC, hdC, hrest⟩ := id hm
  have IC : Inv X (pins ++ [(C, oC)]) σ (upd H' d (.lst ys)) s' := I'.pins_of fun p hp => by
    rcases List.mem_append.mp hp with z | z
    · exact I'.pin p (List.mem_append_right _ z)
    · have ep : p = (C, oC) := by simpa using z
      subst ep
      exact ⟨hoC, fC.1, fC.2.1, fC.2.2.1, fun v z => by rw [hdC] at z; cases z⟩
  refine wpAny_assign_Name (store_ok IC hN hiy (.inl hy) (v := .ref d) rfl (fun s'' I'' => ?_) (.inr hy))
  have pC := I''.pin (C, oC) (List.mem_append_right _ (List.mem_append_right _ (List.mem_singleton.mpr rfl)))
  refine ⟨m, ⟨oC, es, ep, pC.1, hdC, hrest⟩, fun h' hs' => ⟨_, _, I''.unpinned.turned (t' := s''.toks) (fun b o hb e => hs'.extBut b o hb e) fC.1 fC.2.1 fC.2.2.2.1 fC.2.2.2.2.1 fC.2.2.2.2.2, fin d nD⟩⟩
section
variable {X : Cx} {K : PySem.W.Frag}
theorem ixl (hK : X.K = K) : IxR X (rIxL K) := hK ▸ ix_list
theorem ixt (hK : X.K = K) : IxR X (rIxT K) := hK ▸ ix_tup
theorem inq (hK : X.K = K) : OpR X (compareOp .In) (rIn K false) := hK ▸ op_in_seq
def rLen (K : PySem.W.Frag) : List V → Hp → VK → Prop := fun xs H Q => ∃ p ys, xs = [.ref p] ∧ (SqL K H p ys ∨ SqT K H p ys) ∧ Q (.int ys.length) H
theorem lenq (hK : X.K = K) : CallR X (.builtin "len") (rLen K) := hK ▸ call_len_seq
def rTupOf (K : PySem.W.Frag) : List V → Hp → VK → Prop := fun xs H Q => ∃ p ys, xs = [.ref p] ∧ ((SqL K H p ys ∧ ∀ l, H l = none → Q (.ref l) (upd H l (.tup ys))) ∨ (SqT K H p ys ∧ Q (.ref p) H))
theorem tupq (hK : X.K = K) : CallR X (.type "tuple") (rTupOf K) := hK ▸ call_tuple_of
theorem pil {tg l : Expr} {tl : TE} (hK : X.K = K) (hl : PE X l tl) : PI X tg l (iList K tl) := hK ▸ pi_list hl
theorem pit {tg l : Expr} {tl : TE} (hK : X.K = K) (hl : PE X l tl) : PI X tg l (iTup K tl) := hK ▸ pi_tup hl
theorem pgt {es : List Expr} {k : Nat} {pos : Pos} {t : TGs} {n : Nat} (hK : X.K = K) (hc : X.calm = true) (h : PGs X es t) (hn : (assignEach es X.env).length = n := by rfl) (hst : (assignEach es X.env).findIdx? (·.1) = none := by rfl) : PG X (.Tuple es k pos) (gTup K n t) := hK ▸ pg_tup hc h hn hst
theorem bm {o e : Expr} {es : List Expr} {to : TE} {t : TA} {name : Str} {apos cpos : Pos} {T id : String} {r : V → List V → Hp → VK → Prop} (hK : X.K = K) (pa : PlainAttrs T) (slot : Slot T name id) (hty : typeOf (.builtin id) = pure (.type "method_descriptor")) (hm : MtR X id r) (ho : PE X o to) (ha : PA X (e :: es) t)
    (hbase : attributeBase o name X.env (eval o X.env) = eval o X.env := by rfl)
    (hfew : ((backTo cpos (starEach (e :: es) X.env)).all (fun x => !x.1) && (backToKw cpos (keywordEach [] X.env)).all (fun x => x.1.isSome)
      && decide ((e :: es).length + ([] : List Keyword).length + (if ([] : List Keyword).isEmpty then 0 else 1) < 30)) = true := by rfl)
    (hline : (apos.endLine == cpos.line) = true := by rfl) (hs : starEach (e :: es) X.env = (false, eval e X.env) :: starEach es X.env := by rfl) (hplain : (backTo cpos (starEach es X.env)).any (·.1) = false := by rfl) :
    PE X (.Call (.Attribute o name apos) (e :: es) [] cpos) (tBM K T r to t) := hK ▸ pe_bm pa slot hty hm ho ha hbase hfew hline hs hplain
end
theorem Inv.turnedL {X : Cx} {pins : List (Addr × Obj)} {σ : St} {H : Hp} {s : Shared} {h' : Heap} {t' : Nat} {ch : List Addr} (I : Inv X pins σ H s) (k : ∀ b o, b ∉ ch → s.heap.get? b = some o → h'.get? b = some o) (hf : ∀ b ∈ ch, FpOk X pins H b)
    (ht : ∀ b ∈ ch, ∃ o, h'.get? b = some o) : Inv X pins σ H { s with heap := h', toks := t' } := by
  have nit : ∀ b u, H b = some u → b ∉ ch := fun b u e z => by rw [(hf b z).1] at e; cases e
  refine I.step (g' := s.gens) (d' := s.drawn) (ch := ch) (fun b hb => ?_) (fun b o _ _ hc e _ => k b o hc e) (fun b o _ _ hc e _ => ⟨o.slots, k b o hc e⟩) (fun _ _ _ _ n => n)
    (fun b o hc e => ⟨o, k b o hc e⟩) (fun _ _ e => e) (fun _ _ _ e => e) (fun b ps e => ⟨#[], by rw [e]; simp⟩) (fun m hm => ?_) (fun b u e => ?_) I.bare
  · obtain ⟨f0, f1, f2, f3, f4, f5⟩ := hf b hb
    exact ⟨f3, f1, f4, f5⟩
  · obtain ⟨o, es, ep, ho, r⟩ := hm
    exact ⟨o, es, ep, k _ o (fun z => (hf _ z).2.1 rfl) ho, r⟩
  · refine (I.hok b u e).stay (fun c v hc q => k c v ?_ q) (fun _ q => q) fun _ _ q => q
    rcases hc with z | z
    · rw [z]; exact nit b u e
    · exact nit c _ z
def Ite (K : PySem.W.Frag) (a : Addr) : It :=
  ⟨fun i H => ∃ xs x, SqL K H a xs ∧ xs[i]? = some x, fun i H v H' => ∃ t x, v = .ref t ∧ H t = none ∧ H' = upd H t (.tup [.int i, x]) ∧ ∀ xs, SqL K H a xs → xs[i]? = some x, fun i H => ∃ xs, SqL K H a xs ∧ xs.length ≤ i⟩
theorem turn_enum {P : Program} {w : World} {K : PySem.W.Frag} {es : List Expr} {x1 : Nat} {tp : Pos} (a e it : Addr) (hne : e ≠ it) : Turn P w K (.Tuple es x1 tp) (Ite K a) [e, it] e (fun i h => (∃ old, IsEnum h e it (i : Int) old) ∧ h.IsListIter it a i) where
  mem := by simp
  obj := fun i h st b hb => by
    obtain ⟨⟨old, s1⟩, o, e2, c, d⟩ := st
    rcases List.mem_cons.mp hb with rfl | hb
    · exact ⟨_, s1, fun v z => nomatch z⟩
    · have z : b = it := by simpa using hb
      subst z
      exact ⟨o, e2, fun v z => by rw [d] at z; cases z⟩
  keep := fun i h h' st k => ⟨let ⟨old, z⟩ := st.1; ⟨old, k e (by simp) _ z⟩, st.2.at fun o z => k it (by simp) o z⟩
  item := by
    intro X hP hw hK hc i pins s σ H E I hf st hg
    subst hP hw hK
    obtain ⟨xs, x, hq, hx⟩ := hg
    obtain ⟨its, rv, p, hz⟩ := I.list hq
    obtain ⟨u, hu, ru⟩ := rv.get hx
    obtain ⟨⟨old, s1⟩, s2⟩ := st
    refine wpAny_pyNext_enum_item s1 s2 p.isList (x := u) (by simpa using hu) hne fun h' o1 o2 o3 o4 o5 => ⟨_, rfl, ?_⟩
    refine wpAny_letOwnedTupleGo_enum o1 fun h2 he hs => ?_
    have lt1 : e < s.heap.objs.size := Heap.lt_size s1
    have lt2 : it < s.heap.objs.size := by obtain ⟨o, z, _⟩ := s2; exact Heap.lt_size z
    have ot : h2.get? s.heap.objs.size = some { cls := .type "tuple", data := .seq #[.int i s.toks, u] } := (hs.2 _ (Nat.ne_of_gt lt1)).trans o3
    have s2' : h2.IsListIter it a (i + 1) := o2.at fun o z => (hs.2 it (Ne.symm hne)).trans z
    have I1 : Inv X pins σ H { s with heap := h2, toks := s.toks + 1 } := I.turnedL (ch := [e, it]) (fun b o hb z => by
      have n1 : b ≠ e := fun q => hb (by simp [q])
      have n2 : b ≠ it := fun q => hb (by simp [q])
      exact (hs.2 b n1).trans (o5 b o n1 n2 z)) hf (fun b hb => by
      rcases List.mem_cons.mp hb with rfl | hb
      · exact ⟨_, he⟩
      · have z : b = it := by simpa using hb
        subst z
        obtain ⟨o, q, _⟩ := s2'
        exact ⟨o, q⟩)
    have nT : H s.heap.objs.size = none := I.hok.fresh (Nat.le_refl _)
    have fT := I.fpOk (H' := H) (Nat.le_refl _) nT
    have I2 := I1.adopt (a := s.heap.objs.size) (o := .tup [.int i, x]) nT ⟨by show 2 ≤ sizeLine; decide, [.int i s.toks, u], .cons ⟨_, rfl⟩ (.cons ru .nil), ⟨_, ot, rfl, 0, rfl⟩⟩ I.sz fT.2.1 fT.2.2.2.2.1 fT.2.2.2.2.2
    refine ⟨.ref s.heap.objs.size, _, I2, rfl, ⟨_, x, rfl, nT, rfl, fun ys hy => by rw [I.list_inj hy hq]; exact hx⟩, ⟨⟨u, by simpa using he⟩, s2'⟩, fun b hb => ?_⟩
    rw [upd_ne]
    · exact (hf b hb).1
    · rcases List.mem_cons.mp hb with rfl | hb
      · exact Nat.ne_of_lt lt1
      · have z : b = it := by simpa using hb
        subst z
        exact Nat.ne_of_lt lt2
  done := by
    intro X hP hw hK hc i pins s σ H E I hf st hg
    subst hP hw hK
    obtain ⟨xs, hq, hx⟩ := hg
    obtain ⟨its, rv, p, hz⟩ := I.list hq
    obtain ⟨⟨old, s1⟩, s2⟩ := st
    obtain ⟨f0, f1, f2, f3, f4, f5⟩ := hf it (by simp)
    have hl := rv.length
    exact wpAny_pyNext_enum_end (I.ok.hd hc) s1 s2 p.isList (by simp; omega) fun h' eb => ⟨rfl, I.turned (t' := s.toks) (fun b o hb z => eb b o hb z) f0 f1 f3 f4 f5⟩
  self := fun _ _ _ _ _ st h => let ⟨⟨_, s1⟩, _⟩ := st; wpAny_pyIter_enum s1 h
def iEnum (K : PySem.W.Frag) (ta : TA) : TI := fun σ H R => ta σ H fun vs H1 => ∃ a, vs = [.ref a] ∧ (∃ xs, SqL K H1 a xs) ∧ R (Ite K a) H1
theorem pi_enum {X : Cx} {K : PySem.W.Frag} {es : List Expr} {x1 : Nat} {tp : Pos} {l : Expr} {ta : TA} {p pos : Pos} (hK : X.K = K) (hg : Gl X "enumerate") (hm : X.mg "enumerate" = none) (ha : PA X [l] ta) (hs : starEach [l] X.env = [(false, eval l X.env)] := by rfl) :
    PI X (.Tuple es x1 tp) (.Call (.Name "enumerate" p) [l] [] pos) (iEnum K ta) := by
  subst hK
  intro pins s σ H R I h
  refine Call_ (ld_blt I hg hm boot_enumerate (PyProof.Rows.callWith_type1 (thn (ha pos pins s σ H _ I h) fun us s1 ⟨vs, H1, I1, r1, q1⟩ => ?_) hs rfl))
  obtain ⟨a, rfl, ⟨xs, hq⟩, q⟩ := q1
  obtain ⟨u, rfl, rx⟩ := vals1 r1
  cases rx
  obtain ⟨its, rv, pl, hz⟩ := I1.list hq
  refine call_enumerate_list pl.isList fun h' e1 e2 e3 e4 => ?_
  refine wpAny_pyIter_enum e1 ?_
  have I2 : Inv X pins σ H1 { s1 with heap := h' } := I1.kept (t' := s1.toks) e4
  refine ⟨s1.heap.objs.size + 1, [s1.heap.objs.size + 1, s1.heap.objs.size], _, _, H1, rfl, I2, turn_enum a _ _ (Nat.succ_ne_self _), ⟨⟨_, e1⟩, e2⟩, fun b hb => ?_, q⟩
  have hb' : s1.heap.objs.size ≤ b := by
    rcases List.mem_cons.mp hb with rfl | hb
    · exact Nat.le_succ _
    · have z : b = s1.heap.objs.size := by simpa using hb
      exact Nat.le_of_eq z.symm
  exact I1.fpOk hb' (I1.hok.fresh hb')
def rIsi (K : PySem.W.Frag) : List V → Hp → VK → Prop := fun xs H Q => ∃ x T t b, xs = [x, .ty T] ∧ TyOf K H x t ∧ PySem.W.kitOne K t (.type T) = some b ∧ Q (.bl b) H
theorem isiq {X : Cx} {K : PySem.W.Frag} (hK : X.K = K) : CallR X (.builtin "isinstance") (rIsi K) := by
  subst hK
  intro pins s σ H xs us Q I r h
  obtain ⟨x, T, t, b, rfl, ty, e, q⟩ := h
  obtain ⟨u, v, rfl, rx, ry⟩ := vals2 r
  cases ry
  exact isinst_ok I rx ty e fun tk => ⟨.bl b, H, I.tok tk, rfl, q⟩
def rInsert : V → List V → Hp → VK → Prop := fun x vs H Q => ∃ l xs k y, x = .ref l ∧ vs = [.int (Nat.cast k), y] ∧ H l = some (.lst xs) ∧ k ≤ xs.length ∧ xs.length < sizeLine ∧ Q .non (upd H l (.lst (xs.take k ++ y :: xs.drop k)))
theorem mt_insert {X : Cx} : MtM X "list.insert" rInsert := by
  intro pins s σ H x vs v us Q I rx rv h
  obtain ⟨l, xs, k, y, rfl, rfl, hH, hk, hz, q⟩ := h
  cases rx
  obtain ⟨u1, u2, rfl, ⟨t, rfl⟩, ru⟩ := rv.two
  obtain ⟨z, its, n, r, hl, e⟩ := I.lstM hH
  have hsl : (sizeLine : Nat) < 2 ^ 63 := line63
  have hfit : ¬ (!Builtin.List.listFitsIndex (k : Int)) = true := by
    rw [fitsIndex_both (by omega) (by omega)]
    exact Bool.false_ne_true
  have hsz : its.toArray.size ≤ sizeLine := by rw [List.size_toArray, ← hl]; exact z
  obtain ⟨i, hi⟩ : ∃ i : Int, i = (k : Int) := ⟨_, rfl⟩
  rw [← hi] at hfit
  rw [← hi]
  refine call_meets F.slot_list_insert ⟨_, e, rfl⟩ F.entry_list_insert (F.args_list_insert_3 (.ref l) (.int i t) u2) (AutoListH.list_insert_list_int_val_1 l its.toArray n i t u2 hfit hsz) ⟨e, ?_⟩
  refine ⟨.non, _, I.lset (ys := xs.take k ++ y :: xs.drop k) (its' := its.take k ++ u2 :: its.drop k) hH e ?_ ((r.take k).append (.cons ru (r.drop k))) ?_, rfl, q⟩
  · show ((its.toArray.extract 0 (if i < 0 then (i + ((its.toArray.size : Nat) : Int)).toNat else min i.toNat its.toArray.size)).push u2 ++ its.toArray.extract (if i < 0 then (i + ((its.toArray.size : Nat) : Int)).toNat else min i.toNat its.toArray.size)) = _
    rw [hi, if_neg (by omega), Int.toNat_natCast, List.size_toArray, Nat.min_eq_left (by omega)]
    apply Array.ext'
    simp [List.take_of_length_le]
  · rw [List.length_append, List.length_cons, List.length_take, List.length_drop]
    omega
def rSorted (K : PySem.W.Frag) : List V → Hp → VK → Prop := fun xs H Q => ∃ (p : Addr) (ns : List Int), xs = [.ref p] ∧ SqL K H p (ns.map V.int) ∧ ns.length < 64 ∧ ∀ (l : Addr) (ms : List Int), ms.Perm ns → ms.Pairwise (· ≤ ·) → H l = none → Q (.ref l) (upd H l (.lst (ms.map V.int)))
theorem sortq {X : Cx} {K : PySem.W.Frag} (hK : X.K = K) : CallR X (.builtin "sorted") (rSorted K) := by
  subst hK
  intro pins s σ H xs us Q I r h
  obtain ⟨p, ns, rfl, hq, h64, q⟩ := h
  obtain ⟨u, rfl, rx⟩ := vals1 r
  cases rx
  obtain ⟨its, rv, pl, hz⟩ := I.list hq
  have hi := intsAre_of rv
  have hlen := rv.length
  rw [List.length_map] at hlen
  refine sorted_ints pl.isList hi (by omega) fun out ns' a1 a2 a3 => ?_
  obtain ⟨e, he⟩ := sortedAll_at s.heap its out
  have I1 : Inv X pins σ H { s with heap := sortedAll s.heap its out } := I.kept (t' := s.toks) fun b o z => sortedAll_old z
  have nT : H (s.heap.objs.size + 1) = none := I.hok.fresh (Nat.le_succ _)
  have fT := I.fpOk (H' := H) (b := s.heap.objs.size + 1) (Nat.le_succ _) nT
  have rv' : Vals (ns'.map V.int) out.toList := vals_ints a1
  have hz' : (ns'.map V.int).length ≤ sizeLine := by
    rw [List.length_map, a2.length_eq]
    exact Nat.le_trans (Nat.le_of_lt h64) (by decide)
  have I2 := I1.adopt (a := s.heap.objs.size + 1) (o := .lst (ns'.map V.int)) nT ⟨hz', out.toList, e, rv', by rw [he]⟩ (Nat.le_trans I.sz (Nat.le_succ _)) fT.2.1 fT.2.2.2.2.1 fT.2.2.2.2.2
  exact ⟨.ref _, _, I2, rfl, q _ ns' a2 a3 nT⟩
theorem eq_ints_all {us vs : List Value} {ns ms : List Int} (h1 : IntsAre us ns) (h2 : IntsAre vs ms) (hl : us.length = vs.length) :
    ((List.range us.length).all fun j => ns[j]? == ms[j]?) = decide (ns = ms) := by
  have l1 := h1.length
  have l2 := h2.length
  rw [Bool.eq_iff_iff, List.all_eq_true, decide_eq_true_iff]
  constructor
  · intro h
    apply List.ext_getElem?
    intro j
    by_cases hj : j < us.length
    · have := h j (List.mem_range.mpr hj)
      simpa using this
    · rw [List.getElem?_eq_none (by omega), List.getElem?_eq_none (by omega)]
  · rintro rfl j _
    simp
theorem ints_at {us : List Value} {ns : List Int} (h : IntsAre us ns) {j : Nat} {u : Value} (e : us[j]? = some u) : ∃ n t, ns[j]? = some n ∧ u = .int n t := by
  induction h generalizing j with
  | nil => simp at e
  | cons n t h ih =>
    cases j with
    | zero => simp at e; exact ⟨n, t, by simp, e.symm⟩
    | succ j => simp at e; obtain ⟨n', t', q1, q2⟩ := ih e; exact ⟨n', t', by simpa using q1, q2⟩
def rEqI (K : PySem.W.Frag) (neg : Bool) : R2 := fun x y H Q => ∃ (a b : Addr) (ns ms : List Int), x = .ref a ∧ y = .ref b ∧ SqL K H a (ns.map V.int) ∧ SqL K H b (ms.map V.int) ∧ Q (.bl (if neg then !decide (ns = ms) else decide (ns = ms))) H
theorem neI {X : Cx} {K : PySem.W.Frag} {k : Nat} (hK : X.K = K) (hr : Room k X.A) : OpR X (compareOp .NotEq) (rEqI K true) := by
  subst hK
  intro pins s σ H x y v u Q I rx ry h
  obtain ⟨a, b, ns, ms, rfl, rfl, hq1, hq2, q⟩ := h
  cases rx
  cases ry
  obtain ⟨us, r1, p1, _⟩ := I.list hq1
  obtain ⟨vs, r2, p2, _⟩ := I.list hq2
  have i1 := intsAre_of r1
  have i2 := intsAre_of r2
  have hu := hr.units0
  by_cases hl : us.length = vs.length
  · refine SeqAt.RcNeAt.lists (e := fun j => ns[j]? == ms[j]?) p1.isList p2.isList (by simpa using hl) hu (fun j h1 h2 => ?_) X.prog X.w X.xe _ ⟨.bl _, H, I, rfl, ?_⟩
    · obtain ⟨n, t, e1, e2⟩ := ints_at i1 (j := j) (u := us.toArray[j]) (by simp at h1; simp [h1])
      obtain ⟨m, t', e3, e4⟩ := ints_at i2 (j := j) (u := vs.toArray[j]) (by simp at h2; simp [h2])
      rw [e2, e4, e1, e3]
      have := SeqAt.EqAt.int_int (A := X.A.in1) (s := s) n t m t'
      simpa using this
    · rw [List.size_toArray, eq_ints_all i1 i2 hl]
      exact q
  · refine SeqAt.RcNeAt.lists_lengths p1.isList p2.isList (by simpa using hl) hu X.prog X.w X.xe _ ⟨.bl true, H, I, rfl, ?_⟩
    have : decide (ns = ms) = false := decide_eq_false fun e => hl (by rw [i1.length, i2.length, e])
    rw [this] at q
    exact q
structure Callee (P : Program) (w : World) (K : PySem.W.Frag) (mg : Str → Option Value) (base : Heap) (k : Nat) (x : Str) (ps : List Str) (sp : Sp) : Prop where
  ex : ∃ (f : Addr) (fd : FuncData), FnOk P w K mg base CX0 k f fd ps sp ∧ mg x = some (.ref f) ∧ PySem.W.keepIn K (.ref f) = true ∧ Binds K fd ps []
def tFn (sp : Sp) (t : TA) : TE := fun σ H Q => t σ H fun vs H1 => sp vs H1 Q E0
theorem pe_fn {X : Cx} {k m : Nat} {x : Str} {ps : List Str} {sp : Sp} {e : Expr} {es : List Expr} {t : TA} {p pos : Pos} (C : Callee X.prog X.w X.K X.mg X.base k x ps sp) (hr : Room m X.A) (hg : Gl X x) (ha : PA X (e :: es) t) (hk : k ≤ m := by decide)
    (hdb : (x == ("__debug__" : Str)) = false := by decide) (he : starEach (e :: es) X.env = (false, eval e X.env) :: starEach es X.env := by rfl) (hpl : (backTo pos (starEach es X.env)).any (·.1) = false := by rfl) :
    PE X (.Call (.Name x p) (e :: es) [] pos) (tFn sp t) := by
  obtain ⟨f, fd, F, hm, kp, b⟩ := C.ex
  have h := pe_call (E := E0) (p := p) (pos := pos) F (hr.mono hk) hg hm kp b .nil pass0 ha hdb he hpl
  intro pins s σ H Q I q
  refine h pins s σ H Q I ?_
  show t σ H fun vs H1 => sp (vs ++ []) H1 Q E0
  have e : (fun vs H1 => sp (vs ++ []) H1 Q E0) = fun vs H1 => sp vs H1 Q E0 := by funext vs H1; rw [List.append_nil]
  rw [e]
  exact q
def DefAt (K : PySem.W.Frag) (mg : Str → Option Value) (x : Str) (st : Stmt) : Prop := ∃ (f : Addr) (fd : FuncData), Fun K x x st f fd ∧ mg x = some (.ref f)
theorem mkCallee {P : Program} {w : World} {K : PySem.W.Frag} {mg : Str → Option Value} {base : Heap} {k : Nat} {x : Str} {st : Stmt} {N ps : List Str} {sp : Sp} (D : DefAt K mg x st) (S : FnScope N ps (defScope st))
    (hb : ∀ (kV doc pm : Value) (an : Option Addr) (cdv ct : Value) (us : List Value), us.length = ps.length → bindArgs (PySem.W.fnOf x x (defArgs st) (defBody st) (defScope st) .none kV doc pm an cdv ct) ⟨us, []⟩ = pure (ps.zip us))
    (len : ∀ vs H Q E, sp vs H Q E → vs.length = ps.length)
    (hbody : ∀ (f : Addr) (cdv : Value) (A : Around) (outer : List Env) (s : Shared) (H : Hp) (vs : List V) (Q : VK) (E : XK), Room k (A.deeper (envOfC x (defScope st) s.heap.objs.size f cdv)) → sp vs H Q E →
      ∃ t, PSs (cxOf CX0 P w K mg base N x (defScope st) f cdv A outer s H E).nox (defBody st) t ∧ t { nx := fun _ H' => Q .non H', rt := Q } (start N vs) H) : Callee P w K mg base (k + 1) x ps sp := by
  obtain ⟨f, fd, F, hm⟩ := D
  exact ⟨f, fd, F.ok S len (fun cdv A outer s H vs Q E hr h => hbody f cdv A outer s H vs Q E hr h), hm, F.kp, F.binds hb⟩
def SameB (p : Addr) (H H' : Hp) : Prop := ∀ b o, H b = some o → b ≠ p → H' b = some o
theorem Same.new {H : Hp} {a : Addr} {o : HO} (h : H a = none) : Same H (upd H a o) := fun b u e => by rw [upd_ne (ne_of_none e h)]; exact e
theorem Same.updr {H H' : Hp} {a : Addr} {o : HO} (s : Same H H') (h : H' a = none) : Same H (upd H' a o) := s.trans (Same.new h)
theorem SameB.refl {p : Addr} {H : Hp} : SameB p H H := fun _ _ h _ => h
theorem SameB.trans {p : Addr} {H H1 H2 : Hp} (a : SameB p H H1) (b : SameB p H1 H2) : SameB p H H2 := fun c o h n => b c o (a c o h n) n
theorem Same.b {p : Addr} {H H' : Hp} (h : Same H H') : SameB p H H' := fun b o e _ => h b o e
theorem lc_range {lo : Int} {n : Nat} {g : TG} {tc : TT} {te : TE} {Fin : List V → Hp → Prop} {σ₀ : St} {H : Hp} (Pv : Nat → St → List V → Hp → Prop) (h0 : Pv 0 σ₀ [] H) (hz : ∀ i σ ys H, Pv i σ ys H → ys.length < sizeLine)
    (hs : ∀ i σ ys H, i < n → Pv i σ ys H → g (.int (lo + i)) σ H fun σ2 H2 => tc σ2 H2 fun b H3 => if b = true then te σ2 H3 fun v H4 => Pv (i + 1) σ2 (ys ++ [v]) H4 else Pv (i + 1) σ2 ys H3)
    (hd : ∀ σ ys H, Pv n σ ys H → Fin ys H) : LcW (Itr lo n) g tc te Fin σ₀ H := by
  refine ⟨fun i m σ ys H => m = n - i ∧ i ≤ n ∧ Pv i σ ys H, ⟨n, by simp, Nat.zero_le _, h0⟩, ?_⟩
  rintro i m σ ys H ⟨rfl, hi, p⟩
  refine ⟨hz i σ ys H p, ?_⟩
  by_cases hlt : i < n
  · refine .inr ⟨hlt, Pv (i + 1), fun σ' ys' H' p' => ⟨n - (i + 1), by omega, rfl, hlt, p'⟩, fun x H' y => ?_⟩
    obtain ⟨e, y⟩ := y
    subst e y
    exact hs i σ ys _ hlt p
  · have e : i = n := by omega
    subst e
    exact .inl ⟨Nat.le_refl _, hd σ ys H p⟩
theorem lc_list {K : PySem.W.Frag} {a : Addr} {xs : List V} {g : TG} {tc : TT} {te : TE} {Fin : List V → Hp → Prop} {σ₀ : St} {H : Hp} (Pv : Nat → St → List V → Hp → Prop) (h0 : Pv 0 σ₀ [] H) (hl : ∀ i σ ys H, i ≤ xs.length → Pv i σ ys H → SqL K H a xs) (hz : ∀ i σ ys H, Pv i σ ys H → ys.length < sizeLine)
    (hs : ∀ i x σ ys H, xs[i]? = some x → Pv i σ ys H → g x σ H fun σ2 H2 => tc σ2 H2 fun b H3 => if b = true then te σ2 H3 fun v H4 => Pv (i + 1) σ2 (ys ++ [v]) H4 else Pv (i + 1) σ2 ys H3)
    (hd : ∀ σ ys H, Pv xs.length σ ys H → Fin ys H) : LcW (Itl K a) g tc te Fin σ₀ H := by
  refine ⟨fun i m σ ys H => m = xs.length - i ∧ i ≤ xs.length ∧ Pv i σ ys H, ⟨xs.length, by simp, Nat.zero_le _, h0⟩, ?_⟩
  rintro i m σ ys H ⟨rfl, hi, p⟩
  refine ⟨hz i σ ys H p, ?_⟩
  have q := hl i σ ys H hi p
  by_cases hlt : i < xs.length
  · refine .inr ⟨⟨xs, xs[i], q, by simp [hlt]⟩, Pv (i + 1), fun σ' ys' H' p' => ⟨xs.length - (i + 1), by omega, rfl, hlt, p'⟩, fun x H' y => ?_⟩
    obtain ⟨e, y⟩ := y
    subst e
    exact hs i x σ ys _ (y xs q) p
  · have e : i = xs.length := by omega
    subst e
    exact .inl ⟨⟨xs, q, Nat.le_refl _⟩, hd σ ys H p⟩
theorem lc_tup {K : PySem.W.Frag} {a : Addr} {xs : List V} {g : TG} {tc : TT} {te : TE} {Fin : List V → Hp → Prop} {σ₀ : St} {H : Hp} (Pv : Nat → St → List V → Hp → Prop) (h0 : Pv 0 σ₀ [] H) (hl : ∀ i σ ys H, i ≤ xs.length → Pv i σ ys H → SqT K H a xs) (hz : ∀ i σ ys H, Pv i σ ys H → ys.length < sizeLine)
    (hs : ∀ i x σ ys H, xs[i]? = some x → Pv i σ ys H → g x σ H fun σ2 H2 => tc σ2 H2 fun b H3 => if b = true then te σ2 H3 fun v H4 => Pv (i + 1) σ2 (ys ++ [v]) H4 else Pv (i + 1) σ2 ys H3)
    (hd : ∀ σ ys H, Pv xs.length σ ys H → Fin ys H) : LcW (Itt K a) g tc te Fin σ₀ H := by
  refine ⟨fun i m σ ys H => m = xs.length - i ∧ i ≤ xs.length ∧ Pv i σ ys H, ⟨xs.length, by simp, Nat.zero_le _, h0⟩, ?_⟩
  rintro i m σ ys H ⟨rfl, hi, p⟩
  refine ⟨hz i σ ys H p, ?_⟩
  have q := hl i σ ys H hi p
  by_cases hlt : i < xs.length
  · refine .inr ⟨⟨xs, xs[i], q, by simp [hlt]⟩, Pv (i + 1), fun σ' ys' H' p' => ⟨xs.length - (i + 1), by omega, rfl, hlt, p'⟩, fun x H' y => ?_⟩
    obtain ⟨e, y⟩ := y
    subst e
    exact hs i x σ ys _ (y xs q) p
  · have e : i = xs.length := by omega
    subst e
    exact .inl ⟨⟨xs, q, Nat.le_refl _⟩, hd σ ys H p⟩
theorem lc_enum {K : PySem.W.Frag} {a : Addr} {xs : List V} {g : TG} {tc : TT} {te : TE} {Fin : List V → Hp → Prop} {σ₀ : St} {H : Hp} (Pv : Nat → St → List V → Hp → Prop) (h0 : Pv 0 σ₀ [] H) (hl : ∀ i σ ys H, i ≤ xs.length → Pv i σ ys H → SqL K H a xs) (hz : ∀ i σ ys H, Pv i σ ys H → ys.length < sizeLine)
    (hs : ∀ i x t σ ys H, xs[i]? = some x → Pv i σ ys H → H t = none → g (.ref t) σ (upd H t (.tup [.int i, x])) fun σ2 H2 => tc σ2 H2 fun b H3 => if b = true then te σ2 H3 fun v H4 => Pv (i + 1) σ2 (ys ++ [v]) H4 else Pv (i + 1) σ2 ys H3)
    (hd : ∀ σ ys H, Pv xs.length σ ys H → Fin ys H) : LcW (Ite K a) g tc te Fin σ₀ H := by
  refine ⟨fun i m σ ys H => m = xs.length - i ∧ i ≤ xs.length ∧ Pv i σ ys H, ⟨xs.length, by simp, Nat.zero_le _, h0⟩, ?_⟩
  rintro i m σ ys H ⟨rfl, hi, p⟩
  refine ⟨hz i σ ys H p, ?_⟩
  have q := hl i σ ys H hi p
  by_cases hlt : i < xs.length
  · refine .inr ⟨⟨xs, xs[i], q, by simp [hlt]⟩, Pv (i + 1), fun σ' ys' H' p' => ⟨xs.length - (i + 1), by omega, rfl, hlt, p'⟩, fun x H' y => ?_⟩
    obtain ⟨t, z, rfl, nt, rfl, y⟩ := y
    exact hs i z t σ ys _ (y xs q) p nt
  · have e : i = xs.length := by omega
    subst e
    exact .inl ⟨⟨xs, q, Nat.le_refl _⟩, hd σ ys H p⟩
theorem bt_int : bootBuiltins "int" = some (.type "int") := by decide +kernel
theorem bt_bool : bootBuiltins "bool" = some (.type "bool") := by decide +kernel
theorem bt_list : bootBuiltins "list" = some (.type "list") := by decide +kernel
theorem bt_tuple : bootBuiltins "tuple" = some (.type "tuple") := by decide +kernel
theorem bt_len : bootBuiltins "len" = some (.builtin "len") := by decide +kernel
theorem bt_isinstance : bootBuiltins "isinstance" = some (.builtin "isinstance") := by decide +kernel
theorem bt_sorted : bootBuiltins "sorted" = some (.builtin "sorted") := by decide +kernel
theorem bt_min : bootBuiltins "min" = some (.builtin "min") := by decide +kernel
theorem bt_max : bootBuiltins "max" = some (.builtin "max") := by decide +kernel
theorem bt_all : bootBuiltins "all" = some (.builtin "all") := by decide +kernel
theorem Same.of_upd {H H' : Hp} {a : Addr} {o : HO} (s : Same H H') (h : H a = none) : Same H (L2.upd H' a o) := fun b u e => by rw [upd_ne (ne_of_none e h)]; exact s b u e
theorem lcN {i : Nat} {v : V} {σ : St} {H : Hp} {A B : St → Hp → Prop} (h : A (σ.set i (some v)) H) : gName i v σ H (fun σ2 H2 => tYes σ2 H2 fun b H3 => if b = true then A σ2 H3 else B σ2 H3) := @iteT (A (σ.set i (some v)) H) (B (σ.set i (some v)) H) h
def tLstK (K : PySem.W.Frag) (t : TA) : TE := fun σ H Q => t σ H fun xs H1 => xs.length ≤ sizeLine ∧ ∀ p, H1 p = none → K.lookup p = none → Q (.ref p) (upd H1 p (.lst xs))
theorem pe_lstK {X : Cx} {K : PySem.W.Frag} {es : List Expr} {t : TA} {pos : Pos} (hK : X.K = K) (h : PA X es t) : PE X (.List es pos) (tLstK K t) := by
  subst hK
  intro pins s σ H Q I hw
  refine wpAny_List_spliced (thn (h pos pins s σ H _ I hw) fun us s1 q1 => ?_)
  obtain ⟨xs, H1, I1, r, z, q⟩ := q1
  refine ⟨by rw [← r.length]; exact z, ?_⟩
  have lk : X.K.lookup s1.heap.objs.size = none := by
    cases e : X.K.lookup s1.heap.objs.size with
    | none => rfl
    | some o => exact absurd (Heap.lt_size (I1.kIn _ o e)) (Nat.lt_irrefl _)
  exact ⟨.ref s1.heap.objs.size, _, I1.lnew (t' := s1.toks) r z, rfl, q _ I1.fresh lk⟩
theorem SqL.ne_new {K : PySem.W.Frag} {H : Hp} {a p : Addr} {xs : List V} (h : SqL K H a xs) (h1 : H p = none) (h2 : K.lookup p = none) : a ≠ p := by
  rintro rfl
  rcases h with (h | ⟨o, h⟩) | ⟨o, its, n, hk, _⟩
  · rw [h1] at h; cases h
  · rw [h1] at h; cases h
  · rw [h2] at hk; cases hk
theorem iteDT {c A B : Prop} [Decidable c] (hc : c) (h : A) : if decide c = true then A else B := by
  rw [decide_eq_true hc]
  exact iteT h
theorem iteDF {c A B : Prop} [Decidable c] (hc : ¬ c) (h : B) : if decide c = true then A else B := by
  rw [decide_eq_false hc]
  exact iteF h
theorem for_range0 {n : Nat} {g : TG} {tb : TS} {D : Ends} {σ : St} {H : Hp} (Pv : Nat → St → Hp → Prop) (h0 : Pv 0 σ H)
    (hs : ∀ i σ H, i < n → Pv i σ H → g (.int (i : Int)) σ H fun σ2 H2 => tb { D with nx := Pv (i + 1), ct := Pv (i + 1), bk := D.nx } σ2 H2) (hd : ∀ σ H, Pv n σ H → D.nx σ H) :
    ∃ W : Nat → Nat → St → Hp → Prop, (∃ m, W 0 m σ H) ∧ ∀ i m σ H, W i m σ H →
      ((Itr 0 ((n : Int)).toNat).stop i H ∧ D.nx σ H) ∨ ((Itr 0 ((n : Int)).toNat).go i H ∧ ∃ N : St → Hp → Prop, (∀ σ' H', N σ' H' → ∃ m', m' < m ∧ W (i + 1) m' σ' H') ∧ ∀ x H', (Itr 0 ((n : Int)).toNat).yld i H x H' → g x σ H' fun σ2 H2 => tb { D with nx := N, ct := N, bk := D.nx } σ2 H2) := by
  rw [Int.toNat_natCast]
  exact for_range Pv h0 (fun i σ H hi p => by rw [Int.zero_add]; exact hs i σ H hi p) hd
theorem lc_range0 {n : Nat} {g : TG} {tc : TT} {te : TE} {Fin : List V → Hp → Prop} {σ₀ : St} {H : Hp} (Pv : Nat → St → List V → Hp → Prop) (h0 : Pv 0 σ₀ [] H) (hz : ∀ i σ ys H, Pv i σ ys H → ys.length < sizeLine)
    (hs : ∀ i σ ys H, i < n → Pv i σ ys H → g (.int (i : Int)) σ H fun σ2 H2 => tc σ2 H2 fun b H3 => if b = true then te σ2 H3 fun v H4 => Pv (i + 1) σ2 (ys ++ [v]) H4 else Pv (i + 1) σ2 ys H3)
    (hd : ∀ σ ys H, Pv n σ ys H → Fin ys H) : LcW (Itr 0 ((n : Int)).toNat) g tc te Fin σ₀ H := by
  rw [Int.toNat_natCast]
  exact lc_range Pv h0 hz (fun i σ ys H hi p => by rw [Int.zero_add]; exact hs i σ ys H hi p) hd
def tJoin (t : TS) : TS := fun D σ H => ∃ R : St → Hp → Prop, t { D with nx := R } σ H ∧ ∀ σ' H', R σ' H' → D.nx σ' H'
theorem ps_join {X : Cx} {st : Stmt} {t : TS} (h : PS X st t) : PS X st (tJoin t) := by
  intro pins s σ H D I q
  obtain ⟨R, q1, q2⟩ := q
  refine thn (h pins s σ H { D with nx := R } I q1) fun f s' z => ?_
  cases f with
  | next => obtain ⟨σ', H', I', z⟩ := z; exact ⟨σ', H', I', q2 _ _ z⟩
  | brk => exact z
  | cont => exact z
  | ret v => exact z
inductive EqQ (K : PySem.W.Frag) (H : Hp) : Nat → V → V → Bool → Prop
  | flat {n : Nat} {x y : V} (hx : flatV x = true) (hy : flatV y = true) : EqQ K H n x y (eqV x y)
  | same {n : Nat} {a : Addr} : EqQ K H n (.ref a) (.ref a) true
  | lsts {n : Nat} {a b : Addr} {xs ys : List V} {e : Nat → Bool} (ne : a ≠ b) (ha : SqL K H a xs) (hb : SqL K H b ys) (hl : xs.length = ys.length) (he : ∀ j x y, xs[j]? = some x → ys[j]? = some y → EqQ K H n x y (e j)) :
      EqQ K H (n + 1) (.ref a) (.ref b) ((List.range xs.length).all e)
  | lstsN {n : Nat} {a b : Addr} {xs ys : List V} (ne : a ≠ b) (ha : SqL K H a xs) (hb : SqL K H b ys) (hl : xs.length ≠ ys.length) : EqQ K H (n + 1) (.ref a) (.ref b) false
  | tups {n : Nat} {a b : Addr} {xs ys : List V} {e : Nat → Bool} (ne : a ≠ b) (ha : SqT K H a xs) (hb : SqT K H b ys) (he : ∀ j x y, xs[j]? = some x → ys[j]? = some y → EqQ K H n x y (e j)) :
      EqQ K H (n + 1) (.ref a) (.ref b) ((List.range (min xs.length ys.length)).all e && xs.length == ys.length)
theorem Vals.getR : ∀ {xs : List V} {us : List Value} {j : Nat} {u : Value}, Vals xs us → us[j]? = some u → ∃ x, xs[j]? = some x ∧ RelV x u
  | _, _, _, _, .nil, e => by simp at e
  | _, _, 0, _, .cons r _, e => by simp at e; subst e; exact ⟨_, rfl, r⟩
  | _, _, j + 1, u, .cons _ t, e => by
    obtain ⟨x, h1, h2⟩ := Vals.getR (j := j) (u := u) t (by simpa using e)
    exact ⟨x, by simpa using h1, h2⟩
theorem EqQ.at {X : Cx} {pins : List (Addr × Obj)} {σ : St} {H : Hp} {s : Shared} (I : Inv X pins σ H s) {n : Nat} {x y : V} {b : Bool} (h : EqQ X.K H n x y b) : ∀ {A : Around} {u v : Value}, RelV x u → RelV y v → A.units + n < cLine → SeqAt.EqAt A s u v b := by
  induction h with
  | flat hx hy => intro A u v ru rv _; exact eqAt_V ru rv hx hy
  | same => intro A u v ru rv _; cases ru; cases rv; exact SeqAt.EqAt.same _
  | lsts ne ha hb hl he ih =>
    intro A u v ru rv hu
    cases ru; cases rv
    obtain ⟨us, r1, p1, _⟩ := I.list ha
    obtain ⟨vs, r2, p2, _⟩ := I.list hb
    have l1 := r1.length
    have l2 := r2.length
    have := SeqAt.EqAt.of_refs ne (SeqAt.RcAt.lists (A := A) (s := s) p1.isList p2.isList (by simp; omega) (by omega) fun j h1 h2 => by
      obtain ⟨x, hx, rx⟩ := Vals.getR r1 (j := j) (u := us.toArray[j]) (by simp at h1; simp [h1])
      obtain ⟨y, hy, ry⟩ := Vals.getR r2 (j := j) (u := vs.toArray[j]) (by simp at h2; simp [h2])
      exact ih j x y hx hy rx ry (by rw [Around.in1_units]; omega))
    simp only [List.size_toArray, ← l1] at this
    exact this
  | lstsN ne ha hb hl =>
    intro A u v ru rv hu
    cases ru; cases rv
    obtain ⟨us, r1, p1, _⟩ := I.list ha
    obtain ⟨vs, r2, p2, _⟩ := I.list hb
    have l1 := r1.length
    have l2 := r2.length
    exact SeqAt.EqAt.of_refs ne (SeqAt.RcAt.lists_lengths p1.isList p2.isList (by simp; omega) (by omega))
  | tups ne ha hb he ih =>
    intro A u v ru rv hu
    cases ru; cases rv
    obtain ⟨us, r1, p1, _⟩ := I.tuple ha
    obtain ⟨vs, r2, p2, _⟩ := I.tuple hb
    have l1 := r1.length
    have l2 := r2.length
    have := SeqAt.EqAt.of_refs ne (SeqAt.RcAt.tuples (A := A) (s := s) p1 p2 (by omega) fun j h1 h2 => by
      obtain ⟨x, hx, rx⟩ := Vals.getR r1 (j := j) (u := us.toArray[j]) (by simp at h1; simp [h1])
      obtain ⟨y, hy, ry⟩ := Vals.getR r2 (j := j) (u := vs.toArray[j]) (by simp at h2; simp [h2])
      exact ih j x y hx hy rx ry (by rw [Around.in1_units]; omega))
    simp only [List.size_toArray, ← l1, ← l2] at this
    exact this
inductive TopQ (K : PySem.W.Frag) (H : Hp) : V → V → Bool → Prop
  | lsts {n : Nat} {a b : Addr} {xs ys : List V} {e : Nat → Bool} (hn : n ≤ 32) (ha : SqL K H a xs) (hb : SqL K H b ys) (hl : xs.length = ys.length) (he : ∀ j x y, xs[j]? = some x → ys[j]? = some y → EqQ K H n x y (e j)) : TopQ K H (.ref a) (.ref b) ((List.range xs.length).all e)
  | lstsN {a b : Addr} {xs ys : List V} (ha : SqL K H a xs) (hb : SqL K H b ys) (hl : xs.length ≠ ys.length) : TopQ K H (.ref a) (.ref b) false
  | tups {n : Nat} {a b : Addr} {xs ys : List V} {e : Nat → Bool} (hn : n ≤ 32) (ha : SqT K H a xs) (hb : SqT K H b ys) (he : ∀ j x y, xs[j]? = some x → ys[j]? = some y → EqQ K H n x y (e j)) : TopQ K H (.ref a) (.ref b) ((List.range (min xs.length ys.length)).all e && xs.length == ys.length)
def rQ (K : PySem.W.Frag) (neg : Bool) : R2 := fun x y H Q => ∃ b, TopQ K H x y b ∧ Q (.bl (if neg then !b else b)) H
theorem eqq {X : Cx} {K : PySem.W.Frag} {k : Nat} (hK : X.K = K) (hr : Room k X.A) : OpR X (compareOp .Eq) (rQ K false) := by
  subst hK
  intro pins s σ H x y v u Q I rx ry h
  obtain ⟨b, h, q⟩ := h
  have hu := hr.units
  cases h with
  | @lsts n a b xs ys e hn ha hb hl he =>
    cases rx; cases ry
    obtain ⟨us, r1, p1, _⟩ := I.list ha
    obtain ⟨vs, r2, p2, _⟩ := I.list hb
    have l1 := r1.length
    have l2 := r2.length
    refine SeqAt.eq_listAt (e := e) p1.isList p2.isList (by simp; omega) (by omega) (fun j h1 h2 => ?_) ⟨.bl _, H, I, rfl, ?_⟩
    · obtain ⟨x, hx, rx⟩ := Vals.getR r1 (j := j) (u := us.toArray[j]) (by simp at h1; simp [h1])
      obtain ⟨y, hy, ry⟩ := Vals.getR r2 (j := j) (u := vs.toArray[j]) (by simp at h2; simp [h2])
      exact (he j x y hx hy).at I rx ry (by rw [Around.in1_units]; omega)
    · rw [List.size_toArray, ← l1]; exact q
  | lstsN ha hb hl =>
    cases rx; cases ry
    obtain ⟨us, r1, p1, _⟩ := I.list ha
    obtain ⟨vs, r2, p2, _⟩ := I.list hb
    have l1 := r1.length
    have l2 := r2.length
    exact SeqAt.eq_list_lengthsAt p1.isList p2.isList (by simp; omega) (by omega) ⟨.bl false, H, I, rfl, q⟩
  | @tups n a b xs ys e hn ha hb he =>
    cases rx; cases ry
    obtain ⟨us, r1, p1, _⟩ := I.tuple ha
    obtain ⟨vs, r2, p2, _⟩ := I.tuple hb
    have l1 := r1.length
    have l2 := r2.length
    refine SeqAt.eq_tupleAt (e := e) p1 p2 (by omega) (fun j h1 h2 => ?_) ⟨.bl _, H, I, rfl, ?_⟩
    · obtain ⟨x, hx, rx⟩ := Vals.getR r1 (j := j) (u := us.toArray[j]) (by simp at h1; simp [h1])
      obtain ⟨y, hy, ry⟩ := Vals.getR r2 (j := j) (u := vs.toArray[j]) (by simp at h2; simp [h2])
      exact (he j x y hx hy).at I rx ry (by rw [Around.in1_units]; omega)
    · rw [List.size_toArray, List.size_toArray, ← l1, ← l2]; exact q
theorem neq {X : Cx} {K : PySem.W.Frag} {k : Nat} (hK : X.K = K) (hr : Room k X.A) : OpR X (compareOp .NotEq) (rQ K true) := by
  subst hK
  intro pins s σ H x y v u Q I rx ry h
  obtain ⟨b, h, q⟩ := h
  have hu := hr.units
  cases h with
  | @lsts n a b xs ys e hn ha hb hl he =>
    cases rx; cases ry
    obtain ⟨us, r1, p1, _⟩ := I.list ha
    obtain ⟨vs, r2, p2, _⟩ := I.list hb
    have l1 := r1.length
    have l2 := r2.length
    refine SeqAt.RcNeAt.lists (e := e) p1.isList p2.isList (by simp; omega) (by omega) (fun j h1 h2 => ?_) X.prog X.w X.xe _ ⟨.bl _, H, I, rfl, ?_⟩
    · obtain ⟨x, hx, rx⟩ := Vals.getR r1 (j := j) (u := us.toArray[j]) (by simp at h1; simp [h1])
      obtain ⟨y, hy, ry⟩ := Vals.getR r2 (j := j) (u := vs.toArray[j]) (by simp at h2; simp [h2])
      exact (he j x y hx hy).at I rx ry (by rw [Around.in1_units]; omega)
    · rw [List.size_toArray, ← l1]; exact q
  | lstsN ha hb hl =>
    cases rx; cases ry
    obtain ⟨us, r1, p1, _⟩ := I.list ha
    obtain ⟨vs, r2, p2, _⟩ := I.list hb
    have l1 := r1.length
    have l2 := r2.length
    exact SeqAt.RcNeAt.lists_lengths p1.isList p2.isList (by simp; omega) (by omega) X.prog X.w X.xe _ ⟨.bl true, H, I, rfl, q⟩
  | @tups n a b xs ys e hn ha hb he =>
    cases rx; cases ry
    obtain ⟨us, r1, p1, _⟩ := I.tuple ha
    obtain ⟨vs, r2, p2, _⟩ := I.tuple hb
    have l1 := r1.length
    have l2 := r2.length
    refine SeqAt.RcNeAt.tuples (e := e) p1 p2 (by omega) (fun j h1 h2 => ?_) X.prog X.w X.xe _ ⟨.bl _, H, I, rfl, ?_⟩
    · obtain ⟨x, hx, rx⟩ := Vals.getR r1 (j := j) (u := us.toArray[j]) (by simp at h1; simp [h1])
      obtain ⟨y, hy, ry⟩ := Vals.getR r2 (j := j) (u := vs.toArray[j]) (by simp at h2; simp [h2])
      exact (he j x y hx hy).at I rx ry (by rw [Around.in1_units]; omega)
    · rw [List.size_toArray, List.size_toArray, ← l1, ← l2]; exact q
structure EqR (K : PySem.W.Frag) (H : Hp) (n : Nat) {α : Type} [DecidableEq α] (F : V → α → Prop) : Prop where
  eq : ∀ x y a b, F x a → F y b → EqQ K H n x y (decide (a = b))
  fn : ∀ x a b, F x a → F x b → a = b
theorem paired_getL {α β : Type} {F : α → β → Prop} : ∀ {l : List α} {m : List β}, Paired F l m → ∀ {i : Nat} {a : α}, l[i]? = some a → ∃ b, m[i]? = some b ∧ F a b
  | _, _, .nil, i, a, h => by simp at h
  | _, _, .cons r t, 0, a, h => by simp at h; subst h; exact ⟨_, rfl, r⟩
  | _, _, .cons r t, i + 1, a, h => by simp at h; obtain ⟨b, q1, q2⟩ := paired_getL t h; exact ⟨b, by simpa using q1, q2⟩
theorem paired_fn {α β : Type} {F : α → β → Prop} (fn : ∀ x a b, F x a → F x b → a = b) : ∀ {l : List α} {m m' : List β}, Paired F l m → Paired F l m' → m = m'
  | _, _, _, .nil, .nil => rfl
  | _, _, _, .cons r t, .cons r' t' => by rw [fn _ _ _ r r', paired_fn fn t t']
theorem all_dec {α : Type} [DecidableEq α] {as bs : List α} (h : as.length = bs.length) : ((List.range as.length).all fun j => decide (as[j]? = bs[j]?)) = decide (as = bs) := by
  rw [Bool.eq_iff_iff, List.all_eq_true, decide_eq_true_iff]
  constructor
  · intro q
    apply List.ext_getElem?
    intro j
    by_cases hj : j < as.length
    · simpa using q j (List.mem_range.mpr hj)
    · rw [List.getElem?_eq_none (by omega), List.getElem?_eq_none (by omega)]
  · rintro rfl j _
    simp
theorem EqR.flat {K : PySem.W.Frag} {H : Hp} {n : Nat} {α : Type} [DecidableEq α] (f : α → V) (hf : ∀ a, flatV (f a) = true) (he : ∀ a b, eqV (f a) (f b) = decide (a = b)) (hi : ∀ a b, f a = f b → a = b) : EqR K H n (fun v a => v = f a) :=
  ⟨fun x y a b h1 h2 => by subst h1 h2; rw [← he]; exact .flat (hf a) (hf b), fun x a b h1 h2 => hi a b (h1.symm.trans h2)⟩
theorem EqR.at_ {K : PySem.W.Frag} {H : Hp} {n : Nat} {α : Type} [DecidableEq α] {F : V → α → Prop} (h : EqR K H n F) {xs ys : List V} {as bs : List α} (p1 : Paired F xs as) (p2 : Paired F ys bs) (j : Nat) (x y : V) (ex : xs[j]? = some x) (ey : ys[j]? = some y) : EqQ K H n x y (decide (as[j]? = bs[j]?)) := by
  obtain ⟨a, ea, fa⟩ := paired_getL p1 ex
  obtain ⟨b, eb, fb⟩ := paired_getL p2 ey
  rw [ea, eb]
  have := h.eq x y a b fa fb
  rw [show decide (some a = some b) = decide (a = b) from decide_eq_decide.mpr ⟨fun z => Option.some.inj z, fun z => congrArg some z⟩]
  exact this
theorem tup_dec {α : Type} [DecidableEq α] {as bs : List α} : ((List.range (min as.length bs.length)).all (fun j => decide (as[j]? = bs[j]?)) && as.length == bs.length) = decide (as = bs) := by
  by_cases hl : as.length = bs.length
  · rw [show min as.length bs.length = as.length by omega, all_dec hl, show (as.length == bs.length) = true by simpa using hl, Bool.and_true]
  · rw [show (as.length == bs.length) = false by simpa using hl, Bool.and_false, decide_eq_false (fun e => hl (by rw [e]))]
def LstF (K : PySem.W.Frag) (H : Hp) {α : Type} (F : V → α → Prop) : V → List α → Prop := fun v as => ∃ a xs, v = .ref a ∧ H a = some (.lst xs) ∧ Paired F xs as
def TupF (K : PySem.W.Frag) (H : Hp) {α : Type} (F : V → α → Prop) : V → List α → Prop := fun v as => ∃ a xs, v = .ref a ∧ H a = some (.tup xs) ∧ Paired F xs as
theorem EqR.lst {K : PySem.W.Frag} {H : Hp} {n : Nat} {α : Type} [DecidableEq α] {F : V → α → Prop} (h : EqR K H n F) : EqR K H (n + 1) (LstF K H F) := by
  have fn : ∀ x as bs, LstF K H F x as → LstF K H F x bs → as = bs := by
    rintro x as bs ⟨a, xs, rfl, ha, pa⟩ ⟨b, ys, eb, hb, pb⟩
    cases eb
    rw [ha] at hb
    cases hb
    exact paired_fn h.fn pa pb
  refine ⟨?_, fn⟩
  rintro x y as bs ⟨a, xs, rfl, ha, pa⟩ ⟨b, ys, rfl, hb, pb⟩
  have l1 := pa.length
  have l2 := pb.length
  by_cases ne : a = b
  · subst ne
    rw [decide_eq_true (fn (.ref a) as bs ⟨a, xs, rfl, ha, pa⟩ ⟨a, ys, rfl, hb, pb⟩)]
    exact .same
  · by_cases hl : xs.length = ys.length
    · rw [← all_dec (show as.length = bs.length by omega), ← l1]
      exact .lsts ne (SqL.of ha) (SqL.of hb) hl (h.at_ pa pb)
    · rw [decide_eq_false (fun e => hl (by rw [l1, l2, e]))]
      exact .lstsN ne (SqL.of ha) (SqL.of hb) hl
theorem EqR.tup {K : PySem.W.Frag} {H : Hp} {n : Nat} {α : Type} [DecidableEq α] {F : V → α → Prop} (h : EqR K H n F) : EqR K H (n + 1) (TupF K H F) := by
  have fn : ∀ x as bs, TupF K H F x as → TupF K H F x bs → as = bs := by
    rintro x as bs ⟨a, xs, rfl, ha, pa⟩ ⟨b, ys, eb, hb, pb⟩
    cases eb
    rw [ha] at hb
    cases hb
    exact paired_fn h.fn pa pb
  refine ⟨?_, fn⟩
  rintro x y as bs ⟨a, xs, rfl, ha, pa⟩ ⟨b, ys, rfl, hb, pb⟩
  have l1 := pa.length
  have l2 := pb.length
  by_cases ne : a = b
  · subst ne
    rw [decide_eq_true (fn (.ref a) as bs ⟨a, xs, rfl, ha, pa⟩ ⟨a, ys, rfl, hb, pb⟩)]
    exact .same
  · rw [← tup_dec, ← l1, ← l2]
    exact .tups ne (SqT.of ha) (SqT.of hb) (h.at_ pa pb)
theorem EqR.by {K : PySem.W.Frag} {H : Hp} {n : Nat} {α β : Type} [DecidableEq α] [DecidableEq β] {F : V → α → Prop} {G : V → β → Prop} (h : EqR K H n F) (φ : β → α) (inj : ∀ a b, φ a = φ b → a = b) (hG : ∀ v b, G v b → F v (φ b)) : EqR K H n G :=
  ⟨fun x y a b h1 h2 => by
    rw [show decide (a = b) = decide (φ a = φ b) from decide_eq_decide.mpr ⟨fun z => congrArg φ z, inj a b⟩]
    exact h.eq x y _ _ (hG _ _ h1) (hG _ _ h2), fun x a b h1 h2 => inj _ _ (h.fn x _ _ (hG _ _ h1) (hG _ _ h2))⟩
def rAll (K : PySem.W.Frag) : List V → Hp → VK → Prop := fun xs H Q => ∃ (p : Addr) (bs : List Bool), xs = [.ref p] ∧ SqL K H p (bs.map V.bl) ∧ Q (.bl (bs.all id)) H
theorem allq {X : Cx} {K : PySem.W.Frag} (hK : X.K = K) (hc : X.calm = true := by rfl) : CallR X (.builtin "all") (rAll K) := by
  subst hK
  intro pins s σ H xs us Q I r h
  obtain ⟨p, bs, rfl, hq, q⟩ := h
  obtain ⟨u, rfl, rx⟩ := vals1 r
  cases rx
  obtain ⟨its, rv, pl, hz⟩ := I.list hq
  have hl := pl.isList
  have hlen := rv.length
  rw [List.length_map] at hlen
  have hne : p ≠ s.heap.objs.size := by obtain ⟨o, ho, _⟩ := hl; exact Nat.ne_of_lt (Heap.lt_size ho)
  have at_ : ∀ (i : Nat) (v : Value), its.toArray[i]? = some v → ∃ b, bs[i]? = some b ∧ v = .bool b := by
    intro i v e
    rw [List.getElem?_toArray] at e
    obtain ⟨x, hx, rx⟩ := Vals.getR rv e
    rw [List.getElem?_map] at hx
    cases eb : bs[i]? with
    | none => rw [eb] at hx; cases hx
    | some b => rw [eb] at hx; cases hx; exact ⟨b, rfl, rx⟩
  refine call_all_walk (wpAny_pyIter_list hl ?_)
  refine ⟨s.heap.objs.size, [s.heap.objs.size, p], [s.heap.objs.size], its.toArray.size, fun i v => its.toArray[i]? = some v, fun i h => h.IsListIter s.heap.objs.size p i ∧ h.IsList p its.toArray, fun i => bs.getD i true, rfl,
    Walks.list (A := X.A.in1) (show X.A.in1.handled = none from I.ok.hd hc) _ p hne its.toArray, ⟨⟨_, Heap.get?_push_size _ rfl, rfl, rfl⟩, hl.push _⟩, fun i v s' Q' E' hP hQ' => ?_, fun h' tk hk => ?_⟩
  · obtain ⟨b, eb, rfl⟩ := at_ i v hP
    have e2 : bs.getD i true = b := by rw [List.getD_eq_getElem?_getD, eb]; rfl
    have hQ2 : Q' (bs.getD i true) s' := hQ'
    rw [e2] at hQ2
    exact wpAny_truthy_bool hQ2
  · have ea : ((List.range its.toArray.size).all fun i => bs.getD i true) = bs.all id := by
      rw [List.size_toArray, ← hlen, Bool.eq_iff_iff, List.all_eq_true, List.all_eq_true]
      constructor
      · intro z b hb
        obtain ⟨i, hi, e⟩ := List.getElem_of_mem hb
        have := z i (List.mem_range.mpr hi)
        rw [List.getD_eq_getElem?_getD, List.getElem?_eq_getElem hi, e] at this
        exact this
      · intro z i hi
        rw [List.mem_range] at hi
        rw [List.getD_eq_getElem?_getD, List.getElem?_eq_getElem hi]
        exact z _ (List.getElem_mem hi)
    show EP X pins σ Q (.bool ((List.range its.toArray.size).all fun i => bs.getD i true)) _
    rw [ea]
    exact ⟨.bl _, H, I.kept (t' := tk) fun b o e => hk b o (fun m => by rw [List.mem_singleton] at m; subst m; exact absurd (Heap.lt_size e) (Nat.lt_irrefl _)) (Heap.get?_push_of_some _ e), rfl, q⟩
theorem ObjOk.ex {P : Program} {w : World} {H : Hp} {h : Heap} {a : Addr} : ∀ {o : HO}, ObjOk P w H h a o → ∃ ob, h.get? a = some ob
  | .lst xs, x => by obtain ⟨_, _, _, _, e⟩ := x; exact ⟨_, e⟩
  | .tup xs, x => by obtain ⟨_, _, _, ob, e, _⟩ := x; exact ⟨_, e⟩
  | .dK kvs, x => by obtain ⟨_, _, _, _, o, _, _, e, _⟩ := x; exact ⟨_, e⟩
  | .dT kvs, x => by obtain ⟨_, _, _, _, o, _, _, e, _⟩ := x; exact ⟨_, e⟩
  | .set S n, x => by obtain ⟨o, _, _, _, e, _⟩ := x; exact ⟨_, e⟩
  | .ins C dx fs, x => by obtain ⟨_, _, _, e, _⟩ := x; exact ⟨_, e⟩
  | .own y, x => x
  | .xd fs, x => by obtain ⟨_, ⟨o, _, _, e, _⟩, _⟩ := x; exact ⟨_, e⟩
  | .met f y, x => ⟨_, x⟩
  | .rng lo hi, x => by obtain ⟨_, _, _, e⟩ := x; exact ⟨_, e⟩
  | .frz o u, x => ⟨_, x.1⟩
  | .tbl ps, x => ⟨_, x⟩
  | .ext φ, x => x.2.1
  | .tab p q, x => by obtain ⟨_, e, _⟩ := x; exact ⟨_, e⟩
structure Fly (P : Program) (w : World) (outer : List Env) (H : Hp) (s : Shared) (x : Addr) (cls a0 : Value) (B : Heap) (H' : Hp) (s' : Shared) : Prop where
  fl : Heap.FlyingW B outer x cls a0 s'.heap
  os : s'.os = s.os
  bare : AllBare s'.gens
  keepB : ∀ b o, s.heap.get? b = some o → H b = none → b ∉ frs outer → B.get? b = some o
  slot : ∀ b o, s.heap.get? b = some o → H b = none → b ∈ frs outer → ∃ sl, s'.heap.get? b = some { o with slots := sl }
  free : ∀ b o, s.heap.get? b = some o → H b = none → H' b = none
  thereB : ∀ b o, s.heap.get? b = some o → b ∉ frs outer → ∃ o', B.get? b = some o'
  tups : ∀ b xs, H b = some (.tup xs) → H' b = some (.tup xs)
  frzs : ∀ b o u, H b = some (.frz o u) → H' b = some (.frz o u)
  tbls : ∀ b ps, H b = some (.tbl ps) → ∃ more, H' b = some (.tbl (ps ++ more))
  hok : HOk P w H' B
  new : s.heap.get? x = none
theorem Fly.nx {P : Program} {w : World} {outer : List Env} {H : Hp} {s : Shared} {x : Addr} {cls a0 : Value} {B : Heap} {H' : Hp} {s' : Shared} (f : Fly P w outer H s x cls a0 B H' s') : H' x = none := by
  cases q : H' x with
  | none => rfl
  | some u =>
    obtain ⟨ob, e⟩ := (f.hok x u q).ex
    have := f.fl.2.1
    rw [e] at this; cases this
theorem Fly.there {P : Program} {w : World} {outer : List Env} {H : Hp} {s : Shared} {x : Addr} {cls a0 : Value} {B : Heap} {H' : Hp} {s' : Shared} (f : Fly P w outer H s x cls a0 B H' s') (b : Addr) (o : Obj) (e : s.heap.get? b = some o) : ∃ o', s'.heap.get? b = some o' := by
  by_cases hb : b ∈ frs outer
  · obtain ⟨_, o2, e2, _⟩ := f.fl.2.2.1.mem hb
    exact ⟨o2, e2⟩
  · obtain ⟨o', e'⟩ := f.thereB b o e hb
    exact ⟨o', f.fl.1 b o' e'⟩
theorem Fly.un {P : Program} {w : World} {outer : List Env} {H : Hp} {s : Shared} {x : Addr} {cls a0 : Value} {B : Heap} {H' : Hp} {s' : Shared} (f : Fly P w outer H s x cls a0 B H' s') : Un (frs outer) [] H H' s.heap s'.heap :=
  ⟨fun b o e n hb _ => f.fl.1 b o (f.keepB b o e n hb), fun b o e n hb _ => f.slot b o e n hb, fun b o e n _ => f.free b o e n, fun b o e _ => f.there b o e, f.tups, f.frzs, f.tbls⟩
theorem Fly.on {P : Program} {w : World} {outer : List Env} {H : Hp} {s : Shared} {x : Addr} {cls a0 : Value} {B : Heap} {H' : Hp} {s' : Shared} (f : Fly P w outer H s x cls a0 B H' s') {h1 : Heap} (fl : Heap.FlyingW B outer x cls a0 h1) (up : s'.heap.UpToSlots h1) : Fly P w outer H s x cls a0 B H' { s' with heap := h1 } := by
  refine ⟨fl, f.os, f.bare, f.keepB, fun b o e n hb => ?_, f.free, f.thereB, f.tups, f.frzs, f.tbls, f.hok, f.new⟩
  obtain ⟨sl, e1⟩ := f.slot b o e n hb
  obtain ⟨_, o2, e2, hd⟩ := f.fl.2.2.1.mem hb
  rw [e1] at e2
  cases e2
  obtain ⟨sl2, e3⟩ := up b _ e1 hd
  exact ⟨sl2, e3⟩
abbrev CX1 (P : Program) (w : World) : CXT := fun outer H s E e s' => ∃ x C a0 B H', e = .ref x ∧ Fly P w outer H s x (.ref C) a0 B H' s' ∧ E (.ref C) none H'
section
variable {P : Program} {w : World} {K : PySem.W.Frag} {mg : Str → Option Value} {base : Heap} {N : List Str} {qual : Str} {scope : Scope} {f : Addr} {cd : Value} {A : Around} {outer : List Env} {s0 : Shared} {H0 : Hp} {E : XK}
theorem raise1 {pins : List (Addr × Obj)} {σ : St} {H : Hp} {s : Shared} {h' : Heap} {x C : Addr} {args : List Value} (I : Inv (cxOf (CX1 P w) P w K mg base N qual scope f cd A outer s0 H0 E) pins σ H s) (hx : Heap.MadeExcOf s.heap h' x (.ref C) args)
    (hE : E (.ref C) none H) : (cxOf (CX1 P w) P w K mg base N qual scope f cd A outer s0 H0 E).xe (.ref x) { s with heap := h' } := by
  have hin : ∀ env ∈ (envOfC qual scope s0.heap.objs.size f cd :: outer), ∀ b, env.frame = some b → b ∈ frs (envOfC qual scope s0.heap.objs.size f cd :: outer) := fun env he b hb => List.mem_filterMap.mpr ⟨env, he, hb⟩
  have stk := I.stack
  have above : ∀ b o, s0.heap.get? b = some o → b ∉ frs outer → b ∉ frs (envOfC qual scope s0.heap.objs.size f cd :: outer) := fun b o e hb q => by
    rcases List.mem_cons.mp (I.stkSub b q) with z | z
    · have h1 : s0.heap.objs.size ≤ b := by rw [z]; exact I.ok.above
      exact absurd (Nat.lt_of_lt_of_le (Heap.lt_size e) h1) (Nat.lt_irrefl _)
    · exact hb z
  show wpAny _ _ (leaving _ (.ref x)) _ _ _
  refine wpAny_leaves_madeW (base := PySem.W.hideAll s.heap (frs (envOfC qual scope s0.heap.objs.size f cd :: outer))) I.ok.frames rfl (fun b o q => PySem.W.of_hideAll _ q) (PySem.W.funFrames_hide stk hin) hx fun h1 t y1 y2 y3 y4 => ?_
  refine ⟨x, C, .ref t, _, H, rfl, ⟨y1, I.os, I.bare, fun b o e n hb => ?_, fun b o e n hb => ?_, fun b o e n => I.base.free b o e n (by simp [cxOf]), fun b o e hb => ?_, I.base.tups, I.base.frzs, I.base.tbls, fun a u e => ?_, ?_⟩, hE⟩
  · exact PySem.W.hideAll_get _ (I.base.keep b o e n hb (by simp [cxOf])) (above b o e hb)
  · obtain ⟨sl, e1⟩ := I.base.slot b o e n hb (by simp [cxOf])
    obtain ⟨_, o2, e2, hd⟩ := stk.mem (show b ∈ frs (envOfC qual scope s0.heap.objs.size f cd :: outer) from List.mem_cons_of_mem _ hb)
    rw [e1] at e2
    cases e2
    obtain ⟨sl2, e3⟩ := y4 b _ (hx.keeps b _ e1) hd
    exact ⟨sl2, e3⟩
  · obtain ⟨o', e'⟩ := I.base.there b o e (by simp [cxOf])
    exact ⟨o', PySem.W.hideAll_get _ e' (above b o e hb)⟩
  · refine (I.hok a u e).stay (fun b v hb q => PySem.W.hideAll_get _ q fun z => ?_) (fun _ q => q) fun _ _ q => q
    have hz := I.stkFree b z
    rcases hb with rfl | hb
    · rw [e] at hz; cases hz
    · rw [hb] at hz; cases hz
  · cases q : s0.heap.get? x with
    | none => rfl
    | some o =>
      obtain ⟨o', e'⟩ := I.base.there x o q (by simp [cxOf])
      have := hx.new
      rw [e'] at this
      cases this
theorem pass1 : Passes (CX1 P w) (cxOf (CX1 P w) P w K mg base N qual scope f cd A outer s0 H0 E) E := by
  intro pins σ H s e s' I h
  obtain ⟨x, C, a0, B, H', rfl, fly, hE⟩ := h
  have stk := I.stack
  have above : ∀ b o, s0.heap.get? b = some o → b ∉ frs outer → b ∉ frs (envOfC qual scope s0.heap.objs.size f cd :: outer) := fun b o e hb q => by
    rcases List.mem_cons.mp (I.stkSub b q) with z | z
    · have h1 : s0.heap.objs.size ≤ b := by rw [z]; exact I.ok.above
      exact absurd (Nat.lt_of_lt_of_le (Heap.lt_size e) h1) (Nat.lt_irrefl _)
    · exact hb z
  show wpAny _ _ (leaving _ (.ref x)) _ _ _
  refine wpAny_leaves_onW (base := B) I.ok.frames rfl fly.fl fun h1 y1 y2 => ?_
  refine ⟨x, C, a0, B, H', rfl, ⟨y1, fly.os.trans I.os, fly.bare, fun b o e n hb => ?_, fun b o e n hb => ?_, fun b o e n => ?_, fun b o e hb => ?_, fun b xs q => fly.tups b xs (I.base.tups b xs q), fun b o u q => fly.frzs b o u (I.base.frzs b o u q), fun b ps q => ?_, fly.hok, ?_⟩, hE⟩
  · exact fly.keepB b o (I.base.keep b o e n hb (by simp [cxOf])) (I.base.free b o e n (by simp [cxOf])) (above b o e hb)
  · obtain ⟨sl, e1⟩ := I.base.slot b o e n hb (by simp [cxOf])
    have hb2 : b ∈ frs (envOfC qual scope s0.heap.objs.size f cd :: outer) := List.mem_cons_of_mem _ hb
    obtain ⟨sl1, e2⟩ := fly.slot b _ e1 (I.base.free b o e n (by simp [cxOf])) hb2
    obtain ⟨_, o2, e3, hd⟩ := fly.fl.2.2.1.mem hb2
    rw [e2] at e3
    cases e3
    obtain ⟨sl2, e4⟩ := y2 b _ e2 hd
    exact ⟨sl2, e4⟩
  · obtain ⟨o', e'⟩ := I.base.there b o e (by simp [cxOf])
    exact fly.free b o' e' (I.base.free b o e n (by simp [cxOf]))
  · obtain ⟨o', e'⟩ := I.base.there b o e (by simp [cxOf])
    exact fly.thereB b o' e' (above b o e hb)
  · obtain ⟨m1, e1⟩ := I.base.tbls b ps q
    obtain ⟨m2, e2⟩ := fly.tbls b _ e1
    exact ⟨m1 ++ m2, by rw [e2, Array.append_assoc]⟩
  · cases q : s0.heap.get? x with
    | none => rfl
    | some o =>
      obtain ⟨o', e'⟩ := I.base.there x o q (by simp [cxOf])
      have := fly.new
      rw [e'] at this
      cases this
end
section
variable {prog : Program} {w : World} {A : Around} {E : Value → Shared → Prop} {s : Shared} {K : PySem.W.Frag} {x C : Addr} {ox : Obj}
def excK (K : PySem.W.Frag) (C : Addr) : Bool :=
  PySem.W.findIn K (.ref C) "__getattribute__" == some (some (.builtin "BaseException.__getattribute__")) && PySem.W.findIn K (.ref C) "__getattr__" == some none && PySem.W.findIn K (.ref C) "__class__" == some (some (.builtin "object.__class__")) &&
  PySem.W.mroIn K C (.type "object") == some true && PySem.W.mroIn K C (.type "BaseException") == some true && (PySem.W.clsIn K C).isSome
open PySem.Calls Builtin Builtin.ObjectAttr Builtin.Getset_descriptor in
theorem class_getL {R : Result → Shared → Prop} {tp : Value} (X : K.In s.heap) (L0 : PySem.W.Looks (model prog w) s.heap (typeOf (.ref x)) (.ref C)) (hm : PySem.W.mroIn K C (.type "object") = some true)
    (h : R (.ok (.ret (.ref C))) s) : codeAny (model prog w) A (.call (.builtin "getset_descriptor.__get__") ⟨[.builtin "object.__class__", .ref x, tp], []⟩) R s := by
  obtain ⟨hh, g, dr, t, os⟩ := s
  have L1 := PySem.W.looks_mroIn (M := model prog w) X hm
  refine codeAny_call_builtin PySem.W.KF.slot_gs.plain PySem.W.KF.entry_gs (PySem.W.KF.slot_gs.check _ _ _ _ _ _ _ _ PySem.W.KF.type_class (PySem.W.KF.args_gs _ _ _) ?_)
  unfold Builtin.«getset_descriptor.__get__» descrGet
  rw [PySem.W.dga_obj]
  refine wpAny_bind (wpAny_pure ?_)
  unfold descrGetter descrCheckInstance descrNameAndClass isInstance
  simp only [PySem.W.KF.owner_class]
  repeat (first | with_reducible refine L0.at ?_ | with_reducible refine L1.at ?_ | wp_step)
  refine ⟨Code.quiet_builtin _ (by decide +kernel), codeAny_builtin PySem.W.KF.entry_class ?_⟩
  unfold Builtin.«object.__class__» shownTypeOf
  repeat (first | with_reducible refine L0.at ?_ | with_reducible refine L1.at ?_ | wp_step)
  exact h
theorem exc_class {Q : Option Value → Shared → Prop} (X : K.In s.heap) (hx : s.heap.get? x = some ox) (hc : ox.cls = .ref C) (e : excK K C = true) (h : Q (some (.ref C)) { s with toks := s.toks + 1 }) : wpAny (model prog w) A (getAttr? (.ref x) "__class__") Q E s := by
  unfold excK at e
  simp only [Bool.and_eq_true, beq_iff_eq] at e
  obtain ⟨⟨⟨⟨⟨hga, hhk⟩, hcl⟩, hm⟩, hmB⟩, _⟩ := e
  obtain ⟨hh, g, d, t, os⟩ := s
  have LT : PySem.W.Looks (model prog w) hh (typeOf (.ref x)) (.ref C) := hc ▸ (PySem.W.Looks.ld hx).andThen .now
  have L1 := PySem.W.looks_findIn (M := model prog w) X hga
  have L2 := PySem.W.looks_findIn (M := model prog w) X hhk
  have f3 := F.excAttr_ValueError.ga.bind (.ref x)
  unfold getAttr? getAttrBy? getAttrBy
  have hx2 : (Value.builtin "BaseException.__getattribute__" == Value.builtin "object.__getattribute__") = false := by decide +kernel
  have hx1 : (onTheHeap (Value.ref C) && Value.builtin "BaseException.__getattribute__" == Value.builtin "object.__getattribute__") = false := by rw [hx2]; rfl
  repeat (any_goals (first | assumption | (with_reducible refine wpAny_loadPart_at hx ?_; rw [hc]) | with_reducible refine L1.at ?_ | with_reducible refine L2.at ?_ | wp_step))
  have L3 := PySem.W.looks_findIn (M := model prog w) X hcl
  have LB := PySem.W.looks_mroIn (M := model prog w) X hmB
  have hk : builtinKind "BaseException.__getattribute__" = some .slot := by decide +kernel
  have hsplit : splitId "BaseException.__getattribute__" = some ("BaseException", "__getattribute__") := by decide +kernel
  refine codeAny_call_builtin F.excAttr_ValueError.ga.plain F.entry_bexc_ga ?_
  have ha := F.args_bexc_ga (.ref x) (.str "__class__" t)
  simp only [checkBuiltinCall, hk, hsplit, List.cons_append, List.nil_append]
  refine wpAny_bind ?_
  · unfold isInstance
    repeat (first | (with_reducible refine wpAny_loadPart_at hx ?_; rw [hc]) | with_reducible refine LB.at ?_ | wp_step)
    have f5 : typeOf (.builtin "object.__class__") = pure (.type "getset_descriptor") := by kernel_rfl
    have f6 := F.slot_gs_get.lookup
    have f7 := F.slot_gs_set.lookup
    repeat (any_goals (first | assumption | (with_reducible refine wpAny_loadPart_at hx ?_; rw [hc]) | with_reducible refine L3.at ?_ | wp_step))
    refine class_getL (s := ⟨hh, g, d, t + 1, os⟩) X LT hm ?_
    repeat (any_goals (first | assumption | wp_step))
theorem kitx_exc (e : excK K C = true) : PySem.W.KitX K (.ref x) (.ref C) (fun h => ∃ ox, h.get? x = some ox ∧ ox.cls = .ref C) where
  ty := fun _ _ _ ⟨_, hx, hc⟩ => hc ▸ (PySem.W.Looks.ld hx).andThen .now
  it := fun _ _ X _ => by
    unfold excK at e
    simp only [Bool.and_eq_true, beq_iff_eq] at e
    have hcD := e.2
    unfold PySem.W.clsIn at hcD
    split at hcD
    · rename_i c' d' cd' sl' ho
      intro A' Q' E' s' k q
      unfold isType loadHead
      exact wpAny_bind (wpAny_loadPart (k _ _ (X _ _ ho)) (wpAny_pure q))
    · cases hcD
  ne := fun h tp dd its n sl X htp => by
    unfold excK at e
    simp only [Bool.and_eq_true, beq_iff_eq] at e
    have hcD := e.2
    refine Bool.eq_false_iff.mpr fun q => ?_
    have e : C = tp := Value.ref.inj (beq_iff_eq.mp q)
    subst e
    unfold PySem.W.clsIn at hcD
    split at hcD
    · rename_i c' d' cd' sl' ho
      have z := (X _ _ ho).symm.trans htp
      cases z
    · cases hcD
  ca := fun X ⟨_, hx, hc⟩ k => exc_class X hx hc e k
end
def ExcO (x C : Addr) : HO := .ext fun h => ∃ o, h.get? x = some o ∧ o.cls = .ref C
theorem excO_inst {X : Cx} {pins : List (Addr × Obj)} {σ : St} {H : Hp} {s : Shared} {x C : Addr} (I : Inv X pins σ H s) (h : H x = some (ExcO x C)) : ∃ ox, s.heap.get? x = some ox ∧ ox.cls = .ref C := by
  obtain ⟨⟨o, e, c⟩, _⟩ := (show ObjOk X.prog X.w H s.heap x (ExcO x C) from I.hok x _ h)
  exact ⟨o, e, c⟩
def rIsiX (K : PySem.W.Frag) : List V → Hp → VK → Prop := fun xs H Q => ∃ x C c b, xs = [.ref x, c] ∧ H x = some (ExcO x C) ∧ excK K C = true ∧ (∃ D, c = .ref D ∧ PySem.W.kitOne K (.ref C) (.ref D) = some b ∨ ∃ T, c = .ty T ∧ PySem.W.kitOne K (.ref C) (.type T) = some b) ∧ Q (.bl b) H
theorem isixq {X : Cx} {K : PySem.W.Frag} (hK : X.K = K) : CallR X (.builtin "isinstance") (rIsiX K) := by
  subst hK
  intro pins s σ H xs us Q I r h
  obtain ⟨x, C, c, b, rfl, hx, ek, hc, q⟩ := h
  obtain ⟨u, v, rfl, rx, ry⟩ := vals2 r
  cases rx
  have ii := excO_inst I hx
  obtain ⟨D, ⟨rfl, e⟩ | ⟨T, rfl, e⟩⟩ := hc
  · cases ry
    exact PySem.W.kia_one (kitx_exc ek) I.kIn ii e (fun z => nomatch z) fun tk => ⟨.bl b, H, I.tok tk, rfl, q⟩
  · cases ry
    exact PySem.W.kia_one (kitx_exc ek) I.kIn ii e (fun z => nomatch z) fun tk => ⟨.bl b, H, I.tok tk, rfl, q⟩
def rIsiXT (K : PySem.W.Frag) : List V → Hp → VK → Prop := fun xs H Q => ∃ (x C t : Addr) (Ds : List Addr) (b : Bool), xs = [.ref x, .ref t] ∧ H x = some (ExcO x C) ∧ excK K C = true ∧ H t = some (.tup (Ds.map V.ref)) ∧ PySem.W.kitAny K (.ref C) (Ds.map Value.ref) = some b ∧ Q (.bl b) H
theorem isixtq {X : Cx} {K : PySem.W.Frag} (hK : X.K = K) : CallR X (.builtin "isinstance") (rIsiXT K) := by
  subst hK
  intro pins s σ H xs us Q I r h
  obtain ⟨x, C, t, Ds, b, rfl, hx, ek, ht, e, q⟩ := h
  obtain ⟨u, v, rfl, rx, ry⟩ := vals2 r
  cases rx
  cases ry
  have ii := excO_inst I hx
  obtain ⟨_, its, rv, o, ho, hc, n, hd⟩ := (show ObjOk X.prog X.w H s.heap t (.tup (Ds.map V.ref)) from I.hok t _ ht)
  have ei : its = Ds.map Value.ref := by
    clear e q ht
    have aux : ∀ (l : List Addr) (m : List Value), Vals (l.map V.ref) m → m = l.map Value.ref := by
      intro l
      induction l with
      | nil => intro m hm; cases hm; rfl
      | cons a l ih => intro m hm; cases hm with | cons r t => cases r; rw [ih _ t]; rfl
    exact aux _ _ rv
  subst ei
  obtain ⟨oc, od, odt, osl⟩ := o
  dsimp only at hc hd
  subst hc hd
  exact PySem.W.kia_tup (kitx_exc ek) I.kIn ii ho e (fun z => nomatch z) fun tk => ⟨.bl b, H, I.tok tk, rfl, q⟩
abbrev TJ := Str → St → Hp → (Str → Hp → Prop) → Prop
def PJ (X : Cx) (es : List Expr) (t : TJ) : Prop := ∀ (pins : List (Addr × Obj)) (s : Shared) (σ : St) (H : Hp) (acc : Str) (Q : Str → Hp → Prop), Inv X pins σ H s → t acc σ H Q →
  Joins (model X.prog X.w) X.A X.xe (evalEach es X.env) acc (fun out s' => ∃ H', Inv X pins σ H' s' ∧ Q out H') s
def jNil : TJ := fun acc _ H Q => Q acc H
def jCons (t : TE) (u : TJ) : TJ := fun acc σ H Q => t σ H fun v H1 => ∃ y, v = .str y ∧ (acc ++ y).length ≤ sizeLine ∧ u (acc ++ y) σ H1 Q
def tFmt (t : TE) : TE := fun σ H Q => t σ H fun v H1 => ∃ i : Int, v = .int i ∧ i.natAbs.log2 < 1920 ∧ Q (.str (toString i)) H1
def tJnd (u : TJ) : TE := fun σ H Q => u Str.empty σ H fun out H1 => out.length ≤ sizeLine ∧ Q (.str out) H1
section
variable {X : Cx} {e a b : Expr} {es r : List Expr} {t : TE} {u : TJ} {pos : Pos}
theorem pj_nil : PJ X [] jNil := fun _ _ _ H _ _ I h => ⟨H, I, h⟩
theorem pj_cons (h : PE X e t) (hr : PJ X es u) : PJ X (e :: es) (jCons t u) := by
  intro pins s σ H acc Q I q
  show wpAny _ _ (eval e X.env) _ _ _
  refine thn (h pins s σ H _ I q) fun v s1 ⟨x, H1, I1, rx, y, hy, hz, q1⟩ => ?_
  subst hy
  obtain ⟨tk, rfl⟩ := rx
  exact ⟨y, tk, rfl, hz, hr pins s1 σ H1 _ Q I1 q1⟩
theorem pe_fmt (h : PE X e t) : PE X (.FormattedValue e (-1) none pos) (tFmt t) := by
  intro pins s σ H Q I q
  refine wpAny_FormattedValue_plain (thn (h pins s σ H _ I q) fun v s1 ⟨x, H1, I1, rx, i, hi, hz, q1⟩ => ?_)
  subst hi
  obtain ⟨tk, rfl⟩ := rx
  exact wpAny_formatField_int hz ⟨.str _, H1, I1.tok _, ⟨_, rfl⟩, q1⟩
theorem pe_join (h : PJ X (a :: b :: r) u) : PE X (.JoinedStr (a :: b :: r) pos) (tJnd u) := by
  intro pins s σ H Q I q
  refine wpAny_JoinedStr ?_
  have z := h pins s σ H Str.empty _ I q
  have mono : ∀ (l : List (Sem Value)) (acc : Str) (s : Shared) (Q Q' : Str → Shared → Prop), (∀ o s, Q o s → Q' o s) → Joins (model X.prog X.w) X.A X.xe l acc Q s → Joins (model X.prog X.w) X.A X.xe l acc Q' s := by
    intro l
    induction l with
    | nil => intro acc s Q Q' hq h; exact hq _ _ h
    | cons x l ih => intro acc s Q Q' hq h; exact thn h fun v s1 ⟨y, t, e, hz, hr⟩ => ⟨y, t, e, hz, ih _ _ _ _ hq hr⟩
  refine mono _ _ _ _ _ (fun o s1 ⟨H1, I1, hz, q1⟩ => ?_) z
  exact ⟨hz, .str o, H1, I1.tok _, ⟨_, rfl⟩, q1⟩
end
abbrev bmVE : List Value := [.type "ValueError", .type "Exception", .type "BaseException", .type "object"]
theorem cls_obj {K : PySem.W.Frag} {h : Heap} {C : Addr} {bmB : List Value} {newId : String} (X : K.In h) (q : PySem.W.excIn K C bmB newId = true) : ∃ (bm : List Value) (N : Addr) (nm qn : Str) (bs : List Value) (hd : Bool) (sn : List Str) (sub : List Value) (ab : Bool) (col : Option Bool) (dd : Option Addr) (k0 k1 k2 k3 k5 : Option Value) (mN : Str → Option Value),
    h.get? C = some (excClassObj nm qn C N bs bm hd sn sub ab col dd k0 k1 k2 k3 k5 newId) ∧ h.Ns N mN ∧ mN "__init__" = none ∧ OwnTail h bmB bm := by
  unfold PySem.W.excIn at q
  split at q
  · rename_i dd cd sl ho
    split at q
    · rename_i C' bm k0 k1 k2 k3 n k5 hm hs
      simp only [Bool.and_eq_true, beq_iff_eq, Bool.not_eq_true'] at q
      obtain ⟨⟨⟨⟨⟨rfl, rfl⟩, hdel⟩, ht⟩, hok⟩, hni⟩ := q
      obtain ⟨nm, bs, mro, ns, qn, hd, sn, sub, ab, col, del⟩ := cd
      dsimp only at hm hdel hok hni
      subst hm hdel
      have hsl : sl = #[k0, k1, k2, k3, some (.builtin n), k5] := by
        obtain ⟨l⟩ := sl
        simp only at hs
        rw [hs]
      subst hsl
      exact ⟨bm, ns, nm, qn, bs, hd, sn, sub, ab, col, dd, k0, k1, k2, k3, k5, _, X _ _ ho, .of_isNs (PySem.W.isNs_of_in X hok), PySem.W.nsMap_none_of_in X hok hni, PySem.W.tail_of_in X ht⟩
    · cases q
  · cases q
def tRaise (E : XK) (C : Addr) (t : TA) : TS := fun _ σ H => t σ H fun vs H1 => vs.length ≤ sizeLine ∧ E (.ref C) none H1
section
variable {P : Program} {w : World} {K : PySem.W.Frag} {mg : Str → Option Value} {base : Heap} {N : List Str} {qual : Str} {scope : Scope} {f : Addr} {cd : Value} {A : Around} {outer : List Env} {s0 : Shared} {H0 : Hp} {E : XK}
theorem ps_raise {C : Addr} {x : Str} {e : Expr} {es : List Expr} {t : TA} {np cpos pos : Pos} (q : PySem.W.excIn K C bmVE "ValueError.__new__" = true) (hm : mg x = some (.ref C))
    (hg : Gl (cxOf (CX1 P w) P w K mg base N qual scope f cd A outer s0 H0 E) x) (ha : PA (cxOf (CX1 P w) P w K mg base N qual scope f cd A outer s0 H0 E) (e :: es) t) (hdb : (x == ("__debug__" : Str)) = false := by decide)
    (he : starEach (e :: es) (envOfC qual scope s0.heap.objs.size f cd) = (false, eval e (envOfC qual scope s0.heap.objs.size f cd)) :: starEach es (envOfC qual scope s0.heap.objs.size f cd) := by rfl)
    (hpl : (backTo cpos (starEach es (envOfC qual scope s0.heap.objs.size f cd))).any (·.1) = false := by rfl) :
    PS (cxOf (CX1 P w) P w K mg base N qual scope f cd A outer s0 H0 E) (.Raise (some (.Call (.Name x np) (e :: es) [] cpos)) none pos) (tRaise E C t) := by
  intro pins s σ H D I h
  obtain ⟨bm, N', nm, qn, bs, hd, sn, sub, ab, col, dd, k0, k1, k2, k3, k5, mN, hC, hN, hni, T⟩ := cls_obj (h := base) I.ok.mod.kin q
  refine wpAny_Raise_call_subU (C := C) (nm := nm) (q := qn) (N := N') (bs := bs) (bm := bm) (hdct := hd) (sn := sn) (sub := sub) (ab := ab) (col := col) (dd := dd) (k0 := k0) (k1 := k1) (k2 := k2) (k3 := k3) (k5 := k5)
    F.excBase_ValueError (by decide +kernel) F.excBase_ValueError (mN := mN) (T.hasType F.excBase_ValueError.hasBase) (I.ok.hd rfl) (by
      show (backTo cpos (starEach (e :: es) (envOfC qual scope s0.heap.objs.size f cd))).any (·.1) = false
      rw [he]; show (false || (backTo cpos (starEach es _)).any (·.1)) = false; rw [hpl]; rfl) hni (ld_glob I hg hm ⟨rfl, ?_⟩ hdb)
  show wpAny _ _ (evalArgs (.ref C) true (backTo cpos (starEach (e :: es) (envOfC qual scope s0.heap.objs.size f cd))) []) _ _ _
  have hz : wpAny (model P w) (A.deeper (envOfC qual scope s0.heap.objs.size f cd)) (spliced (backTo cpos (starEach (e :: es) (envOfC qual scope s0.heap.objs.size f cd)))) _ _ s := ha cpos pins s σ H _ I h
  rw [he] at hz ⊢
  exact Calls.evalArgs_plain (wpAny_mono hz (fun us s2 ⟨vs, H2, I2, r, hl, hE⟩ => ⟨rfl, by rw [← r.length]; exact hl, I2.bk _ _ hC, hN.keeps I2.bk, T.keeps I2.bk, fun h' x hx => raise1 I2 hx hE⟩) fun _ _ y => y)
end
section
variable {prog : Program} {w : World} {A : Around} {E : Value → Shared → Prop} {s : Shared} {K : PySem.W.Frag} {x C D : Addr} {ox : Obj}
theorem exc_matches {Q : Bool → Shared → Prop} (X : K.In s.heap) (hx : s.heap.get? x = some ox) (hc : ox.cls = .ref C) (qD : PySem.W.excIn K D bmVE "ValueError.__new__" = true) (m2 : PySem.W.mroIn K C (.ref D) = some true) (q : Q true s) :
    wpAny (model prog w) A (excMatches (.ref x) (.ref D)) Q E s := by
  obtain ⟨bm, N', nm, qn, bs, hd, sn, sub, ab, col, dd, k0, k1, k2, k3, k5, mN, hD, hN, hni, T⟩ := cls_obj X qD
  obtain ⟨hh, g, d, t, os⟩ := s
  have hcB : (Value.ref D :: bm).contains (.type "BaseException") = true := by rw [List.contains_cons, T.hasType F.excBase_ValueError.hasBase, Bool.or_true]
  have L2 := PySem.W.looks_mroIn (M := model prog w) X m2
  have f := tc_notTuple
  unfold excMatches
  repeat (first | (with_reducible refine wpAny_loadPart_at hx ?_; rw [hc]) | with_reducible refine wpAny_loadPart_at hD ?_ | with_reducible refine L2.at ?_ | (with_reducible refine wpAny_isSubtype_exc hD ?_; rw [hcB]) | wp_step)
  exact q
end
abbrev Cx.inX (X : Cx) (v : Value) : Cx := { X with A := X.A.mark (some v), calm := false }
section
variable {X : Cx} {pins : List (Addr × Obj)} {σ : St} {H : Hp} {s : Shared}
theorem Inv.inX (I : Inv X pins σ H s) (v : Value) : Inv (X.inX v) pins σ H s :=
  ⟨⟨I.ok.mod, I.ok.kind, I.ok.glob, I.ok.blt, I.ok.above, I.ok.inj, I.ok.has, I.ok.cab, (fun z => nomatch z), I.ok.frames, I.ok.stk, I.ok.exf, I.ok.bs, I.ok.bsz, I.ok.noex, I.ok.exfs, I.ok.funs, I.ok.frf⟩, I.os, I.bare, I.base, I.loc, I.cell, I.free, I.freeC, I.pin, I.hok, I.len⟩
theorem Inv.outX {v : Value} (hd : X.calm = true → X.A.handled = none) (I : Inv (X.inX v) pins σ H s) : Inv X pins σ H s :=
  ⟨⟨I.ok.mod, I.ok.kind, I.ok.glob, I.ok.blt, I.ok.above, I.ok.inj, I.ok.has, I.ok.cab, hd, I.ok.frames, I.ok.stk, I.ok.exf, I.ok.bs, I.ok.bsz, I.ok.noex, I.ok.exfs, I.ok.funs, I.ok.frf⟩, I.os, I.bare, I.base, I.loc, I.cell, I.free, I.freeC, I.pin, I.hok, I.len⟩
theorem forget_ok {M : Model} {A : Around} {E : Value → Shared → Prop} {i : Nat} {x : Str} {pos : Pos} {Q : Unit → Shared → Prop} (I : Inv X pins σ H s) (hN : X.N.Nodup) (hi : X.N[i]? = some x) (hk : X.env.scope.names.lookup x = some .local)
    (h : ∀ s', Inv X pins (σ.set i none) H s' → Q () s') : wpAny M A (do bindName X.env x .none; unbindBehindTheSuite X.env x pos) Q E s := by
  obtain ⟨m, hn, hl⟩ := id I.loc
  have hcls : (X.env.scope.kind == .class || (X.env.scope.kind == .module && X.env.locals != X.env.globals)) = false := by rw [I.ok.kind]; rfl
  have hiσ : i < σ.length := by rw [I.len]; exact (List.getElem?_eq_some_iff.mp hi).1
  have cne := I.cne
  have tracked : ∀ {a : Addr} {h' : Heap}, (∃ o, s.heap.get? a = some o ∧ H a = none) → Heap.SameBut a s.heap h' → HOk X.prog X.w H h' := fun {a h'} ha hs b ob e => by
    obtain ⟨_, _, hfree⟩ := ha
    refine (I.hok b ob e).stay (fun c w' hc q => (hs.2 c ?_).trans q) (fun _ q => q) fun _ _ q => q
    rintro rfl
    rcases hc with rfl | hc
    · rw [hfree] at e; cases e
    · rw [hfree] at hc; cases hc
  refine wpAny_nameGoes_keeps hk hn hcls fun h' v hn' hs => ?_
  obtain ⟨oL, _, _, hoL, _⟩ := id hn
  refine h _ (Inv.tok (s := { s with heap := h' }) ⟨I.ok, I.os, I.bare, ⟨fun b o e n hb hx => ?_, fun b o e n hb hx => ?_, I.base.free, fun b o e hx => ?_, I.base.tups, I.base.frzs, I.base.tbls⟩, ⟨_, hn', fun j y v' e1 e2 e3 => ?_⟩, fun y c e => ?_, I.free, I.freeC, fun p hp => ?_, tracked ⟨oL, hoL, I.free⟩ hs, by simpa using I.len⟩ _)
  · exact (hs.2 b (Nat.ne_of_lt (Nat.lt_of_lt_of_le (Heap.lt_size e) I.ok.above))).trans (I.base.keep b o e n hb hx)
  · obtain ⟨sl, e1⟩ := I.base.slot b o e n hb hx
    exact ⟨sl, (hs.2 b (Nat.ne_of_lt (Nat.lt_of_lt_of_le (Heap.lt_size e) I.ok.above))).trans e1⟩
  · obtain ⟨o', e1⟩ := I.base.there b o e hx
    exact ⟨o', (hs.2 b (Nat.ne_of_lt (Nat.lt_of_lt_of_le (Heap.lt_size e) I.ok.above))).trans e1⟩
  · by_cases hj : j = i
    · subst hj
      rw [List.getElem?_set_self hiσ] at e2
      cases e2
    · rw [List.getElem?_set_ne (Ne.symm hj)] at e2
      obtain ⟨u', r', q⟩ := hl j y v' e1 e2 e3
      refine ⟨u', r', ?_⟩
      rcases q with ⟨k, e⟩ | ⟨k, c, e, z⟩
      · refine .inl ⟨k, ?_⟩
        have : y ≠ x := fun e => hj (nodup_ix hN e1 (e ▸ hi))
        simp [this, e]
      · exact .inr ⟨k, c, e, z.sameBut hs (cne y c e)⟩
  · obtain ⟨w', z⟩ := I.cell y c e
    exact ⟨w', z.sameBut hs (cne y c e)⟩
  · obtain ⟨e, n, ne, nf, d⟩ := I.pin p hp
    exact ⟨(hs.2 p.1 ne).trans e, n, ne, nf, d⟩
theorem Inv.landed {x C : Addr} {a0 : Value} {B : Heap} {H' : Hp} {s' : Shared} (I : Inv X pins σ H s) (f : Fly X.prog X.w X.stack H s x (.ref C) a0 B H' s') : Inv X pins σ H' s' :=
  I.call' (ch := []) f.os f.un (f.hok.kept f.fl.1) f.bare fun b z => nomatch z
theorem Inv.caught {x C : Addr} {a0 : Value} {B : Heap} {H' : Hp} {s' : Shared} (I : Inv X pins σ H s) (f : Fly X.prog X.w X.stack H s x (.ref C) a0 B H' s') : Inv X pins σ (upd H' x (ExcO x C)) s' := by
  have nx := f.nx
  obtain ⟨ob, hob, hcb⟩ := f.fl.there
  have u := f.un
  refine I.call' (ch := []) f.os ⟨u.keep, u.slot, fun b o e n hx => ?_, u.there, fun b xs e => ?_, fun b o v e => ?_, fun b ps e => ?_⟩ (fun b v e => ?_) f.bare fun b z => nomatch z
  · have : b ≠ x := fun z => by rw [z, f.new] at e; cases e
    rw [upd_ne this]; exact u.free b o e n hx
  · have q := u.tups b xs e
    rw [upd_ne (ne_of_none q nx)]; exact q
  · have q := u.frzs b o v e
    rw [upd_ne (ne_of_none q nx)]; exact q
  · obtain ⟨more, q⟩ := u.tbls b ps e
    exact ⟨more, by rw [upd_ne (ne_of_none q nx)]; exact q⟩
  · by_cases hb : b = x
    · subst hb
      rw [upd_same] at e
      cases e
      exact ⟨⟨ob, hob, hcb⟩, ⟨ob, hob⟩, fun h1 h2 ⟨o, q, c⟩ k => ⟨o, k o q, c⟩⟩
    · rw [upd_ne hb] at e
      exact ((f.hok.kept f.fl.1) b v e).stay (fun c v _ q => q) (fun c q => by rw [upd_ne (ne_of_none q nx)]; exact q) fun c xs q => by rw [upd_ne (ne_of_none q nx)]; exact q
end
structure CalleeX (P : Program) (w : World) (K : PySem.W.Frag) (mg : Str → Option Value) (base : Heap) (k : Nat) (x : Str) (sp : Sp) : Prop where
  ex : ∃ f : Addr, mg x = some (.ref f) ∧ PySem.W.keepIn K (.ref f) = true ∧ ∀ (A : Around) (outer : List Env) (s : Shared) (H : Hp) (us : List Value) (vs : List V) (Q : VK) (E : XK), Room k A → Env0 P w K mg base A outer s H → Vals vs us → sp vs H Q E →
    codeAny (model P w) A (.call (.ref f) ⟨us, []⟩) (CR (CX1 P w) outer P w H s Q E) s
def tFnX (sp : Sp) (E : XK) (t : TA) : TE := fun σ H Q => t σ H fun vs H1 => sp vs H1 Q E
theorem calleeX_of {P : Program} {w : World} {K : PySem.W.Frag} {mg : Str → Option Value} {base : Heap} {k : Nat} {x : Str} {ps : List Str} {sp : Sp} {f : Addr} {fd : FuncData} (F : FnOk P w K mg base (CX1 P w) k f fd ps sp) (hm : mg x = some (.ref f)) (kp : PySem.W.keepIn K (.ref f) = true) (b : Binds K fd ps []) : CalleeX P w K mg base k x sp := by
  refine ⟨f, hm, kp, fun A outer s H us vs Q E hr he hv h => ?_⟩
  have hl : us.length = ps.length := by rw [← hv.length]; exact F.len _ _ _ _ h
  have z := b s us (he.mod.kin.keeps fun b o e => (he.bs b o e).1) (by rw [List.append_nil]; exact hl)
  rw [List.append_nil] at z
  exact F.run A outer s H ⟨us, []⟩ us vs Q E hr he z hv h
theorem Callee.x {P : Program} {w : World} {K : PySem.W.Frag} {mg : Str → Option Value} {base : Heap} {k : Nat} {x : Str} {ps : List Str} {sp : Sp} (C : Callee P w K mg base k x ps sp) : CalleeX P w K mg base k x sp := by
  obtain ⟨f, fd, F, hm, kp, b⟩ := C.ex
  refine calleeX_of (ps := ps) (fd := fd) ⟨F.len, fun A outer s H args us vs Q E hr he hb hv hs => codeAny_mono (F.run A outer s H args us vs Q E hr he hb hv hs) fun r s' hq => ?_⟩ hm kp b
  cases r with
  | ok fl => cases fl <;> exact hq
  | error e => exact False.elim hq
section
variable {P : Program} {w : World} {K : PySem.W.Frag} {mg : Str → Option Value} {base : Heap} {N : List Str} {qual : Str} {scope : Scope} {f : Addr} {cd : Value} {A : Around} {outer : List Env} {s0 : Shared} {H0 : Hp} {E : XK}
theorem pe_fnx {k m : Nat} {x : Str} {sp : Sp} {e : Expr} {es : List Expr} {t : TA} {p pos : Pos} (C : CalleeX P w K mg base k x sp) (hr : Room m (A.deeper (envOfC qual scope s0.heap.objs.size f cd)))
    (hg : Gl (cxOf (CX1 P w) P w K mg base N qual scope f cd A outer s0 H0 E) x) (ha : PA (cxOf (CX1 P w) P w K mg base N qual scope f cd A outer s0 H0 E) (e :: es) t) (hk : k ≤ m := by decide)
    (hdb : (x == ("__debug__" : Str)) = false := by decide) (he : starEach (e :: es) (envOfC qual scope s0.heap.objs.size f cd) = (false, eval e (envOfC qual scope s0.heap.objs.size f cd)) :: starEach es (envOfC qual scope s0.heap.objs.size f cd) := by rfl)
    (hpl : (backTo pos (starEach es (envOfC qual scope s0.heap.objs.size f cd))).any (·.1) = false := by rfl) :
    PE (cxOf (CX1 P w) P w K mg base N qual scope f cd A outer s0 H0 E) (.Call (.Name x p) (e :: es) [] pos) (tFnX sp E t) := by
  intro pins s σ H Q I h
  obtain ⟨f', hm, kp, run⟩ := C.ex
  refine wpAny_Call_Name_kw (ld_glob I hg hm ?_ hdb)
  refine PySem.W.callWith_K (h₀ := base) I.ok.mod.kin kp (thn (ha pos pins s σ H _ I h) fun us s1 ⟨vs, H1, I1, r, q⟩ => ⟨I1.kIn, ?_⟩) he hpl
  refine wpAny_call (codeAny_mono (run (A.deeper (envOfC qual scope s0.heap.objs.size f cd)) _ s1 H1 us vs Q E (hr.mono hk) I1.env0 r q) fun rs s' hq => ?_)
  cases rs with
  | error e => exact pass1 pins σ H1 s1 e s' I1 hq
  | ok fl =>
    cases fl with
    | ret u => exact I1.after hq
    | next => exact False.elim hq
    | brk => exact False.elim hq
    | cont => exact False.elim hq
theorem mkCalleeX {k : Nat} {x : Str} {st : Stmt} {ps : List Str} {sp : Sp} (D : DefAt K mg x st) (S : FnScope N ps (defScope st))
    (hb : ∀ (kV doc pm : Value) (an : Option Addr) (cdv ct : Value) (us : List Value), us.length = ps.length → bindArgs (PySem.W.fnOf x x (defArgs st) (defBody st) (defScope st) .none kV doc pm an cdv ct) ⟨us, []⟩ = pure (ps.zip us))
    (len : ∀ vs H Q E, sp vs H Q E → vs.length = ps.length)
    (hbody : ∀ (f : Addr) (cdv : Value) (A : Around) (outer : List Env) (s : Shared) (H : Hp) (vs : List V) (Q : VK) (E : XK), Room k (A.deeper (envOfC x (defScope st) s.heap.objs.size f cdv)) → sp vs H Q E →
      ∃ t, PSs (cxOf (CX1 P w) P w K mg base N x (defScope st) f cdv A outer s H E) (defBody st) t ∧ t { nx := fun _ H' => Q .non H', rt := Q } (start N vs) H) : CalleeX P w K mg base (k + 1) x sp := by
  obtain ⟨f, fd, F, hm⟩ := D
  refine calleeX_of (ps := ps) (fd := fd) ?_ hm F.kp (F.binds hb)
  obtain ⟨oc, od, kV, doc, pm, an, cdv, ct, osl, rfl, lk, hcd⟩ := F.ex
  exact fn_of lk hcd S len fun A outer s H vs Q E hr hsp => hbody f cdv A outer s H vs Q E hr hsp
end
def tryEnds (i : Nat) (D : Ends) : Ends := { nx := fun σ H => D.nx (σ.set i none) H, rt := D.rt, bk := fun σ H => D.bk (σ.set i none) H, ct := fun σ H => D.ct (σ.set i none) H }
theorem bt_ValueError : bootBuiltins "ValueError" = some (.type "ValueError") := by decide +kernel
theorem join_ok {a b : Str} {m n : Nat} (h1 : a.length ≤ m) (h2 : b.length ≤ n) : (a ++ b).length ≤ m + n := by rw [strLen_append]; exact Nat.add_le_add h1 h2
theorem fits {a : Str} {m : Nat} (h : a.length ≤ m) (hm : m ≤ 1000) : a.length ≤ sizeLine := Nat.le_trans h (Nat.le_trans hm (by decide))
section
variable {es : List Expr} {env : Env}
theorem sE_Constant {c j p} : starEach (.Constant c j p :: es) env = (false, eval (.Constant c j p) env) :: starEach es env := rfl
theorem sE_Name {x p} : starEach (.Name x p :: es) env = (false, eval (.Name x p) env) :: starEach es env := rfl
theorem sE_List {c p} : starEach (.List c p :: es) env = (false, eval (.List c p) env) :: starEach es env := rfl
theorem sE_Tuple {c k p} : starEach (.Tuple c k p :: es) env = (false, eval (.Tuple c k p) env) :: starEach es env := rfl
theorem sE_BinOp {a o b p} : starEach (.BinOp a o b p :: es) env = (false, eval (.BinOp a o b p) env) :: starEach es env := rfl
theorem sE_Call {a b c p} : starEach (.Call a b c p :: es) env = (false, eval (.Call a b c p) env) :: starEach es env := rfl
theorem sE_Subscript {a b p} : starEach (.Subscript a b p :: es) env = (false, eval (.Subscript a b p) env) :: starEach es env := rfl
end
theorem pe_neg {X : Cx} {i : Int} {j : Nat} {p p' : Pos} : PE X (.UnaryOp .USub (.Constant (.int i) j p) p') (tC (.int (-i))) := fun pins s σ H Q I h => (pe_un (X := X) (pos := p') un_neg (pe_int (X := X) (i := i) (j := j) (pos := p))) pins s σ H Q I ⟨i, rfl, h⟩
structure PEw (X : Cx) (e : Expr) (t : TE) : Prop where
  h : PE X e t
structure PAw (X : Cx) (es : List Expr) (t : TA) : Prop where
  h : PA X es t
structure PSw (X : Cx) (st : List Stmt) (t : TS) : Prop where
  h : PSs X st t
section
variable {X : Cx} {e a b : Expr} {es : List Expr} {te ta tb : TE} {t : TA} {pos : Pos}
theorem paw_nil : PAw X [] tNil := ⟨pa_nil⟩
theorem paw_cons (ha : PEw X e te) (hr : PAw X es t) (hs : starEach (e :: es) X.env = (false, eval e X.env) :: starEach es X.env) : PAw X (e :: es) (tCons te t) := ⟨pa_cons ha.h hr.h hs⟩
theorem pew_lst (ha : PAw X es t) : PEw X (.List es pos) (tLst t) := ⟨pe_lst ha.h⟩
theorem pew_ix {r : R2} (hr : IxR X r) (ha : PEw X a ta) (hb : PEw X b tb) (hs : PlainIx b) : PEw X (.Subscript a b pos) (tOp r ta tb) := ⟨pe_ix hr ha.h hb.h hs⟩
theorem psw_ret1 (he : PEw X e te) : PSw X [.Return (some e) pos] (tRet te) := ⟨pss_one (ps_ret he.h)⟩
theorem ps_ifw {c : Expr} {p q : List Stmt} {tc : TT} {u v : TS} (hc : PT X c tc) (ha : PSw X p u) (hb : PSw X q v) : PS X (.If c p q pos) (tIfS tc u v) := ps_if hc ha.h hb.h
end
section
variable {prog : Program} {w : World} {A : Around} {E : Value → Shared → Prop} {s : Shared}
theorem nextOf_tup {it t : Addr} {i : Nat} {ws : Array Value} {x : Value} {Q : Value → Shared → Prop} (J : s.heap.IsTupleIter it t i) (L : s.heap.IsTuple t ws) (ex : ws[i]? = some x)
    (q : ∀ h', h'.IsTupleIter it t (i + 1) → Heap.SameBut it s.heap h' → Q x { s with heap := h' }) : wpAny (model prog w) A (Builtin.SmallTypes.nextOf (.ref it)) Q E s := by
  obtain ⟨ob, e1, e2, e3⟩ := id J
  obtain ⟨tb, e4, _, m, e5⟩ := L
  unfold Builtin.SmallTypes.nextOf
  refine wpAny_bind (wpAny_callSpecial?_slot (name := Str.ofString "__next__") J.typeIs F.slot_tuple_iterator_next (wpAny_call_entry F.slot_tuple_iterator_next J.typeIs F.entry_tuple_iterator_next ?_ (F.args_tuple_iterator_next_1 _)))
  show wpAny _ _ (field (.ref it) 0 >>= _) _ _ s; refine wpAny_bind (wpAny_field e1 e3 (x := .ref t) rfl ?_)
  show wpAny _ _ (if (Value.ref t == Value.none) = true then _ else _) _ _ s; rw [if_neg (show ¬ ((Value.ref t == Value.none) = true) from Bool.false_ne_true)]
  show wpAny _ _ (field (.ref it) 1 >>= _) _ _ s; refine wpAny_bind (wpAny_field e1 e3 (x := .int i 0) rfl ?_)
  show wpAny _ _ (seqItems? (.ref t) >>= _) _ _ s; refine wpAny_bind (wpAny_seqItems e4 e5 ?_)
  simp only [Int.toNat_natCast, ex]
  refine wpAny_bind (wpAny_setField e1 e3 (by simp) (wpAny_pure ⟨x, rfl, wpAny_pure (q _ ⟨_, Heap.get?_update_self _ e1 (Obj.isFreed_of_fields (Obj.data_mapFields e3 _)), (Obj.cls_mapFields ..).trans e2, by rw [Obj.data_mapFields e3]; simp [rawInt]⟩ (Heap.SameBut.update ..))⟩))
theorem nextOf_tup_end {it t : Addr} {i : Nat} {ws : Array Value} {Q : Value → Shared → Prop} (hd : A.handled = none) (J : s.heap.IsTupleIter it t i) (L : s.heap.IsTuple t ws) (ex : ws[i]? = none)
    (q : ∀ h' e, Heap.ExtBut it s.heap h' → (∃ o, h'.get? e = some o ∧ o.cls = .type "StopIteration") → E (.ref e) { s with heap := h' }) : wpAny (model prog w) A (Builtin.SmallTypes.nextOf (.ref it)) Q E s := by
  obtain ⟨ob, e1, e2, e3⟩ := id J
  obtain ⟨tb, e4, _, m, e5⟩ := L
  unfold Builtin.SmallTypes.nextOf
  refine wpAny_bind (wpAny_callSpecial?_slot (name := Str.ofString "__next__") J.typeIs F.slot_tuple_iterator_next (wpAny_call_entry F.slot_tuple_iterator_next J.typeIs F.entry_tuple_iterator_next ?_ (F.args_tuple_iterator_next_1 _)))
  show wpAny _ _ (field (.ref it) 0 >>= _) _ _ s; refine wpAny_bind (wpAny_field e1 e3 (x := .ref t) rfl ?_)
  show wpAny _ _ (if (Value.ref t == Value.none) = true then _ else _) _ _ s; rw [if_neg (show ¬ ((Value.ref t == Value.none) = true) from Bool.false_ne_true)]
  show wpAny _ _ (field (.ref it) 1 >>= _) _ _ s; refine wpAny_bind (wpAny_field e1 e3 (x := .int i 0) rfl ?_)
  show wpAny _ _ (seqItems? (.ref t) >>= _) _ _ s; refine wpAny_bind (wpAny_seqItems e4 e5 ?_)
  simp only [Int.toNat_natCast, ex]
  refine wpAny_bind (wpAny_rule (wpAny_bind (wpAny_setField e1 e3 (by simp) ?_))); show wpAny _ _ (newExc (.type "StopIteration") [] >>= _) _ _ _
  refine wpAny_bind ?_; simp only [newExc, newTuple]; refine wpAny_bind (wpAny_newObj_type ?_ (by size_fits))
  refine wpAny_bind (m := firstArgMember _ _) (wpAny_of_eq (a := Value.none) (by first | rfl | (simp only [firstArgMember]; rfl)) ?_); refine wpAny_newObj_type ?_ (by size_fits)
  simp only [raiseNew]; refine wpAny_bind (wpAny_handled ?_)
  (first | rw [show A.in1.handled = none from hd] | rw [hd]); refine wpAny_bind (wpAny_pure (wpAny_throw ?_))
  exact q _ _ (((Heap.SameBut.update ..).extBut.push _).push _) ⟨_, Heap.get?_push_size _ rfl, rfl⟩
end
theorem drawsT {prog : Program} {w : World} {A : Around} (hd : A.handled = none) (it t : Addr) (ne : t ≠ it) (ws : Array Value) :
    Draws prog w A it [it, t] ws.size (fun i v => ws[i]? = some v) (fun i h => h.IsTupleIter it t i ∧ h.IsTuple t ws) where
  live := fun _ _ z => let ⟨o, e, _⟩ := z.1; ⟨o, e⟩
  frame := fun _ _ _ z k => ⟨let ⟨o, e, r⟩ := z.1; ⟨o, k it (by simp) o e, r⟩, let ⟨o, e, r⟩ := z.2; ⟨o, k t (by simp) o e, r⟩⟩
  item := fun i s Q E hi z q => nextOf_tup z.1 z.2 (x := ws[i]) (by simp [hi]) fun h' a b => q _ h' s.toks (by simp [hi]) ⟨a, z.2.extBut b.extBut ne⟩ b
  done := fun s Q E z q => nextOf_tup_end hd z.1 z.2 (by simp) q
theorem drawsE {prog : Program} {w : World} {A : Around} (hd : A.handled = none) (it t : Addr) (ws : Array Value) (i : Nat) (hi : ws[i]? = none) :
    Draws prog w A it [it, t] 0 (fun _ _ => True) (fun _ h => h.IsTupleIter it t i ∧ h.IsTuple t ws) where
  live := fun _ _ z => let ⟨o, e, _⟩ := z.1; ⟨o, e⟩
  frame := fun _ _ _ z k => ⟨let ⟨o, e, r⟩ := z.1; ⟨o, k it (by simp) o e, r⟩, let ⟨o, e, r⟩ := z.2; ⟨o, k t (by simp) o e, r⟩⟩
  item := fun i s Q E hi => absurd hi (Nat.not_lt_zero _)
  done := fun s Q E z q => nextOf_tup_end hd z.1 z.2 hi q
abbrev tIt (t : Addr) : Obj := { cls := .type "tuple_iterator", data := .fields #[.ref t, .int 0 0] }
abbrev enOb (a : Addr) : Obj := { cls := .type "enumerate", data := .fields #[.none, .bool false, .ref a, rawInt 0, .none, .none] }
theorem meets_enumT (t : Addr) (ws : Array Value) (n : Nat) (dc : Option Addr) (sl : Array (Option Value)) :
    Meets (Builtin.«enumerate.__new__» ⟨[.type "enumerate", .ref t], []⟩) (fun _ R s => s.heap.get? t = some { cls := .type "tuple", dict := dc, data := .seq ws n, slots := sl } ∧
      R (.ok (.ret (.ref (s.heap.push (tIt t)).objs.size))) { s with heap := (s.heap.push (tIt t)).push (enOb s.heap.objs.size) }) := .of_wp fun prog w A R s h => by
    obtain ⟨hp, g, d, tk, os⟩ := s
    obtain ⟨e1, h⟩ := h
    have sb := sub_enumerate
    have L : Heap.IsTuple (Shared.heap ⟨hp, g, d, tk, os⟩) t ws := ⟨_, e1, rfl, n, rfl⟩
    wp_walk using AutoSeq1.wpAny_loadPart' e1
    refine wpAny_stack_any fun st => wpAny_pure ?_
    split
    · rename_i c _ _ _ _ _
      cases (c == Value.type "enumerate") <;> (wp_walk using AutoSeq1.wpAny_loadPart' e1, wpAny_pyIter_tuple L) <;> exact ⟨_, rfl, h⟩
    · (wp_walk using AutoSeq1.wpAny_loadPart' e1, wpAny_pyIter_tuple L); exact ⟨_, rfl, h⟩
theorem call_enumT {prog : Program} {w : World} {A : Around} {E : Value → Shared → Prop} {s : Shared} {t : Addr} {ws : Array Value} {Q : Value → Shared → Prop} (L : s.heap.IsTuple t ws)
    (h : ∀ h', IsEnum h' (s.heap.objs.size + 1) s.heap.objs.size 0 .none → h'.IsTupleIter s.heap.objs.size t 0 → (∀ b o, s.heap.get? b = some o → h'.get? b = some o) → Q (.ref (s.heap.objs.size + 1)) { s with heap := h' }) :
    wpAny (model prog w) A (call (.type "enumerate") [.ref t]) Q E s := by
  obtain ⟨⟨c, dc, dt, sl⟩, e1, e2, n, e3⟩ := L
  have e2 : c = .type "tuple" := e2
  have e3 : dt = .seq ws n := e3
  subst e2 e3
  refine callType_new F.called_enumerate (by decide) (F.typeCall_enumerate_1 _) (F.newCall_enumerate_1 _) (fun ob => F.args_object_init_2 ob _) F.entry_enumerate_new (meets_enumT t ws n dc sl) ⟨e1, ?_⟩
  have z : (s.heap.push (tIt t)).objs.size = s.heap.objs.size + 1 := Heap.size_push ..
  have e4 : IsEnum ((s.heap.push (tIt t)).push (enOb s.heap.objs.size)) (s.heap.objs.size + 1) s.heap.objs.size 0 .none := by
    have q := Heap.get?_push_size (s.heap.push (tIt t)) (o := enOb s.heap.objs.size) rfl
    rw [z] at q
    exact q
  show _ ∧ _
  rw [z]
  exact ⟨⟨_, e4, rfl⟩, h _ e4 ⟨_, Heap.get?_push_of_some _ (Heap.get?_push_size _ rfl), rfl, rfl⟩ fun b o x => Heap.get?_push_of_some _ (Heap.get?_push_of_some _ x)⟩
def Itet (K : PySem.W.Frag) (a : Addr) : It :=
  ⟨fun i H => ∃ xs x, SqT K H a xs ∧ xs[i]? = some x, fun i H v H' => ∃ t x, v = .ref t ∧ H t = none ∧ H' = upd H t (.tup [.int i, x]) ∧ ∀ xs, SqT K H a xs → xs[i]? = some x, fun i H => ∃ xs, SqT K H a xs ∧ xs.length ≤ i⟩
theorem turn_enumT {P : Program} {w : World} {K : PySem.W.Frag} {es : List Expr} {x1 : Nat} {tp : Pos} (a e it : Addr) (hne : e ≠ it) (hae : a ≠ e) (hai : a ≠ it) : Turn P w K (.Tuple es x1 tp) (Itet K a) [e, it] e (fun i h => (∃ old, IsEnum h e it (i : Int) old) ∧ h.IsTupleIter it a i) where
  mem := by simp
  obj := fun i h st b hb => by
    obtain ⟨⟨old, s1⟩, o, e2, c, d⟩ := st
    rcases List.mem_cons.mp hb with rfl | hb
    · exact ⟨_, s1, fun v z => nomatch z⟩
    · have z : b = it := by simpa using hb
      subst z
      exact ⟨o, e2, fun v z => by rw [d] at z; cases z⟩
  keep := fun i h h' st k => ⟨let ⟨old, z⟩ := st.1; ⟨old, k e (by simp) _ z⟩, let ⟨o, z, r⟩ := st.2; ⟨o, k it (by simp) o z, r⟩⟩
  item := by
    intro X hP hw hK hc i pins s σ H E I hf st hg
    subst hP hw hK
    obtain ⟨xs, x, hq, hx⟩ := hg
    obtain ⟨its, rv, p, hz⟩ := I.tuple hq
    obtain ⟨u, hu, ru⟩ := rv.get hx
    obtain ⟨⟨old, s1⟩, s2⟩ := st
    have hlt : i < its.toArray.size := by
      have := (List.getElem?_eq_some_iff.mp hu).1
      simpa using this
    refine wpAny_pyNext_enum_itemD (drawsT (A := X.A.in1) (I.ok.hd hc) it a hai its.toArray) s1 ⟨s2, show s.heap.IsTuple a its.toArray from p⟩ hlt hne (by simp [hne, Ne.symm hae]) fun u' h' tk hP' o1 o2 o3 o4 o5 => ?_
    have eu : u' = u := by
      have : its.toArray[i]? = some u := by simpa using hu
      rw [this] at hP'
      exact (Option.some.inj hP').symm
    subst eu
    refine ⟨_, rfl, ?_⟩
    refine wpAny_letOwnedTupleGo_enum o1 fun h2 he hs => ?_
    have lt1 : e < s.heap.objs.size := Heap.lt_size s1
    have lt2 : it < s.heap.objs.size := by obtain ⟨o, z, _⟩ := s2; exact Heap.lt_size z
    have ot : h2.get? s.heap.objs.size = some { cls := .type "tuple", data := .seq #[.int i tk, u'] } := (hs.2 _ (Nat.ne_of_gt lt1)).trans o3
    have s2' : h2.IsTupleIter it a (i + 1) := let ⟨o, z, r⟩ := o2.1; ⟨o, (hs.2 it (Ne.symm hne)).trans z, r⟩
    have I1 : Inv X pins σ H { s with heap := h2, toks := tk + 1 } := I.turnedL (ch := [e, it]) (fun b o hb z => by
      have n1 : b ≠ e := fun q => hb (by simp [q])
      have n2 : b ≠ it := fun q => hb (by simp [q])
      exact (hs.2 b n1).trans (o5 b o n1 n2 z)) hf (fun b hb => by
      rcases List.mem_cons.mp hb with rfl | hb
      · exact ⟨_, he⟩
      · have z : b = it := by simpa using hb
        subst z
        obtain ⟨o, q, _⟩ := s2'
        exact ⟨o, q⟩)
    have nT : H s.heap.objs.size = none := I.hok.fresh (Nat.le_refl _)
    have fT := I.fpOk (H' := H) (Nat.le_refl _) nT
    have I2 := I1.adopt (a := s.heap.objs.size) (o := .tup [.int i, x]) nT ⟨by show 2 ≤ sizeLine; decide, [.int i tk, u'], .cons ⟨_, rfl⟩ (.cons ru .nil), ⟨_, ot, rfl, 0, rfl⟩⟩ I.sz fT.2.1 fT.2.2.2.2.1 fT.2.2.2.2.2
    refine ⟨.ref s.heap.objs.size, _, I2, rfl, ⟨_, x, rfl, nT, rfl, fun ys hy => by rw [I.tuple_inj hy hq]; exact hx⟩, ⟨⟨u', by simpa using he⟩, s2'⟩, fun b hb => ?_⟩
    rw [upd_ne]
    · exact (hf b hb).1
    · rcases List.mem_cons.mp hb with rfl | hb
      · exact Nat.ne_of_lt lt1
      · have z : b = it := by simpa using hb
        subst z
        exact Nat.ne_of_lt lt2
  done := by
    intro X hP hw hK hc i pins s σ H E I hf st hg
    subst hP hw hK
    obtain ⟨xs, hq, hx⟩ := hg
    obtain ⟨its, rv, p, hz⟩ := I.tuple hq
    obtain ⟨⟨old, s1⟩, s2⟩ := st
    obtain ⟨f0, f1, f2, f3, f4, f5⟩ := hf it (by simp)
    have hl := rv.length
    exact wpAny_pyNext_enum_endD (drawsE (A := X.A.in1) (I.ok.hd hc) it a its.toArray i (by simp; omega)) s1 ⟨s2, show s.heap.IsTuple a its.toArray from p⟩ fun h' eb => ⟨rfl, I.turned (t' := s.toks) (fun b o hb z => eb b o hb z) f0 f1 f3 f4 f5⟩
  self := fun _ _ _ _ _ st h => let ⟨⟨_, s1⟩, _⟩ := st; wpAny_pyIter_enum s1 h
def iEnumT (K : PySem.W.Frag) (ta : TA) : TI := fun σ H R => ta σ H fun vs H1 => ∃ a, vs = [.ref a] ∧ (∃ xs, SqT K H1 a xs) ∧ R (Itet K a) H1
theorem pi_enumT {X : Cx} {K : PySem.W.Frag} {es : List Expr} {x1 : Nat} {tp : Pos} {l : Expr} {ta : TA} {p pos : Pos} (hK : X.K = K) (hg : Gl X "enumerate") (hm : X.mg "enumerate" = none) (ha : PA X [l] ta) (hs : starEach [l] X.env = [(false, eval l X.env)] := by rfl) :
    PI X (.Tuple es x1 tp) (.Call (.Name "enumerate" p) [l] [] pos) (iEnumT K ta) := by
  subst hK
  intro pins s σ H R I h
  refine Call_ (ld_blt I hg hm boot_enumerate (PyProof.Rows.callWith_type1 (thn (ha pos pins s σ H _ I h) fun us s1 ⟨vs, H1, I1, r1, q1⟩ => ?_) hs rfl))
  obtain ⟨a, rfl, ⟨xs, hq⟩, q⟩ := q1
  obtain ⟨u, rfl, rx⟩ := vals1 r1
  cases rx
  obtain ⟨its, rv, pl, hz⟩ := I1.tuple hq
  have hlt : a < s1.heap.objs.size := by obtain ⟨o, z, _⟩ := pl; exact Heap.lt_size z
  refine call_enumT (show s1.heap.IsTuple a its.toArray from pl) fun h' e1 e2 e4 => ?_
  refine wpAny_pyIter_enum e1 ?_
  have I2 : Inv X pins σ H1 { s1 with heap := h' } := I1.kept (t' := s1.toks) e4
  refine ⟨s1.heap.objs.size + 1, [s1.heap.objs.size + 1, s1.heap.objs.size], _, _, H1, rfl, I2, turn_enumT a _ _ (Nat.succ_ne_self _) (Nat.ne_of_lt (Nat.lt_succ_of_lt hlt)) (Nat.ne_of_lt hlt), ⟨⟨_, e1⟩, e2⟩, fun b hb => ?_, q⟩
  have hb' : s1.heap.objs.size ≤ b := by
    rcases List.mem_cons.mp hb with rfl | hb
    · exact Nat.le_succ _
    · have z : b = s1.heap.objs.size := by simpa using hb
      exact Nat.le_of_eq z.symm
  exact I1.fpOk hb' (I1.hok.fresh hb')
theorem for_enumT {K : PySem.W.Frag} {a : Addr} {xs : List V} {g : TG} {tb : TS} {D : Ends} {σ : St} {H : Hp} (Pv : Nat → St → Hp → Prop) (h0 : Pv 0 σ H) (hl : ∀ i σ H, i ≤ xs.length → Pv i σ H → SqT K H a xs)
    (hs : ∀ i x t σ H, xs[i]? = some x → Pv i σ H → H t = none → g (.ref t) σ (upd H t (.tup [.int i, x])) fun σ2 H2 => tb { D with nx := Pv (i + 1), ct := Pv (i + 1), bk := D.nx } σ2 H2) (hd : ∀ σ H, Pv xs.length σ H → D.nx σ H) :
    ∃ W : Nat → Nat → St → Hp → Prop, (∃ m, W 0 m σ H) ∧ ∀ i m σ H, W i m σ H →
      ((Itet K a).stop i H ∧ D.nx σ H) ∨ ((Itet K a).go i H ∧ ∃ N : St → Hp → Prop, (∀ σ' H', N σ' H' → ∃ m', m' < m ∧ W (i + 1) m' σ' H') ∧ ∀ x H', (Itet K a).yld i H x H' → g x σ H' fun σ2 H2 => tb { D with nx := N, ct := N, bk := D.nx } σ2 H2) := by
  refine ⟨fun i m σ H => m = xs.length - i ∧ i ≤ xs.length ∧ Pv i σ H, ⟨xs.length, by simp, Nat.zero_le _, h0⟩, ?_⟩
  rintro i m σ H ⟨rfl, hi, p⟩
  have q := hl i σ H hi p
  by_cases hlt : i < xs.length
  · refine .inr ⟨⟨xs, _, q, List.getElem?_eq_getElem hlt⟩, Pv (i + 1), fun σ' H' z => ⟨xs.length - (i + 1), by omega, rfl, hlt, z⟩, ?_⟩
    rintro x H' ⟨t, y, rfl, ht, rfl, hy⟩
    exact hs i y t σ H (hy xs q) p ht
  · have : i = xs.length := by omega
    subst this
    exact .inl ⟨⟨xs, q, Nat.le_refl _⟩, hd σ H p⟩
theorem refs_at : ∀ {rs : List Addr} {us : List Value}, Vals (rs.map V.ref) us → ∀ (j : Nat) (h1 : j < us.length) (h2 : j < rs.length), us[j] = .ref rs[j]
  | [], _, .nil => fun j h1 => by simp at h1
  | r :: rs, _, .cons h t => fun j h1 h2 => by
    cases j with
    | zero => cases h; rfl
    | succ j => exact refs_at t j (Nat.lt_of_succ_lt_succ h1) (Nat.lt_of_succ_lt_succ h2)
section
variable {X : Cx} {pins : List (Addr × Obj)} {σ : St} {H : Hp} {s : Shared} {h' : Heap}
theorem Inv.butFrame {m : Str → Option Value} {t' : Nat} (I : Inv X pins σ H s) (hm : s.heap.Ns X.env.locals m) (k : ∀ b o, b ≠ X.env.locals → s.heap.get? b = some o → h'.get? b = some o) (hn : h'.Ns X.env.locals m) :
    Inv X pins σ H { s with heap := h', toks := t' } := by
  have nL : ∀ b u, H b = some u → b ≠ X.env.locals := fun b u e z => by rw [z, I.free] at e; cases e
  refine I.step (g' := s.gens) (d' := s.drawn) (ch := []) (fun _ z => nomatch z) (fun b o hL _ _ e _ => k b o hL e) (fun b o hL _ _ e _ => ⟨o.slots, k b o hL e⟩) (fun _ _ _ _ n => n) (fun b o _ e => ?_) (fun _ _ e => e) (fun _ _ _ e => e) (fun b ps e => ⟨#[], by rw [e]; simp⟩) (fun m' hm' => ?_) (fun b u e => ?_) I.bare
  · by_cases hb : b = X.env.locals
    · obtain ⟨o', _, _, ho', _⟩ := hn
      exact ⟨o', by rw [hb]; exact ho'⟩
    · exact ⟨o, k b o hb e⟩
  · obtain ⟨o1, es1, ep1, a1, b1, _, d1⟩ := hm
    obtain ⟨o2, es2, ep2, a2, b2, _, d2⟩ := hm'
    rw [a1] at a2; cases a2
    rw [b1] at b2; cases b2
    have e : m' = m := by funext x; rw [← d1, ← d2]
    rw [e]; exact hn
  · refine (I.hok b u e).stay (fun c v hc q => k c v ?_ q) (fun _ q => q) fun _ _ q => q
    rcases hc with z | z
    · rw [z]; exact nL b u e
    · exact nL c _ z
end
section
open PySem.W
def kasRun {α : Type} (lt : Nat → Nat → Bool) : KasT α → α
  | .ret a => a
  | .ask i j k => kasRun lt (k (lt i j))
theorem kasRun_bind {α β : Type} (lt : Nat → Nat → Bool) (f : α → KasT β) : ∀ t : KasT α, kasRun lt (t.bind f) = kasRun lt (f (kasRun lt t))
  | .ret a => rfl
  | .ask i j k => kasRun_bind lt f (k (lt i j))
def Asks {α : Type} (n : Nat) : KasT α → Prop
  | .ret _ => True
  | .ask i j k => i < n ∧ j < n ∧ ∀ b, Asks n (k b)
theorem Asks.bind {α β : Type} {n : Nat} {f : α → KasT β} (hf : ∀ a, Asks n (f a)) : ∀ {t : KasT α}, Asks n t → Asks n (t.bind f)
  | .ret a, _ => hf a
  | .ask i j k, h => ⟨h.1, h.2.1, fun b => Asks.bind hf (h.2.2 b)⟩
theorem kasWp_run {α : Type} {n : Nat} {lt : Nat → Nat → Bool} {cmp : Nat → Nat → (Bool → Shared → Prop) → Shared → Prop} {s : Shared} (hc : ∀ i j C, i < n → j < n → C (lt i j) s → cmp i j C s) {Q : α → Shared → Prop} : ∀ (t : KasT α), Asks n t → Q (kasRun lt t) s → t.kasWp cmp Q s
  | .ret a, _, h => h
  | .ask i j k, ha, h => hc i j _ ha.1 ha.2.1 (kasWp_run hc (k (lt i j)) (ha.2.2 _) h)
def InR (n : Nat) (p : Array Nat) : Prop := ∀ i, p.getD i 0 < n
theorem InR.of_perm {n : Nat} {p q : Array Nat} (h : InR n p) (hn : 0 < n) (hp : q.Perm p) : InR n q := by
  intro i
  by_cases hi : i < q.size
  · have hm : q[i] ∈ p := hp.mem_iff.mp (Array.getElem_mem hi)
    obtain ⟨j, hj, e⟩ := Array.getElem_of_mem hm
    have := h j
    rw [Array.getD_eq_getD_getElem?, Array.getElem?_eq_getElem hj] at this
    rw [Array.getD_eq_getD_getElem?, Array.getElem?_eq_getElem hi]
    simp only [Option.getD_some] at this ⊢
    omega
  · rw [Array.getD_eq_getD_getElem?, Array.getElem?_eq_none (by omega)]
    exact hn
theorem asks_asc {n : Nat} {p : Array Nat} (h : InR n p) : ∀ f m, Asks n (kas_asc p f m)
  | 0, _ => trivial
  | f + 1, m => ⟨h _, h _, fun b => by cases b <;> simp only [Bool.false_eq_true, if_false, if_true]; exact asks_asc h f (m + 1); trivial⟩
theorem rev_in {n : Nat} {p : Array Nat} (h : InR n p) (hn : 0 < n) (i j : Nat) : InR n (kas_rev p i j) := h.of_perm hn (mirror_perm _ _ _ _)
theorem asks_desc {n : Nat} (hn : 0 < n) : ∀ f (p : Array Nat) m q, InR n p → Asks n (kas_desc f p m q)
  | 0, _, _, _, _ => trivial
  | f + 1, p, m, q, h => by
    refine ⟨h _, h _, fun b => ?_⟩
    cases b with
    | true =>
      simp only [if_true]
      by_cases z : q > 0
      · rw [if_pos z]; exact asks_desc hn f _ _ _ (rev_in h hn _ _)
      · rw [if_neg z]; exact asks_desc hn f _ _ _ h
    | false =>
      simp only [Bool.false_eq_true, if_false]
      refine ⟨h _, h _, fun d => ?_⟩
      cases d with
      | true => simp only [if_true]; trivial
      | false => simp only [Bool.false_eq_true, if_false]; exact asks_desc hn f _ _ _ h
def Tells {α : Type} (Pr : α → Prop) : KasT α → Prop
  | .ret a => Pr a
  | .ask _ _ k => ∀ b, Tells Pr (k b)
theorem Tells.bind {α β : Type} {Pr : α → Prop} {n : Nat} {f : α → KasT β} (hf : ∀ a, Pr a → Asks n (f a)) : ∀ {t : KasT α}, Asks n t → Tells Pr t → Asks n (t.bind f)
  | .ret a, _, h => hf a h
  | .ask i j k, h, g => ⟨h.1, h.2.1, fun b => Tells.bind hf (h.2.2 b) (g b)⟩
theorem tells_desc {n : Nat} (hn : 0 < n) : ∀ f (p : Array Nat) m q, InR n p → Tells (fun r : Array Nat × Nat × Nat => InR n r.1) (kas_desc f p m q)
  | 0, _, _, _, h => h
  | f + 1, p, m, q, h => by
    intro b
    cases b with
    | true =>
      simp only [if_true]
      by_cases z : q > 0
      · rw [if_pos z]; exact tells_desc hn f _ _ _ (rev_in h hn _ _)
      · rw [if_neg z]; exact tells_desc hn f _ _ _ h
    | false =>
      simp only [Bool.false_eq_true, if_false]
      intro d
      cases d with
      | true => simp only [if_true]; exact h
      | false => simp only [Bool.false_eq_true, if_false]; exact tells_desc hn f _ _ _ h
theorem tells_any {α : Type} {Pr : α → Prop} (h : ∀ a, Pr a) : ∀ t : KasT α, Tells Pr t
  | .ret a => h a
  | .ask _ _ k => fun b => tells_any h (k b)
theorem tells_bind {α β : Type} {Pr : α → Prop} {R : β → Prop} {f : α → KasT β} (hf : ∀ a, Pr a → Tells R (f a)) : ∀ {t : KasT α}, Tells Pr t → Tells R (t.bind f)
  | .ret a, h => hf a h
  | .ask _ _ k, h => fun b => tells_bind hf (h b)
theorem asks_tail3 {n : Nat} {p : Array Nat} (h : InR n p) (hn : 0 < n) (m k : Nat) : Asks n (kas_tail3 m k p) ∧ Tells (fun r : Nat × Array Nat => InR n r.2) (kas_tail3 m k p) := by
  unfold kas_tail3
  refine ⟨Asks.bind (fun a => ?_) (asks_asc (rev_in h hn _ _) _ _), tells_bind (Pr := fun _ => True) (fun a _ => ?_) (tells_any (fun _ => trivial) _)⟩
  · trivial
  · exact rev_in h hn 0 m
theorem asks_descPart {n : Nat} {p : Array Nat} (h : InR n p) (hn : 0 < n) (m k : Nat) : Asks n (kas_descPart m k p) ∧ Tells (fun r : Nat × Array Nat => InR n r.2) (kas_descPart m k p) := by
  have a := asks_desc hn (k - (m + 1)) p (m + 1) 0 h
  have t := tells_desc hn (k - (m + 1)) p (m + 1) 0 h
  constructor
  · refine Tells.bind (fun r hr => ?_) a t
    by_cases z : r.2.2 > 0
    · rw [if_pos z]; exact (asks_tail3 (rev_in hr hn _ _) hn _ _).1
    · rw [if_neg z]; exact (asks_tail3 hr hn _ _).1
  · refine tells_bind (fun r hr => ?_) t
    by_cases z : r.2.2 > 0
    · rw [if_pos z]; exact (asks_tail3 (rev_in hr hn _ _) hn _ _).2
    · rw [if_neg z]; exact (asks_tail3 hr hn _ _).2
theorem asks_count {n : Nat} {p : Array Nat} (h : InR n p) (hn : 0 < n) (k : Nat) : Asks n (kas_count k p) ∧ Tells (fun r : Nat × Array Nat => InR n r.2) (kas_count k p) := by
  have a := asks_asc h (k - 1) 1
  constructor
  · refine Asks.bind (fun m => ?_) a
    by_cases z : (m == k) = true
    · rw [if_pos z]; trivial
    · rw [if_neg z]
      by_cases y : m > 1
      · rw [if_pos y]
        refine ⟨h _, h _, fun b => ?_⟩
        cases b with
        | true => simp only [if_true]; trivial
        | false => simp only [Bool.false_eq_true, if_false]; exact (asks_descPart (rev_in h hn _ _) hn _ _).1
      · rw [if_neg y]; exact (asks_descPart h hn _ _).1
  · refine tells_bind (Pr := fun _ => True) (fun m _ => ?_) (tells_any (fun _ => trivial) _)
    by_cases z : (m == k) = true
    · rw [if_pos z]; exact h
    · rw [if_neg z]
      by_cases y : m > 1
      · rw [if_pos y]
        intro b
        cases b with
        | true => simp only [if_true]; exact h
        | false => simp only [Bool.false_eq_true, if_false]; exact (asks_descPart (rev_in h hn _ _) hn _ _).2
      · rw [if_neg y]; exact (asks_descPart h hn _ _).2
theorem asks_place {n : Nat} {p : Array Nat} (h : InR n p) (k : Nat) : ∀ f l r, Asks n (kas_place p k f l r)
  | 0, _, _ => trivial
  | f + 1, l, r => by
    unfold kas_place
    by_cases z : l ≥ r
    · rw [if_pos z]; trivial
    · rw [if_neg z]
      refine ⟨h _, h _, fun b => ?_⟩
      cases b with
      | true => simp only [if_true]; exact asks_place h k f _ _
      | false => simp only [Bool.false_eq_true, if_false]; exact asks_place h k f _ _
theorem asks_bin {n : Nat} (hn : 0 < n) : ∀ f (p : Array Nat) k, InR n p → Asks n (kas_bin f p k)
  | 0, _, _, _ => trivial
  | f + 1, p, k, h => Asks.bind (fun l => asks_bin hn f _ _ (h.of_perm hn (bubble_perm _ _ _))) (asks_place h k _ _ _)
theorem range_in {n : Nat} (hn : 0 < n) : InR n (List.toArray (List.range n)) := by
  intro i
  rw [Array.getD_eq_getD_getElem?]
  simp only [List.getElem?_toArray]
  by_cases hi : i < n
  · rw [List.getElem?_range hi]; exact hi
  · rw [List.getElem?_eq_none (by simpa using hi)]; exact hn
theorem asks_sort {n : Nat} (hn : 0 < n) : Asks n (kas_sort n) := by
  obtain ⟨a, t⟩ := asks_count (range_in hn) hn n
  refine Tells.bind (fun r hr => ?_) a t
  by_cases z : r.1 < n
  · rw [if_pos z]; exact asks_bin hn _ _ _ hr
  · rw [if_neg z]; trivial
def AscP (e : Nat → Int) (p : Array Nat) (n : Nat) : Prop := ∀ i j, i < j → j < n → e (p.getD i 0) ≤ e (p.getD j 0)
def ltE (e : Nat → Int) (i j : Nat) : Bool := decide (e i < e j)
theorem AscP.step {e : Nat → Int} {p : Array Nat} {n : Nat} (h : AscP e p n) (hn : 1 ≤ n) (q : e (p.getD (n - 1) 0) ≤ e (p.getD n 0)) : AscP e p (n + 1) := by
  intro i j hij hj
  by_cases z : j = n
  · subst z
    by_cases y : i = j - 1
    · subst y; exact q
    · exact Int.le_trans (h i (j - 1) (by omega) (by omega)) q
  · exact h i j hij (by omega)
theorem run_asc {e : Nat → Int} {p : Array Nat} : ∀ f n, 1 ≤ n → AscP e p n → n ≤ kasRun (ltE e) (kas_asc p f n) ∧ kasRun (ltE e) (kas_asc p f n) ≤ n + f ∧ AscP e p (kasRun (ltE e) (kas_asc p f n)) ∧ (kasRun (ltE e) (kas_asc p f n) < n + f → e (p.getD (kasRun (ltE e) (kas_asc p f n)) 0) < e (p.getD (kasRun (ltE e) (kas_asc p f n) - 1) 0))
  | 0, n, _, h => ⟨Nat.le_refl _, Nat.le_refl _, h, fun q => absurd q (Nat.lt_irrefl _)⟩
  | f + 1, n, hn, h => by
    show n ≤ kasRun (ltE e) (if ltE e (p.getD n 0) (p.getD (n - 1) 0) = true then .ret n else kas_asc p f (n + 1)) ∧ kasRun (ltE e) (if ltE e (p.getD n 0) (p.getD (n - 1) 0) = true then .ret n else kas_asc p f (n + 1)) ≤ n + (f + 1) ∧ AscP e p (kasRun (ltE e) (if ltE e (p.getD n 0) (p.getD (n - 1) 0) = true then .ret n else kas_asc p f (n + 1))) ∧ _
    by_cases z : e (p.getD n 0) < e (p.getD (n - 1) 0)
    · rw [if_pos (show ltE e _ _ = true from decide_eq_true z)]
      exact ⟨Nat.le_refl _, Nat.le_add_right _ _, h, fun _ => by
        show e (p.getD (kasRun (ltE e) (if ltE e (p.getD n 0) (p.getD (n - 1) 0) = true then .ret n else kas_asc p f (n + 1))) 0) < e (p.getD (kasRun (ltE e) (if ltE e (p.getD n 0) (p.getD (n - 1) 0) = true then .ret n else kas_asc p f (n + 1)) - 1) 0)
        rw [if_pos (show ltE e _ _ = true from decide_eq_true z)]
        exact z⟩
    · have hf : ¬ ltE e (p.getD n 0) (p.getD (n - 1) 0) = true := fun q => z (of_decide_eq_true q)
      rw [if_neg hf]
      obtain ⟨a, b, c, d⟩ := run_asc f (n + 1) (by omega) (h.step hn (by omega))
      refine ⟨by omega, by omega, c, fun q => ?_⟩
      have q' : kasRun (ltE e) (if ltE e (p.getD n 0) (p.getD (n - 1) 0) = true then .ret n else kas_asc p f (n + 1)) < n + (f + 1) := q
      rw [if_neg hf] at q'
      show e (p.getD (kasRun (ltE e) (if ltE e (p.getD n 0) (p.getD (n - 1) 0) = true then .ret n else kas_asc p f (n + 1))) 0) < e (p.getD (kasRun (ltE e) (if ltE e (p.getD n 0) (p.getD (n - 1) 0) = true then .ret n else kas_asc p f (n + 1)) - 1) 0)
      rw [if_neg hf]
      exact d (by omega)
def DescP (e : Nat → Int) (p : Array Nat) (n : Nat) : Prop := ∀ i j, i < j → j < n → e (p.getD j 0) ≤ e (p.getD i 0)
theorem run_desc {e : Nat → Int} {p : Array Nat} {N : Nat} (hd : ∀ i, i + 1 < N → e (p.getD i 0) ≠ e (p.getD (i + 1) 0)) : ∀ f n, 1 ≤ n → n + f ≤ N → DescP e p n → ∃ m, kasRun (ltE e) (kas_desc f p n 0) = (p, m, 0) ∧ n ≤ m ∧ m ≤ n + f ∧ DescP e p m
  | 0, n, _, _, h => ⟨n, rfl, Nat.le_refl _, Nat.le_refl _, h⟩
  | f + 1, n, hn, hN, h => by
    show ∃ m, kasRun (ltE e) (if ltE e (p.getD n 0) (p.getD (n - 1) 0) = true then (if 0 > 0 then kas_desc f (kas_rev p (n - (0 + 1)) n) (n + 1) 0 else kas_desc f p (n + 1) 0) else .ask (p.getD (n - 1) 0) (p.getD n 0) fun d => if d = true then .ret (p, n, 0) else kas_desc f p (n + 1) (0 + 1)) = (p, m, 0) ∧ n ≤ m ∧ m ≤ n + (f + 1) ∧ DescP e p m
    by_cases z : e (p.getD n 0) < e (p.getD (n - 1) 0)
    · rw [if_pos (show ltE e _ _ = true from decide_eq_true z), if_neg (by omega)]
      obtain ⟨m, a, b, c, d⟩ := run_desc hd f (n + 1) (by omega) (by omega) (fun i j hij hj => by
        by_cases y : j = n
        · subst y
          by_cases x : i = j - 1
          · subst x; omega
          · exact Int.le_trans (Int.le_of_lt z) (h i (j - 1) (by omega) (by omega))
        · exact h i j hij (by omega))
      exact ⟨m, a, by omega, by omega, d⟩
    · rw [if_neg (show ¬ ltE e _ _ = true from fun q => z (of_decide_eq_true q))]
      have ne := hd (n - 1) (by omega)
      rw [show n - 1 + 1 = n by omega] at ne
      have y : e (p.getD (n - 1) 0) < e (p.getD n 0) := by omega
      refine ⟨n, ?_, Nat.le_refl _, by omega, h⟩
      show kasRun (ltE e) (if ltE e (p.getD (n - 1) 0) (p.getD n 0) = true then .ret (p, n, 0) else kas_desc f p (n + 1) (0 + 1)) = (p, n, 0)
      rw [if_pos (show ltE e _ _ = true from decide_eq_true y)]
      rfl
theorem getD_of {p q : Array Nat} {i j : Nat} (h : p[i]? = q[j]?) : p.getD i 0 = q.getD j 0 := by rw [Array.getD_eq_getD_getElem?, Array.getD_eq_getD_getElem?, h]
theorem rev_asc {e : Nat → Int} {p : Array Nat} {m : Nat} (hm : m ≤ p.size) (h : DescP e p m) : AscP e (kas_rev p 0 m) m := by
  have at_ : ∀ k, k < m → (kas_rev p 0 m).getD k 0 = p.getD (m - 1 - k) 0 := fun k hk => getD_of (by
    unfold kas_rev
    rw [getElem?_mirror_all hm, if_pos ⟨Nat.zero_le _, hk⟩, show 0 + m - 1 - k = m - 1 - k by omega])
  intro i j hij hj
  rw [at_ i (by omega), at_ j hj]
  exact h (m - 1 - j) (m - 1 - i) (by omega) (by omega)
theorem run_tail3 {e : Nat → Int} {p : Array Nat} {m N : Nat} (hm1 : 1 ≤ m) (hm : m ≤ N) (hN : N = p.size) (h : DescP e p m) : ∃ r, kasRun (ltE e) (kas_tail3 m N p) = (r, kas_rev p 0 m) ∧ 1 ≤ r ∧ r ≤ N ∧ AscP e (kas_rev p 0 m) r := by
  obtain ⟨a, b, c, _⟩ := run_asc (e := e) (p := kas_rev p 0 m) (N - m) m hm1 (rev_asc (by omega) h)
  refine ⟨kasRun (ltE e) (kas_asc (kas_rev p 0 m) (N - m) m), ?_, by omega, by omega, c⟩
  unfold kas_tail3
  rw [kasRun_bind]
  rfl
theorem run_count {e : Nat → Int} {p : Array Nat} {N : Nat} (hN : N = p.size) (h1 : 1 ≤ N) (hd : ∀ i j, i < j → j < N → e (p.getD i 0) ≠ e (p.getD j 0)) : ∃ r q, kasRun (ltE e) (kas_count N p) = (r, q) ∧ q.Perm p ∧ 1 ≤ r ∧ r ≤ N ∧ AscP e q r := by
  obtain ⟨a, b, c, d⟩ := run_asc (e := e) (p := p) (N - 1) 1 (Nat.le_refl _) (fun i j hij hj => by omega)
  unfold kas_count
  rw [kasRun_bind]
  generalize kasRun (ltE e) (kas_asc p (N - 1) 1) = n at *
  by_cases z : (n == N) = true
  · rw [if_pos z]
    exact ⟨n, p, rfl, Array.Perm.refl _, a, by omega, c⟩
  · rw [if_neg z]
    have zn : n ≠ N := fun q => z (by simpa using q)
    have last := d (by omega)
    by_cases y : n > 1
    · rw [if_pos y]
      have lt : e (p.getD 0 0) < e (p.getD (n - 1) 0) := by
        have h1 := c 0 (n - 1) (by omega) (by omega)
        have h2 := hd 0 (n - 1) (by omega) (by omega)
        omega
      refine ⟨n, p, ?_, Array.Perm.refl _, a, by omega, c⟩
      show kasRun (ltE e) (if ltE e (p.getD 0 0) (p.getD (n - 1) 0) = true then .ret (n, p) else kas_descPart n N (kas_rev p 0 n)) = (n, p)
      rw [if_pos (show ltE e _ _ = true from decide_eq_true lt)]
      rfl
    · rw [if_neg y]
      have n1 : n = 1 := by omega
      subst n1
      obtain ⟨m, e1, m1, m2, dm⟩ := run_desc (e := e) (p := p) (N := N) (fun i hi => hd i (i + 1) (by omega) hi) (N - (1 + 1)) (1 + 1) (by omega) (by omega) (fun i j hij hj => by
        have : i = 0 := by omega
        have : j = 1 := by omega
        subst i j
        exact Int.le_of_lt last)
      unfold kas_descPart
      rw [kasRun_bind, e1, if_neg (by show ¬ (0 > 0); omega)]
      obtain ⟨r, e2, r1, r2, ar⟩ := run_tail3 (e := e) (p := p) (m := m) (N := N) (by omega) (by omega) hN dm
      exact ⟨r, _, e2, mirror_perm _ _ _ _, r1, r2, ar⟩
theorem run_place {e : Nat → Int} {p : Array Nat} {k : Nat} : ∀ f l r, l ≤ r → r ≤ k → r - l ≤ f → AscP e p k → (∀ i, i < l → e (p.getD i 0) ≤ e (p.getD k 0)) → (∀ i, r ≤ i → i < k → e (p.getD k 0) ≤ e (p.getD i 0)) →
    l ≤ kasRun (ltE e) (kas_place p k f l r) ∧ kasRun (ltE e) (kas_place p k f l r) ≤ r ∧ (∀ i, i < kasRun (ltE e) (kas_place p k f l r) → e (p.getD i 0) ≤ e (p.getD k 0)) ∧ ∀ i, kasRun (ltE e) (kas_place p k f l r) ≤ i → i < k → e (p.getD k 0) ≤ e (p.getD i 0)
  | 0, l, r, h1, _, h3, _, hl, hr => by
    have : l = r := by omega
    subst this
    exact ⟨Nat.le_refl _, Nat.le_refl _, hl, hr⟩
  | f + 1, l, r, h1, h2, h3, h, hl, hr => by
    unfold kas_place
    by_cases z : l ≥ r
    · rw [if_pos z]
      have : l = r := by omega
      subst this
      exact ⟨Nat.le_refl _, Nat.le_refl _, hl, hr⟩
    · rw [if_neg z]
      have hm1 : l ≤ (l + r) / 2 := by omega
      have hm2 : (l + r) / 2 < r := by omega
      have key : ∀ b, ltE e (p.getD k 0) (p.getD ((l + r) / 2) 0) = b → l ≤ kasRun (ltE e) (if b = true then kas_place p k f l ((l + r) / 2) else kas_place p k f ((l + r) / 2 + 1) r) ∧ kasRun (ltE e) (if b = true then kas_place p k f l ((l + r) / 2) else kas_place p k f ((l + r) / 2 + 1) r) ≤ r ∧ (∀ i, i < kasRun (ltE e) (if b = true then kas_place p k f l ((l + r) / 2) else kas_place p k f ((l + r) / 2 + 1) r) → e (p.getD i 0) ≤ e (p.getD k 0)) ∧ ∀ i, kasRun (ltE e) (if b = true then kas_place p k f l ((l + r) / 2) else kas_place p k f ((l + r) / 2 + 1) r) ≤ i → i < k → e (p.getD k 0) ≤ e (p.getD i 0) := by
        intro b hb
        cases b with
        | true =>
          have lt : e (p.getD k 0) < e (p.getD ((l + r) / 2) 0) := of_decide_eq_true hb
          simp only [if_true]
          obtain ⟨a1, a2, a3, a4⟩ := run_place f l ((l + r) / 2) hm1 (by omega) (by omega) h hl fun i hi hk => by
            by_cases y : i = (l + r) / 2
            · subst y; exact Int.le_of_lt lt
            · exact Int.le_trans (Int.le_of_lt lt) (h ((l + r) / 2) i (by omega) hk)
          exact ⟨a1, by omega, a3, a4⟩
        | false =>
          have ge : ¬ e (p.getD k 0) < e (p.getD ((l + r) / 2) 0) := of_decide_eq_false hb
          simp only [Bool.false_eq_true, if_false]
          obtain ⟨a1, a2, a3, a4⟩ := run_place f ((l + r) / 2 + 1) r (by omega) h2 (by omega) h (fun i hi => by
            by_cases y : i = (l + r) / 2
            · subst y; omega
            · have := h i ((l + r) / 2) (by omega) (by omega)
              omega) hr
          exact ⟨by omega, a2, a3, a4⟩
      exact key _ rfl
theorem run_bin {e : Nat → Int} : ∀ f (p : Array Nat) k, 1 ≤ k → k + f ≤ p.size → AscP e p k → (kasRun (ltE e) (kas_bin f p k)).Perm p ∧ AscP e (kasRun (ltE e) (kas_bin f p k)) (k + f)
  | 0, p, k, _, _, h => ⟨Array.Perm.refl _, h⟩
  | f + 1, p, k, hk, hs, h => by
    obtain ⟨a1, a2, a3, a4⟩ := run_place (e := e) (p := p) (k := k) k 0 k (by omega) (Nat.le_refl _) (by omega) h (fun i hi => by omega) (fun i h1 h2 => by omega)
    show (kasRun (ltE e) ((kas_place p k k 0 k).bind fun l => kas_bin f (bubble p k (k - l)) (k + 1))).Perm p ∧ AscP e (kasRun (ltE e) ((kas_place p k k 0 k).bind fun l => kas_bin f (bubble p k (k - l)) (k + 1))) (k + (f + 1))
    rw [kasRun_bind]
    generalize kasRun (ltE e) (kas_place p k k 0 k) = l at *
    have at_ : ∀ i, (bubble p k (k - l)).getD i 0 = if i = l then p.getD k 0 else if l < i ∧ i ≤ k then p.getD (i - 1) 0 else p.getD i 0 := fun i => by
      have hb := getElem?_bubble (xs := p) (src := k) (by omega) (k - l) (by omega) i
      rw [show k - (k - l) = l by omega] at hb
      by_cases y : i = l
      · rw [if_pos y] at hb ⊢; exact getD_of hb
      · rw [if_neg y] at hb ⊢
        by_cases x : l < i ∧ i ≤ k
        · rw [if_pos x] at hb ⊢; exact getD_of hb
        · rw [if_neg x] at hb ⊢; exact getD_of hb
    have asc : AscP e (bubble p k (k - l)) (k + 1) := by
      intro i j hij hj
      rw [at_ i, at_ j]
      by_cases i1 : i = l
      · rw [if_pos i1, if_neg (by omega), if_pos (by omega)]
        exact a4 (j - 1) (by omega) (by omega)
      · rw [if_neg i1]
        by_cases i2 : l < i ∧ i ≤ k
        · rw [if_pos i2, if_neg (by omega), if_pos (by omega)]
          exact h (i - 1) (j - 1) (by omega) (by omega)
        · rw [if_neg i2]
          by_cases j1 : j = l
          · rw [if_pos j1]; exact a3 i (by omega)
          · rw [if_neg j1]
            by_cases j2 : l < j ∧ j ≤ k
            · rw [if_pos j2]
              by_cases w : i = j - 1
              · omega
              · exact h i (j - 1) (by omega) (by omega)
            · rw [if_neg j2]; exact h i j hij (by omega)
    obtain ⟨b1, b2⟩ := run_bin f (bubble p k (k - l)) (k + 1) (by omega) (by rw [bubble_size]; omega) asc
    exact ⟨b1.trans (bubble_perm _ _ _), by rw [show k + (f + 1) = k + 1 + f by omega]; exact b2⟩
theorem run_sort {e : Nat → Int} {n : Nat} (h1 : 1 ≤ n) (hd : ∀ i j, i < j → j < n → e i ≠ e j) : (kasRun (ltE e) (kas_sort n)).Perm (List.toArray (List.range n)) ∧ AscP e (kasRun (ltE e) (kas_sort n)) n := by
  have gr : ∀ i, i < n → (List.toArray (List.range n)).getD i 0 = i := fun i hi => by
    rw [Array.getD_eq_getD_getElem?]
    simp only [List.getElem?_toArray]
    rw [List.getElem?_range hi]; rfl
  have sz : n = (List.toArray (List.range n)).size := by simp
  obtain ⟨r, q, e1, hp, r1, r2, ar⟩ := run_count (e := e) (p := List.toArray (List.range n)) (N := n) sz h1 fun i j hij hj => by rw [gr i (by omega), gr j hj]; exact hd i j hij hj
  unfold kas_sort
  rw [kasRun_bind, e1]
  by_cases z : r < n
  · rw [if_pos (show (r, q).1 < n from z)]
    have hq : q.size = n := by rw [hp.size_eq]; exact sz.symm
    show (kasRun (ltE e) (kas_bin (n - max r 1) q (max r 1))).Perm _ ∧ AscP e (kasRun (ltE e) (kas_bin (n - max r 1) q (max r 1))) n
    rw [show max r 1 = r by omega]
    obtain ⟨b1, b2⟩ := run_bin (e := e) (n - r) q r r1 (by omega) ar
    rw [show r + (n - r) = n by omega] at b2
    exact ⟨b1.trans hp, b2⟩
  · rw [if_neg (show ¬ (r, q).1 < n from z)]
    have : r = n := by omega
    subst this
    exact ⟨hp, ar⟩
end
section
open PySem.W
theorem katTups_of {h : Heap} : ∀ {vs : List Value}, (∀ v ∈ vs, ∃ a o xs n x t, v = .ref a ∧ h.get? a = some o ∧ o.cls = .type "tuple" ∧ o.data = .seq xs n ∧ xs[0]? = some (.int x t)) → ∃ fs, KatTups h vs fs ∧ fs.length = vs.length ∧ ∀ v ∈ fs, ∃ x t, v = .int x t
  | [], _ => ⟨[], KatTups.nil, rfl, fun _ z => nomatch z⟩
  | v :: vs, q => by
    obtain ⟨a, o, xs, n, x, t, rfl, h1, h2, h3, h4⟩ := q v List.mem_cons_self
    obtain ⟨fs, k, l, e⟩ := katTups_of fun u hu => q u (List.mem_cons_of_mem _ hu)
    refine ⟨.int x t :: fs, KatTups.cons h1 h2 h3 h4 k, by rw [List.length_cons, List.length_cons, l], fun u hu => ?_⟩
    rcases List.mem_cons.mp hu with rfl | hu
    · exact ⟨x, t, rfl⟩
    · exact e u hu
def codeT (f g : Nat → Int) (B : Int) (i : Nat) : Int := f i * B + g i
theorem codeT_lt {f g : Nat → Int} {B : Int} {i j : Nat} (h1 : 0 ≤ g i) (h2 : g i < B) (h3 : 0 ≤ g j) (h4 : g j < B) : decide (codeT f g B i < codeT f g B j) = if (f i == f j) = true then decide (g i < g j) else decide (f i < f j) := by
  unfold codeT
  by_cases z : f i = f j
  · rw [if_pos (by simpa using z), z]
    exact decide_eq_decide.mpr ⟨fun q => by omega, fun q => by omega⟩
  · rw [if_neg (by simpa using z)]
    refine decide_eq_decide.mpr ⟨fun q => ?_, fun q => ?_⟩
    · rcases Int.lt_trichotomy (f i) (f j) with y | y | y
      · exact y
      · exact absurd y z
      · have : (f j + 1) * B ≤ f i * B := Int.mul_le_mul_of_nonneg_right (by omega) (by omega)
        rw [Int.add_mul, Int.one_mul] at this
        omega
    · have : (f i + 1) * B ≤ f j * B := Int.mul_le_mul_of_nonneg_right (by omega) (by omega)
      rw [Int.add_mul, Int.one_mul] at this
      omega
theorem codeT_ne {f g : Nat → Int} {B : Int} {i j : Nat} (h1 : 0 ≤ g i) (h2 : g i < B) (h3 : 0 ≤ g j) (h4 : g j < B) (h : f i ≠ f j ∨ g i ≠ g j) : codeT f g B i ≠ codeT f g B j := by
  intro e
  have a := codeT_lt (f := f) h1 h2 h3 h4
  have b := codeT_lt (f := f) (i := j) (j := i) h3 h4 h1 h2
  rw [decide_eq_false (by omega)] at a b
  by_cases z : f i = f j
  · rw [if_pos (by simpa using z)] at a
    rw [if_pos (by simpa using z.symm)] at b
    have a' := of_decide_eq_false a.symm
    have b' := of_decide_eq_false b.symm
    rcases h with h | h
    · exact h z
    · omega
  · rw [if_neg (by simpa using z)] at a
    rw [if_neg (by simpa using fun y => z (Eq.symm y))] at b
    have a' := of_decide_eq_false a.symm
    have b' := of_decide_eq_false b.symm
    omega
theorem Inv.adoptN {X : Cx} {pins : List (Addr × Obj)} {σ : St} {H : Hp} {s : Shared} {a : Addr} {o : HO} (I : Inv X pins σ H s) (hn : H a = none) (ho : ObjOk X.prog X.w (upd H a o) s.heap a o) (hs : a ∉ X.ex → X.s₀.heap.get? a = none) (hL : a ≠ X.env.locals)
    (hc : ∀ x c, X.env.cells.lookup x = some c → c ≠ a) (hp : ∀ p ∈ X.pn ++ pins, p.1 ≠ a) : Inv X pins σ (upd H a o) s := by
  have ne : ∀ b u, H b = some u → b ≠ a := fun b u e z => by rw [z, hn] at e; cases e
  refine ⟨I.ok, I.os, I.bare, ⟨I.base.keep, I.base.slot, fun b u e n hx => ?_, I.base.there, fun b xs e => ?_, fun b u v e => ?_, fun b ps e => ?_⟩, I.loc, I.cell, ?_, fun x c e => ?_, fun p q => ?_, fun b u e => ?_, I.len⟩
  · rw [upd_ne (fun z => by subst z; rw [hs hx] at e; cases e)]
    exact I.base.free b u e n hx
  · have q := I.base.tups b xs e
    rw [upd_ne (ne _ _ q)]; exact q
  · have q := I.base.frzs b u v e
    rw [upd_ne (ne _ _ q)]; exact q
  · obtain ⟨m, q⟩ := I.base.tbls b ps e
    exact ⟨m, by rw [upd_ne (ne _ _ q)]; exact q⟩
  · rw [upd_ne hL.symm]; exact I.free
  · rw [upd_ne (hc x c e)]; exact I.freeC x c e
  · obtain ⟨q1, q2, q3⟩ := I.pin p q
    exact ⟨q1, by rw [upd_ne (hp p q)]; exact q2, q3⟩
  · by_cases hb : b = a
    · subst hb
      rw [upd_same] at e
      cases e
      exact ho
    · rw [upd_ne hb] at e
      exact (I.hok b u e).stay (fun _ _ _ q => q) (fun c q => by rw [upd_ne (ne _ _ q)]; exact q) fun c xs q => by rw [upd_ne (ne _ _ q)]; exact q
def rSortT (K : PySem.W.Frag) : List V → Hp → VK → Prop := fun xs H Q => ∃ (p : Addr) (rs : List Addr) (f g : Nat → Int) (B : Int), xs = [.ref p] ∧ SqL K H p (rs.map V.ref) ∧ 2 ≤ rs.length ∧ rs.length < 64 ∧ (∀ i (h : i < rs.length), SqT K H rs[i] [.int (f i), .int (g i)]) ∧ (∀ i, i < rs.length → 0 ≤ g i ∧ g i < B) ∧
  (∀ i j, i < j → j < rs.length → f i ≠ f j ∨ g i ≠ g j) ∧ ∀ (l : Addr) (ps : List Nat), ps.Perm (List.range rs.length) → ps.Pairwise (fun i j => codeT f g B i ≤ codeT f g B j) → H l = none → Q (.ref l) (upd H l (.lst (ps.map fun i => V.ref (rs.getD i 0))))
theorem ascP_pairwise {e : Nat → Int} {p : Array Nat} (h : AscP e p p.size) : p.toList.Pairwise (fun i j => e i ≤ e j) := by
  rw [List.pairwise_iff_getElem]
  intro i j hi hj hij
  have := h i j hij (by simpa using hj)
  rw [Array.getD_eq_getD_getElem?, Array.getD_eq_getD_getElem?, Array.getElem?_eq_getElem (by simpa using hi), Array.getElem?_eq_getElem (by simpa using hj)] at this
  simpa using this
theorem vals_perm {rs : List Addr} {its : List Value} (h : ∀ i (_ : i < rs.length), its.getD i Value.none = .ref (rs.getD i 0)) : ∀ {ps : List Nat}, (∀ i ∈ ps, i < rs.length) → Vals (ps.map fun i => V.ref (rs.getD i 0)) (ps.map fun i => its.getD i Value.none)
  | [], _ => .nil
  | i :: ps, q => .cons (h i (q i List.mem_cons_self)) (vals_perm h fun j hj => q j (List.mem_cons_of_mem _ hj))
theorem sortTq {X : Cx} {K : PySem.W.Frag} (hK : X.K = K) : CallR X (.builtin "sorted") (rSortT K) := by
  subst hK
  intro pins s σ H xs us Q I r h
  obtain ⟨p, rs, f, g, B, rfl, hq, h2, h64, ht, hb, hd, q⟩ := h
  obtain ⟨u, rfl, rx⟩ := vals1 r
  cases rx
  obtain ⟨its, rv, pl, hz⟩ := I.list hq
  have hlen := rv.length
  rw [List.length_map] at hlen
  have eIt : ∀ i (_ : i < rs.length), its.getD i Value.none = .ref (rs.getD i 0) := fun i hi => by
    rw [List.getD_eq_getElem?_getD, List.getElem?_eq_getElem (show i < its.length by omega), List.getD_eq_getElem?_getD, List.getElem?_eq_getElem hi]
    exact refs_at rv i (by omega) hi
  obtain ⟨m, hnm, hlk⟩ := I.loc
  have F : Fr X.base X.env.locals s.heap m := ⟨hnm, I.bk, Nat.le_trans I.ok.bsz I.ok.above⟩
  have keepAll : ∀ h, Fr X.base X.env.locals h m → News X.base X.env.locals h (allNews X.base s.heap X.env.locals) → ∀ b o, b ≠ X.env.locals → s.heap.get? b = some o → h.get? b = some o := fun h F' N' b o hb e => by
    cases z : X.base.get? b with
    | some o' =>
      have := I.bk b o' z
      rw [e] at this; cases this
      exact F'.keep b _ z
    | none => exact (N' (b, o) (mem_allNews hb z e)).1
  have nL : ∀ {b : Addr} {o : Obj}, s.heap.get? b = some o → (∀ es ep, o.data ≠ .dict es ep) → b ≠ X.env.locals := fun {b o} e d z => by
    obtain ⟨o', es, ep, e', d', _⟩ := hnm
    rw [z, e'] at e; cases e
    exact d _ _ d'
  refine kat_sorted F news_all pl.isList (by omega) (by omega) fun D e1 h' F' N' lo => ?_
  have N2 : News X.base X.env.locals h' (allNews X.base s.heap X.env.locals) := fun p hp => N' p (List.mem_cons_of_mem _ hp)
  have tupAt : ∀ i (_ : i < rs.length), ∃ o n t1 t2, h'.get? (rs.getD i 0) = some o ∧ o.cls = .type "tuple" ∧ o.data = .seq #[.int (f i) t1, .int (g i) t2] n := fun i hi => by
    obtain ⟨it, rt, ⟨o, e, hc, n, hdt⟩, _⟩ := I.tuple (ht i hi)
    obtain ⟨u1, u2, rfl, ru1, ru2⟩ : ∃ u1 u2, it = [u1, u2] ∧ RelV (.int (f i)) u1 ∧ RelV (.int (g i)) u2 := by
      cases rt with
      | cons a b => cases b with
        | cons c d => cases d; exact ⟨_, _, rfl, a, c⟩
    obtain ⟨t1, rfl⟩ := ru1
    obtain ⟨t2, rfl⟩ := ru2
    refine ⟨o, n, t1, t2, ?_, hc, hdt⟩
    rw [List.getD_eq_getElem?_getD, List.getElem?_eq_getElem hi]
    exact keepAll h' F' N2 _ _ (nL e (fun _ _ z => by rw [hdt] at z; cases z)) e
  obtain ⟨fs, kt, kl, ki⟩ := katTups_of (h := h') (vs := its) fun v hv => by
    obtain ⟨i, hi, rfl⟩ := List.getElem_of_mem hv
    obtain ⟨o, n, t1, t2, a1, a2, a3⟩ := tupAt i (by omega)
    have := eIt i (by omega)
    rw [List.getD_eq_getElem?_getD, List.getElem?_eq_getElem hi] at this
    exact ⟨_, o, _, n, f i, t1, this, a1, a2, a3, rfl⟩
  refine kat_kind (T := .type "int") kt (by omega) (fun v hv => ?_) rfl ?_
  · obtain ⟨x, t, rfl⟩ := ki v hv
    exact .now
  have hbt : (Value.type "int" != Value.type "tuple") = true := rfl
  rw [hbt]
  have hn : 0 < its.length := by omega
  refine kasWp_run (n := its.length) (lt := ltE (codeT f g B)) (fun i j C hi hj hC => ?_) _ (asks_sort hn) ?_
  · obtain ⟨o, n, t1, t2, a1, a2, a3⟩ := tupAt i (by omega)
    obtain ⟨o', n', t1', t2', b1, b2, b3⟩ := tupAt j (by omega)
    unfold kas_ask
    rw [eIt i (by omega), eIt j (by omega)]
    have hc := codeT_lt (f := f) (hb i (by omega)).1 (hb i (by omega)).2 (hb j (by omega)).1 (hb j (by omega)).2
    have hC' : C (decide (codeT f g B i < codeT f g B j)) _ := hC
    rw [hc] at hC'
    refine kat_lt a1 a3 b1 b3 (kat_cons (wpAny_eqBool_int ?_))
    cases z : (f i == f j) with
    | true =>
      rw [z, if_pos rfl] at hC'
      refine kat_yes (kat_cons (wpAny_eqBool_int ?_))
      cases y : (g i == g j) with
      | true =>
        refine kat_yes (kat_nil ?_)
        have : g i = g j := by simpa using y
        rw [decide_eq_false (by omega)] at hC'
        exact hC'
      | false => exact kat_no (kat_one _ _ (PyProof.Rows.lt_int hC'))
    | false =>
      rw [z, if_neg (by simp)] at hC'
      exact kat_no (oneLt_int hC')
  · obtain ⟨hp, ha⟩ := run_sort (e := codeT f g B) (n := its.length) hn fun i j hij hj => codeT_ne (hb i (by omega)).1 (hb i (by omega)).2 (hb j (by omega)).1 (hb j (by omega)).2 (hd i j hij (by omega))
    generalize kasRun (ltE (codeT f g B)) (kas_sort its.length) = out at hp ha ⊢
    have hp' : out.toList.Perm (List.range rs.length) := by
      have := Array.perm_iff_toList_perm.mp hp
      rw [← hlen] at this
      exact this
    have hsz : out.size = its.length := by have := hp'.length_eq; rw [List.length_range] at this; rw [← Array.length_toList, this, hlen]
    rw [← hsz] at ha
    refine KasFin.intro F' N' (.head fun q hq z => absurd (lo q hq) (by rw [z]; exact Nat.lt_irrefl _)) fun hh c F2 N3 => ?_
    have N4 : News X.base X.env.locals hh (allNews X.base s.heap X.env.locals) := fun p hp => N3 p (List.mem_cons_of_mem _ hp)
    obtain ⟨eD, nDL, nDb⟩ := N3 _ List.mem_cons_self
    have I1 : Inv X pins σ H { s with heap := hh } := I.butFrame (t' := s.toks) hnm (keepAll hh F2 N4) F2.ns
    have hge : s.heap.get? D = none := by
      cases z : s.heap.get? D with
      | none => rfl
      | some o => exact absurd (lo _ (mem_allNews nDL nDb z)) (Nat.lt_irrefl _)
    have nT : H D = none := by
      cases z : H D with
      | none => rfl
      | some o =>
        obtain ⟨ob, e⟩ := (I.hok D o z).ex
        rw [hge] at e; cases e
    have rv' := vals_perm eIt (ps := out.toList) fun i hi => List.mem_range.mp (hp'.mem_iff.mp hi)
    have n0 : D ∉ X.ex → X.s₀.heap.get? D = none := fun hx => by
      cases z : X.s₀.heap.get? D with
      | none => rfl
      | some o =>
        obtain ⟨ob, e⟩ := I.base.there D o z hx
        rw [hge] at e; cases e
    have I2 := I1.adoptN (a := D) (o := .lst (out.toList.map fun i => V.ref (rs.getD i 0))) nT ⟨?hz, _, c, rv', ?he⟩ n0 nDL ?hc ?hp
    · exact ⟨.ref _, _, I2, rfl, q _ out.toList hp' (ascP_pairwise ha) nT⟩
    case hz =>
      rw [List.length_map, hp'.length_eq, List.length_range]
      exact Nat.le_trans (Nat.le_of_lt h64) (by decide)
    case he => exact eD
    case hc => 
      intro x c e z
      obtain ⟨v, o, ho, _⟩ := I.cell x c e
      rw [z, hge] at ho; cases ho
    case hp =>
      intro p hp z
      have e := (I.pin p hp).1
      rw [z, hge] at e; cases e
end
section
variable {prog : Program} {w : World} {A : Around} {E : Value → Shared → Prop} {s : Shared}
theorem sorted_few {l : Addr} {vs : List Value} {Q : Value → Shared → Prop} (hl : s.heap.IsList l vs.toArray) (h2 : vs.length < 2) (h : Q (.ref (s.heap.objs.size + 1)) { s with heap := sortedAll s.heap vs vs.toArray }) :
    wpAny (model prog w) A (call (.builtin "sorted") [.ref l]) Q E s := by
  refine Calls.call_function_entry kind_sorted plain_sorted entry_sorted (args_sorted1 _) ?_
  unfold Builtin.«sorted»
  refine wpAny_bind (m := checkCount "sorted" 1 1 _) (wpAny_pure ?_)
  refine wpAny_bind (collect_list hl ?_)
  refine wpAny_bind (wpAny_newList ?_)
  have hsz : ((s.heap.push (seqObj "list" #[] 0)).update s.heap.objs.size (Obj.mapSeq (· ++ vs.toArray))).objs.size = s.heap.objs.size + 1 := by
    rw [Heap.size_update, size_push']
  have hoL : (((s.heap.push (seqObj "list" #[] 0)).update s.heap.objs.size (Obj.mapSeq (· ++ vs.toArray))).push (seqObj "list" vs.toArray 0)).get? (s.heap.objs.size + 1) = some (seqObj "list" vs.toArray 0) := by
    rw [← hsz]; exact Heap.get?_push_size _ rfl
  show wpAny _ _ _ _ _ { s with heap := ((s.heap.push (seqObj "list" #[] 0)).update s.heap.objs.size (Obj.mapSeq (· ++ vs.toArray))).push (seqObj "list" vs.toArray 0) }
  rw [hsz]
  have s2 : vs.toArray.size < 2 := by simpa using h2
  refine wpAny_bind (wpAny_holding (wpAny_call_entry slot_list_sort ⟨_, hoL, rfl⟩ entry_list_sort ?body (args_list_sort _)))
  case body =>
    rw [list_sort_plain]
    refine wpAny_bind (listItems_at hoL rfl ?_)
    refine wpAny_bind (listUpdate_at hoL rfl ?_)
    obtain ⟨e1, ho1⟩ : ∃ e1, (Heap.update (((s.heap.push (seqObj "list" #[] 0)).update s.heap.objs.size (Obj.mapSeq (· ++ vs.toArray))).push (seqObj "list" vs.toArray 0)) (s.heap.objs.size + 1) (Obj.mapSeq fun _ => (#[] : Array Value))).get? (s.heap.objs.size + 1) = some (seqObj "list" #[] e1) := ⟨_, get?_update_seq hoL fun _ => #[]⟩
    refine wpAny_bind (seqEpoch_at ho1 rfl ?_)
    refine wpAny_bind (wpAny_newTuple ?_)
    refine wpAny_bind (wpAny_newList ?_)
    refine wpAny_holding ?_
    dsimp only
    rw [if_pos s2, if_pos s2]
    refine wpAny_bind (wpAny_pure ?_)
    rw [StateT.run_pure]
    refine wpAny_bind (wpAny_pure ?_)
    dsimp only
    refine wpAny_bind (seqEpoch_at (Heap.get?_push_of_some _ (Heap.get?_push_of_some _ ho1)) rfl ?_)
    refine wpAny_bind (listUpdate_at (Heap.get?_push_of_some _ (Heap.get?_push_of_some _ ho1)) rfl ?_ (hsz2 := by rw [Array.size_map]; show (pairsOf vs).size ≤ _; rw [pairsOf_size, sizeLine_eq]; omega))
    simp only [bne_self_eq_false, Bool.false_eq_true, if_false]
    refine wpAny_pure ⟨_, rfl, wpAny_pure ⟨_, rfl, ?_⟩⟩
    have e : ((vs.toArray.zip vs.toArray).map (·.2)) = vs.toArray := by
      apply Array.ext'
      simp [List.map_snd_zip]
    have h' : Q (.ref (s.heap.objs.size + 1)) { s with heap := sortedAll s.heap vs ((vs.toArray.zip vs.toArray).map (·.2)) } := by rw [e]; exact h
    exact h'
end
def rSortU (K : PySem.W.Frag) : List V → Hp → VK → Prop := fun xs H Q => ∃ (p : Addr) (rs : List Addr) (f g : Nat → Int) (B : Int), xs = [.ref p] ∧ SqL K H p (rs.map V.ref) ∧ rs.length < 64 ∧ (∀ i (h : i < rs.length), SqT K H rs[i] [.int (f i), .int (g i)]) ∧ (∀ i, i < rs.length → 0 ≤ g i ∧ g i < B) ∧
  (∀ i j, i < j → j < rs.length → f i ≠ f j ∨ g i ≠ g j) ∧ ∀ (l : Addr) (ps : List Nat), ps.Perm (List.range rs.length) → ps.Pairwise (fun i j => codeT f g B i ≤ codeT f g B j) → H l = none → Q (.ref l) (upd H l (.lst (ps.map fun i => V.ref (rs.getD i 0))))
theorem map_getD_range {α : Type} {d : α} : ∀ (l : List α), (List.range l.length).map (fun i => l.getD i d) = l := fun l => by
  apply List.ext_getElem
  · simp
  · intro i h1 h2
    simp [List.getD_eq_getElem?_getD, List.getElem?_eq_getElem h2]
theorem sortUq {X : Cx} {K : PySem.W.Frag} (hK : X.K = K) : CallR X (.builtin "sorted") (rSortU K) := by
  intro pins s σ H xs us Q I r h
  obtain ⟨p, rs, f, g, B, rfl, hq, h64, ht, hb, hd, q⟩ := h
  by_cases h2 : 2 ≤ rs.length
  · exact sortTq hK pins s σ H _ us Q I r ⟨p, rs, f, g, B, rfl, hq, h2, h64, ht, hb, hd, q⟩
  subst hK
  obtain ⟨u, rfl, rx⟩ := vals1 r
  cases rx
  obtain ⟨its, rv, pl, hz⟩ := I.list hq
  have hlen := rv.length
  rw [List.length_map] at hlen
  refine sorted_few pl.isList (by omega) ?_
  obtain ⟨e, he⟩ := sortedAll_at s.heap its its.toArray
  have I1 : Inv X pins σ H { s with heap := sortedAll s.heap its its.toArray } := I.kept (t' := s.toks) fun b o z => sortedAll_old z
  have nT : H (s.heap.objs.size + 1) = none := I.hok.fresh (Nat.le_succ _)
  have fT := I.fpOk (H' := H) (b := s.heap.objs.size + 1) (Nat.le_succ _) nT
  have I2 := I1.adopt (a := s.heap.objs.size + 1) (o := .lst (rs.map V.ref)) nT ⟨hz, its, e, rv, by rw [he]⟩ (Nat.le_trans I.sz (Nat.le_succ _)) fT.2.1 fT.2.2.2.2.1 fT.2.2.2.2.2
  refine ⟨.ref _, _, I2, rfl, ?_⟩
  have := q _ (List.range rs.length) (List.Perm.refl _) ?_ nT
  · rw [show ((List.range rs.length).map fun i => V.ref (rs.getD i 0)) = rs.map V.ref by
      have z := congrArg (List.map V.ref) (map_getD_range (d := 0) rs)
      rw [List.map_map] at z
      exact z] at this
    exact this
  · rw [List.pairwise_iff_getElem]
    intro i j hi hj hij
    rw [List.length_range] at hj
    omega
def rMinT (K : PySem.W.Frag) : List V → Hp → VK → Prop := fun xs H Q => ∃ (p : Addr) (ns : List Int), xs = [.ref p] ∧ SqT K H p (ns.map V.int) ∧ ns ≠ [] ∧ ∀ M, M ∈ ns → (∀ a, a ∈ ns → M ≤ a) → Q (.int M) H
theorem mintq {X : Cx} {K : PySem.W.Frag} (hK : X.K = K) (hc : X.calm = true := by rfl) : CallR X (.builtin "min") (rMinT K) := by
  subst hK
  intro pins s σ H xs us Q I r h
  obtain ⟨p, ns, rfl, hq, hne, q⟩ := h
  obtain ⟨u, rfl, rx⟩ := vals1 r
  cases rx
  obtain ⟨its, rv, pl, hz⟩ := I.tuple hq
  have hi := intsAre_of rv
  have hall := hi.allInts
  have hnum := hi.numsOf
  have ht : s.heap.IsTuple p its.toArray := pl
  obtain ⟨ys, ey⟩ := hall.items
  rw [ey] at ht
  have e2 : PySem.numsOf (intItems ys).toList = ns := by rw [← ey]; exact hnum
  rw [nums_intItems] at e2
  have hpos : 0 < ns.length := List.length_pos_iff.mpr hne
  have hys : ys.size = ns.length := by rw [← e2, List.length_map, Array.length_toList]
  have e1 : (intItems ys).size = ys.size := by simp [intItems]
  obtain ⟨o, ho, _⟩ := id ht
  have hnp : p ≠ s.heap.objs.size := Nat.ne_of_lt (Heap.lt_size ho)
  have W := Walks.tuple (prog := X.prog) (w := X.w) (A := X.A.in1) (show X.A.in1.handled = none from I.ok.hd hc) s.heap.objs.size p hnp (intItems ys)
  refine call_min_walk (wpAny_pyIter_tuple ht ⟨s.heap.objs.size, _, _, _, _, _, _, rfl, W, ⟨⟨_, Heap.get?_push_size _ rfl, rfl, rfl⟩, ht.at fun o e => Heap.get?_push_of_some _ e⟩, fun b hb => ?_, by omega, CmpOf.ints_lt (numAt ys) (fun _ _ => intItems_at), fun v h' tk hv hk => ?_⟩)
  · rcases List.mem_cons.mp hb with rfl | hb
    · exact Heap.lt_size (Heap.get?_push_size _ rfl)
    · obtain rfl := List.mem_singleton.mp hb
      exact Heap.lt_size (Heap.get?_push_of_some _ ho)
  · rw [e1] at hv
    obtain ⟨t, rfl⟩ := intItems_at hv
    obtain ⟨h1, h2⟩ := argBest_lt (numAt ys) (ys.size - 1)
    refine ⟨.int _, H, I.kept (t' := tk) (fun b o e => hk b o (fun hb => absurd (Heap.lt_size e) ((List.mem_singleton.mp hb) ▸ Nat.lt_irrefl _)) (Heap.get?_push_of_some _ e)), ⟨t, rfl⟩, q _ ?_ fun a ha => ?_⟩
    · rw [numAt_eq, ← e2]; exact PySem.getD_mem (by rw [List.length_map, Array.length_toList]; omega)
    · rw [← e2] at ha
      obtain ⟨j, hj, rfl⟩ := PySem.mem_getD ha
      rw [List.length_map, Array.length_toList] at hj
      rw [← numAt_eq]
      exact h2 j (by omega)
open PySem PyProof.Rows
theorem below_go (xs : Array Nat) (j : Nat) (hr : xs.toList.Pairwise (· < ·)) : ∀ (fuel lo hi : Nat), lo ≤ hi → hi ≤ xs.size → hi - lo ≤ fuel →
    (∀ i x, i < lo → xs[i]? = some x → x < j) → (∀ i x, hi ≤ i → xs[i]? = some x → j ≤ x) →
    SetTable.below.go xs j fuel lo hi ≤ xs.size ∧ (∀ i x, i < SetTable.below.go xs j fuel lo hi → xs[i]? = some x → x < j) ∧ (∀ i x, SetTable.below.go xs j fuel lo hi ≤ i → xs[i]? = some x → j ≤ x) := by
  intro fuel
  induction fuel with
  | zero =>
    intro lo hi h1 h2 h3 a b
    have : lo = hi := by omega
    subst this
    exact ⟨h2, a, b⟩
  | succ fuel ih =>
    intro lo hi h1 h2 h3 a b
    unfold SetTable.below.go
    by_cases hl : lo < hi
    · rw [if_pos hl]
      dsimp only
      have hm : (lo + hi) / 2 < xs.size := by omega
      have hg : xs[(lo + hi) / 2]? = some (xs.getD ((lo + hi) / 2) j) := by
        rw [Array.getElem?_eq_getElem hm]; simp [Array.getD, hm]
      have pw := List.pairwise_iff_getElem.mp hr
      by_cases hc : xs.getD ((lo + hi) / 2) j < j
      · rw [if_pos hc]
        refine ih _ _ (by omega) h2 (by omega) (fun i x hi' hx => ?_) b
        by_cases e : i = (lo + hi) / 2
        · subst e; rw [hg] at hx; cases hx; exact hc
        · have hi2 : i < (lo + hi) / 2 := by omega
          have hix : i < xs.size := by omega
          have := pw i ((lo + hi) / 2) (by simpa using hix) (by simpa using hm) hi2
          rw [Array.getElem?_eq_getElem hix] at hx
          rw [Array.getElem?_eq_getElem hm] at hg
          have e1 := Option.some.inj hx
          have e2 := Option.some.inj hg
          simp only [Array.getElem_toList] at this
          omega
      · rw [if_neg hc]
        refine ih _ _ (by omega) (by omega) (by omega) a (fun i x hi' hx => ?_)
        by_cases e : i = (lo + hi) / 2
        · subst e; rw [hg] at hx; cases hx; omega
        · have hi2 : (lo + hi) / 2 < i := by omega
          have hix : i < xs.size := by
            rcases Nat.lt_or_ge i xs.size with h | h
            · exact h
            · rw [Array.getElem?_eq_none h] at hx; cases hx
          have := pw ((lo + hi) / 2) i (by simpa using hm) (by simpa using hix) hi2
          rw [Array.getElem?_eq_getElem hix] at hx
          rw [Array.getElem?_eq_getElem hm] at hg
          have e1 := Option.some.inj hx
          have e2 := Option.some.inj hg
          simp only [Array.getElem_toList] at this
          omega
    · rw [if_neg hl]
      have : lo = hi := by omega
      subst this
      exact ⟨h2, a, b⟩
theorem below_is {xs : Array Nat} (hr : xs.toList.Pairwise (· < ·)) (j : Nat) :
    SetTable.below xs j ≤ xs.size ∧ (∀ i x, i < SetTable.below xs j → xs[i]? = some x → x < j) ∧ (∀ i x, SetTable.below xs j ≤ i → xs[i]? = some x → j ≤ x) :=
  below_go xs j hr _ _ _ (Nat.zero_le _) (Nat.le_refl _) (by omega) (fun _ _ h => absurd h (Nat.not_lt_zero _)) (fun i x h hx => by rw [Array.getElem?_eq_none h] at hx; cases hx)
theorem below_eq {xs : Array Nat} (hr : xs.toList.Pairwise (· < ·)) {j k : Nat} (hk : k ≤ xs.size) (a : ∀ i x, i < k → xs[i]? = some x → x < j) (b : ∀ i x, k ≤ i → xs[i]? = some x → j ≤ x) : SetTable.below xs j = k := by
  obtain ⟨h1, h2, h3⟩ := below_is hr j
  rcases Nat.lt_trichotomy (SetTable.below xs j) k with h | h | h
  · have hx := Array.getElem?_eq_getElem (xs := xs) (i := SetTable.below xs j) (by omega)
    have := h3 _ _ (Nat.le_refl _) hx
    have := a _ _ h hx
    omega
  · exact h
  · have hx := Array.getElem?_eq_getElem (xs := xs) (i := k) (by omega)
    have := h2 _ _ h hx
    have := b _ _ (Nat.le_refl _) hx
    omega
theorem put_rises {xs : Array Nat} (hr : xs.toList.Pairwise (· < ·)) {j : Nat} (hj : xs[SetTable.below xs j]? ≠ some j) : (SetTable.insertAt xs (SetTable.below xs j) j).toList.Pairwise (· < ·) := by
  rw [SetTable.toList_insertAt]
  obtain ⟨h1, h2, h3⟩ := below_is hr j
  have split : xs.toList = xs.toList.take (SetTable.below xs j) ++ xs.toList.drop (SetTable.below xs j) := (List.take_append_drop _ _).symm
  have ht : ∀ x ∈ xs.toList.take (SetTable.below xs j), x < j := by
    intro x hx
    obtain ⟨i, hi, e⟩ := List.mem_take_iff_getElem.mp hx
    refine h2 i x (by omega) ?_
    have hi' : i < xs.size := by have := hi; simp at this; omega
    rw [Array.getElem?_eq_getElem hi', ← e]; simp
  have hd : ∀ x ∈ xs.toList.drop (SetTable.below xs j), j < x := by
    intro x hx
    obtain ⟨i, hi, e⟩ := List.mem_drop_iff_getElem.mp hx
    have hi' : SetTable.below xs j + i < xs.size := by have := hi; simp at this; omega
    have hg : xs[SetTable.below xs j + i]? = some x := by
      rw [Array.getElem?_eq_getElem hi', ← e]; simp
    have hle := h3 _ x (by omega) hg
    rcases Nat.lt_or_eq_of_le hle with h | h
    · exact h
    · subst h
      exfalso
      by_cases h0 : i = 0
      · subst h0; exact hj (by simpa using hg)
      · have hb : SetTable.below xs j < xs.size := by omega
        have hx0 := Array.getElem?_eq_getElem (xs := xs) hb
        have p := List.pairwise_iff_getElem.mp hr (SetTable.below xs j) (SetTable.below xs j + i) (by simpa using hb) (by simpa using hi') (by omega)
        have q := h3 _ _ (Nat.le_refl _) hx0
        rw [Array.getElem?_eq_getElem hi'] at hg
        have := Option.some.inj hg
        simp only [Array.getElem_toList] at p
        omega
  rw [split] at hr
  rw [List.pairwise_append] at hr ⊢
  refine ⟨hr.1, List.pairwise_cons.mpr ⟨hd, hr.2.1⟩, fun a ha b hb => ?_⟩
  rcases List.mem_cons.mp hb with rfl | hb
  · exact ht a ha
  · exact hr.2.2 a ha b hb
def GoodT (ld : Bool) (t : SetTable) : Prop := t.led = ld ∧ t.place.toList.Pairwise (· < ·)
def valI : Value → Int
  | .int n _ => n
  | _ => 0
def setNs (es : Array (Int × Value)) : List Int := es.toList.map fun e => valI e.2
def SetL (P : Program) (w : World) (ms : List Int) (a : Addr) (h : Heap) : Prop :=
  ∃ o es ep t, h.get? a = some o ∧ o.ExactSet ∧ o.data = .set es ep t ∧ ElemsOf (intKind P w) es.toList ∧ es.size < scanBound ∧ t.fits es.size = true ∧
    GoodT (!w.params.followText "set-order") t ∧ (setNs es).Nodup ∧ ∀ k, k ∈ setNs es ↔ k ∈ ms
section
variable {prog : Program} {w : World} {A : Around} {E : Value → Shared → Prop} {s : Shared}
theorem SetL.keep {ms : List Int} {a : Addr} {h h' : Heap} (x : SetL prog w ms a h) (k : ∀ o, h.get? a = some o → h'.get? a = some o) : SetL prog w ms a h' := by
  obtain ⟨o, es, ep, t, ho, r⟩ := x
  exact ⟨o, es, ep, t, k o ho, r⟩
end
section
variable {prog : Program} {w : World} {A : Around} {R : Result → Shared → Prop} {I : Addr} {fp wr : List Addr} {G : Array GenState → Array GenState → Prop} {n : Nat} {P : Nat → Value → Prop} {St : Nat → Shared → Prop}
end
theorem entry_set_iter' : entryFor table "set.__iter__" = some Builtin.«frozenset.__iter__» :=
  entryFor_alias (id' := "frozenset.__iter__") (by kernel_rfl) rfl (by decide +kernel) (by kernel_rfl)
theorem entry_setiter_next' : entryFor table "set_iterator.__next__" = some Builtin.«set_iterator.__next__» := entryFor_of_tree (by kernel_rfl)
theorem slot_setiter_next' : Slot "set_iterator" "__next__" "set_iterator.__next__" :=
  .of (owner := "set_iterator") (n := "__next__") (by rw [typeLookup_type, builtinLookup_eq_fast]; kernel_rfl) (by decide +kernel) (by decide +kernel) (by decide +kernel)
    (by first | exact .inl (by decide +kernel) | exact .inr (by decide +kernel)) (by rw [isSubtype_type]; kernel_rfl)
theorem args_setiter_next' (a : Value) : argsOk "set_iterator.__next__" ⟨[a], []⟩ := by unfold argsOk; kernel_rfl
theorem get_erase_perm {α : Type} : ∀ {l : List α} {i : Nat} (h : i < l.length), (l[i] :: l.eraseIdx i).Perm l
  | x :: l, 0, _ => List.Perm.refl _
  | x :: l, i + 1, h => by
    have := get_erase_perm (l := l) (i := i) (by simpa using h)
    exact (List.Perm.swap _ _ _).trans (this.cons x)
theorem choose_any {M : Model} {A : Around} {E : Value → Shared → Prop} {s : Shared} {src : Source} {n : Nat} {Q : Nat → Shared → Prop} (hn : n ≠ 0) (h : ∀ i d, i < n → Q i { s with drawn := d }) : wpAny M A (choose src n) Q E s :=
  fun _ _ _ => ⟨hn, h _ _ (Nat.mod_lt _ (Nat.pos_of_ne_zero hn))⟩
theorem drawOrder_any {M : Model} {A : Around} {E : Value → Shared → Prop} {α : Type} : ∀ (n : Nat) (xs : List α) (s : Shared) (Q : List α → Shared → Prop), xs.length = n → (∀ ys d, ys.Perm xs → Q ys { s with drawn := d }) → wpAny M A (drawOrder n xs) Q E s
  | 0, xs, s, Q, hl, h => by
    have : xs = [] := List.eq_nil_of_length_eq_zero hl
    subst this
    unfold drawOrder
    exact wpAny_pure (h [] s.drawn (List.Perm.refl _))
  | n + 1, [], s, Q, hl, h => by simp at hl
  | n + 1, x :: xs, s, Q, hl, h => by
    unfold drawOrder
    refine wpAny_bind (choose_any (by simp) fun i d hi => ?_)
    have hg : (x :: xs)[i]? = some (x :: xs)[i] := List.getElem?_eq_getElem hi
    rw [hg]
    dsimp only
    refine wpAny_bind (drawOrder_any n _ _ _ (by rw [List.length_eraseIdx, if_pos hi, hl]; rfl) fun ys d' hp => ?_)
    refine wpAny_pure (h _ _ ?_)
    exact (List.Perm.cons _ hp).trans (get_erase_perm hi)
theorem pick_go {α : Type} (next : Nat → Nat) : ∀ (fuel k : Nat) (left : List α) (out : Array α), left.length = fuel → (pickOrder.go next fuel k left out).toList.Perm (out.toList ++ left)
  | 0, k, left, out, h => by
    have : left = [] := List.eq_nil_of_length_eq_zero h
    subst this
    unfold pickOrder.go
    simp
  | fuel + 1, k, left, out, h => by
    unfold pickOrder.go
    have hlt : next k % left.length < left.length := Nat.mod_lt _ (by omega)
    rw [List.getElem?_eq_getElem hlt]
    dsimp only
    have := pick_go next fuel (k + 1) (left.eraseIdx (next k % left.length)) (out.push left[next k % left.length]) (by rw [List.length_eraseIdx, if_pos hlt]; omega)
    refine this.trans ?_
    rw [Array.toList_push, List.append_assoc]
    exact List.Perm.append_left _ (get_erase_perm hlt)
theorem pick_perm {α : Type} (next : Nat → Nat) (xs : Array α) : (pickOrder next xs).toList.Perm xs.toList := by
  have := pick_go next xs.size 0 xs.toList #[] (by simp)
  simpa [pickOrder] using this
def IsSetIter (h : Heap) (it : Addr) (first : Value) (i : Nat) (a : Addr) (n ep : Nat) : Prop :=
  ∃ o, h.get? it = some o ∧ o.cls = .type "set_iterator" ∧ o.data = .fields #[first, .int i 0, .ref a, .int n 0, .int ep 0]
def SetAt (h : Heap) (a : Addr) (es : Array (Int × Value)) (ep : Nat) (t : SetTable) : Prop := ∃ o, h.get? a = some o ∧ o.cls = .type "set" ∧ o.data = .set es ep t ∧ t.fits es.size = true
section
variable {prog : Program} {w : World} {A : Around} {E : Value → Shared → Prop} {s : Shared}
theorem next_item_int {it a : Addr} {es : Array (Int × Value)} {ep i slot nx : Nat} {t : SetTable} {x : Value} {Q : Option Value → Shared → Prop}
    (hit : IsSetIter s.heap it (.int slot 0) i a es.size ep) (hs : SetAt s.heap a es ep t)
    (hN : ∀ (A' : Around) (E' : Value → Shared → Prop) (Q' : Option (Value × Nat) → Shared → Prop), Q' (some (x, nx)) s → wpAny (model prog w) A' (setNext a slot i ep) Q' E' s)
    (hQ : ∀ h', IsSetIter h' it (.int nx 0) (i + 1) a es.size ep → Heap.SameBut it s.heap h' → Q (some x) { s with heap := h' }) :
    wpAny (model prog w) A (pyNext (.ref it)) Q E s := by
  obtain ⟨o, ho, hc, hd⟩ := id hit
  obtain ⟨oa, hoa, hca, hda, hf⟩ := hs
  have hT : s.TypeIs (.ref it) "set_iterator" := ⟨o, ho, hc⟩
  unfold pyNext
  refine wpAny_bind (wpAny_attempt (wpAny_callSpecial?_slot (name := Str.ofString "__next__") hT slot_setiter_next'
    (wpAny_call_entry slot_setiter_next' hT entry_setiter_next' ?_ (args_setiter_next' _))))
  unfold Builtin.«set_iterator.__next__»
  refine wpAny_bind (m := slotArgs "__next__" 0 _) (wpAny_pure ?_)
  dsimp only
  refine wpAny_bind (wpAny_fieldsOf ho hd ?_)
  dsimp only
  refine wpAny_bind (wpAny_setEntries_of hoa hda hf ?_)
  rw [if_neg (by simp)]
  simp only [Int.toNat_natCast]
  refine wpAny_bind (hN _ _ _ ?_)
  dsimp only
  refine wpAny_bind (wpAny_setField ho hd (by simp) ?_)
  have ho1 := Heap.get?_update_self (Obj.mapFields (·.setIfInBounds 0 (rawInt nx))) ho (Obj.isFreed_of_fields (Obj.data_mapFields hd _))
  have hd1 := Obj.data_mapFields hd (·.setIfInBounds 0 (rawInt nx))
  refine wpAny_bind (wpAny_setField ho1 hd1 (by simp) (wpAny_pure ⟨x, rfl, wpAny_pure (hQ _ ?_ ((Heap.SameBut.update ..).trans (Heap.SameBut.update ..)))⟩))
  refine ⟨_, Heap.get?_update_self _ ho1 (Obj.isFreed_of_fields (Obj.data_mapFields hd1 _)), (Obj.cls_mapFields ..).trans ((Obj.cls_mapFields ..).trans hc), by
    rw [Obj.data_mapFields hd1]; simp [rawInt]⟩
theorem setNext_text {a : Addr} {es : Array (Int × Value)} {ep i slot : Nat} {t : SetTable} {Q : Option (Value × Nat) → Shared → Prop} (hs : SetAt s.heap a es ep t) (hb : w.params.followText "set-order" = true)
    (h : Q (((pickOrder (w.params.setOrder a ep) es)[i]?).map fun e => (e.2, slot)) s) : wpAny (model prog w) A (setNext a slot i ep) Q E s := by
  obtain ⟨oa, hoa, hca, hda, hf⟩ := hs
  have hb' : (model prog w).w.params.followText "set-order" = true := hb
  unfold setNext
  refine wpAny_bind (wpAny_setState_of hoa hda hf ?_)
  dsimp only
  unfold setsByText
  refine wpAny_bind (wpAny_bind (wpAny_askSetting (wpAny_pure ?_)))
  dsimp only
  rw [if_pos hb', if_neg (by simp)]
  unfold setWalk setsByText
  refine wpAny_bind (wpAny_bind (wpAny_setState_of hoa hda hf ?_))
  dsimp only
  refine wpAny_bind (wpAny_bind (wpAny_askSetting (wpAny_pure ?_)))
  dsimp only
  rw [if_pos hb']
  refine wpAny_bind (wpAny_askSetting (wpAny_pure ?_))
  exact wpAny_pure h
theorem setNext_place {a : Addr} {es : Array (Int × Value)} {ep i slot : Nat} {t : SetTable} {Q : Option (Value × Nat) → Shared → Prop} (hs : SetAt s.heap a es ep t) (hb : w.params.followText "set-order" = false)
    (hl : t.led = true) (hd : (!t.plain && decide (es.size > 1)) = false)
    (h : Q (match es[SetTable.below t.place slot]?, t.place[SetTable.below t.place slot]? with | some (_, x), some j => some (x, j + 1) | _, _ => none) s) : wpAny (model prog w) A (setNext a slot i ep) Q E s := by
  obtain ⟨oa, hoa, hca, hda, hf⟩ := hs
  have hb' : (model prog w).w.params.followText "set-order" = false := hb
  unfold setNext
  refine wpAny_bind (wpAny_setState_of hoa hda hf ?_)
  dsimp only
  unfold setsByText
  refine wpAny_bind (wpAny_bind (wpAny_askSetting (wpAny_pure ?_)))
  dsimp only
  rw [if_neg (by rw [hb']; simp)]
  split
  · rename_i hc
    have hc' : (!t.plain && decide (es.size > 1)) = true := hc
    rw [hd] at hc'; cases hc'
  · refine wpAny_bind (show wpAny _ _ (if (!t.led && !es.isEmpty) = true then unsupported _ else pure PUnit.unit) _ _ _ from ?_)
    rw [if_neg (by simp [hl])]
    exact wpAny_pure (wpAny_pure h)
theorem stop_any {it : Addr} {Q : Option Value → Shared → Prop} (hh : A.handled = none) (hQ : ∀ h', (∀ b o, s.heap.get? b = some o → h'.get? b = some o) → Q none { s with heap := h' }) :
    wpAny (model prog w) A.in1 (newExc (.type "StopIteration") [] >>= fun x => (raiseNew x : Sem Fin)) (fun fin s' => ∃ v, fin = Fin.done (Flow.ret v) ∧ wpAny (model prog w) A (pure (some v)) Q E s')
      (fun e s' => wpAny (model prog w) A (do
              let b ← isInstance e (Value.type "StopIteration")
              if b = true then pure none else throw e) Q E s') s := by
  refine wpAny_bind ?_
  simp only [newExc, newTuple]
  refine wpAny_bind (wpAny_newObj_type ?_ (by size_fits))
  refine wpAny_bind (m := firstArgMember _ _) (wpAny_of_eq (a := Value.none) (by first | rfl | (simp only [firstArgMember]; rfl)) ?_)
  refine wpAny_newObj_type ?_ (by size_fits)
  simp only [raiseNew]
  refine wpAny_bind (wpAny_handled ?_)
  rw [show A.in1.handled = none from hh]
  refine wpAny_bind (wpAny_pure (wpAny_throw ?_))
  refine wpAny_bind (wpAny_isInstance (T := "StopIteration") (b := true) ⟨_, Heap.get?_push_size _ rfl, rfl⟩ isSubtype_stop ?_)
  exact wpAny_pure (hQ _ fun b o e => Heap.get?_push_of_some _ (Heap.get?_push_of_some _ e))
theorem next_end_int {it a : Addr} {es : Array (Int × Value)} {ep i slot : Nat} {t : SetTable} {Q : Option Value → Shared → Prop} (hh : A.handled = none)
    (hit : IsSetIter s.heap it (.int slot 0) i a es.size ep) (hs : SetAt s.heap a es ep t)
    (hN : ∀ (A' : Around) (E' : Value → Shared → Prop) (Q' : Option (Value × Nat) → Shared → Prop), Q' none s → wpAny (model prog w) A' (setNext a slot i ep) Q' E' s)
    (hQ : ∀ h', (∀ b o, b ≠ it → s.heap.get? b = some o → h'.get? b = some o) → Q none { s with heap := h' }) :
    wpAny (model prog w) A (pyNext (.ref it)) Q E s := by
  obtain ⟨o, ho, hc, hd⟩ := id hit
  obtain ⟨oa, hoa, hca, hda, hf⟩ := hs
  have hT : s.TypeIs (.ref it) "set_iterator" := ⟨o, ho, hc⟩
  unfold pyNext
  refine wpAny_bind (wpAny_attempt (wpAny_callSpecial?_slot (name := Str.ofString "__next__") hT slot_setiter_next'
    (wpAny_call_entry slot_setiter_next' hT entry_setiter_next' ?_ (args_setiter_next' _))))
  unfold Builtin.«set_iterator.__next__»
  refine wpAny_bind (m := slotArgs "__next__" 0 _) (wpAny_pure ?_)
  dsimp only
  refine wpAny_bind (wpAny_fieldsOf ho hd ?_)
  dsimp only
  refine wpAny_bind (wpAny_setEntries_of hoa hda hf ?_)
  rw [if_neg (by simp)]
  simp only [Int.toNat_natCast]
  refine wpAny_bind (hN _ _ _ ?_)
  dsimp only
  refine wpAny_bind (wpAny_setField ho hd (by simp) ?_)
  refine stop_any (it := it) hh fun h' hk => hQ h' fun b o hb e => hk b o ?_
  exact (Heap.get?_update_other _ _ (Ne.symm hb)).trans e
theorem next_item_drawn {it a tp : Addr} {es : Array (Int × Value)} {ep i p : Nat} {t : SetTable} {x : Value} {hsh : Int} {ps : List Nat} {Q : Option Value → Shared → Prop}
    (hit : IsSetIter s.heap it (.ref tp) i a es.size ep) (hs : SetAt s.heap a es ep t) (htp : s.heap.get? tp = some { cls := .type "tuple", data := .seq (ps.map fun (j : Nat) => rawInt j).toArray })
    (hp : ps[i]? = some p) (hx : es[p]? = some (hsh, x))
    (hQ : ∀ h', IsSetIter h' it (.ref tp) (i + 1) a es.size ep → Heap.SameBut it s.heap h' → Q (some x) { s with heap := h' }) :
    wpAny (model prog w) A (pyNext (.ref it)) Q E s := by
  obtain ⟨o, ho, hc, hd⟩ := id hit
  obtain ⟨oa, hoa, hca, hda, hf⟩ := hs
  have hT : s.TypeIs (.ref it) "set_iterator" := ⟨o, ho, hc⟩
  unfold pyNext
  refine wpAny_bind (wpAny_attempt (wpAny_callSpecial?_slot (name := Str.ofString "__next__") hT slot_setiter_next'
    (wpAny_call_entry slot_setiter_next' hT entry_setiter_next' ?_ (args_setiter_next' _))))
  unfold Builtin.«set_iterator.__next__»
  refine wpAny_bind (m := slotArgs "__next__" 0 _) (wpAny_pure ?_)
  dsimp only
  refine wpAny_bind (wpAny_fieldsOf ho hd ?_)
  dsimp only
  refine wpAny_bind (wpAny_setEntries_of hoa hda hf ?_)
  rw [if_neg (by simp)]
  refine wpAny_bind (wpAny_seqItems htp rfl ?_)
  dsimp only
  have hg : (ps.map fun (j : Nat) => rawInt j).toArray[(i : Int).toNat]? = some (.int p 0) := by
    rw [Int.toNat_natCast, List.getElem?_toArray, List.getElem?_map, hp]; rfl
  rw [hg]
  dsimp only
  refine wpAny_bind ?_
  unfold setNextDrawn
  refine wpAny_bind (wpAny_setState_of hoa hda hf ?_)
  dsimp only
  rw [if_neg (by simp)]
  rw [Int.toNat_natCast, hx]
  dsimp only
  refine wpAny_pure ?_
  refine wpAny_bind (wpAny_setField ho hd (by simp) (wpAny_pure ⟨x, rfl, wpAny_pure (hQ _ ?_ (Heap.SameBut.update ..))⟩))
  refine ⟨_, Heap.get?_update_self _ ho (Obj.isFreed_of_fields (Obj.data_mapFields hd _)), (Obj.cls_mapFields ..).trans hc, by
    rw [Obj.data_mapFields hd]; simp [rawInt]⟩
theorem next_end_drawn {it a tp : Addr} {es : Array (Int × Value)} {ep i : Nat} {t : SetTable} {ps : List Nat} {Q : Option Value → Shared → Prop} (hh : A.handled = none)
    (hit : IsSetIter s.heap it (.ref tp) i a es.size ep) (hs : SetAt s.heap a es ep t) (htp : s.heap.get? tp = some { cls := .type "tuple", data := .seq (ps.map fun (j : Nat) => rawInt j).toArray })
    (hp : ps[i]? = none)
    (hQ : ∀ h', (∀ b o, b ≠ it → s.heap.get? b = some o → h'.get? b = some o) → Q none { s with heap := h' }) :
    wpAny (model prog w) A (pyNext (.ref it)) Q E s := by
  obtain ⟨o, ho, hc, hd⟩ := id hit
  obtain ⟨oa, hoa, hca, hda, hf⟩ := hs
  have hT : s.TypeIs (.ref it) "set_iterator" := ⟨o, ho, hc⟩
  unfold pyNext
  refine wpAny_bind (wpAny_attempt (wpAny_callSpecial?_slot (name := Str.ofString "__next__") hT slot_setiter_next'
    (wpAny_call_entry slot_setiter_next' hT entry_setiter_next' ?_ (args_setiter_next' _))))
  unfold Builtin.«set_iterator.__next__»
  refine wpAny_bind (m := slotArgs "__next__" 0 _) (wpAny_pure ?_)
  dsimp only
  refine wpAny_bind (wpAny_fieldsOf ho hd ?_)
  dsimp only
  refine wpAny_bind (wpAny_setEntries_of hoa hda hf ?_)
  rw [if_neg (by simp)]
  refine wpAny_bind (wpAny_seqItems htp rfl ?_)
  dsimp only
  have hg : (ps.map fun (j : Nat) => rawInt j).toArray[(i : Int).toNat]? = none := by
    rw [Int.toNat_natCast, List.getElem?_toArray, List.getElem?_map, hp]; rfl
  rw [hg]
  dsimp only
  refine wpAny_bind (wpAny_setField ho hd (by simp) ?_)
  have ho1 := Heap.get?_update_self (Obj.mapFields (·.setIfInBounds 0 (rawInt 0))) ho (Obj.isFreed_of_fields (Obj.data_mapFields hd _))
  have hd1 := Obj.data_mapFields hd (·.setIfInBounds 0 (rawInt 0))
  refine wpAny_bind (wpAny_setField ho1 hd1 (by simp) ?_)
  refine stop_any (it := it) hh fun h' hk => hQ h' fun b o hb e => hk b o ?_
  exact (Heap.get?_update_other _ _ (Ne.symm hb)).trans ((Heap.get?_update_other _ _ (Ne.symm hb)).trans e)
end
theorem IsSetIter.at {h h' : Heap} {it : Addr} {f : Value} {i : Nat} {a : Addr} {n ep : Nat} (x : IsSetIter h it f i a n ep) (e : ∀ o, h.get? it = some o → h'.get? it = some o) : IsSetIter h' it f i a n ep := let ⟨o, ho, r⟩ := x; ⟨o, e _ ho, r⟩
theorem SetAt.at {h h' : Heap} {a : Addr} {es : Array (Int × Value)} {ep : Nat} {t : SetTable} (x : SetAt h a es ep t) (e : ∀ o, h.get? a = some o → h'.get? a = some o) : SetAt h' a es ep t := let ⟨o, ho, r⟩ := x; ⟨o, e _ ho, r⟩
theorem slot_setiter_iter' : Slot "set_iterator" "__iter__" "set_iterator.__iter__" :=
  .of (owner := "set_iterator") (n := "__iter__") (by rw [typeLookup_type, builtinLookup_eq_fast]; kernel_rfl) (by decide +kernel) (by decide +kernel) (by decide +kernel)
    (by first | exact .inl (by decide +kernel) | exact .inr (by decide +kernel)) (by rw [isSubtype_type]; kernel_rfl)
theorem entry_setiter_iter' : entryFor table "set_iterator.__iter__" = some Builtin.«dict_keyiterator.__iter__» :=
  entryFor_alias (id' := "dict_keyiterator.__iter__") (by kernel_rfl) (by first | rfl | decide +kernel) (by decide +kernel) (by kernel_rfl)
theorem args_setiter_iter' (a : Value) : argsOk "set_iterator.__iter__" ⟨[a], []⟩ := by unfold argsOk; kernel_rfl
section
variable {prog : Program} {w : World} {A : Around} {E : Value → Shared → Prop} {s : Shared}
theorem iter_setiter {it a : Addr} {f : Value} {i n ep : Nat} {Q : Value → Shared → Prop} (hit : IsSetIter s.heap it f i a n ep) (h : Q (.ref it) s) : wpAny (model prog w) A (pyIter (.ref it)) Q E s := by
  obtain ⟨o, ho, hc, hd⟩ := id hit
  have hT : s.TypeIs (.ref it) "set_iterator" := ⟨o, ho, hc⟩
  refine wpAny_pyIter_slot hT slot_setiter_iter' (wpAny_call_entry slot_setiter_iter' hT entry_setiter_iter' ?_ (args_setiter_iter' _))
  show wpAny _ _ (ret (.ref it)) _ _ s
  exact wpAny_pure ⟨_, rfl, "set_iterator", _, hT, slot_setiter_next'.lookup, h⟩
theorem walks_text (hh : A.handled = none) (I a : Addr) (hne : a ≠ I) (es : Array (Int × Value)) (ep : Nat) (t : SetTable) (hb : w.params.followText "set-order" = true) :
    Walks prog w A I [I, a] [I] es.size (fun i v => ((pickOrder (w.params.setOrder a ep) es).toList.map (·.2))[i]? = some v) (fun i h => IsSetIter h I (.int (0 : Nat) 0) i a es.size ep ∧ SetAt h a es ep t) where
  sub := fun b hb => by simp at hb; simp [hb]
  frame := fun _ _ _ st hk => ⟨st.1.at fun o e => hk I (by simp) o e, st.2.at fun o e => hk a (by simp) o e⟩
  item := fun i s Q E hi st hQ => by
    have hlen : (pickOrder (w.params.setOrder a ep) es).size = es.size := by
      have := (pick_perm (w.params.setOrder a ep) es).length_eq
      simpa using this
    have hi' : i < (pickOrder (w.params.setOrder a ep) es).size := by omega
    have hx := Array.getElem?_eq_getElem hi'
    refine next_item_int (x := (pickOrder (w.params.setOrder a ep) es)[i].2) (nx := 0) st.1 st.2 (fun A' E' Q' q => setNext_text st.2 hb (by rw [hx]; exact q)) fun h' hit' hs' => ?_
    refine hQ _ h' s.toks ?_ ⟨hit', st.2.at fun o e => (hs'.2 a hne).trans e⟩ fun b o hb e => (hs'.2 b (by simpa using hb)).trans e
    rw [List.getElem?_map, Array.getElem?_toList, hx]; rfl
  done := fun s Q E st hQ => by
    have hlen : (pickOrder (w.params.setOrder a ep) es).size = es.size := by
      have := (pick_perm (w.params.setOrder a ep) es).length_eq
      simpa using this
    refine next_end_int hh st.1 st.2 (fun A' E' Q' q => setNext_text st.2 hb (by rw [Array.getElem?_eq_none (by omega)]; exact q)) fun h' he' => hQ h' s.toks fun b o hb e => he' b o (by simpa using hb) e
  self := fun _ _ _ _ st hQ => iter_setiter st.1 hQ
def slotAt (place : Array Nat) : Nat → Nat
  | 0 => 0
  | k + 1 => place.getD k 0 + 1
theorem below_slot {place : Array Nat} (hr : place.toList.Pairwise (· < ·)) {i : Nat} (hi : i ≤ place.size) : SetTable.below place (slotAt place i) = i := by
  have pw := List.pairwise_iff_getElem.mp hr
  refine below_eq hr hi (fun j x hj hx => ?_) (fun j x hj hx => ?_)
  · cases i with
    | zero => omega
    | succ k =>
      show x < place.getD k 0 + 1
      have hk : k < place.size := by omega
      have hg : place.getD k 0 = place[k] := by simp [Array.getD, hk]
      rw [hg]
      have hjs : j < place.size := by omega
      rw [Array.getElem?_eq_getElem hjs] at hx
      have e := Option.some.inj hx
      by_cases hjk : j = k
      · subst hjk; omega
      · have := pw j k (by simpa using hjs) (by simpa using hk) (by omega)
        simp only [Array.getElem_toList] at this
        omega
  · cases i with
    | zero => exact Nat.zero_le _
    | succ k =>
      show place.getD k 0 + 1 ≤ x
      have hk : k < place.size := by omega
      have hg : place.getD k 0 = place[k] := by simp [Array.getD, hk]
      rw [hg]
      have hjs : j < place.size := by
        rcases Nat.lt_or_ge j place.size with h | h
        · exact h
        · rw [Array.getElem?_eq_none h] at hx; cases hx
      rw [Array.getElem?_eq_getElem hjs] at hx
      have e := Option.some.inj hx
      have := pw k j (by simpa using hk) (by simpa using hjs) (by omega)
      simp only [Array.getElem_toList] at this
      omega
theorem walks_place (hh : A.handled = none) (I a : Addr) (hne : a ≠ I) (es : Array (Int × Value)) (ep : Nat) (t : SetTable) (hb : w.params.followText "set-order" = false)
    (hl : t.led = true) (hd : (!t.plain && decide (es.size > 1)) = false) (hr : t.place.toList.Pairwise (· < ·)) (hf : t.fits es.size = true) :
    Walks prog w A I [I, a] [I] es.size (fun i v => (es.toList.map (·.2))[i]? = some v) (fun i h => IsSetIter h I (.int (slotAt t.place i : Nat) 0) i a es.size ep ∧ SetAt h a es ep t) where
  sub := fun b hb => by simp at hb; simp [hb]
  frame := fun _ _ _ st hk => ⟨st.1.at fun o e => hk I (by simp) o e, st.2.at fun o e => hk a (by simp) o e⟩
  item := fun i s Q E hi st hQ => by
    have hps : t.place.size = es.size := by
      simp only [SetTable.fits, Bool.and_eq_true, beq_iff_eq] at hf; exact hf.1
    have hx := Array.getElem?_eq_getElem hi
    have hi' : i < t.place.size := by omega
    have hp := Array.getElem?_eq_getElem hi'
    refine next_item_int (x := es[i].2) (nx := slotAt t.place (i + 1)) st.1 st.2 (fun A' E' Q' q => setNext_place st.2 hb hl hd (by
      rw [below_slot hr (Nat.le_of_lt hi'), hx, hp]
      have e : slotAt t.place (i + 1) = t.place[i] + 1 := by show t.place.getD i 0 + 1 = _; simp [Array.getD, hi']
      rw [e] at q
      exact q)) fun h' hit' hs' => ?_
    refine hQ _ h' s.toks ?_ ⟨hit', st.2.at fun o e => (hs'.2 a hne).trans e⟩ fun b o hb e => (hs'.2 b (by simpa using hb)).trans e
    rw [List.getElem?_map, Array.getElem?_toList, hx]; rfl
  done := fun s Q E st hQ => by
    have hps : t.place.size = es.size := by
      simp only [SetTable.fits, Bool.and_eq_true, beq_iff_eq] at hf; exact hf.1
    refine next_end_int hh st.1 st.2 (fun A' E' Q' q => setNext_place st.2 hb hl hd (by
      rw [below_slot hr (by omega), Array.getElem?_eq_none (Nat.le_refl _)]; exact q)) fun h' he' => hQ h' s.toks fun b o hb e => he' b o (by simpa using hb) e
  self := fun _ _ _ _ st hQ => iter_setiter st.1 hQ
theorem walks_drawn (hh : A.handled = none) (I a tp : Addr) (hne : a ≠ I) (hnt : tp ≠ I) (es : Array (Int × Value)) (ep : Nat) (t : SetTable) (ps : List Nat) (hps : ps.Perm (List.range es.size)) :
    Walks prog w A I [I, a, tp] [I] es.size (fun i v => (ps.filterMap fun p => (es[p]?).map (·.2))[i]? = some v)
      (fun i h => IsSetIter h I (.ref tp) i a es.size ep ∧ SetAt h a es ep t ∧ h.get? tp = some { cls := .type "tuple", data := .seq (ps.map fun (j : Nat) => rawInt j).toArray }) where
  sub := fun b hb => by simp at hb; simp [hb]
  frame := fun _ _ _ st hk => ⟨st.1.at fun o e => hk I (by simp) o e, st.2.1.at fun o e => hk a (by simp) o e, hk tp (by simp) _ st.2.2⟩
  item := fun i s Q E hi st hQ => by
    have hlen : ps.length = es.size := by simpa using hps.length_eq
    have hi' : i < ps.length := by omega
    have hp := List.getElem?_eq_getElem hi'
    have hlt : ps[i] < es.size := by simpa using hps.mem_iff.mp (List.getElem_mem hi')
    have hx := Array.getElem?_eq_getElem hlt
    refine next_item_drawn (x := es[ps[i]].2) (hsh := es[ps[i]].1) st.1 st.2.1 st.2.2 hp hx fun h' hit' hs' => ?_
    refine hQ _ h' s.toks ?_ ⟨hit', st.2.1.at fun o e => (hs'.2 a hne).trans e, (hs'.2 tp hnt).trans st.2.2⟩ fun b o hb e => (hs'.2 b (by simpa using hb)).trans e
    have hall : ∀ (l : List Nat), (∀ p ∈ l, p < es.size) → (l.filterMap fun p => (es[p]?).map (·.2)) = l.map fun p => (es.getD p (0, .none)).2 := by
      intro l hl
      induction l with
      | nil => rfl
      | cons p l ih =>
        have hpl := hl p (List.mem_cons_self ..)
        rw [List.filterMap_cons, Array.getElem?_eq_getElem hpl]
        simp only [Option.map_some, List.map_cons]
        rw [ih fun q hq => hl q (List.mem_cons_of_mem _ hq)]
        simp [Array.getD, hpl]
    rw [hall ps fun p hp => by simpa using hps.mem_iff.mp hp, List.getElem?_map, hp]
    simp [Array.getD, hlt]
  done := fun s Q E st hQ => by
    have hlen : ps.length = es.size := by simpa using hps.length_eq
    exact next_end_drawn hh st.1 st.2.1 st.2.2 (List.getElem?_eq_none (by omega)) fun h' he' => hQ h' s.toks fun b o hb e => he' b o (by simpa using hb) e
  self := fun _ _ _ _ st hQ => iter_setiter st.1 hQ
end
section
variable {prog : Program} {w : World} {A : Around} {E : Value → Shared → Prop} {s : Shared}
end
section
variable {prog : Program} {w : World} {A : Around} {E : Value → Shared → Prop} {s : Shared}
theorem hint_set {a : Addr} {Q : Bool → Shared → Prop} (hT : s.TypeIs (.ref a) "set") (h : Q false s) : wpAny (model prog w) A (Builtin.List.listLengthHint (.ref a)) Q E s := by
  unfold Builtin.List.listLengthHint
  refine wpAny_bind (wpAny_specialOf hT F.slot_set_len.lookup ?_)
  dsimp only
  have hsp : splitId "set.__len__" = some ("set", "__len__") := by kernel_rfl
  rw [hsp]
  dsimp only
  refine wpAny_bind (wpAny_isInstance hT sub_set_self ?_)
  rw [if_neg (by decide)]
  rw [if_pos]
  · refine wpAny_bind (wpAny_typeOf hT ?_)
    exact wpAny_pure h
  · decide +kernel
theorem items_list {L : List Value} {acc : Array Value} {n : Nat} (hl : L.length = n) (h : ItemsOf (fun i v => L[i]? = some v) acc n) : acc.toList = L := by
  apply List.ext_getElem?
  intro i
  rcases Nat.lt_or_ge i acc.size with hi | hi
  · have := h.2 i acc[i] (Array.getElem?_eq_getElem hi)
    rw [this, Array.getElem?_toList, Array.getElem?_eq_getElem hi]
  · rw [Array.getElem?_toList, Array.getElem?_eq_none hi, List.getElem?_eq_none (by rw [hl, ← h.1]; exact hi)]
end
section
variable {prog : Program} {w : World} {A : Around} {E : Value → Shared → Prop} {s : Shared}
end
abbrev newSet (w : World) : Obj := { cls := .type "set", dict := none, data := .set #[] 0 (.fresh 0 0 (!w.params.followText "set-order")) }
section
variable {prog : Program} {w : World} {A : Around} {E : Value → Shared → Prop} {s : Shared}
theorem code_set_newL (a : Value) {Q₁ : Value → Shared → Prop} (h : Q₁ (.ref s.heap.objs.size) { s with heap := s.heap.push (newSet w) }) :
    codeAny (model prog w) A (.call (.builtin "set.__new__") ⟨[.type "set", a], []⟩) (wants Q₁ E) s := by
  refine codeAny_of_tree ?_
  show wpAny _ A.in1 (do checkBuiltinCall "set.__new__" ⟨[.type "set", a], []⟩; again (.builtin "set.__new__" ⟨[.type "set", a], []⟩)) _ _ s
  refine wpAny_bind (wpAny_of_eq (PySem.F.newCall_set_1 a) (wpAny_pure ⟨plainId_quiet F.plain_set_new _, codeAny_builtin F.entry_set_new ?_⟩))
  rw [Around.under_plainId F.plain_set_new _]
  unfold Builtin.«set.__new__» Builtin.Frozenset.newClass
  have hsub := sub_set_self
  obtain ⟨hp, g, d, tk, os⟩ := s
  dsimp only
  wp_walk
  refine wpAny_askSetting (wpAny_pure ?_)
  dsimp only
  simp only [newObj]
  refine wpAny_bind (wpAny_alloc (wpAny_pure ?_))
  exact wpAny_pure h
end
theorem bt_set : bootBuiltins "set" = some (.type "set") := by decide +kernel
theorem Inv.keptD {X : Cx} {pins : List (Addr × Obj)} {σ : St} {H : Hp} {s s' : Shared} (I : Inv X pins σ H s) (k : ∀ b u, s.heap.get? b = some u → s'.heap.get? b = some u) (hg : s'.gens = s.gens) (ho : s'.os = s.os) : Inv X pins σ H s' := by
  obtain ⟨m, ⟨o, es, ep, hl, r⟩, _⟩ := id I.loc
  have := I.step (g' := s'.gens) (d' := s'.drawn) (t' := s'.toks) (ch := []) (h' := s'.heap) (H' := H) (fun _ z => nomatch z) (fun b o _ _ _ e _ => k b o e) (fun b o _ _ _ e _ => ⟨o.slots, k b o e⟩) (fun b o _ _ n => n) (fun b o _ e => ⟨o, k b o e⟩)
    (fun _ _ e => e) (fun _ _ _ e => e) (fun b ps e => ⟨#[], by rw [e]; simp⟩) (fun m' hm => by
      obtain ⟨o', es', ep', ho', r'⟩ := hm
      exact ⟨o', es', ep', k _ _ ho', r'⟩) (I.hok.kept k) (by rw [hg]; exact I.bare)
  have e : ({ s with heap := s'.heap, gens := s'.gens, drawn := s'.drawn, toks := s'.toks } : Shared) = s' := by rw [← ho]
  rw [e] at this
  exact this
def advP (mask : Nat) (p : SetTable.Probe) : SetTable.Probe :=
  if p.more > 0 then { p with j := p.j + 1, more := p.more - 1 } else
  { p with j := (SetTable.leap mask p.i p.perturb).1, more := SetTable.runEnd mask (SetTable.leap mask p.i p.perturb).1 - (SetTable.leap mask p.i p.perturb).1, i := (SetTable.leap mask p.i p.perturb).1, perturb := (SetTable.leap mask p.i p.perturb).2 }
def startP (mask : Nat) (h : Int) : SetTable.Probe :=
  { j := SetTable.bits h % (mask + 1), more := SetTable.runEnd mask (SetTable.bits h % (mask + 1)) - SetTable.bits h % (mask + 1), i := SetTable.bits h % (mask + 1), perturb := SetTable.bits h, dummy := none }
def pth (mask : Nat) (h : Int) : Nat → SetTable.Probe
  | 0 => startP mask h
  | n + 1 => advP mask (pth mask h n)
def slotP (mask : Nat) (h : Int) (n : Nat) : Nat := (pth mask h n).j
theorem pth_dummy (mask : Nat) (h : Int) : ∀ n, (pth mask h n).dummy = none
  | 0 => rfl
  | n + 1 => by
    show (advP mask (pth mask h n)).dummy = none
    unfold advP
    split <;> exact pth_dummy mask h n
def leapP (mask : Nat) (h : Int) : Nat → Nat × Nat
  | 0 => (SetTable.bits h % (mask + 1), SetTable.bits h)
  | k + 1 => SetTable.leap mask (leapP mask h k).1 (leapP mask h k).2
theorem run_more (mask i : Nat) : SetTable.runEnd mask i - i ≤ 9 := by
  unfold SetTable.runEnd; split <;> omega
theorem pth_run (mask : Nat) (h : Int) {n : Nat} {p : SetTable.Probe} (hp : pth mask h n = p) : ∀ m, m ≤ p.more → pth mask h (n + m) = { p with j := p.j + m, more := p.more - m }
  | 0, _ => by rw [Nat.add_zero, hp]; rfl
  | m + 1, hm => by
    show advP mask (pth mask h (n + m)) = _
    rw [pth_run mask h hp m (by omega)]
    unfold advP
    rw [if_pos (by show p.more - m > 0; omega)]
    show ({ p with j := p.j + m + 1, more := p.more - m - 1 } : SetTable.Probe) = _
    rfl
theorem pth_leap (mask : Nat) (h : Int) : ∀ k, ∃ n, n ≤ 10 * k ∧ (pth mask h n).j = (leapP mask h k).1 ∧ (pth mask h n).i = (leapP mask h k).1 ∧ (pth mask h n).perturb = (leapP mask h k).2 ∧ (pth mask h n).more ≤ 9
  | 0 => ⟨0, Nat.le_refl _, rfl, rfl, rfl, run_more _ _⟩
  | k + 1 => by
    obtain ⟨n, hn, hj, hi, hq, hm⟩ := pth_leap mask h k
    generalize hp : pth mask h n = p at hj hi hq hm
    have e := pth_run mask h hp p.more (Nat.le_refl _)
    refine ⟨n + p.more + 1, by omega, ?_⟩
    have e2 : pth mask h (n + p.more + 1) = advP mask { p with j := p.j + p.more, more := p.more - p.more } := by
      show advP mask (pth mask h (n + p.more)) = _
      rw [e]
    rw [e2]
    unfold advP
    rw [if_neg (by show ¬ (p.more - p.more > 0); omega)]
    refine ⟨?_, ?_, ?_, ?_⟩
    · show (SetTable.leap mask p.i p.perturb).1 = _; rw [hi, hq]; rfl
    · show (SetTable.leap mask p.i p.perturb).1 = _; rw [hi, hq]; rfl
    · show (SetTable.leap mask p.i p.perturb).2 = _; rw [hi, hq]; rfl
    · exact run_more _ _
theorem leap_perturb (mask : Nat) (h : Int) : ∀ k, (leapP mask h k).2 = SetTable.bits h / 32 ^ k
  | 0 => by show SetTable.bits h = _; simp
  | k + 1 => by
    show (leapP mask h k).2 / 32 = _
    rw [leap_perturb mask h k, Nat.div_div_eq_div_mul, Nat.pow_succ]
theorem bits_lt (h : Int) : SetTable.bits h < 2 ^ 64 := by
  unfold SetTable.bits
  have h1 := Int.emod_lt_of_pos h (b := (2 ^ 64 : Int)) (by decide)
  have h2 := Int.emod_nonneg h (b := (2 ^ 64 : Int)) (by decide)
  omega
def lcg (mask i : Nat) : Nat := (i * 5 + 1) % (mask + 1)
def lcgs (mask i : Nat) : Nat → Nat
  | 0 => i
  | r + 1 => lcg mask (lcgs mask i r)
theorem leap_late (mask : Nat) (h : Int) : ∀ r, (leapP mask h (13 + r)).1 = lcgs mask (leapP mask h 13).1 r
  | 0 => rfl
  | r + 1 => by
    show ((leapP mask h (13 + r)).1 * 5 + 1 + (leapP mask h (13 + r)).2 / 32) % (mask + 1) = lcg mask _
    rw [leap_late mask h r, leap_perturb]
    have hz : SetTable.bits h / 32 ^ (13 + r) = 0 := by
      refine Nat.div_eq_of_lt (Nat.lt_of_lt_of_le (bits_lt h) ?_)
      rw [Nat.pow_add]
      have : 1 ≤ 32 ^ r := Nat.one_le_pow _ _ (by decide)
      have : 32 ^ 13 * 1 ≤ 32 ^ 13 * 32 ^ r := Nat.mul_le_mul_left _ this
      exact Nat.le_trans (by decide) this
    rw [hz]
    rfl
theorem leap_lt (mask : Nat) (h : Int) : ∀ k, (leapP mask h k).1 ≤ mask
  | 0 => Nat.le_of_lt_succ (Nat.mod_lt _ (Nat.succ_pos _))
  | k + 1 => Nat.le_of_lt_succ (Nat.mod_lt _ (Nat.succ_pos _))
theorem lcgs_add (mask i : Nat) (a : Nat) : ∀ b, lcgs mask i (a + b) = lcgs mask (lcgs mask i a) b
  | 0 => rfl
  | b + 1 => by show lcg mask (lcgs mask i (a + b)) = lcg mask _; rw [lcgs_add mask i a b]
def orb (mask : Nat) : Nat → Nat → List Nat
  | 0, _ => []
  | n + 1, i => i :: orb mask n (lcg mask i)
theorem mem_orb {mask j : Nat} : ∀ {n i : Nat}, j ∈ orb mask n i → ∃ r, r < n ∧ lcgs mask i r = j
  | n + 1, i, h => by
    rcases List.mem_cons.mp h with e | h
    · exact ⟨0, Nat.succ_pos _, e.symm⟩
    · obtain ⟨r, hr, e⟩ := mem_orb h
      refine ⟨r + 1, by omega, ?_⟩
      rw [Nat.add_comm r 1, lcgs_add]
      exact e
def covers (mask : Nat) : Bool := (List.range (mask + 1)).all (fun j => (orb mask (mask + 1) 0).contains j) && lcgs mask 0 (mask + 1) == 0
theorem cover {mask : Nat} (hc : covers mask = true) {i j : Nat} (hi : i ≤ mask) (hj : j ≤ mask) : ∃ r, r ≤ mask ∧ lcgs mask i r = j := by
  unfold covers at hc
  rw [Bool.and_eq_true, List.all_eq_true, beq_iff_eq] at hc
  obtain ⟨ha, hb⟩ := hc
  have hall : ∀ j, j ≤ mask → ∃ r, r ≤ mask ∧ lcgs mask 0 r = j := fun j hj => by
    obtain ⟨r, hr, e⟩ := mem_orb (List.contains_iff_mem.mp (ha j (List.mem_range.mpr (by omega))))
    exact ⟨r, by omega, e⟩
  obtain ⟨a, ha1, ha2⟩ := hall i hi
  obtain ⟨b, hb1, hb2⟩ := hall j hj
  by_cases hab : a ≤ b
  · refine ⟨b - a, by omega, ?_⟩
    rw [← ha2, ← lcgs_add, ← hb2]
    congr 1; omega
  · refine ⟨mask + 1 - a + b, by omega, ?_⟩
    rw [← ha2, ← lcgs_add]
    have : a + (mask + 1 - a + b) = (mask + 1) + b := by omega
    rw [this, lcgs_add, hb, hb2]
theorem slot_cover {mask : Nat} (hc : covers mask = true) (h : Int) {j : Nat} (hj : j ≤ mask) : ∃ n, n < 10 * (mask + 15) ∧ slotP mask h n = j := by
  obtain ⟨r, hr, e⟩ := cover hc (leap_lt mask h 13) hj
  obtain ⟨n, hn, h1, _⟩ := pth_leap mask h (13 + r)
  refine ⟨n, by omega, ?_⟩
  show (pth mask h n).j = j
  rw [h1, leap_late, e]
theorem slot_le {mask : Nat} (h : Int) : ∀ n, (pth mask h n).j + (pth mask h n).more ≤ mask
  | 0 => by
    show SetTable.bits h % (mask + 1) + (SetTable.runEnd mask (SetTable.bits h % (mask + 1)) - SetTable.bits h % (mask + 1)) ≤ mask
    have : SetTable.bits h % (mask + 1) ≤ mask := Nat.le_of_lt_succ (Nat.mod_lt _ (Nat.succ_pos _))
    unfold SetTable.runEnd; split <;> omega
  | n + 1 => by
    have ih := slot_le (mask := mask) h n
    show (advP mask (pth mask h n)).j + (advP mask (pth mask h n)).more ≤ mask
    unfold advP
    split
    · show (pth mask h n).j + 1 + ((pth mask h n).more - 1) ≤ mask; omega
    · have : (SetTable.leap mask (pth mask h n).i (pth mask h n).perturb).1 ≤ mask := Nat.le_of_lt_succ (Nat.mod_lt _ (Nat.succ_pos _))
      show (SetTable.leap mask (pth mask h n).i (pth mask h n).perturb).1 + (SetTable.runEnd mask (SetTable.leap mask (pth mask h n).i (pth mask h n).perturb).1 - (SetTable.leap mask (pth mask h n).i (pth mask h n).perturb).1) ≤ mask
      unfold SetTable.runEnd; split <;> omega
theorem covers7 : covers 7 = true := by decide +kernel
theorem covers31 : covers 31 = true := by decide +kernel
theorem covers127 : covers 127 = true := by decide +kernel
theorem covers511 : covers 511 = true := by decide +kernel
structure TabOk (t : SetTable) (hs : List Int) : Prop where
  rise : t.place.toList.Pairwise (· < ·)
  nod : t.dummies = #[]
  le : ∀ j ∈ t.place.toList, j ≤ t.mask
  len : t.place.size = hs.length
  room : t.place.size ≤ t.mask
  cov : covers t.mask = true
  odd : t.mask % 2 = 1
  path : ∀ h j, (h, j) ∈ hs.zip t.place.toList → ∃ n, slotP t.mask h n = j ∧ ∀ m, m < n → slotP t.mask h m ∈ t.place.toList
theorem place_below {xs : Array Nat} (hr : xs.toList.Pairwise (· < ·)) {i j : Nat} (h : xs[i]? = some j) : SetTable.below xs j = i := by
  have hi : i < xs.size := by
    rcases Nat.lt_or_ge i xs.size with h' | h'
    · exact h'
    · rw [Array.getElem?_eq_none h'] at h; cases h
  have pw := List.pairwise_iff_getElem.mp hr
  rw [Array.getElem?_eq_getElem hi] at h
  have hj := Option.some.inj h
  refine below_eq hr (Nat.le_of_lt hi) (fun a x ha hx => ?_) (fun a x ha hx => ?_)
  · have hax : a < xs.size := by omega
    rw [Array.getElem?_eq_getElem hax] at hx
    have := pw a i (by simpa using hax) (by simpa using hi) ha
    have := Option.some.inj hx
    simp only [Array.getElem_toList] at *
    omega
  · have hax : a < xs.size := by
      rcases Nat.lt_or_ge a xs.size with h' | h'
      · exact h'
      · rw [Array.getElem?_eq_none h'] at hx; cases hx
    rw [Array.getElem?_eq_getElem hax] at hx
    have hx := Option.some.inj hx
    by_cases e : a = i
    · subst e; omega
    · have := pw i a (by simpa using hi) (by simpa using hax) (by omega)
      simp only [Array.getElem_toList] at *
      omega
theorem place_mem {xs : Array Nat} {j : Nat} (h : j ∈ xs.toList) : ∃ i : Nat, xs[i]? = some j := by
  obtain ⟨i, hi, e⟩ := List.getElem_of_mem h
  exact ⟨i, by rw [← Array.getElem?_toList, List.getElem?_eq_getElem hi, e]⟩
theorem mem_place {xs : Array Nat} {i j : Nat} (h : xs[i]? = some j) : j ∈ xs.toList := by
  rw [← Array.getElem?_toList] at h
  exact List.mem_of_getElem? h
theorem TabOk.live {t : SetTable} {hs : List Int} (T : TabOk t hs) {i j : Nat} (h : t.place[i]? = some j) : t.slot j = .live i := by
  unfold SetTable.slot
  dsimp only
  rw [place_below T.rise h, h]
  simp
theorem TabOk.empty {t : SetTable} {hs : List Int} (T : TabOk t hs) {j : Nat} (h : j ∉ t.place.toList) : t.slot j = .empty := by
  unfold SetTable.slot
  dsimp only
  have hne : (t.place[SetTable.below t.place j]? == some j) = false := by
    rw [beq_eq_false_iff_ne]
    intro e
    exact h (mem_place e)
  rw [hne]
  simp only [Bool.false_eq_true, if_false]
  unfold SetTable.has
  rw [T.nod]
  rfl
theorem sub_len : ∀ {l ms : List Nat}, l.Nodup → (∀ k, k ∈ l → k ∈ ms) → l.length ≤ ms.length
  | [], _, _, _ => Nat.zero_le _
  | a :: l, ms, hn, h => by
    have ha := h a (List.mem_cons_self ..)
    have hn := List.nodup_cons.mp hn
    have := sub_len (ms := ms.erase a) hn.2 fun k hk => by
      have hne : k ≠ a := fun e => hn.1 (e ▸ hk)
      exact (List.mem_erase_of_ne hne).mpr (h k (List.mem_cons_of_mem _ hk))
    rw [List.length_erase_of_mem ha] at this
    have := List.length_pos_of_mem ha
    rw [List.length_cons]
    omega
theorem pigeon : ∀ (n : Nat) (l : List Nat), l.Nodup → l.length ≤ n → (∀ j ∈ l, j ≤ n) → ∃ j, j ≤ n ∧ j ∉ l := by
  intro n l hn hl hle
  refine Classical.byContradiction fun hc => ?_
  have hall : ∀ j, j ≤ n → j ∈ l := fun j hj => Classical.byContradiction fun h => hc ⟨j, hj, h⟩
  have : (List.range (n + 1)).length ≤ l.length := by
    refine sub_len List.nodup_range fun j hj => ?_
    exact hall j (by rw [List.mem_range] at hj; omega)
  rw [List.length_range] at this
  omega
theorem TabOk.free {t : SetTable} {hs : List Int} (T : TabOk t hs) (h : Int) : ∃ N, N < 10 * SetTable.turns t.mask ∧ slotP t.mask h N ∉ t.place.toList ∧ ∀ m, m < N → slotP t.mask h m ∈ t.place.toList := by
  obtain ⟨j, hj, hf⟩ := pigeon t.mask t.place.toList (T.rise.imp fun h => Nat.ne_of_lt h) (by simpa using T.room) T.le
  obtain ⟨n, hn, e⟩ := slot_cover T.cov h hj
  have least : ∀ n, slotP t.mask h n ∉ t.place.toList → ∃ N, N ≤ n ∧ slotP t.mask h N ∉ t.place.toList ∧ ∀ m, m < N → slotP t.mask h m ∈ t.place.toList := by
    intro n
    induction n using Nat.strongRecOn with
    | ind n ih =>
      intro hn
      by_cases hz : ∃ m, m < n ∧ slotP t.mask h m ∉ t.place.toList
      · obtain ⟨m, hm, hm2⟩ := hz
        obtain ⟨N, h1, h2⟩ := ih m hm hm2
        exact ⟨N, by omega, h2⟩
      · exact ⟨n, Nat.le_refl _, hn, fun m hm => Classical.byContradiction fun q => hz ⟨m, hm, q⟩⟩
  obtain ⟨N, h1, h2⟩ := least n (by rw [e]; exact hf)
  exact ⟨N, by show N < 10 * (t.mask + 15); omega, h2⟩
theorem TabOk.probe {t : SetTable} {hs : List Int} (T : TabOk t hs) (f : Nat → Int) (h : Int) {N : Nat} (hN : slotP t.mask h N ∉ t.place.toList) (hb : ∀ m, m < N → slotP t.mask h m ∈ t.place.toList) : ∀ fuel n, n ≤ N → N < n + fuel →
    (SetTable.probe.go t f h fuel (pth t.mask h n) = some (.empty (slotP t.mask h N) none) ∧ ∀ m, n ≤ m → m < N → ∀ i, t.place[i]? = some (slotP t.mask h m) → f i ≠ h) ∨
    ∃ n' i, n ≤ n' ∧ n' < N ∧ t.place[i]? = some (slotP t.mask h n') ∧ f i = h ∧ SetTable.probe.go t f h fuel (pth t.mask h n) = some (.candidate (slotP t.mask h n') i (pth t.mask h (n' + 1))) ∧
      ∀ m, n ≤ m → m < n' → ∀ i, t.place[i]? = some (slotP t.mask h m) → f i ≠ h := by
  intro fuel
  induction fuel with
  | zero => intro n h1 h2; omega
  | succ fuel ih =>
    intro n h1 h2
    unfold SetTable.probe.go
    by_cases e : n = N
    · subst e
      have : t.slot (pth t.mask h n).j = .empty := T.empty hN
      rw [this]
      refine .inl ⟨?_, fun m _ _ => by omega⟩
      dsimp only
      rw [pth_dummy]
      rfl
    · obtain ⟨i, hi⟩ := place_mem (hb n (by omega))
      have : t.slot (pth t.mask h n).j = .live i := T.live hi
      rw [this]
      dsimp only
      by_cases hc : f i = h
      · rw [if_pos (by rw [hc]; exact beq_self_eq_true h)]
        exact .inr ⟨n, i, Nat.le_refl _, by omega, hi, hc, rfl, fun m _ _ => by omega⟩
      · rw [if_neg (by rw [beq_iff_eq]; exact hc)]
        have hstep : ∀ i', t.place[i']? = some (slotP t.mask h n) → f i' ≠ h := fun i' hi' => by
          have := (place_below T.rise hi').symm.trans (place_below T.rise hi)
          rw [this]; exact hc
        rcases ih (n + 1) (by omega) (by omega) with ⟨q1, q2⟩ | ⟨n', i', q1, q2, q3, q4, q5, q6⟩
        · refine .inl ⟨q1, fun m hm1 hm2 => ?_⟩
          by_cases em : m = n
          · subst em; exact hstep
          · exact q2 m (by omega) hm2
        · refine .inr ⟨n', i', by omega, q2, q3, q4, q5, fun m hm1 hm2 => ?_⟩
          by_cases em : m = n
          · subst em; exact hstep
          · exact q6 m (by omega) hm2
theorem insertAt_list {α : Type} (xs : Array α) (p : Nat) (x : α) : (SetTable.insertAt xs p x).toList = xs.toList.take p ++ x :: xs.toList.drop p := by
  unfold SetTable.insertAt
  simp
  exact List.take_of_length_le (by simp)
theorem zip_ins {α β : Type} (p : Nat) (x : α) (y : β) : ∀ (a : List α) (b : List β), a.length = b.length → (a.take p ++ x :: a.drop p).zip (b.take p ++ y :: b.drop p) = (a.zip b).take p ++ (x, y) :: (a.zip b).drop p := by
  intro a b h
  rw [List.zip_append (by simp [h]), List.zip_cons_cons]
  congr 1
  · exact List.take_zipWith.symm
  · congr 1; exact List.drop_zipWith.symm
theorem mem_ins {α : Type} {l : List α} {p : Nat} {x y : α} : y ∈ l.take p ++ x :: l.drop p ↔ y = x ∨ y ∈ l := by
  rw [List.mem_append, List.mem_cons]
  constructor
  · rintro (h | h | h)
    · exact .inr (List.mem_of_mem_take h)
    · exact .inl h
    · exact .inr (List.mem_of_mem_drop h)
  · rintro (h | h)
    · exact .inr (.inl h)
    · rw [← List.take_append_drop p l, List.mem_append] at h
      exact h.elim .inl fun h => .inr (.inr h)
theorem TabOk.put {t : SetTable} {hs : List Int} (T : TabOk t hs) (h : Int) {N : Nat} (hN : slotP t.mask h N ∉ t.place.toList) (hb : ∀ m, m < N → slotP t.mask h m ∈ t.place.toList) (hroom : t.place.size + 1 ≤ t.mask) :
    TabOk (t.put (slotP t.mask h N)).1 (hs.take (SetTable.below t.place (slotP t.mask h N)) ++ h :: hs.drop (SetTable.below t.place (slotP t.mask h N))) := by
  have hj : slotP t.mask h N ≤ t.mask := by have := slot_le (mask := t.mask) h N; unfold slotP; omega
  have hne : t.place[SetTable.below t.place (slotP t.mask h N)]? ≠ some (slotP t.mask h N) := fun e => hN (mem_place e)
  have hl : (SetTable.insertAt t.place (SetTable.below t.place (slotP t.mask h N)) (slotP t.mask h N)).toList = _ := insertAt_list _ _ _
  have hp : (t.put (slotP t.mask h N)).1.place = SetTable.insertAt t.place (SetTable.below t.place (slotP t.mask h N)) (slotP t.mask h N) := rfl
  have hm : (t.put (slotP t.mask h N)).1.mask = t.mask := rfl
  have hd : (t.put (slotP t.mask h N)).1.dummies = #[] := by
    show (if SetTable.has t.dummies (slotP t.mask h N) then _ else t.dummies) = #[]
    rw [T.nod]
    rfl
  have hlen : t.place.toList.length = hs.length := by simpa using T.len
  have hbl := (below_is T.rise (slotP t.mask h N)).1
  refine ⟨?_, hd, ?_, ?_, ?_, ?_, ?_, ?_⟩
  · rw [hp]; exact put_rises T.rise hne
  · rw [hp, hl, hm]
    intro j hjm
    rcases mem_ins.mp hjm with rfl | q
    · exact hj
    · exact T.le j q
  · rw [hp, ← Array.length_toList, hl]
    simp only [List.length_append, List.length_cons, List.length_take, List.length_drop, hlen]
  · rw [hp, hm, ← Array.length_toList, hl]
    simp only [List.length_append, List.length_cons, List.length_take, List.length_drop, Array.length_toList]
    omega
  · rw [hm]; exact T.cov
  · rw [hm]; exact T.odd
  · rw [hp, hl, hm, zip_ins _ _ _ _ _ hlen.symm]
    intro h' j' hmem
    rcases mem_ins.mp hmem with e | q
    · cases e
      exact ⟨N, rfl, fun m hm => mem_ins.mpr (.inr (hb m hm))⟩
    · obtain ⟨n, e, hn⟩ := T.path h' j' q
      exact ⟨n, e, fun m hm => mem_ins.mpr (.inr (hn m hm))⟩
def nK (mask : Nat) (h : Int) : Nat → Nat
  | 0 => 0
  | k + 1 => nK mask h k + (SetTable.runEnd mask (leapP mask h k).1 - (leapP mask h k).1) + 1
theorem pth_nK (mask : Nat) (h : Int) : ∀ k, pth mask h (nK mask h k) = { j := (leapP mask h k).1, more := SetTable.runEnd mask (leapP mask h k).1 - (leapP mask h k).1, i := (leapP mask h k).1, perturb := (leapP mask h k).2, dummy := none }
  | 0 => rfl
  | k + 1 => by
    have e := pth_run mask h (pth_nK mask h k) _ (Nat.le_refl _)
    show advP mask (pth mask h (nK mask h k + (SetTable.runEnd mask (leapP mask h k).1 - (leapP mask h k).1))) = _
    rw [e]
    unfold advP
    rw [if_neg (by dsimp only; omega)]
    rfl
theorem run_slots (mask : Nat) (h : Int) (k m : Nat) (hm : m ≤ SetTable.runEnd mask (leapP mask h k).1 - (leapP mask h k).1) : slotP mask h (nK mask h k + m) = (leapP mask h k).1 + m := by
  have e := pth_run mask h (pth_nK mask h k) m hm
  unfold slotP
  rw [e]
def Own (owner : Array (Option Nat)) (j : Nat) : Prop := (owner.getD j (some 0)).isNone = false
theorem free_ok (mask : Nat) (owner : Array (Option Nat)) (h : Int) {k : Nat} (hk : ¬ Own owner (leapP mask h k).1) : ∀ f q, q ≤ k → k < q + f → (∀ m, m < nK mask h q → Own owner (slotP mask h m)) →
    ∃ n, SetTable.layClean.free mask owner f (leapP mask h q).1 (leapP mask h q).2 = some (slotP mask h n) ∧ ¬ Own owner (slotP mask h n) ∧ ∀ m, m < n → Own owner (slotP mask h m) := by
  intro f
  induction f with
  | zero => intro q h1 h2; omega
  | succ f ih =>
    intro q h1 h2 hb
    unfold SetTable.layClean.free
    have hrun : (leapP mask h q).1 ≤ SetTable.runEnd mask (leapP mask h q).1 := by unfold SetTable.runEnd; split <;> omega
    cases hf : (List.range (SetTable.runEnd mask (leapP mask h q).1 + 1 - (leapP mask h q).1)).find? fun k => (owner.getD ((leapP mask h q).1 + k) (some 0)).isNone with
    | some m =>
      have hm := List.find?_some hf
      have hmr := List.mem_of_find?_eq_some hf
      rw [List.mem_range] at hmr
      dsimp only
      refine ⟨nK mask h q + m, ?_, ?_, fun a ha => ?_⟩
      · rw [run_slots mask h q m (by omega)]
      · rw [run_slots mask h q m (by omega)]
        unfold Own; rw [hm]; simp
      · rcases Nat.lt_or_ge a (nK mask h q) with z | z
        · exact hb a z
        · obtain ⟨b, rfl⟩ : ∃ b, a = nK mask h q + b := ⟨a - nK mask h q, by omega⟩
          rw [run_slots mask h q b (by omega)]
          rw [List.find?_eq_some_iff_getElem] at hf
          obtain ⟨_, i, hi, e1, e2⟩ := hf
          rw [List.getElem_range] at e1
          subst e1
          have := e2 b (by omega)
          rw [List.getElem_range] at this
          unfold Own
          simpa using this
    | none =>
      dsimp only
      rw [List.find?_eq_none] at hf
      have hall : ∀ m, m ≤ SetTable.runEnd mask (leapP mask h q).1 - (leapP mask h q).1 → Own owner ((leapP mask h q).1 + m) := fun m hm => by
        have := hf m (List.mem_range.mpr (by omega))
        exact Bool.eq_false_iff.mpr this
      have hqk : q ≠ k := by
        rintro rfl
        exact hk (by simpa using hall 0 (by omega))
      refine ih (q + 1) (by omega) (by omega) fun m hm => ?_
      rcases Nat.lt_or_ge m (nK mask h q) with z | z
      · exact hb m z
      · obtain ⟨b, rfl⟩ : ∃ b, m = nK mask h q + b := ⟨m - nK mask h q, by omega⟩
        have hm' : nK mask h q + b < nK mask h q + (SetTable.runEnd mask (leapP mask h q).1 - (leapP mask h q).1) + 1 := hm
        rw [run_slots mask h q b (by omega)]
        exact hall b (by omega)
theorem free_found {mask : Nat} (hc : covers mask = true) (owner : Array (Option Nat)) (h : Int) {j : Nat} (hj : j ≤ mask) (hf : ¬ Own owner j) :
    ∃ n, SetTable.layClean.free mask owner (SetTable.turns mask) (SetTable.bits h % (mask + 1)) (SetTable.bits h) = some (slotP mask h n) ∧ ¬ Own owner (slotP mask h n) ∧ ∀ m, m < n → Own owner (slotP mask h m) := by
  obtain ⟨r, hr, e⟩ := cover hc (leap_lt mask h 13) hj
  refine free_ok mask owner h (k := 13 + r) ?_ (SetTable.turns mask) 0 (Nat.zero_le _) (by unfold SetTable.turns; omega) (fun m hm => absurd hm (Nat.not_lt_zero _))
  rw [leap_late, e]; exact hf
structure OwnOk (mask : Nat) (hs : List Int) (k : Nat) (owner : Array (Option Nat)) : Prop where
  size : owner.size = mask + 1
  path : ∀ j i : Nat, owner[j]? = some (some i) → i < k ∧ ∃ h n, hs[i]? = some h ∧ slotP mask h n = j ∧ ∀ m, m < n → Own owner (slotP mask h m)
  all : ∀ i, i < k → ∃ j : Nat, owner[j]? = some (some i)
  inj : ∀ j j' i : Nat, owner[j]? = some (some i) → owner[j']? = some (some i) → j = j'
theorem own_iff {owner : Array (Option Nat)} {j : Nat} (hj : j < owner.size) : Own owner j ↔ ∃ i, owner[j]? = some (some i) := by
  unfold Own
  rw [Array.getD_eq_getD_getElem?, Array.getElem?_eq_getElem hj]
  simp only [Option.getD_some]
  cases owner[j] <;> simp
theorem own_free {mask k : Nat} {hs : List Int} {owner : Array (Option Nat)} (O : OwnOk mask hs k owner) (hk : k ≤ mask) : ∃ j, j ≤ mask ∧ ¬ Own owner j := by
  refine Classical.byContradiction fun hc => ?_
  have hall : ∀ j, j ≤ mask → Own owner j := fun j hj => Classical.byContradiction fun h => hc ⟨j, hj, h⟩
  have hx : ∀ j : Nat, j ≤ mask → ∃ i, owner[j]? = some (some i) := fun j hj => (own_iff (by rw [O.size]; omega)).mp (hall j hj)
  let f : Nat → Nat := fun j => ((owner[j]?).getD none).getD 0
  have hf : ∀ j i : Nat, owner[j]? = some (some i) → f j = i := fun j i e => by show ((owner[j]?).getD none).getD 0 = i; rw [e]; rfl
  have : ((List.range (mask + 1)).map f).length ≤ (List.range k).length := by
    refine sub_len ?_ ?_
    · unfold List.Nodup
      rw [List.pairwise_map]
      refine List.Pairwise.imp_of_mem (fun {a b} ha hb hab e => ?_) (List.pairwise_lt_range (n := mask + 1))
      rw [List.mem_range] at ha hb
      obtain ⟨x, hx1⟩ := hx a (by omega)
      obtain ⟨y, hy1⟩ := hx b (by omega)
      rw [hf a x hx1, hf b y hy1] at e
      subst e
      have := O.inj a b x hx1 hy1
      omega
    · intro i hi
      rw [List.mem_map] at hi
      obtain ⟨j, hj, e⟩ := hi
      rw [List.mem_range] at hj
      obtain ⟨x, hx1⟩ := hx j (by omega)
      rw [hf j x hx1] at e
      subst e
      exact List.mem_range.mpr (O.path j x hx1).1
  simp at this
  omega
theorem own_step {mask k : Nat} {hs : List Int} {owner : Array (Option Nat)} (O : OwnOk mask hs k owner) {h : Int} (hh : hs[k]? = some h) {n : Nat} (h1 : ¬ Own owner (slotP mask h n)) (h2 : ∀ m, m < n → Own owner (slotP mask h m)) : OwnOk mask hs (k + 1) (owner.setIfInBounds (slotP mask h n) (some k)) := by
  have hle : slotP mask h n ≤ mask := by have := slot_le (mask := mask) h n; unfold slotP; omega
  have hlt : slotP mask h n < owner.size := by rw [O.size]; omega
  have hmono : ∀ j, Own owner j → Own (owner.setIfInBounds (slotP mask h n) (some k)) j := fun j hj => by
    have hne : slotP mask h n ≠ j := fun e => h1 (e ▸ hj)
    unfold Own at *
    rw [Array.getD_eq_getD_getElem?] at *
    rw [Array.getElem?_setIfInBounds_ne hne]
    exact hj
  have hget : ∀ j i : Nat, (owner.setIfInBounds (slotP mask h n) (some k))[j]? = some (some i) → (j = slotP mask h n ∧ i = k) ∨ (j ≠ slotP mask h n ∧ owner[j]? = some (some i)) := fun j i e => by
    by_cases hj : slotP mask h n = j
    · rw [← hj, Array.getElem?_setIfInBounds_self_of_lt hlt] at e
      cases e
      exact .inl ⟨hj.symm, rfl⟩
    · rw [Array.getElem?_setIfInBounds_ne hj] at e
      exact .inr ⟨fun z => hj z.symm, e⟩
  refine ⟨by rw [Array.size_setIfInBounds]; exact O.size, fun j i e => ?_, fun i hi => ?_, fun j j' i e e' => ?_⟩
  · rcases hget j i e with ⟨rfl, rfl⟩ | ⟨_, q⟩
    · exact ⟨Nat.lt_succ_self _, h, n, hh, rfl, fun m hm => hmono _ (h2 m hm)⟩
    · obtain ⟨a, h', n', b, c, d⟩ := O.path j i q
      exact ⟨by omega, h', n', b, c, fun m hm => hmono _ (d m hm)⟩
  · by_cases e : i = k
    · subst e
      exact ⟨slotP mask h n, Array.getElem?_setIfInBounds_self_of_lt hlt⟩
    · obtain ⟨j, hj⟩ := O.all i (by omega)
      refine ⟨j, ?_⟩
      rw [Array.getElem?_setIfInBounds_ne]
      · exact hj
      · rintro rfl
        exact h1 ((own_iff hlt).mpr ⟨i, hj⟩)
  · rcases hget j i e with ⟨rfl, rfl⟩ | ⟨_, q⟩ <;> rcases hget j' i e' with ⟨rfl, z⟩ | ⟨_, q'⟩
    · rfl
    · have := (O.path j' i q').1; omega
    · have := (O.path j i q).1; omega
    · exact O.inj j j' i q q'
theorem lay_fold {mask : Nat} (hc : covers mask = true) (hs : List Int) : ∀ (l : List Int) (k : Nat) (owner : Array (Option Nat)), hs.drop k = l → hs.length ≤ mask → k ≤ hs.length → OwnOk mask hs k owner →
    ∃ owner', l.foldl (init := some (owner, k)) (fun acc h => do
      let (owner, k) ← acc
      let j ← SetTable.layClean.free mask owner (SetTable.turns mask) (SetTable.bits h % (mask + 1)) (SetTable.bits h)
      pure (owner.setIfInBounds j (some k), k + 1)) = some (owner', hs.length) ∧ OwnOk mask hs hs.length owner'
  | [], k, owner, e, _, hk, O => by
    have : hs.length ≤ k := List.drop_eq_nil_iff.mp e
    have : k = hs.length := by omega
    subst this
    exact ⟨owner, rfl, O⟩
  | h :: l, k, owner, e, hl, hk, O => by
    have hlt : k < hs.length := by
      rcases Nat.lt_or_ge k hs.length with z | z
      · exact z
      · rw [List.drop_eq_nil_of_le z] at e; cases e
    have hh : hs[k]? = some h := by
      have := congrArg (fun l => l[0]?) e
      simpa using this
    obtain ⟨j, hj, hf⟩ := own_free O (by omega)
    obtain ⟨n, f1, f2, f3⟩ := free_found hc owner h hj hf
    have O' := own_step O hh f2 f3
    obtain ⟨owner', q1, q2⟩ := lay_fold hc hs l (k + 1) _ (by rw [← List.drop_drop, e]; rfl) hl (by omega) O'
    refine ⟨owner', ?_, q2⟩
    rw [List.foldl_cons]
    simp only [bind, Option.bind, pure, f1]
    exact q1
theorem own_start (mask : Nat) (hs : List Int) : OwnOk mask hs 0 (Array.replicate (mask + 1) none) := by
  refine ⟨by simp, fun j i e => ?_, fun i hi => absurd hi (Nat.not_lt_zero _), fun j j' i e => ?_⟩
  · rw [Array.getElem?_replicate] at e
    split at e <;> cases e
  · rw [Array.getElem?_replicate] at e
    split at e <;> cases e
theorem lay_clean {mask : Nat} (hc : covers mask = true) (hs : Array Int) (hl : hs.size ≤ mask) : ∃ owner, SetTable.layClean mask hs = some owner ∧ OwnOk mask hs.toList hs.size owner := by
  obtain ⟨owner, e, O⟩ := lay_fold hc hs.toList hs.toList 0 _ rfl (by simpa using hl) (Nat.zero_le _) (own_start mask hs.toList)
  refine ⟨owner, ?_, by simpa using O⟩
  unfold SetTable.layClean
  rw [← Array.foldl_toList, e]
  rfl
def liveOf (mask : Nat) (owner : Array (Option Nat)) : List (Nat × Nat) := (List.range (mask + 1)).filterMap fun j => (owner.getD j none).map (j, ·)
theorem live_mem {mask : Nat} {owner : Array (Option Nat)} {j i : Nat} : (j, i) ∈ liveOf mask owner ↔ j ≤ mask ∧ owner[j]? = some (some i) := by
  unfold liveOf
  rw [List.mem_filterMap]
  constructor
  · rintro ⟨a, ha, e⟩
    rw [List.mem_range] at ha
    rw [Array.getD_eq_getD_getElem?] at e
    cases q : owner[a]? with
    | none => rw [q] at e; cases e
    | some v =>
      rw [q] at e
      cases v with
      | none => cases e
      | some b => simp at e; obtain ⟨rfl, rfl⟩ := e; exact ⟨by omega, q⟩
  · rintro ⟨h1, h2⟩
    exact ⟨j, List.mem_range.mpr (by omega), by rw [Array.getD_eq_getD_getElem?, h2]; rfl⟩
theorem live_rise (mask : Nat) (owner : Array (Option Nat)) : ((liveOf mask owner).map (·.1)).Pairwise (· < ·) := by
  unfold liveOf
  rw [List.map_filterMap]
  refine List.Pairwise.filterMap _ (fun a a' hlt b hb b' hb' => ?_) List.pairwise_lt_range
  cases h1 : owner.getD a none with
  | none => rw [h1] at hb; simp at hb
  | some x =>
    cases h2 : owner.getD a' none with
    | none => rw [h2] at hb'; simp at hb'
    | some y =>
      rw [h1] at hb; rw [h2] at hb'
      simp at hb hb'
      omega
theorem laid_ok {mask : Nat} (hc : covers mask = true) (ho : mask % 2 = 1) (f m : Nat) (ld pl : Bool) (es : Array (Int × Value)) (hl : es.size ≤ mask) :
    ∃ t order, SetTable.laid mask f m ld pl (es.map (·.1)) = some (t, order) ∧ t.mask = mask ∧ t.led = ld ∧ t.plain = pl ∧ (order.filterMap (es[·]?)).toList.Perm es.toList ∧ TabOk t ((order.filterMap (es[·]?)).toList.map (·.1)) := by
  obtain ⟨owner, e, O⟩ := lay_clean hc (es.map (·.1)) (by simpa using hl)
  simp only [Array.size_map] at O
  have hO : ∀ j i : Nat, owner[j]? = some (some i) → i < es.size := fun j i q => (O.path j i q).1
  have hjs : ∀ j i : Nat, owner[j]? = some (some i) → j ≤ mask := fun j i q => by
    have : j < owner.size := by
      rcases Nat.lt_or_ge j owner.size with z | z
      · exact z
      · rw [Array.getElem?_eq_none z] at q; cases q
    rw [O.size] at this; omega
  let L := liveOf mask owner
  refine ⟨{ mask, place := (L.map (·.1)).toArray, dummies := #[], finger := f, led := ld, moves := m, plain := pl }, (L.map (·.2)).toArray, ?_, rfl, rfl, rfl, ?_⟩
  · unfold SetTable.laid
    rw [e]
    rfl
  have hsnd : (L.map (·.2)).Perm (List.range es.size) := by
    refine (List.perm_ext_iff_of_nodup ?_ List.nodup_range).mpr fun i => ?_
    · unfold List.Nodup
      rw [List.pairwise_map]
      have hr := live_rise mask owner
      rw [List.pairwise_map] at hr
      refine List.Pairwise.imp_of_mem (fun {a b} ha hb hab q => ?_) hr
      obtain ⟨aj, ai⟩ := a
      obtain ⟨bj, bi⟩ := b
      have h1 := (live_mem.mp ha).2
      have h2 := (live_mem.mp hb).2
      dsimp only at q hab
      subst q
      have := O.inj _ _ _ h1 h2
      omega
    · rw [List.mem_map, List.mem_range]
      constructor
      · rintro ⟨⟨j, i'⟩, hm, rfl⟩
        exact hO j i' (live_mem.mp hm).2
      · intro hi
        obtain ⟨j, hj⟩ := O.all i hi
        exact ⟨(j, i), live_mem.mpr ⟨hjs j i hj, hj⟩, rfl⟩
  have hes : ((L.map (·.2)).toArray.filterMap (es[·]?)).toList = (L.map (·.2)).filterMap (es[·]?) := by simp
  have hmap : (L.map (·.2)).filterMap (es[·]?) = L.map fun p => es.getD p.2 (0, .none) := by
    rw [List.filterMap_map]
    have : ∀ l : List (Nat × Nat), (∀ p ∈ l, p.2 < es.size) → l.filterMap ((es[·]?) ∘ fun p => p.2) = l.map fun p => es.getD p.2 (0, .none) := by
      intro l
      induction l with
      | nil => intro _; rfl
      | cons p l ih =>
        intro h
        have hp := h p (List.mem_cons_self ..)
        have e1 : ((es[·]?) ∘ fun p : Nat × Nat => p.2) p = some (es.getD p.2 (0, .none)) := by
          show es[p.2]? = _
          rw [Array.getD_eq_getD_getElem?, Array.getElem?_eq_getElem hp]; rfl
        rw [List.filterMap_cons_some e1, List.map_cons, ih fun q hq => h q (List.mem_cons_of_mem _ hq)]
    exact this L fun p hp => hO p.1 p.2 (live_mem.mp (show (p.1, p.2) ∈ L from hp)).2
  have hrange : (List.range es.size).filterMap (es[·]?) = es.toList := by
    refine List.ext_getElem? fun i => ?_
    have : (List.range es.size).filterMap (es[·]?) = (List.range es.size).map fun i => es.getD i (0, .none) := by
      have : ∀ l : List Nat, (∀ p ∈ l, p < es.size) → l.filterMap (es[·]?) = l.map fun p => es.getD p (0, .none) := by
        intro l
        induction l with
        | nil => intro _; rfl
        | cons p l ih =>
          intro h
          have hp := h p (List.mem_cons_self ..)
          have e1 : es[p]? = some (es.getD p (0, .none)) := by rw [Array.getD_eq_getD_getElem?, Array.getElem?_eq_getElem hp]; rfl
          rw [List.filterMap_cons_some e1, List.map_cons, ih fun q hq => h q (List.mem_cons_of_mem _ hq)]
      exact this _ fun p hp => List.mem_range.mp hp
    rw [this, List.getElem?_map]
    rcases Nat.lt_or_ge i es.size with z | z
    · rw [List.getElem?_range z, Array.getElem?_toList, Array.getElem?_eq_getElem z]
      simp [Array.getD_eq_getD_getElem?, Array.getElem?_eq_getElem z]
    · rw [List.getElem?_eq_none (by simpa using z), List.getElem?_eq_none (by simpa using z)]; rfl
  have hperm : ((L.map (·.2)).filterMap (es[·]?)).Perm es.toList := by
    have := hsnd.filterMap (es[·]?)
    rw [hrange] at this
    exact this
  refine ⟨by rw [hes]; exact hperm, ?_⟩
  have hlen : L.length = es.size := by
    have := hsnd.length_eq
    simpa using this
  have hown : ∀ x, x ≤ mask → (Own owner x ↔ x ∈ L.map (·.1)) := fun x hx => by
    rw [own_iff (by rw [O.size]; omega), List.mem_map]
    exact ⟨fun ⟨i, hi⟩ => ⟨(x, i), live_mem.mpr ⟨hx, hi⟩, rfl⟩, fun ⟨⟨_, i⟩, hp, q⟩ => ⟨i, by dsimp only at q; subst q; exact (live_mem.mp hp).2⟩⟩
  refine ⟨?_, rfl, ?_, ?_, ?_, hc, ho, ?_⟩
  · exact live_rise mask owner
  · intro j hj
    show j ≤ mask
    have hj : j ∈ L.map (·.1) := by simpa using hj
    rw [List.mem_map] at hj
    obtain ⟨⟨a, b⟩, hp, rfl⟩ := hj
    exact (live_mem.mp hp).1
  · rw [hes, hmap]
    simp
  · show (L.map (·.1)).toArray.size ≤ mask
    simp [hlen]; exact hl
  · rw [hes, hmap, List.map_map]
    show ∀ h j, (h, j) ∈ (L.map _).zip (L.map (·.1)) → _
    intro h j hm
    rw [List.zip_map', List.mem_map] at hm
    obtain ⟨⟨a, i⟩, hp, q⟩ := hm
    have q1 := congrArg Prod.fst q
    have q2 := congrArg Prod.snd q
    dsimp only [Function.comp] at q1 q2
    subst q2
    obtain ⟨hi, h', n, e1, e2, e3⟩ := O.path a i (live_mem.mp hp).2
    have : h' = h := by
      rw [← q1]
      rw [Array.getElem?_toList, Array.getElem?_map, Array.getElem?_eq_getElem hi] at e1
      rw [Array.getD_eq_getD_getElem?, Array.getElem?_eq_getElem hi]
      simpa using e1.symm
    subst this
    refine ⟨n, e2, fun m hm => ?_⟩
    have hle : slotP mask h' m ≤ mask := by have := slot_le (mask := mask) h' m; unfold slotP; omega
    show slotP mask h' m ∈ (L.map (·.1)).toArray.toList
    exact (hown _ hle).mp (e3 m hm)
section
variable {prog : Program} {w : World} {A : Around} {E : Value → Shared → Prop} {s : Shared}
abbrev TupK (prog : Program) (w : World) (h : Heap) (k : List Int) (b : Addr) : Prop := IsTupleKey (intKind prog w) h k b
abbrev hashT (prog : Program) (w : World) (k : List Int) : Int := tupleKeyHash (intKind prog w) k
theorem items_ints {ks : List Int} {vs : List Value} (h : ItemsAre (intKind prog w) ks vs) : ∀ v ∈ vs, ∃ n t, v = .int n t := by
  induction h with
  | nil => intro v hv; cases hv
  | cons h1 _ ih =>
    intro v hv
    rcases List.mem_cons.mp hv with rfl | hv
    · obtain ⟨t, e⟩ := Value.isInt_shape h1
      exact ⟨_, t, e⟩
    · exact ih v hv
theorem class_tup {k : List Int} {b : Addr} {Q : Bool → Shared → Prop} (hk : TupK prog w s.heap k b) (h : Q false s) : wpAny (model prog w) A (ofAClassStatement 8 (.ref b)) Q E s := by
  have hT := hk.typeIs
  obtain ⟨o, items, n, ho, hc, hd, hi⟩ := hk
  unfold ofAClassStatement
  refine wpAny_bind (wpAny_typeOf hT ?_)
  dsimp only
  rw [if_pos (by decide)]
  refine wpAny_bind (wpAny_pure ?_)
  simp only [Bool.not_true, Bool.false_eq_true, if_false]
  refine wpAny_bind (wpAny_seqItems ho hd ?_)
  dsimp only
  refine wpAny_bind ?_
  rw [← Array.forIn_toList]
  refine wpAny_forIn_list _ (fun rest r s' => r.1 = none ∧ s' = s ∧ ∀ v ∈ rest, ∃ n t, v = .int n t) _ ?_ ?_ _ _ ⟨rfl, rfl, items_ints hi⟩
  · rintro v rest r s' ⟨hr, rfl, hall⟩
    obtain ⟨n, t, rfl⟩ := hall v List.mem_cons_self
    have e7 : ofAClassStatement 7 (.int n t) = pure false := by unfold ofAClassStatement; rfl
    rw [e7]
    refine wpAny_bind (wpAny_pure ?_)
    simp only [Bool.false_eq_true, if_false]
    exact wpAny_pure ⟨rfl, rfl, fun u hu' => hall u (List.mem_cons_of_mem _ hu')⟩
  · rintro ⟨r1, r2⟩ s' ⟨hr, rfl, _⟩
    simp only at hr
    subst hr
    exact wpAny_pure h
theorem seen_tup {k : List Int} {b : Addr} {ys : List Value} {Q : Bool → Shared → Prop} (hk : TupK prog w s.heap k b) (hy : ∀ y ∈ ys, ∃ c k', y = .ref c ∧ TupK prog w s.heap k' c) (h : Q false s) :
    wpAny (model prog w) A (searchCouldBeSeen (.ref b) ys) Q E s := by
  unfold searchCouldBeSeen
  refine wpAny_bind ?_
  refine wpAny_forIn_list _ (fun rest r s' => r.1 = none ∧ s' = s ∧ ∀ y ∈ rest, ∃ c k', y = .ref c ∧ TupK prog w s.heap k' c) _ ?_ ?_ _ _ ⟨rfl, rfl, hy⟩
  · rintro v rest r s' ⟨hr, rfl, hall⟩
    obtain ⟨c, k', rfl, hc⟩ := hall v List.mem_cons_self
    dsimp only
    split
    · exact wpAny_pure ⟨rfl, rfl, fun u hu' => hall u (List.mem_cons_of_mem _ hu')⟩
    · refine wpAny_bind (wpAny_eqIsQuiet_tuple hk ?_)
      simp only [Bool.not_true, Bool.false_eq_true, if_false]
      refine wpAny_bind (wpAny_eqIsQuiet_tuple hc ?_)
      simp only [Bool.not_true, Bool.false_eq_true, if_false]
      refine wpAny_bind (class_tup hk ?_)
      simp only [Bool.false_eq_true, if_false]
      refine wpAny_bind (class_tup hc ?_)
      simp only [Bool.false_eq_true, if_false]
      exact wpAny_pure ⟨rfl, rfl, fun u hu' => hall u (List.mem_cons_of_mem _ hu')⟩
  · rintro ⟨r1, r2⟩ s' ⟨hr, rfl, _⟩
    simp only at hr
    subst hr
    exact wpAny_pure h
theorem byValue_tup {k : List Int} {b : Addr} {Q : Bool → Shared → Prop} (hk : TupK prog w s.heap k b) (h : Q true s) : wpAny (model prog w) A (hashByValue 8 (.ref b)) Q E s := by
  have hT := hk.typeIs
  obtain ⟨o, items, n, ho, hc, hd, hi⟩ := hk
  unfold hashByValue
  refine wpAny_bind (wpAny_specialOf hT F.slot_tuple_hash.lookup ?_)
  dsimp only
  refine wpAny_bind (wpAny_seqItems ho hd ?_)
  simp only [Option.getD_some]
  refine wpAny_bind ?_
  rw [← Array.forIn_toList]
  refine wpAny_forIn_list _ (fun rest r s' => r.1 = none ∧ s' = s ∧ ∀ v ∈ rest, ∃ n t, v = .int n t) _ ?_ ?_ _ _ ⟨rfl, rfl, items_ints hi⟩
  · rintro v rest r s' ⟨hr, rfl, hall⟩
    obtain ⟨n, t, rfl⟩ := hall v List.mem_cons_self
    have e7 : hashByValue 7 (.int n t) = pure true := by unfold hashByValue; rfl
    rw [e7]
    refine wpAny_bind (wpAny_pure ?_)
    simp only [Bool.not_true, Bool.false_eq_true, if_false]
    exact wpAny_pure ⟨rfl, rfl, fun u hu' => hall u (List.mem_cons_of_mem _ hu')⟩
  · rintro ⟨r1, r2⟩ s' ⟨hr, rfl, _⟩
    simp only at hr
    subst hr
    exact wpAny_pure h
def TupEs (prog : Program) (w : World) (R : Addr → List Int → Prop) (h : Heap) (es : List (Int × Value)) (L : List (List Int)) : Prop :=
  es.length = L.length ∧ ∀ (i : Nat) (e : Int × Value) (k : List Int), es[i]? = some e → L[i]? = some k → ∃ b, e.2 = .ref b ∧ TupK prog w h k b ∧ e.1 = hashT prog w k ∧ R b k
theorem search_tup (hu : A.units < cLine) {a b : Addr} {o : Obj} {es : Array (Int × Value)} {ep : Nat} {t : SetTable} {k : List Int} {L : List (List Int)} (ho : s.heap.get? a = some o) (hd : o.data = .set es ep t) (hf : t.fits es.size = true)
    (hx : TupK prog w s.heap k b) {R : Addr → List Int → Prop} (hE : TupEs prog w R s.heap es.toList L) (T : TabOk t (es.toList.map (·.1))) {Q : SetFound → Shared → Prop} (there : k ∈ L → Q (.there none) s) {N : Nat} (hN : slotP t.mask (hashT prog w k) N ∉ t.place.toList) (hb : ∀ m, m < N → slotP t.mask (hashT prog w k) m ∈ t.place.toList)
    (hN2 : N < 10 * SetTable.turns t.mask)
    (free : k ∉ L → Q (.free (slotP t.mask (hashT prog w k) N) false) s) : ∀ (fuel n : Nat) (st : Option SetTable.Probe), st.getD (t.probeStart (hashT prog w k)) = pth t.mask (hashT prog w k) n → n ≤ N → N < n + fuel →
      (∀ m, m < n → ∀ (i : Nat) (k' : List Int), t.place[i]? = some (slotP t.mask (hashT prog w k) m) → L[i]? = some k' → k' ≠ k) →
      wpAny (model prog w) A (setSearchFrom a (.ref b) (hashT prog w k) true fuel st) Q E s := by
  intro fuel
  induction fuel with
  | zero => intro n st _ h1 h2; omega
  | succ fuel ih =>
    intro n st hst h1 h2 hinv
    have hlen : t.place.size = es.size := by have := T.len; simpa using this
    have hLlen : es.size = L.length := by have := hE.1; simpa using this
    unfold setSearchFrom
    refine wpAny_bind (wpAny_setState_of ho hd hf ?_)
    dsimp only
    have hg : t.gaveWay = false := by unfold SetTable.gaveWay; rw [T.odd]; rfl
    rw [hg]
    simp only [Bool.false_eq_true, if_false]
    rw [hst]
    unfold SetTable.probe
    rcases T.probe (fun i => (es[i]?.map (·.1)).getD 0) (hashT prog w k) hN hb (10 * SetTable.turns t.mask) n h1 (by omega) with ⟨q1, q2⟩ | ⟨n', i, q1, q2, q3, q4, q5, q6⟩
    · generalize hgo : SetTable.probe.go t _ (hashT prog w k) (10 * SetTable.turns t.mask) (pth t.mask (hashT prog w k) n) = r
      have e : r = some (.empty (slotP t.mask (hashT prog w k) N) none) := hgo.symm.trans q1
      subst e
      dsimp only
      refine wpAny_pure (free fun hk => ?_)
      obtain ⟨i, hi, ek⟩ := List.getElem_of_mem hk
      have hie : i < es.size := by omega
      have hLi : L[i]? = some k := by rw [List.getElem?_eq_getElem hi, ek]
      have hei : es.toList[i]? = some es[i] := by rw [Array.getElem?_toList, Array.getElem?_eq_getElem hie]
      obtain ⟨b', z1, z2, z3, _⟩ := hE.2 i _ k hei hLi
      have hip : i < t.place.size := by omega
      have hpi : t.place[i]? = some t.place[i] := Array.getElem?_eq_getElem hip
      obtain ⟨m, e1, e2⟩ := T.path es[i].1 t.place[i] (by
        rw [List.mem_iff_getElem?]
        refine ⟨i, ?_⟩
        rw [List.getElem?_zip_eq_some]
        exact ⟨by rw [List.getElem?_map, hei]; rfl, by rw [Array.getElem?_toList]; exact hpi⟩)
      rw [z3] at e1 e2
      have hm : m < N := by
        rcases Nat.lt_trichotomy m N with z | z | z
        · exact z
        · subst z; exact absurd (by rw [e1]; exact mem_place hpi) hN
        · exact absurd (e2 N z) hN
      rcases Nat.lt_or_ge m n with z | z
      · exact hinv m z i k (by rw [e1]; exact hpi) hLi rfl
      · refine q2 m z hm i (by rw [e1]; exact hpi) ?_
        rw [Array.getElem?_eq_getElem hie]
        exact z3
    · generalize hgo : SetTable.probe.go t _ (hashT prog w k) (10 * SetTable.turns t.mask) (pth t.mask (hashT prog w k) n) = r
      have e : r = some (.candidate (slotP t.mask (hashT prog w k) n') i (pth t.mask (hashT prog w k) (n' + 1))) := hgo.symm.trans q5
      subst e
      dsimp only
      have hip : i < t.place.size := by
        rcases Nat.lt_or_ge i t.place.size with z | z
        · exact z
        · rw [Array.getElem?_eq_none z] at q3; cases q3
      have hie : i < es.size := by omega
      have hiL : i < L.length := by omega
      have hei : es[i]? = some es[i] := Array.getElem?_eq_getElem hie
      obtain ⟨c, z1, z2, z3, _⟩ := hE.2 i _ L[i] (by rw [Array.getElem?_toList]; exact hei) (List.getElem?_eq_getElem hiL)
      have hes : es[i] = (es[i].1, Value.ref c) := by rw [← z1]
      have rest : wpAny (model prog w) A (do
          let some (_, y) := es[i]? | unsupported "internal:set-entry"
          let equal ← holding [y] (eqBool y (.ref b))
          let (es', _, t') ← setState a
          if true && equal then return .there none
          let some same := t'.sameMemory t.moves t.mask | unsupported "set.changed-during-lookup:is-the-new-block-at-the-old-address"
          let still ← match (if same then t'.slot (slotP t.mask (hashT prog w k) n') else .empty) with
            | .live i' => match es'[i']? with
              | some (_, y') => do pure (if ← isSame y' y then some i' else none)
              | none => pure none
            | _ => pure none
          match still with
          | none => rule "set.search.anew"; setSearchFrom a (.ref b) (hashT prog w k) true fuel none
          | some i' => if equal then return .there (some i') else setSearchFrom a (.ref b) (hashT prog w k) true fuel (some (pth t.mask (hashT prog w k) (n' + 1)))) Q E s := by
        rw [hei, hes]
        dsimp only
        refine wpAny_bind (wpAny_holding (wpAny_eqBool_tuple hu z2 hx ?_))
        refine wpAny_bind (wpAny_setState_of ho hd hf ?_)
        dsimp only
        by_cases hk : L[i] = k
        · rw [decide_eq_true hk]
          simp only [Bool.and_self, if_true]
          exact wpAny_pure (there (hk ▸ List.getElem_mem hiL))
        · rw [decide_eq_false hk]
          simp only [Bool.and_false, Bool.false_eq_true, if_false]
          have hsm : t.sameMemory t.moves t.mask = some true := by unfold SetTable.sameMemory; simp
          rw [hsm]
          dsimp only
          simp only [if_true]
          rw [T.live q3]
          dsimp only
          rw [hei, hes]
          dsimp only
          refine wpAny_bind (wpAny_isSame_ref_self ?_)
          refine wpAny_bind (wpAny_pure ?_)
          simp only [if_true]
          refine ih (n' + 1) _ rfl (by omega) (by omega) fun m hm j k' hj hk' => ?_
          rcases Nat.lt_or_ge m n with z | z
          · exact hinv m z j k' hj hk'
          · by_cases em : m = n'
            · subst em
              have : j = i := (place_below T.rise hj).symm.trans (place_below T.rise q3)
              subst this
              rw [List.getElem?_eq_getElem hiL] at hk'
              cases hk'
              exact hk
            · rintro rfl
              have hjp : j < t.place.size := by
                rcases Nat.lt_or_ge j t.place.size with z | z
                · exact z
                · rw [Array.getElem?_eq_none z] at hj; cases hj
              have hje : j < es.size := by omega
              refine q6 m z (by omega) j hj ?_
              obtain ⟨_, _, _, y3, _⟩ := hE.2 j es[j] k' (by rw [Array.getElem?_toList, Array.getElem?_eq_getElem hje]) hk'
              rw [Array.getElem?_eq_getElem hje]
              exact y3
      split
      · refine wpAny_bind (seen_tup hx (fun y hy => ?_) ?_)
        · rw [List.mem_map] at hy
          obtain ⟨e', he', rfl⟩ := hy
          have he'' : e' ∈ es.toList := by
            have := Array.mem_toList_iff.mp he'
            rw [Array.mem_filter] at this
            exact Array.mem_toList_iff.mpr this.1
          obtain ⟨j, hj, ej⟩ := List.getElem_of_mem he''
          have hjL : j < L.length := by have := hE.1; omega
          obtain ⟨c', y1, y2, _⟩ := hE.2 j e' L[j] (by rw [List.getElem?_eq_getElem hj, ej]) (List.getElem?_eq_getElem hjL)
          exact ⟨c', _, y1, y2⟩
        · simp only [Bool.false_eq_true, if_false]
          exact rest
      · exact rest
end
def SetT (P : Program) (w : World) (R : Addr → List Int → Prop) (h0 : Heap) (ms : List (List Int)) (a : Addr) (h : Heap) : Prop :=
  ∃ o es ep t L, h.get? a = some o ∧ o.ExactSet ∧ o.data = .set es ep t ∧ TupEs P w R h0 es.toList L ∧ t.fits es.size = true ∧ t.led = (!w.params.followText "set-order") ∧ TabOk t (es.toList.map (·.1)) ∧
    t.place.size * 5 < t.mask * 3 ∧ (t.mask = 7 ∨ t.mask = 31 ∨ t.mask = 127 ∨ t.mask = 511) ∧ L.Nodup ∧ ∀ k, k ∈ L ↔ k ∈ ms
section
variable {prog : Program} {w : World} {R : Addr → List Int → Prop} {A : Around} {E : Value → Shared → Prop} {s : Shared}
theorem TupEs.ext {h h' : Heap} {es : List (Int × Value)} {L : List (List Int)} (x : TupEs prog w R h es L) (k : ∀ b o, h.get? b = some o → h'.get? b = some o) : TupEs prog w R h' es L :=
  ⟨x.1, fun i e k' h1 h2 => by
    obtain ⟨b, e1, ⟨o, its, n, ho, r⟩, e3, e4⟩ := x.2 i e k' h1 h2
    exact ⟨b, e1, ⟨o, its, n, k b o ho, r⟩, e3, e4⟩⟩
theorem TupEs.ins {h : Heap} {es : List (Int × Value)} {L : List (List Int)} (x : TupEs prog w R h es L) {p : Nat} {k : List Int} {b : Addr} (hk : TupK prog w h k b) (hR : R b k) :
    TupEs prog w R h (es.take p ++ (hashT prog w k, Value.ref b) :: es.drop p) (L.take p ++ k :: L.drop p) := by
  have hl := x.1
  refine ⟨by simp [hl], fun i e k' h1 h2 => ?_⟩
  have hz : (e, k') ∈ (es.take p ++ (hashT prog w k, Value.ref b) :: es.drop p).zip (L.take p ++ k :: L.drop p) := by
    rw [List.mem_iff_getElem?]
    exact ⟨i, List.getElem?_zip_eq_some.mpr ⟨h1, h2⟩⟩
  rw [zip_ins _ _ _ _ _ hl] at hz
  rcases mem_ins.mp hz with q | q
  · cases q; exact ⟨b, rfl, hk, rfl, hR⟩
  · rw [List.mem_iff_getElem?] at q
    obtain ⟨j, hj⟩ := q
    rw [List.getElem?_zip_eq_some] at hj
    exact x.2 j e k' hj.1 hj.2
theorem TupEs.perm {h : Heap} : ∀ {es es' : List (Int × Value)} {L : List (List Int)}, TupEs prog w R h es L → es'.Perm es → ∃ L', L'.Perm L ∧ TupEs prog w R h es' L' := by
  intro es es' L x p
  have hz : (es.zip L).map (·.1) = es := List.map_fst_zip (Nat.le_of_eq x.1)
  have hz2 : (es.zip L).map (·.2) = L := List.map_snd_zip (Nat.le_of_eq x.1.symm)
  have : ∃ Z : List ((Int × Value) × List Int), Z.Perm (es.zip L) ∧ Z.map (·.1) = es' := by
    rw [← hz] at p
    clear hz hz2 x
    generalize es.zip L = W at p ⊢
    clear es L
    have : ∀ {l : List (Int × Value)} {W : List ((Int × Value) × List Int)}, l.Perm (W.map (·.1)) → ∃ Z : List ((Int × Value) × List Int), Z.Perm W ∧ Z.map (·.1) = l := by
      intro l
      induction l with
      | nil => intro W q; have := q.length_eq; rw [List.length_map] at this; have := List.length_eq_zero_iff.mp this.symm; subst this; exact ⟨[], List.Perm.refl _, rfl⟩
      | cons a l ih =>
        intro W q
        have ha : a ∈ W.map (·.1) := q.mem_iff.mp (List.mem_cons_self ..)
        rw [List.mem_map] at ha
        obtain ⟨b, hb, rfl⟩ := ha
        obtain ⟨W1, W2, rfl⟩ := List.append_of_mem hb
        have pm : (W1 ++ b :: W2).Perm (b :: (W1 ++ W2)) := List.perm_middle
        have q2 := q.trans (pm.map (·.1))
        rw [List.map_cons] at q2
        obtain ⟨Z, hZ, e⟩ := ih (List.Perm.cons_inv q2)
        exact ⟨b :: Z, (hZ.cons b).trans pm.symm, by rw [List.map_cons, e]⟩
    exact this p
  obtain ⟨Z, hZ, e⟩ := this
  refine ⟨Z.map (·.2), ?_, ?_⟩
  · have := hZ.map (·.2)
    rw [hz2] at this
    exact this
  · subst e
    refine ⟨by simp, fun i a k h1 h2 => ?_⟩
    rw [List.getElem?_map] at h1 h2
    cases hi : Z[i]? with
    | none => rw [hi] at h1; cases h1
    | some z =>
      rw [hi] at h1 h2
      cases h1; cases h2
      have hm := hZ.mem_iff.mp (List.mem_of_getElem? hi)
      rw [List.mem_iff_getElem?] at hm
      obtain ⟨j, hj⟩ := hm
      obtain ⟨z1, z2⟩ := z
      rw [List.getElem?_zip_eq_some] at hj
      exact x.2 j z1 z2 hj.1 hj.2
theorem fits_tab {t : SetTable} {hs : List Int} (T : TabOk t hs) {n : Nat} (hn : hs.length = n) : t.fits n = true := by
  unfold SetTable.fits SetTable.fill
  rw [T.len, hn, T.nod]
  have := T.room
  rw [T.len, hn] at this
  simp [this]
theorem relay_eq (a : Addr) (wanted : Nat) : setRelay a wanted = (do
    let (es, _, t) ← setState a
    if SetTable.sizeAbove wanted > sizeLine then unsupported "set:memory"
    let (es, t) ← (do
      let some (t, order) := t.relaid (es.map (·.1)) wanted | unsupported "internal:set-table-without-room"
      let es' := order.filterMap (es[·]?)
      if es'.size != es.size then unsupported "internal:set-table-lost-an-element"
      pure (es', t))
    storeSet a es t) := rfl
theorem nodup_len : ∀ {l ms : List (List Int)}, l.Nodup → (∀ k, k ∈ l → k ∈ ms) → l.length ≤ ms.length
  | [], _, _, _ => Nat.zero_le _
  | a :: l, ms, hn, h => by
    have ha := h a (List.mem_cons_self ..)
    have hn' := List.nodup_cons.mp hn
    have := nodup_len (ms := ms.erase a) hn'.2 fun k hk => (List.mem_erase_of_ne (fun e : k = a => hn'.1 (e ▸ hk))).mpr (h k (List.mem_cons_of_mem _ hk))
    rw [List.length_erase_of_mem ha] at this
    have hp := List.length_pos_of_mem ha
    rw [List.length_cons]; omega
theorem line_of {n : Nat} (h : n ≤ 1000) : n ≤ sizeLine := by
  rw [sizeLine_eq]; omega
theorem setAddT (hu : A.units < cLine) {h0 : Heap} {a b : Addr} {ms : List (List Int)} {k : List Int} {Q : Bool → Shared → Prop} (ext : ∀ b o, h0.get? b = some o → s.heap.get? b = some o) (hS : SetT prog w R h0 ms a s.heap) (hx : TupK prog w h0 k b) (hRk : R b k) (hm : ms.length ≤ 300)
    (h : ∀ h' b, Heap.SameBut a s.heap h' → SetT prog w R h0 (ms ++ [k]) a h' → Q b { s with heap := h' }) : wpAny (model prog w) A (setAddHashed a (.ref b) (hashT prog w k)) Q E s := by
  obtain ⟨o, es, ep, t, L, ho, hex, hd, hE, hf, hled, T, hroom, hmask, hn, hL⟩ := hS
  have hx' : TupK prog w s.heap k b := by
    obtain ⟨o, its, n, e, r⟩ := hx
    exact ⟨o, its, n, ext b o e, r⟩
  have hlen : t.place.size = es.size := by have := T.len; simpa using this
  have hEl : es.size = L.length := by have := hE.1; simpa using this
  have hLm : L.length ≤ 300 := Nat.le_trans (nodup_len hn fun k hk => (hL k).mp hk) hm
  obtain ⟨N, hN2, hN, hb⟩ := T.free (hashT prog w k)
  unfold setAddHashed
  refine wpAny_holding ?_
  unfold setAddHashedIn
  refine wpAny_bind (wpAny_setState_of ho hd hf ?_)
  dsimp only
  have hsc : byScan (.ref b) es = false := rfl
  rw [hsc]
  simp only [Bool.false_eq_true, if_false]
  have hw : 10 * SetTable.turns t.mask < 100000 := by
    unfold SetTable.turns
    rcases hmask with e | e | e | e <;> rw [e] <;> decide
  refine wpAny_bind (search_tup hu ho hd hf hx' (hE.ext ext) T (fun hk => ?_) hN hb hN2 (fun hk => ?_) 100000 0 none rfl (Nat.zero_le _) (by omega) (fun m hm => absurd hm (Nat.not_lt_zero _)))
  · dsimp only
    refine wpAny_pure ?_
    have e : s = { s with heap := s.heap } := by cases s; rfl
    rw [e]
    refine h s.heap _ (Heap.SameBut.refl a s.heap) ⟨o, es, ep, t, L, ho, hex, hd, hE, hf, hled, T, hroom, hmask, hn, fun k' => ?_⟩
    rw [List.mem_append, List.mem_singleton, ← hL k']
    exact ⟨.inl, fun z => z.elim id fun z => z ▸ hk⟩
  · dsimp only
    refine wpAny_bind (wpAny_setState_of ho hd hf ?_)
    dsimp only
    have hput := T.put (hashT prog w k) hN hb (by rcases hmask with e | e | e | e <;> omega)
    generalize hp : SetTable.below t.place (slotP t.mask (hashT prog w k) N) = p at hput
    generalize ht1 : (t.put (slotP t.mask (hashT prog w k) N)).1 = t1 at hput
    have hp1 : (t.put (slotP t.mask (hashT prog w k) N)).2 = p := hp
    have hm1 : t1.mask = t.mask := by rw [← ht1]; rfl
    have hl1 : t1.led = t.led := by rw [← ht1]; rfl
    have hs1 : t1.place.size = es.size + 1 := by
      have := hput.len
      simp at this
      rw [this]
      have : p ≤ es.size := by rw [← hp, ← hlen]; exact (below_is T.rise _).1
      omega
    have hsplit : t.put (slotP t.mask (hashT prog w k) N) = (t1, p) := by rw [← ht1, ← hp1]
    rw [hsplit]
    dsimp only
    have hes : (SetTable.insertAt es p (hashT prog w k, Value.ref b)).toList = es.toList.take p ++ (hashT prog w k, Value.ref b) :: es.toList.drop p := insertAt_list _ _ _
    generalize hes1 : SetTable.insertAt es p (hashT prog w k, Value.ref b) = es1 at hes
    have hE1 : TupEs prog w R h0 es1.toList (L.take p ++ k :: L.drop p) := by rw [hes]; exact hE.ins hx hRk
    have hT1 : TabOk t1 (es1.toList.map (·.1)) := by
      rw [hes]
      simpa using hput
    have hz1 : es1.size = es.size + 1 := by
      have := hT1.len
      simp at this
      omega
    have hn1 : (L.take p ++ k :: L.drop p).Nodup := by
      have : (L.take p ++ k :: L.drop p).Perm (k :: L) := by
        refine List.perm_middle.trans ?_
        rw [List.take_append_drop]
      rw [this.nodup_iff, List.nodup_cons]
      exact ⟨hk, hn⟩
    have hL1 : ∀ k', k' ∈ L.take p ++ k :: L.drop p ↔ k' ∈ ms ++ [k] := fun k' => by
      rw [mem_ins, List.mem_append, List.mem_singleton, hL k']
      exact ⟨fun z => z.elim .inr .inl, fun z => z.elim .inr .inl⟩
    have hf1 : t1.fits es1.size = true := fits_tab hT1 (by simp)
    have tail : ∀ byv : Bool, byv = true → wpAny (model prog w) A (do
        storeSet a es1 (if byv = true then t1 else { t1 with plain := false })
        if (!false && (if byv = true then t1 else { t1 with plain := false }).tooFull) = true then setRelay a (SetTable.grown (es.size + 1))
        return true) Q E s := by
      rintro _ rfl
      simp only [if_true]
      refine wpAny_bind (wpAny_storeSet_of ho hd ?_ (line_of (by omega)))
      have ho1 : (s.heap.update a (Obj.putSet es1 t1)).get? a = some { o with data := .set es1 (ep + 1) t1 } := by
        have := Heap.get?_update_self (Obj.putSet es1 t1) ho (by rw [putSet_of es1 t1 hd]; rfl)
        rw [putSet_of es1 t1 hd] at this; exact this
      have hsb1 := Heap.SameBut.update s.heap a (Obj.putSet es1 t1)
      by_cases hfull : t1.tooFull = true
      · rw [hfull]
        simp only [Bool.not_false, Bool.and_self, if_true]
        have hfill : t1.mask * 3 ≤ t1.place.size * 5 := by
          unfold SetTable.tooFull SetTable.fill at hfull
          rw [hT1.nod] at hfull
          simpa using hfull
        have hcase : (SetTable.sizeAbove (SetTable.grown (es.size + 1)) - 1 = 31 ∧ es.size + 1 = 5) ∨ (SetTable.sizeAbove (SetTable.grown (es.size + 1)) - 1 = 127 ∧ es.size + 1 = 19) ∨ (SetTable.sizeAbove (SetTable.grown (es.size + 1)) - 1 = 511 ∧ es.size + 1 = 77) := by
          rcases hmask with e | e | e | e
          · have : es.size + 1 = 5 := by omega
            rw [this]; exact .inl ⟨by decide, rfl⟩
          · have : es.size + 1 = 19 := by omega
            rw [this]; exact .inr (.inl ⟨by decide, rfl⟩)
          · have : es.size + 1 = 77 := by omega
            rw [this]; exact .inr (.inr ⟨by decide, rfl⟩)
          · omega
        have hcov : covers (SetTable.sizeAbove (SetTable.grown (es.size + 1)) - 1) = true ∧ (SetTable.sizeAbove (SetTable.grown (es.size + 1)) - 1) % 2 = 1 ∧ es1.size ≤ SetTable.sizeAbove (SetTable.grown (es.size + 1)) - 1 ∧ es1.size * 5 < (SetTable.sizeAbove (SetTable.grown (es.size + 1)) - 1) * 3 := by
          rcases hcase with ⟨e, e2⟩ | ⟨e, e2⟩ | ⟨e, e2⟩ <;> rw [e]
          · exact ⟨covers31, rfl, by omega, by omega⟩
          · exact ⟨covers127, rfl, by omega, by omega⟩
          · exact ⟨covers511, rfl, by omega, by omega⟩
        obtain ⟨t2, order, r1, r2, r3, r4, r5, r6⟩ := laid_ok hcov.1 hcov.2.1 t1.finger (t1.movedTo (SetTable.sizeAbove (SetTable.grown (es.size + 1)) - 1)) t1.led t1.plain es1 hcov.2.2.1
        rw [relay_eq]
        refine wpAny_bind (wpAny_bind (wpAny_setState_of ho1 rfl hf1 ?_))
        dsimp only
        rw [if_neg (by
          have : SetTable.sizeAbove (SetTable.grown (es.size + 1)) ≤ 600 := by rcases hcase with ⟨e, e2⟩ | ⟨e, e2⟩ | ⟨e, e2⟩ <;> omega
          rw [sizeLine_eq]; omega)]
        have hrel : t1.relaid (es1.map (·.1)) (SetTable.grown (es.size + 1)) = some (t2, order) := r1
        rw [hrel]
        dsimp only
        have hsz : (order.filterMap (es1[·]?)).size = es1.size := by
          rw [← Array.length_toList, r5.length_eq, Array.length_toList]
        have hb0 : ((order.filterMap (es1[·]?)).size != es1.size) = false := by rw [hsz]; simp
        rw [hb0]
        simp only [Bool.false_eq_true, if_false]
        refine wpAny_bind (wpAny_pure ?_)
        dsimp only
        refine wpAny_storeSet_of ho1 rfl ?_ (line_of (by rw [hsz]; omega))
        have ho2 : ((s.heap.update a (Obj.putSet es1 t1)).update a (Obj.putSet (order.filterMap (es1[·]?)) t2)).get? a = some { o with data := .set (order.filterMap (es1[·]?)) (ep + 1 + 1) t2 } := by
          have := Heap.get?_update_self (Obj.putSet (order.filterMap (es1[·]?)) t2) ho1 rfl
          exact this
        obtain ⟨L2', p2, hE2⟩ := hE1.perm r5
        refine wpAny_pure (h _ _ (hsb1.trans (Heap.SameBut.update _ a _)) ⟨_, _, _, t2, L2', ho2, hex, rfl, hE2, fits_tab r6 (by rw [List.length_map, Array.length_toList]), by rw [r3, hl1]; exact hled, r6, ?_, ?_, p2.nodup_iff.mpr hn1, fun k' => p2.mem_iff.trans (hL1 k')⟩)
        · have := r6.len
          rw [List.length_map, Array.length_toList] at this
          rw [this, r2, hsz]; exact hcov.2.2.2
        · rw [r2]
          rcases hcase with ⟨e, _⟩ | ⟨e, _⟩ | ⟨e, _⟩
          · exact .inr (.inl e)
          · exact .inr (.inr (.inl e))
          · exact .inr (.inr (.inr e))
      · rw [Bool.eq_false_iff.mpr hfull]
        simp only [Bool.not_false, Bool.and_false, Bool.false_eq_true, if_false]
        refine wpAny_bind (wpAny_pure ?_)
        refine wpAny_pure (h _ _ hsb1 ⟨_, es1, ep + 1, t1, _, ho1, hex, rfl, hE1, hf1, by rw [hl1]; exact hled, hT1, ?_, by rw [hm1]; exact hmask, hn1, hL1⟩)
        unfold SetTable.tooFull SetTable.fill at hfull
        rw [hT1.nod] at hfull
        simpa using hfull
    split
    · exact wpAny_bind (byValue_tup hx' (tail true rfl))
    · exact wpAny_bind (wpAny_pure (tail true rfl))
end
section
variable {prog : Program} {w : World} {A : Around} {R : Addr → List Int → Prop}
theorem SetT.keep {h0 h h' : Heap} {ms : List (List Int)} {a : Addr} (x : SetT prog w R h0 ms a h) (k : ∀ o, h.get? a = some o → h'.get? a = some o) : SetT prog w R h0 ms a h' := by
  obtain ⟨o, es, ep, t, L, ho, r⟩ := x
  exact ⟨o, es, ep, t, L, k o ho, r⟩
section
variable {R' : Result → Shared → Prop} {I : Addr} {fp wr : List Addr} {G : Array GenState → Array GenState → Prop} {n : Nat} {P : Nat → Value → Prop} {St : Nat → Shared → Prop}
theorem update_loopT (W : WalksS prog w A.in1 I fp wr G n P St) (S : Addr) (hSf : S ∉ fp) (hu : A.in1.units < cLine) (h0 : Heap) (hS0 : h0.get? S = none) (hw0 : ∀ b ∈ wr, h0.get? b = none)
    (val : Nat → List Int) (hval : ∀ i v, P i v → ∃ b, v = .ref b ∧ TupK prog w h0 (val i) b ∧ R b (val i)) (hb : n ≤ 300) :
    ∀ (k i : Nat) (s : Shared), n - i = k → i ≤ n → St i s → (∀ b o, h0.get? b = some o → s.heap.get? b = some o) → SetT prog w R h0 ((List.range i).map val) S s.heap →
      (∀ s', Moved (S :: wr) G s s' → SetT prog w R h0 ((List.range n).map val) S s'.heap → R' (.ok (.ret .none)) s') →
      codeAny (model prog w) A (.builtin "set.update.loop" ⟨[.ref S, .ref I], []⟩) R' s := by
  have hSw : S ∉ wr := fun h => hSf (W.sub _ h)
  have hsub : ∀ b ∈ wr, b ∈ S :: wr := fun b hb => List.mem_cons_of_mem _ hb
  intro k
  induction k with
  | zero =>
    intro i s hk hi hst hext hS hR
    have hin : i = n := by omega
    subst hin
    refine codeAny_builtin PyProof.Rows.F.entry_set_update_loop ?_
    rw [Around.under_plainId PyProof.Rows.F.plain_set_update_loop _]
    show wpAny _ A.in1 (pyNext (.ref I) >>= _) _ _ s
    refine wpAny_bind (W.done s _ _ hst fun s' hm => ?_)
    show wpAny _ A.in1 (ret Value.none) _ _ s'
    exact wpAny_pure (hR s' (hm.mono hsub) (hS.keep fun o ho => hm.heap S _ hSw ho))
  | succ k ih =>
    intro i s hk hi hst hext hS hR
    have hlt : i < n := by omega
    refine codeAny_builtin PyProof.Rows.F.entry_set_update_loop ?_
    rw [Around.under_plainId PyProof.Rows.F.plain_set_update_loop _]
    show wpAny _ A.in1 (pyNext (.ref I) >>= _) _ _ s
    refine wpAny_bind (W.item i s _ _ hlt hst fun v s' hP hst' hm => ?_)
    obtain ⟨b0, rfl, hk0, hR0⟩ := hval i v hP
    have hext' : ∀ b o, h0.get? b = some o → s'.heap.get? b = some o := fun b o e => hm.heap b o (fun z => by rw [hw0 b z] at e; cases e) (hext b o e)
    have hS' : SetT prog w R h0 ((List.range i).map val) S s'.heap := hS.keep fun o ho => hm.heap S _ hSw ho
    show wpAny _ A.in1 (holding [Value.ref b0] (setAdd S (.ref b0)) >>= _) _ _ s'
    refine wpAny_bind (wpAny_holding ?_)
    unfold setAdd
    refine wpAny_holding ?_
    have hks : TupK prog w s'.heap (val i) b0 := by
      obtain ⟨o, its, m, e, r⟩ := hk0
      exact ⟨o, its, m, hext' b0 o e, r⟩
    refine wpAny_bind (wpAny_pyHash_tuple hu hks ?_)
    refine setAddT (s := { s' with toks := s'.toks + ((val i).length + 1) }) hu hext' hS' hk0 hR0 (by simp; omega) fun h' b hsb hS2 => ?_
    have hSi : SetT prog w R h0 ((List.range (i + 1)).map val) S h' := by rw [List.range_succ, List.map_append]; exact hS2
    refine wpAny_pure ⟨plainId_quiet PyProof.Rows.F.plain_set_update_loop _, ih (i + 1) _ (by omega) hlt (W.frame _ s' _ _ hst' (Nat.le_add_right _ _) fun b hb o e => ?_) (fun b o e => ?_) hSi fun s'' hm'' hS'' => ?_⟩
    · rw [hsb.2 b (fun h : b = S => hSf (by rw [← h]; exact hb))]; exact e
    · show h'.get? b = some o
      rw [hsb.2 b (fun h : b = S => by rw [h, hS0] at e; cases e)]
      exact hext' b o e
    · refine hR s'' (Moved.trans W.gtrans ((hm.mono hsub).then_heap (Nat.le_add_right _ _) fun b o hb e => ?_) hm'') hS''
      rw [hsb.2 b (fun h : b = S => hb (by rw [h]; exact List.mem_cons_self))]; exact e
end
section
variable {E : Value → Shared → Prop} {s : Shared}
theorem tab_fresh (f m : Nat) (ld : Bool) : TabOk (SetTable.fresh f m ld) [] := ⟨List.Pairwise.nil, rfl, (fun j hj => by cases hj), rfl, Nat.zero_le _, covers7, (by show 7 % 2 = 1; decide), (fun h j hm => by cases hm)⟩
theorem SetT_new {a : Addr} {h h0 : Heap} (e : h.get? a = some (newSet w)) : SetT prog w R h0 [] a h := by
  refine ⟨_, #[], 0, _, [], e, ⟨rfl, rfl, rfl⟩, rfl, ⟨rfl, fun i e k h1 => by simp at h1⟩, rfl, rfl, tab_fresh _ _ _, by show 0 * 5 < 7 * 3; decide, .inl rfl, List.nodup_nil, fun k => Iff.rfl⟩
theorem map_getT (ns : List (List Int)) : (List.range ns.length).map (fun i => ns.getD i []) = ns := by
  apply List.ext_getElem
  · simp
  · intro i h1 h2
    simp at h1 ⊢
    rw [List.getElem?_eq_getElem h1]; rfl
theorem call_setT {l : Addr} {items : Array Value} {ns : List (List Int)} {Q : Value → Shared → Prop}
    (hh : A.handled = none) (hu : A.units + 4 < cLine) (hl : s.heap.IsList l items) (hi : ∀ i v, items[i]? = some v → ∃ b, v = .ref b ∧ TupK prog w s.heap (ns.getD i []) b ∧ R b (ns.getD i [])) (hlen : items.size = ns.length) (hb : items.size ≤ 300)
    (h : ∀ (h' : Heap) (tk : Nat), SetT prog w R s.heap ns s.heap.objs.size h' →
      (∀ b o, b < s.heap.objs.size → s.heap.get? b = some o → h'.get? b = some o) → Q (.ref s.heap.objs.size) { s with heap := h', toks := tk }) :
    wpAny (model prog w) A (call (.type "set") [.ref l]) Q E s := by
  obtain ⟨c, tl, hmro⟩ := F.called_set.mro
  have hmade := F.called_set.made
  have hsub := F.called_set.sub
  refine wpAny_call (codeAny_of_tree ?_)
  show wpAny _ _ (callAny (.type "set") _) _ _ _
  refine wpAny_pure ⟨Code.quiet_builtin _ (by decide +kernel), codeAny_builtin F.entry_type_call ?_⟩
  rw [Around.under_plain (weight_type_call_type "set" [.ref l] []) rfl]
  have h1 := F.called_set.notType
  have h2 := F.called_set.canCreate
  have hct := F.typeCall_set_1 (.ref l)
  repeat (any_goals (first | assumption | wp_step))
  refine codeAny_mono (code_set_newL (.ref l) (E := E) (Q₁ := fun obj s₁ => obj = .ref s.heap.objs.size ∧ s₁ = { s with heap := s.heap.push (newSet w) }) ⟨rfl, rfl⟩) fun r s₁ hr => ?_
  cases r with
  | error e => exact hr
  | ok fl =>
    cases fl with
    | ret obj =>
      obtain ⟨rfl, rfl⟩ := hr
      have hS : (s.heap.push (newSet w)).get? s.heap.objs.size = some (newSet w) := Heap.get?_push_size _ rfl
      have hT : Shared.TypeIs { s with heap := s.heap.push (newSet w) } (.ref s.heap.objs.size) "set" := ⟨_, hS, rfl⟩
      have hli := F.called_set.init.lookup
      have hbi := F.called_set.init.bind (.ref s.heap.objs.size)
      repeat (any_goals (first | assumption | wp_step))
      refine codeAny_mono (codeAny_call_builtin (R := wants (fun r s₂ => r = .none ∧ ∃ h' tk, s₂ = { s with heap := h', toks := tk } ∧ SetT prog w R s.heap ns s.heap.objs.size h' ∧
          (∀ b o, b < s.heap.objs.size → s.heap.get? b = some o → h'.get? b = some o)) E) F.called_set.init.plain F.entry_set_init (check_set_init_1 hT ?_)) fun r₂ s₂ hr₂ => ?_
      · obtain ⟨ol, hol, hcl, nl, hdl⟩ := hl
        obtain ⟨ocls, odict, odata, oslots⟩ := ol
        simp only at hcl hdl
        subst hcl; subst hdl
        have hol' : (s.heap.push (newSet w)).get? l = some { cls := .type "list", dict := odict, data := .seq items nl, slots := oslots } := Heap.get?_push_of_some _ hol
        have hsls := F.sub_list_set
        have hslf := F.sub_list_frozenset
        have hne : (Value.type "list" == Value.type "dict") = false := by decide
        have hl1 : (s.heap.push (newSet w)).IsList l items := ⟨_, hol', rfl, nl, rfl⟩
        unfold Builtin.«set.__init__» noKeywords Builtin.Frozenset.updateFrom
        generalize hPI : pyIter = PI
        wp_walk
        subst hPI
        refine wpAny_pyIter_list hl1 ?_
        refine wpAny_bind (wpAny_runValue ?_)
        have hlS : l < s.heap.objs.size := Heap.lt_size hol
        have hh3 : A.in1.in1.in1.handled = none := by simp [hh]
        have hneI : l ≠ (s.heap.push (newSet w)).objs.size := by
          rw [Heap.size_push]; exact Nat.ne_of_lt (Nat.lt_succ_of_lt hlS)
        have hSf : s.heap.objs.size ∉ [(s.heap.push (newSet w)).objs.size, l] := by
          rw [Heap.size_push]; simp only [List.mem_cons, List.mem_singleton, List.not_mem_nil, or_false, not_or]
          exact ⟨Nat.ne_of_lt (Nat.lt_succ_self _), Nat.ne_of_gt hlS⟩
        refine update_loopT ((Walks.list hh3 _ l hneI items).toS) s.heap.objs.size
          hSf (by simp only [Around.in1_units]; omega) s.heap (Heap.get?_none_of_le (Nat.le_refl _)) (fun b hbm => ?hw0) (fun i => ns.getD i []) (fun i v hv => hi i v hv) hb (items.size - 0) 0 _ (by omega) (Nat.zero_le _)
          ⟨⟨_, Heap.get?_push_size _ rfl, rfl, rfl⟩, (hl1.push _)⟩ (fun b o e => Heap.get?_push_of_some _ (Heap.get?_push_of_some _ e)) ?hS0 ?hR
        case hw0 =>
          simp only [List.mem_cons, List.mem_singleton, List.not_mem_nil, or_false] at hbm
          rw [hbm, Heap.size_push]
          exact Heap.get?_none_of_le (Nat.le_succ _)
        case hS0 => exact SetT_new (Heap.get?_push_of_some _ hS)
        case hR =>
          intro s' hm hS'
          rw [hlen, map_getT] at hS'
          obtain ⟨h', g', d', tk', os'⟩ := s'
          have eg : g' = s.gens := hm.gens
          have ed : d' = s.drawn := hm.drawn
          have eo : os' = s.os := hm.os
          subst eg; subst ed; subst eo
          show wpAny _ _ _ _ _ _
          refine wpAny_pure ?_
          show wpAny _ _ (ret Value.none) _ _ _
          refine wpAny_pure ⟨rfl, h', tk', rfl, hS', fun b o hb e => ?_⟩
          have hb1 : b ≠ s.heap.objs.size := Nat.ne_of_lt hb
          have hb2 : b ≠ (s.heap.push (newSet w)).objs.size := by
            rw [Heap.size_push]; exact Nat.ne_of_lt (Nat.lt_succ_of_lt hb)
          exact hm.heap b o (by simp only [List.mem_cons, List.mem_singleton, List.not_mem_nil, or_false, not_or]; exact ⟨hb1, hb2⟩) (Heap.get?_push_of_some _ (Heap.get?_push_of_some _ e))
      · cases r₂ with
        | error e => exact hr₂
        | ok fl₂ =>
          cases fl₂ with
          | ret r =>
            obtain ⟨rfl, h', tk, rfl, hS', hk'⟩ := hr₂
            repeat (any_goals (first | assumption | wp_step))
            exact h _ _ hS' hk'
          | _ => exact hr₂.elim
    | _ => exact hr.elim
end
end
section
variable {prog : Program} {w : World} {A : Around} {E : Value → Shared → Prop} {s : Shared}
structure SetWalkG (prog : Program) (w : World) (s s' : Shared) (a I : Addr) (es : Array (Int × Value)) (fp : List Addr) (n : Nat) (L : List Value) (St : Nat → Heap → Prop) : Prop where
  walks : ∀ A : Around, A.handled = none → Walks prog w A I fp [I] n (fun i v => L[i]? = some v) St
  start : St 0 s'.heap
  mem : I ∈ fp
  new : s.heap.objs.size ≤ I
  fps : ∀ b ∈ fp, b = a ∨ s.heap.objs.size ≤ b
  len : L.length = n
  few : n = es.size
  perm : L.Perm (es.toList.map (·.2))
  keep : ∀ b o, s.heap.get? b = some o → s'.heap.get? b = some o
  gens : s'.gens = s.gens
  os : s'.os = s.os
  toks : s'.toks = s.toks
theorem iter_setG {a : Addr} {o : Obj} {es : Array (Int × Value)} {ep : Nat} {t : SetTable} {Q : Value → Shared → Prop} (ho : s.heap.get? a = some o) (hex : o.ExactSet) (hd : o.data = .set es ep t) (hf : t.fits es.size = true) (hg : GoodT (!w.params.followText "set-order") t) (hline : es.size ≤ sizeLine)
    (h : ∀ s' I fp n L St, SetWalkG prog w s s' a I es fp n L St → Q (.ref I) s') : wpAny (model prog w) A (pyIter (.ref a)) Q E s := by
  have hT : s.TypeIs (.ref a) "set" := ⟨o, ho, hex.1⟩
  have hlt : a < s.heap.objs.size := Heap.lt_size ho
  have hsz : ∀ o : Obj, (s.heap.push o).objs.size = s.heap.objs.size + 1 := fun o => Heap.size_push _ _
  have hSA : SetAt s.heap a es ep t := ⟨o, ho, hex.1, hd, hf⟩
  refine wpAny_pyIter_slot hT F.slot_set_iter (wpAny_call_entry F.slot_set_iter hT entry_set_iter' ?_ (F.args_set_iter_1 _))
  unfold Builtin.«frozenset.__iter__» Builtin.Frozenset.slot0 slotArgs
  simp only [List.isEmpty_nil, Bool.not_true, Bool.false_eq_true, ↓reduceIte, bind_assoc, List.length_nil, bne_self_eq_false]
  unfold Builtin.Frozenset.addrOf Builtin.Frozenset.sizeOf
  refine wpAny_bind (wpAny_pure ?_)
  try dsimp only
  refine wpAny_bind (wpAny_pure ?_)
  refine wpAny_bind (wpAny_bind (wpAny_setEntries_of ho hd hf (wpAny_pure ?_)))
  unfold setDrawn setsByText
  refine wpAny_bind (wpAny_bind (wpAny_setState_of ho hd hf ?_))
  dsimp only
  refine wpAny_bind (wpAny_bind (wpAny_askSetting (wpAny_pure (wpAny_pure ?_))))
  dsimp only
  split
  · rename_i hc
    have hc' : (!w.params.followText "set-order" && (!t.plain && decide (es.size > 1))) = true := hc
    refine wpAny_bind (drawOrder_any _ _ _ _ (by simp) fun ys d hp => ?_)
    have hyl : ys.length = es.size := by simpa using hp.length_eq
    refine wpAny_bind (wpAny_newObj_type ?_ (by show ((ys.map fun (i : Nat) => rawInt i).toArray).size ≤ sizeLine; simp; omega))
    refine wpAny_bind (wpAny_setEpoch_of (es := es) (t := t) (Heap.get?_push_of_some _ ho) hd hf ?_)
    refine wpAny_bind (wpAny_newObj_type (wpAny_pure ⟨_, rfl, "set_iterator", _, ⟨_, Heap.get?_push_size _ rfl, rfl⟩, slot_setiter_next'.lookup, ?_⟩))
    have hLp : (ys.filterMap fun p => (es[p]?).map (·.2)).Perm (es.toList.map (·.2)) := by
      refine (hp.filterMap _).trans ?_
      have e := filterMap_getElem?_range es
      rw [← e, List.map_filterMap]
    have hLl : (ys.filterMap fun p => (es[p]?).map (·.2)).length = es.size := by have := hLp.length_eq; simpa using this
    have hne : s.heap.objs.size ≠ (s.heap.push { cls := .type "tuple", data := .seq (ys.map fun (j : Nat) => rawInt j).toArray }).objs.size := by rw [Heap.size_push]; omega
    have W := fun (A : Around) (hh : A.handled = none) => walks_drawn (prog := prog) (w := w) hh (s.heap.push { cls := .type "tuple", data := .seq (ys.map fun (j : Nat) => rawInt j).toArray }).objs.size a s.heap.objs.size (by rw [hsz]; exact Nat.ne_of_lt (Nat.lt_succ_of_lt hlt)) hne es ep t ys hp
    refine h _ _ _ _ _ _ { walks := W, start := ?_, mem := by simp, new := by show s.heap.objs.size ≤ (s.heap.push _).objs.size; rw [hsz]; omega, fps := ?_, len := hLl, few := rfl, perm := hLp, keep := ?_, gens := rfl, os := rfl, toks := rfl }
    · refine ⟨⟨_, Heap.get?_push_size _ rfl, rfl, ?_⟩, hSA.at fun o e => Heap.get?_push_of_some _ (Heap.get?_push_of_some _ e), Heap.get?_push_of_some _ (Heap.get?_push_size _ rfl)⟩
      rfl
    · intro b hb
      simp only [List.mem_cons, List.not_mem_nil, or_false] at hb
      rcases hb with rfl | rfl | rfl
      · right; show s.heap.objs.size ≤ (s.heap.push _).objs.size; rw [hsz]; omega
      · left; rfl
      · right; exact Nat.le_refl _
    · exact fun b o e => Heap.get?_push_of_some _ (Heap.get?_push_of_some _ e)
  · rename_i hc
    have hc' : (!w.params.followText "set-order" && (!t.plain && decide (es.size > 1))) = false := Bool.eq_false_iff.mpr hc
    refine wpAny_bind (wpAny_pure ?_)
    refine wpAny_bind (wpAny_setEpoch_of (es := es) (t := t) ho hd hf ?_)
    refine wpAny_bind (wpAny_newObj_type (wpAny_pure ⟨_, rfl, "set_iterator", _, ⟨_, Heap.get?_push_size _ rfl, rfl⟩, slot_setiter_next'.lookup, ?_⟩))
    have hfp : ∀ b ∈ [s.heap.objs.size, a], b = a ∨ s.heap.objs.size ≤ b := by
      intro b hb
      simp only [List.mem_cons, List.not_mem_nil, or_false] at hb
      rcases hb with rfl | rfl
      · exact .inr (Nat.le_refl _)
      · exact .inl rfl
    by_cases hbt : w.params.followText "set-order" = true
    · have hLp : ((pickOrder (w.params.setOrder a ep) es).toList.map (·.2)).Perm (es.toList.map (·.2)) := (pick_perm _ es).map _
      have hLl : ((pickOrder (w.params.setOrder a ep) es).toList.map (·.2)).length = es.size := by have := hLp.length_eq; simpa using this
      have W := fun (A : Around) (hh : A.handled = none) => walks_text (prog := prog) hh s.heap.objs.size a (Nat.ne_of_lt hlt) es ep t hbt
      refine h _ _ _ _ _ _ { walks := W, start := ?_, mem := by simp, new := Nat.le_refl _, fps := hfp, len := hLl, few := rfl, perm := hLp, keep := fun b o e => Heap.get?_push_of_some _ e, gens := rfl, os := rfl, toks := rfl }
      refine ⟨⟨_, Heap.get?_push_size _ rfl, rfl, ?_⟩, hSA.at fun o e => Heap.get?_push_of_some _ e⟩
      rfl
    · have hbt' : w.params.followText "set-order" = false := Bool.eq_false_iff.mpr hbt
      have hdr : (!t.plain && decide (es.size > 1)) = false := by rw [hbt'] at hc'; simpa using hc'
      have hled : t.led = true := by rw [hg.1, hbt']; rfl
      have hLl : (es.toList.map (·.2)).length = es.size := by simp
      have W := fun (A : Around) (hh : A.handled = none) => walks_place (prog := prog) (w := w) hh s.heap.objs.size a (Nat.ne_of_lt hlt) es ep t hbt' hled hdr hg.2 hf
      refine h _ _ _ _ _ _ { walks := W, start := ?_, mem := by simp, new := Nat.le_refl _, fps := hfp, len := hLl, few := rfl, perm := List.Perm.refl _, keep := fun b o e => Heap.get?_push_of_some _ e, gens := rfl, os := rfl, toks := rfl }
      refine ⟨⟨_, Heap.get?_push_size _ rfl, rfl, ?_⟩, hSA.at fun o e => Heap.get?_push_of_some _ e⟩
      rfl
theorem collect_setG {a : Addr} {o : Obj} {es : Array (Int × Value)} {ep : Nat} {t : SetTable} {Q : List Value → Shared → Prop} (hh : A.handled = none) (ho : s.heap.get? a = some o) (hex : o.ExactSet) (hd : o.data = .set es ep t) (hf : t.fits es.size = true) (hg : GoodT (!w.params.followText "set-order") t) (hline : es.size ≤ sizeLine)
    (h : ∀ s' L, L.Perm (es.toList.map (·.2)) → s.heap.objs.size ≤ s'.heap.objs.size → (∀ b o, s.heap.get? b = some o → s'.heap.get? b = some o) → s'.gens = s.gens → s'.os = s.os → Q L s') :
    wpAny (model prog w) A (collect (.ref a)) Q E s := by
  unfold collect
  refine wpAny_bind (wpAny_runValue (codeAny_builtin F.entry_proto_collect ?_))
  rw [Around.under_plainId F.plain_proto_collect _]
  show wpAny _ A.in1 (newList [] >>= fun l => again (.builtin "list.__iadd__" ⟨[l, .ref a], []⟩)) _ _ s
  refine wpAny_bind (wpAny_newObj_type ?_)
  refine wpAny_pure ⟨plainId_quiet F.plain_list_iadd _, codeAny_builtin F.entry_list_iadd ?_⟩
  rw [Around.under_plainId F.plain_list_iadd _]
  show wpAny _ A.in1 (Builtin.List.listExtendWith (.ref s.heap.objs.size) (.ref a) (.ref s.heap.objs.size)) _ _ _
  have ho1 : (s.heap.push { cls := .type "list", data := .seq ([] : List Value).toArray }).get? a = some o := Heap.get?_push_of_some _ ho
  have hlt : a < s.heap.objs.size := Heap.lt_size ho
  have hT1 : ({ s with heap := s.heap.push { cls := .type "list", data := .seq ([] : List Value).toArray } } : Shared).TypeIs (.ref a) "set" := by
    exact ⟨o, ho1, hex.1⟩
  unfold Builtin.List.listExtendWith
  refine wpAny_bind (wpAny_typeOf hT1 ?_)
  have h1 : Builtin.List.listSameRef (.ref s.heap.objs.size) (.ref a) = false := by
    have : s.heap.objs.size ≠ a := (Nat.ne_of_lt hlt).symm
    simp [Builtin.List.listSameRef, this]
  have h2 : (Value.type "set" == Value.type "list") = false := by decide
  have h3 : (Value.type "set" == Value.type "tuple") = false := by decide
  simp only [h1, h2, h3, Bool.or_false, Bool.false_eq_true, if_false]
  refine wpAny_bind (iter_setG ho1 hex hd hf hg hline fun s' I fp n L St SW => ?_)
  have hT2 : s'.TypeIs (.ref a) "set" := by obtain ⟨o, ho, hc⟩ := hT1; exact ⟨o, SW.keep _ _ ho, hc⟩
  refine wpAny_bind (wpAny_holding (hint_set hT2 ?_))
  split
  · have hsz : ∀ o : Obj, (s.heap.push o).objs.size = s.heap.objs.size + 1 := fun o => Heap.size_push _ _
    have hSf : s.heap.objs.size ∉ fp := fun hm => by
      rcases SW.fps _ hm with e | e
      · exact absurd e.symm (Nat.ne_of_lt hlt)
      · have e' : (s.heap.push { cls := .type "list", data := .seq ([] : List Value).toArray }).objs.size ≤ s.heap.objs.size := e
        rw [hsz] at e'; exact absurd e' (Nat.not_succ_le_self _)
    have W := (SW.walks A.in1 (by simpa using hh)).toS
    have hSI : s.heap.objs.size ≠ I := fun e => hSf (e ▸ SW.mem)
    refine wpAny_bind (wpAny_rule ?_)
    have hS₁ : s'.heap.get? s.heap.objs.size = some { cls := .type "list", data := .seq ([] : List Value).toArray } := SW.keep _ _ (Heap.get?_push_size _ rfl)
    refine wpAny_bind ?_
    show wpAny _ A.in1 (updateSeq s.heap.objs.size (·.push .none) >>= fun _ => updateSeq s.heap.objs.size (·.pop)) _ _ _
    refine wpAny_bind (wpAny_updateSeq hS₁ rfl ?_)
    have hS₂ := Heap.get?_update_self (Obj.mapSeq (·.push Value.none)) hS₁ rfl
    refine wpAny_updateSeq hS₂ rfl ?_
    have hS₃ := Heap.get?_update_self (Obj.mapSeq (·.pop)) hS₂ rfl
    have oth : ∀ b o, b ≠ s.heap.objs.size → s'.heap.get? b = some o →
        ((s'.heap.update s.heap.objs.size (Obj.mapSeq (·.push Value.none))).update s.heap.objs.size (Obj.mapSeq (·.pop))).get? b = some o :=
      fun b o hb e => (Heap.get?_update_other _ _ (Ne.symm hb)).trans ((Heap.get?_update_other _ _ (Ne.symm hb)).trans e)
    have hst := SW.start
    refine wpAny_pure ⟨plainId_quiet F.plain_extend_loop _, codeAny_extend_loopS W (Nat.le_trans (Nat.le_of_eq SW.few) hline) _ hSf _ n 0 _ _ _ rfl (Nat.zero_le _)
      (W.frame 0 s' _ s'.toks hst (Nat.le_refl _) fun b hb o e => oth b o (fun h => hSf (h ▸ hb)) e) hS₃ (ItemsOf.nil _) fun s'' acc' c' hm hS' hacc => ?_⟩
    show wpAny _ A (load s.heap.objs.size >>= _) _ _ s''
    refine wpAny_bind (wpAny_load hS' ?_)
    have hL := items_list SW.len hacc
    refine wpAny_pure ?_
    show Q acc'.toList s''
    rw [hL]
    refine h s'' L SW.perm (Nat.le_of_lt (Heap.lt_size hS')) (fun b o e => ?_) ?_ ?_
    · have hb : b ≠ s.heap.objs.size := Nat.ne_of_lt (Heap.lt_size e)
      have hbI : b ≠ I := fun z => by
        have := SW.new
        have e' : (s.heap.push { cls := .type "list", data := .seq ([] : List Value).toArray }).objs.size ≤ I := this
        rw [hsz, ← z] at e'
        exact absurd (Heap.lt_size e) (Nat.not_lt.mpr (Nat.le_trans (Nat.le_succ _) e'))
      exact hm.heap b o (by simp [hb, hbI]) (oth b o hb (SW.keep b o (Heap.get?_push_of_some _ e)))
    · exact hm.gens.trans SW.gens
    · exact hm.os.trans SW.os
  · rename_i hc
    exact absurd (by decide +kernel) hc
end
def lexL (a b : Int × Int) : Prop := a.1 < b.1 ∨ (a.1 = b.1 ∧ a.2 < b.2)
theorem perm_lift {α β : Type} (f : α → β) : ∀ {l : List β} {W : List α}, l.Perm (W.map f) → ∃ Z : List α, Z.Perm W ∧ Z.map f = l := by
  intro l
  induction l with
  | nil => intro W q; have := q.length_eq; rw [List.length_map] at this; have := List.length_eq_zero_iff.mp this.symm; subst this; exact ⟨[], List.Perm.refl _, rfl⟩
  | cons a l ih =>
    intro W q
    have ha : a ∈ W.map f := q.mem_iff.mp (List.mem_cons_self ..)
    rw [List.mem_map] at ha
    obtain ⟨b, hb, rfl⟩ := ha
    obtain ⟨W1, W2, rfl⟩ := List.append_of_mem hb
    have pm : (W1 ++ b :: W2).Perm (b :: (W1 ++ W2)) := List.perm_middle
    have q2 := q.trans (pm.map f)
    rw [List.map_cons] at q2
    obtain ⟨Z, hZ, e⟩ := ih (List.Perm.cons_inv q2)
    exact ⟨b :: Z, (hZ.cons b).trans pm.symm, by rw [List.map_cons, e]⟩
def refA : Value → Addr
  | .ref b => b
  | _ => 0
section
open PySem.W
theorem sort_rest {X : Cx} {pins : List (Addr × Obj)} {σ : St} {H : Hp} {s : Shared} {Q : VK} (I : Inv X pins σ H s) (its : List Value) (rs : List Addr) (f g : Nat → Int) (B : Int) (hlen : its.length = rs.length) (h64 : rs.length < 64) (eIt : ∀ i (_ : i < rs.length), its.getD i Value.none = .ref (rs.getD i 0))
    (tupAt0 : ∀ i (_ : i < rs.length), ∃ o n t1 t2, s.heap.get? (rs.getD i 0) = some o ∧ o.cls = .type "tuple" ∧ o.data = .seq #[.int (f i) t1, .int (g i) t2] n)
    (hb : ∀ i, i < rs.length → 0 ≤ g i ∧ g i < B) (hd : ∀ i j, i < j → j < rs.length → f i ≠ f j ∨ g i ≠ g j)
    (q : ∀ (l : Addr) (ps : List Nat), ps.Perm (List.range rs.length) → ps.Pairwise (fun i j => codeT f g B i ≤ codeT f g B j) → H l = none → Q (.ref l) (upd H l (.lst (ps.map fun i => V.ref (rs.getD i 0)))))
    {A' : Around} {P : PySem.Fin → Shared → Prop} {E' : Value → Shared → Prop} (hP : ∀ s3, EP X pins σ Q (.ref s.heap.objs.size) s3 → P (.done (.ret .none)) s3) :
    wpAny (model X.prog X.w) A' (Builtin.«list.sort» ⟨[.ref s.heap.objs.size], []⟩) P E' { s with heap := s.heap.push (seqObj "list" its.toArray 0) } := by
  have hoL : (s.heap.push (seqObj "list" its.toArray 0)).get? s.heap.objs.size = some (seqObj "list" its.toArray 0) := Heap.get?_push_size _ rfl
  have keep : ∀ b o, s.heap.get? b = some o → (s.heap.push (seqObj "list" its.toArray 0)).get? b = some o := fun b o e => Heap.get?_push_of_some _ e
  obtain ⟨m, hnm, hlk⟩ := id I.loc
  have F : Fr X.base X.env.locals s.heap m := ⟨hnm, I.bk, Nat.le_trans I.ok.bsz I.ok.above⟩
  have hL : X.env.locals < s.heap.objs.size := F.ns.lt
  have hge : s.heap.get? s.heap.objs.size = none := Heap.get?_none_of_le (Nat.le_refl _)
  have nT : H s.heap.objs.size = none := I.hok.fresh (Nat.le_refl _)
  have fin : ∀ (hh : Heap) (c : Nat) (ps : List Nat), ps.Perm (List.range rs.length) → ps.Pairwise (fun i j => codeT f g B i ≤ codeT f g B j) → (∀ b o, b ≠ X.env.locals → s.heap.get? b = some o → hh.get? b = some o) → hh.Ns X.env.locals m →
      hh.get? s.heap.objs.size = some (seqObj "list" (List.toArray (ps.map fun i => its.getD i Value.none)) c) → EP X pins σ Q (.ref s.heap.objs.size) { s with heap := hh } := by
    intro hh c ps hp hpw hk hns eD
    have I1 : Inv X pins σ H { s with heap := hh } := I.butFrame (t' := s.toks) hnm hk hns
    have rv' := vals_perm eIt (ps := ps) fun i hi => List.mem_range.mp (hp.mem_iff.mp hi)
    have n0 : s.heap.objs.size ∉ X.ex → X.s₀.heap.get? s.heap.objs.size = none := fun hx => by
      cases z : X.s₀.heap.get? s.heap.objs.size with
      | none => rfl
      | some o =>
        obtain ⟨ob, e⟩ := I.base.there _ o z hx
        rw [hge] at e; cases e
    have I2 := I1.adoptN (a := s.heap.objs.size) (o := .lst (ps.map fun i => V.ref (rs.getD i 0))) nT ⟨?hz, _, c, rv', eD⟩ n0 (Nat.ne_of_gt hL) ?hc ?hp
    · exact ⟨.ref _, _, I2, rfl, q _ ps hp hpw nT⟩
    case hz =>
      rw [List.length_map, hp.length_eq, List.length_range]
      exact Nat.le_trans (Nat.le_of_lt h64) (by decide)
    case hc =>
      intro x c e z
      obtain ⟨v, o, ho, _⟩ := I.cell x c e
      rw [z, hge] at ho; cases ho
    case hp =>
      intro p hp z
      have e := (I.pin p hp).1
      rw [z, hge] at e; cases e
  by_cases h2 : 2 ≤ rs.length
  · have keepAll : ∀ h, Fr X.base X.env.locals h m → News X.base X.env.locals h (allNews X.base s.heap X.env.locals) → ∀ b o, b ≠ X.env.locals → s.heap.get? b = some o → h.get? b = some o := fun h F' N' b o hb e => by
      cases z : X.base.get? b with
      | some o' =>
        have := I.bk b o' z
        rw [e] at this; cases this
        exact F'.keep b _ z
      | none => exact (N' (b, o) (mem_allNews hb z e)).1
    have nL : ∀ {b : Addr} {o : Obj}, s.heap.get? b = some o → (∀ es ep, o.data ≠ .dict es ep) → b ≠ X.env.locals := fun {b o} e d z => by
      obtain ⟨o', es, ep, e', d', _⟩ := hnm
      rw [z, e'] at e; cases e
      exact d _ _ d'
    have N : News X.base X.env.locals s.heap (allNews X.base s.heap X.env.locals) := news_all
    refine kat_list_sort (s := { s with heap := s.heap.push (seqObj "list" its.toArray 0) }) (F.kept keep) (N.grown keep) hoL (Nat.ne_of_gt hL) (Heap.get?_none_of_le (Nat.le_trans F.above (Nat.le_of_lt hL)))
      (fun p hp => Nat.ne_of_lt (Heap.lt_size (N p hp).1)) (by omega) (by omega) fun e1 h' F' N' => ?_
    have N2 : News X.base X.env.locals h' (allNews X.base s.heap X.env.locals) := fun p hp => N' p (List.mem_cons_of_mem _ hp)
    have tupAt : ∀ i (_ : i < rs.length), ∃ o n t1 t2, h'.get? (rs.getD i 0) = some o ∧ o.cls = .type "tuple" ∧ o.data = .seq #[.int (f i) t1, .int (g i) t2] n := fun i hi => by
      obtain ⟨o, n, t1, t2, e, hc, hdt⟩ := tupAt0 i hi
      exact ⟨o, n, t1, t2, keepAll h' F' N2 _ _ (nL e (fun _ _ z => by rw [hdt] at z; cases z)) e, hc, hdt⟩
    obtain ⟨fs, kt, kl, ki⟩ := katTups_of (h := h') (vs := its) fun v hv => by
      obtain ⟨i, hi, rfl⟩ := List.getElem_of_mem hv
      obtain ⟨o, n, t1, t2, a1, a2, a3⟩ := tupAt i (by omega)
      have := eIt i (by omega)
      rw [List.getD_eq_getElem?_getD, List.getElem?_eq_getElem hi] at this
      exact ⟨_, o, _, n, f i, t1, this, a1, a2, a3, rfl⟩
    refine kat_kind (T := .type "int") kt (by omega) (fun v hv => ?_) rfl ?_
    · obtain ⟨x, t, rfl⟩ := ki v hv
      exact .now
    have hbt : (Value.type "int" != Value.type "tuple") = true := rfl
    rw [hbt]
    have hn : 0 < its.length := by omega
    refine kasWp_run (n := its.length) (lt := ltE (codeT f g B)) (fun i j C hi hj hC => ?_) _ (asks_sort hn) ?_
    · obtain ⟨o, n, t1, t2, a1, a2, a3⟩ := tupAt i (by omega)
      obtain ⟨o', n', t1', t2', b1, b2, b3⟩ := tupAt j (by omega)
      unfold kas_ask
      rw [eIt i (by omega), eIt j (by omega)]
      have hc := codeT_lt (f := f) (hb i (by omega)).1 (hb i (by omega)).2 (hb j (by omega)).1 (hb j (by omega)).2
      have hC' : C (decide (codeT f g B i < codeT f g B j)) _ := hC
      rw [hc] at hC'
      refine kat_lt a1 a3 b1 b3 (kat_cons (wpAny_eqBool_int ?_))
      cases z : (f i == f j) with
      | true =>
        rw [z, if_pos rfl] at hC'
        refine kat_yes (kat_cons (wpAny_eqBool_int ?_))
        cases y : (g i == g j) with
        | true =>
          refine kat_yes (kat_nil ?_)
          have : g i = g j := by simpa using y
          rw [decide_eq_false (by omega)] at hC'
          exact hC'
        | false => exact kat_no (kat_one _ _ (PyProof.Rows.lt_int hC'))
      | false =>
        rw [z, if_neg (by simp)] at hC'
        exact kat_no (oneLt_int hC')
    · obtain ⟨hp, ha⟩ := run_sort (e := codeT f g B) (n := its.length) hn fun i j hij hj => codeT_ne (hb i (by omega)).1 (hb i (by omega)).2 (hb j (by omega)).1 (hb j (by omega)).2 (hd i j hij (by omega))
      generalize kasRun (ltE (codeT f g B)) (kas_sort its.length) = out at hp ha ⊢
      have hp' : out.toList.Perm (List.range rs.length) := by
        have := Array.perm_iff_toList_perm.mp hp
        rw [hlen] at this
        exact this
      have hsz : out.size = its.length := by have := hp'.length_eq; rw [List.length_range] at this; rw [← Array.length_toList, this, hlen]
      rw [← hsz] at ha
      refine KasFin.intro F' N' (.head fun q hq z => absurd (Heap.lt_size (N q hq).1) (by rw [z]; exact Nat.lt_irrefl _)) fun hh c F2 N3 => ?_
      have N4 : News X.base X.env.locals hh (allNews X.base s.heap X.env.locals) := fun p hp => N3 p (List.mem_cons_of_mem _ hp)
      obtain ⟨eD, nDL, nDb⟩ := N3 _ List.mem_cons_self
      exact hP _ (fin hh c out.toList hp' (ascP_pairwise ha) (keepAll hh F2 N4) F2.ns eD)
  · have s2 : its.toArray.size < 2 := by rw [List.size_toArray]; omega
    rw [list_sort_plain]
    refine wpAny_bind (listItems_at hoL rfl ?_)
    refine wpAny_bind (listUpdate_at hoL rfl ?_)
    obtain ⟨e1, ho1⟩ : ∃ e1, (Heap.update (s.heap.push (seqObj "list" its.toArray 0)) s.heap.objs.size (Obj.mapSeq fun _ => (#[] : Array Value))).get? s.heap.objs.size = some (seqObj "list" #[] e1) := ⟨_, get?_update_seq hoL fun _ => #[]⟩
    refine wpAny_bind (seqEpoch_at ho1 rfl ?_)
    refine wpAny_bind (wpAny_newTuple ?_)
    refine wpAny_bind (wpAny_newList ?_)
    refine wpAny_holding ?_
    dsimp only
    rw [if_pos s2, if_pos s2]
    refine wpAny_bind (wpAny_pure ?_)
    rw [StateT.run_pure]
    refine wpAny_bind (wpAny_pure ?_)
    dsimp only
    have ho2 := Heap.get?_push_of_some (seqObj "list" #[] 0) (Heap.get?_push_of_some (seqObj "tuple" its.toArray 0) ho1)
    refine wpAny_bind (seqEpoch_at ho2 rfl ?_)
    refine wpAny_bind (listUpdate_at ho2 rfl ?_ (hsz2 := by rw [Array.size_map]; show (pairsOf its).size ≤ _; rw [pairsOf_size, sizeLine_eq]; omega))
    simp only [bne_self_eq_false, Bool.false_eq_true, if_false]
    have e : ((its.toArray.zip its.toArray).map (·.2)) = its.toArray := by
      apply Array.ext'
      simp [List.map_snd_zip]
    have eI : (List.range rs.length).map (fun i => its.getD i Value.none) = its := by rw [← hlen]; exact map_getD_range its
    obtain ⟨c2, hc2⟩ := (⟨_, get?_update_seq ho2 fun _ => ((its.toArray.zip its.toArray).map (·.2))⟩ : ∃ c2, (Heap.update _ s.heap.objs.size (Obj.mapSeq fun _ => ((its.toArray.zip its.toArray).map (·.2)))).get? s.heap.objs.size = some (seqObj "list" ((its.toArray.zip its.toArray).map (·.2)) c2))
    refine wpAny_pure (hP _ (fin _ c2 (List.range rs.length) (List.Perm.refl _) ?_ (fun b o hbL e0 => ?_) ?_ ?_))
    · rw [List.pairwise_iff_getElem]
      intro i j hi hj hij
      rw [List.length_range] at hj
      omega
    · have hlt := Heap.lt_size e0
      have hne : s.heap.objs.size ≠ b := Nat.ne_of_gt hlt
      refine (Heap.get?_update_other _ _ hne).trans ?_
      exact Heap.get?_push_of_some _ (Heap.get?_push_of_some _ ((Heap.get?_update_other _ _ hne).trans (keep b o e0)))
    · obtain ⟨o', es, ep, e', r'⟩ := hnm
      refine ⟨o', es, ep, ?_, r'⟩
      have hne : s.heap.objs.size ≠ X.env.locals := Nat.ne_of_gt hL
      refine (Heap.get?_update_other _ _ hne).trans ?_
      exact Heap.get?_push_of_some _ (Heap.get?_push_of_some _ ((Heap.get?_update_other _ _ hne).trans (keep _ o' e')))
    · rw [eI]; exact hc2.trans (congrArg (fun z => some (seqObj "list" z c2)) e)
end
section
open PySem.W
theorem nd_inj {α : Type} {l : List α} (nd : l.Nodup) {i j : Nat} (hi : i < l.length) (hj : j < l.length) (e : l[i] = l[j]) : i = j := by
  have pw := List.pairwise_iff_getElem.mp nd
  rcases Nat.lt_trichotomy i j with z | z | z
  · exact absurd e (pw i j hi hj z)
  · exact z
  · exact absurd e.symm (pw j i hj hi z)
theorem items_two {P : Program} {w : World} {x y : Int} {vs : List Value} (h : ItemsAre (intKind P w) [x, y] vs) : ∃ t1 t2, vs = [.int x t1, .int y t2] := by
  cases h with
  | cons a b =>
    cases b with
    | cons c d =>
      cases d
      obtain ⟨t1, e1⟩ := Value.isInt_shape a
      obtain ⟨t2, e2⟩ := Value.isInt_shape c
      exact ⟨t1, t2, by rw [e1, e2]⟩
theorem sorted_setT {X : Cx} {pins : List (Addr × Obj)} {σ : St} {H : Hp} {s : Shared} {Q : VK} (I : Inv X pins σ H s) (hh : X.A.handled = none) {a : Addr} {R : Addr → List Int → Prop} {ms : List (List Int)} {h0 : Heap} (hS : SetT X.prog X.w R h0 ms a s.heap) (ext : ∀ b o, h0.get? b = some o → s.heap.get? b = some o) (h64 : ms.length < 64) (B : Int)
    (hR : ∀ b k, R b k → ∃ x y : Int, k = [x, y] ∧ 0 ≤ y ∧ y < B ∧ SqT X.K H b [.int x, .int y])
    (q : ∀ (l : Addr) (qs : List Addr) (ps : List (Int × Int)), Paired (fun q (t : Int × Int) => R q [t.1, t.2]) qs ps → ps.Pairwise lexL → (∀ t : Int × Int, t ∈ ps ↔ [t.1, t.2] ∈ ms) → H l = none → Q (.ref l) (upd H l (.lst (qs.map V.ref)))) :
    wpAny (model X.prog X.w) X.A (call (.builtin "sorted") [.ref a]) (EP X pins σ Q) X.xe s := by
  obtain ⟨o, es, ep, t, L, ho, hex, hd, hE, hf, hled, T, hroom, hmask, hn, hL⟩ := hS
  have hEl : es.size = L.length := by have := hE.1; simpa using this
  have hLm : L.length ≤ ms.length := nodup_len hn fun k hk => (hL k).mp hk
  refine Calls.call_function_entry kind_sorted plain_sorted entry_sorted (args_sorted1 _) ?_
  unfold Builtin.«sorted»
  refine wpAny_bind (m := checkCount "sorted" 1 1 _) (wpAny_pure ?_)
  refine wpAny_bind (collect_setG (by simpa using hh) ho hex hd hf ⟨hled, T.rise⟩ (line_of (by omega)) fun s1 Lv hp hsz hk hg hos => ?_)
  have I1 : Inv X pins σ H s1 := I.keptD hk hg hos
  obtain ⟨Z, hZ, eZ⟩ := perm_lift (fun e : Int × Value => e.2) hp
  obtain ⟨Ks, hKs, hEZ⟩ := hE.perm hZ
  have hZl : Z.length = Ks.length := hEZ.1
  have hLv : Lv.length = Ks.length := by rw [← eZ, List.length_map]; exact hZl
  have hKl : Ks.length < 64 := by have := hKs.length_eq; omega
  have hat : ∀ i (hi : i < Ks.length), ∃ b x y, Lv.getD i Value.none = .ref b ∧ Ks[i] = [x, y] ∧ TupK X.prog X.w h0 [x, y] b ∧ 0 ≤ y ∧ y < B ∧ R b [x, y] := fun i hi => by
    have hzi : i < Z.length := by omega
    obtain ⟨b, e1, e2, e3, e4⟩ := hEZ.2 i Z[i] Ks[i] (List.getElem?_eq_getElem hzi) (List.getElem?_eq_getElem hi)
    obtain ⟨x, y, ek, h1, h2, h3⟩ := hR b _ e4
    refine ⟨b, x, y, ?_, ek, ek ▸ e2, h1, h2, ek ▸ e4⟩
    rw [← eZ, List.getD_eq_getElem?_getD, List.getElem?_map, List.getElem?_eq_getElem hzi]
    exact e1
  have hfg : ∀ i (hi : i < Ks.length), ∃ b, Lv.getD i Value.none = .ref b ∧ (Lv.map refA).getD i 0 = b ∧ Ks[i] = [(Ks.getD i []).getD 0 0, (Ks.getD i []).getD 1 0] ∧ TupK X.prog X.w h0 [(Ks.getD i []).getD 0 0, (Ks.getD i []).getD 1 0] b ∧ 0 ≤ (Ks.getD i []).getD 1 0 ∧ (Ks.getD i []).getD 1 0 < B ∧ R b [(Ks.getD i []).getD 0 0, (Ks.getD i []).getD 1 0] := fun i hi => by
    obtain ⟨b, x, y, e1, e2, e3⟩ := hat i hi
    have ek : Ks.getD i [] = [x, y] := by rw [List.getD_eq_getElem?_getD, List.getElem?_eq_getElem hi, Option.getD_some, e2]
    refine ⟨b, e1, ?_, ?_⟩
    · rw [List.getD_eq_getElem?_getD, List.getElem?_eq_getElem (show i < Lv.length by omega)] at e1
      rw [List.getD_eq_getElem?_getD, List.getElem?_map, List.getElem?_eq_getElem (show i < Lv.length by omega)]
      show refA Lv[i] = b
      rw [show Lv[i] = Value.ref b from e1]
      rfl
    · rw [ek]
      exact ⟨e2, e3⟩
  have hrl : (Lv.map refA).length = Ks.length := by rw [List.length_map, hLv]
  refine wpAny_bind (wpAny_newList ?_)
  have hoL : (s1.heap.push (seqObj "list" Lv.toArray 0)).get? s1.heap.objs.size = some (seqObj "list" Lv.toArray 0) := Heap.get?_push_size _ rfl
  show wpAny _ _ _ _ _ { s1 with heap := s1.heap.push (seqObj "list" Lv.toArray 0) }
  refine wpAny_bind (wpAny_holding (wpAny_call_entry slot_list_sort ⟨_, hoL, rfl⟩ entry_list_sort ?body (args_list_sort _)))
  refine sort_rest I1 Lv (Lv.map refA) (fun i => (Ks.getD i []).getD 0 0) (fun i => (Ks.getD i []).getD 1 0) B (by rw [List.length_map]) (by omega) (fun i hi => ?_) (fun i hi => ?_) (fun i hi => ?_) (fun i j hij hj => ?_) (Q := Q) (fun l ps hps hpw hl => ?_) (fun s3 h3 => ⟨_, rfl, wpAny_pure ⟨_, rfl, h3⟩⟩)
  · obtain ⟨b, e1, e2, _⟩ := hfg i (by omega)
    rw [e1, e2]
  · obtain ⟨b, e1, e2, e3, ⟨ob, its, n, e, hc, hdt, hit⟩, _⟩ := hfg i (by omega)
    obtain ⟨t1, t2, ev⟩ := items_two hit
    refine ⟨ob, n, t1, t2, by rw [e2]; exact hk _ _ (ext _ _ e), hc, ?_⟩
    rw [hdt]
    congr 1
    exact Array.toList_inj.mp ev
  · obtain ⟨b, e1, e2, e3, e4, e5, e6, _⟩ := hfg i (by omega)
    exact ⟨e5, e6⟩
  · obtain ⟨b, _, _, e3, _⟩ := hfg i (by omega)
    obtain ⟨b', _, _, e3', _⟩ := hfg j (by omega)
    have nd := hKs.nodup_iff.mpr hn
    refine Classical.byContradiction fun hc => ?_
    have h1 : (Ks.getD i []).getD 0 0 = (Ks.getD j []).getD 0 0 := Classical.byContradiction fun z => hc (.inl z)
    have h2 : (Ks.getD i []).getD 1 0 = (Ks.getD j []).getD 1 0 := Classical.byContradiction fun z => hc (.inr z)
    have : Ks[i]'(by omega) = Ks[j]'(by omega) := by rw [e3, e3', h1, h2]
    have := nd_inj nd _ _ this
    omega
  · have hlt : ∀ i ∈ ps, i < Ks.length := fun i hi => by
      have := List.mem_range.mp (hps.mem_iff.mp hi)
      omega
    have key := q l (ps.map fun i => (Lv.map refA).getD i 0) (ps.map fun i => ((Ks.getD i []).getD 0 0, (Ks.getD i []).getD 1 0)) ?_ ?_ ?_ hl
    · rw [List.map_map] at key
      exact key
    · clear hpw hps
      induction ps with
      | nil => exact .nil
      | cons i ps ih =>
        obtain ⟨b, e1, e2, e3, e4, e5, e6, e7⟩ := hfg i (hlt i (List.mem_cons_self ..))
        exact .cons (by show R ((Lv.map refA).getD i 0) _; rw [e2]; exact e7) (ih fun j hj => hlt j (List.mem_cons_of_mem _ hj))
    · rw [List.pairwise_map]
      have ndp : ps.Nodup := hps.nodup_iff.mpr List.nodup_range
      refine List.Pairwise.imp_of_mem (fun {i j} hi hj hij => ?_) (List.Pairwise.and hpw ndp)
      obtain ⟨hle, hne⟩ := hij
      obtain ⟨b, _, _, e3, _, e5, e6, _⟩ := hfg i (hlt i hi)
      obtain ⟨b', _, _, e3', _, e5', e6', _⟩ := hfg j (hlt j hj)
      have hdf : (Ks.getD i []).getD 0 0 ≠ (Ks.getD j []).getD 0 0 ∨ (Ks.getD i []).getD 1 0 ≠ (Ks.getD j []).getD 1 0 := by
        refine Classical.byContradiction fun hc => ?_
        have h1 : (Ks.getD i []).getD 0 0 = (Ks.getD j []).getD 0 0 := Classical.byContradiction fun z => hc (.inl z)
        have h2 : (Ks.getD i []).getD 1 0 = (Ks.getD j []).getD 1 0 := Classical.byContradiction fun z => hc (.inr z)
        have : Ks[i]'(hlt i hi) = Ks[j]'(hlt j hj) := by rw [e3, e3', h1, h2]
        exact hne (nd_inj (hKs.nodup_iff.mpr hn) _ _ this)
      have hne2 := codeT_ne (f := fun i => (Ks.getD i []).getD 0 0) (g := fun i => (Ks.getD i []).getD 1 0) (B := B) (i := i) (j := j) e5 e6 e5' e6' hdf
      have hlt2 : codeT (fun i => (Ks.getD i []).getD 0 0) (fun i => (Ks.getD i []).getD 1 0) B i < codeT (fun i => (Ks.getD i []).getD 0 0) (fun i => (Ks.getD i []).getD 1 0) B j := by omega
      have hc := codeT_lt (f := fun i => (Ks.getD i []).getD 0 0) (g := fun i => (Ks.getD i []).getD 1 0) (B := B) (i := i) (j := j) e5 e6 e5' e6'
      rw [decide_eq_true hlt2] at hc
      by_cases z : (Ks.getD i []).getD 0 0 = (Ks.getD j []).getD 0 0
      · rw [if_pos (by simpa using z)] at hc
        exact .inr ⟨z, of_decide_eq_true hc.symm⟩
      · rw [if_neg (by simpa using z)] at hc
        exact .inl (of_decide_eq_true hc.symm)
    · rintro ⟨x, y⟩
      rw [← hL, ← hKs.mem_iff, List.mem_map]
      constructor
      · rintro ⟨i, hi, e⟩
        obtain ⟨b, _, _, e3, _⟩ := hfg i (hlt i hi)
        cases e
        rw [← e3]
        exact List.getElem_mem _
      · intro hm
        obtain ⟨i, hi, e⟩ := List.getElem_of_mem hm
        refine ⟨i, hps.mem_iff.mpr (List.mem_range.mpr (by omega)), ?_⟩
        have ek : Ks.getD i [] = [x, y] := by rw [List.getD_eq_getElem?_getD, List.getElem?_eq_getElem hi, Option.getD_some, e]
        rw [ek]
        rfl
end
def rSortST (K : PySem.W.Frag) : List V → Hp → VK → Prop := fun xs H Q => ∃ (p : Addr) (rs : List Addr) (ts : List (Int × Int)) (B : Int), xs = [.ref p] ∧ SqL K H p (rs.map V.ref) ∧ rs.length < 64 ∧ Paired (fun r (t : Int × Int) => SqT K H r [.int t.1, .int t.2]) rs ts ∧ (∀ t ∈ ts, 0 ≤ t.2 ∧ t.2 < B) ∧
  ∀ (l : Addr) (qs : List Addr) (ps : List (Int × Int)), Paired (fun q (t : Int × Int) => ∃ i : Nat, rs[i]? = some q ∧ ts[i]? = some t) qs ps → ps.Pairwise lexL → (∀ t, t ∈ ps ↔ t ∈ ts) → H l = none → Q (.ref l) (upd H l (.lst (qs.map V.ref)))
def tSortST (K : PySem.W.Frag) (ta : TA) : TE := fun σ H Q => ta σ H fun vs H1 => rSortST K vs H1 Q
theorem paired_of {α β : Type} {F : α → β → Prop} : ∀ {l : List α} {m : List β}, Paired F l m → ∀ (i : Nat) (a : α), l[i]? = some a → ∃ b, m[i]? = some b ∧ F a b
  | _, _, .nil, i, a, h => by simp at h
  | _, _, .cons r t, 0, a, h => by simp at h; subst h; exact ⟨_, rfl, r⟩
  | _, _, .cons r t, i + 1, a, h => by simp at h; obtain ⟨b, q1, q2⟩ := paired_of t i a h; exact ⟨b, by simpa using q1, q2⟩
theorem pe_sortST {X : Cx} {K : PySem.W.Frag} {k : Nat} (hK : X.K = K) (hr : Room k X.A) {a : Expr} {ta : TA} {p p2 pos pos2 : Pos} (hcalm : X.calm = true) (hg1 : Gl X "sorted") (hm1 : X.mg "sorted" = none) (hg2 : Gl X "set") (hm2 : X.mg "set" = none) (ha : PA X [a] ta)
    (hs : starEach [a] X.env = [(false, eval a X.env)] := by rfl) (hs2 : starEach [.Call (.Name "set" p2) [a] [] pos2] X.env = [(false, eval (.Call (.Name "set" p2) [a] [] pos2) X.env)] := by rfl) :
    PE X (.Call (.Name "sorted" p) [.Call (.Name "set" p2) [a] [] pos2] [] pos) (tSortST K ta) := by
  subst hK
  intro pins s σ H Q I h
  refine wpAny_Call_Name_kw (ld_blt I hg1 hm1 bt_sorted ?_ (by decide) (by decide))
  refine PyProof.Rows.callWith_builtin1 ?_ hs2 rfl
  rw [hs2]
  show wpAny _ _ (spliced ((false, eval (.Call (.Name "set" p2) [a] [] pos2) X.env) :: backTo pos [])) _ _ s
  refine Calls.spliced_cons ?_
  refine wpAny_Call_Name_kw (ld_blt I hg2 hm2 bt_set ?_ (by decide) (by decide))
  refine PyProof.Rows.callWith_type1 (thn (ha pos2 pins s σ H _ I h) fun us s1 ⟨vs, H1, I1, r1, q1⟩ => ?_) hs rfl
  obtain ⟨sa, rs, ts, B, rfl, hq, h64, hpr, hB, q⟩ := q1
  obtain ⟨u, rfl, rx⟩ := vals1 r1
  cases rx
  obtain ⟨its, rv, pl, hz⟩ := I1.list hq
  have hlen := rv.length
  rw [List.length_map] at hlen
  have hts : rs.length = ts.length := hpr.length
  have hu := hr.units
  let R : Addr → List Int → Prop := fun b k => ∃ (i : Nat) (t : Int × Int), rs[i]? = some b ∧ ts[i]? = some t ∧ k = [t.1, t.2] ∧ SqT X.K H1 b [.int t.1, .int t.2]
  have hi : ∀ i v, its.toArray[i]? = some v → ∃ b, v = .ref b ∧ TupK X.prog X.w s1.heap ((ts.map fun t => [t.1, t.2]).getD i []) b ∧ R b ((ts.map fun t => [t.1, t.2]).getD i []) := fun i v hv => by
    rw [List.getElem?_toArray] at hv
    have hil : i < its.length := (List.getElem?_eq_some_iff.mp hv).1
    have hir : i < rs.length := by omega
    have e1 := refs_at rv i hil hir
    have e2 : v = .ref rs[i] := by
      rw [List.getElem?_eq_getElem hil] at hv
      cases hv
      exact e1
    obtain ⟨t, et, ht⟩ := paired_of hpr i rs[i] (List.getElem?_eq_getElem hir)
    have eg : (ts.map fun t => [t.1, t.2]).getD i [] = [t.1, t.2] := by rw [List.getD_eq_getElem?_getD, List.getElem?_map, et]; rfl
    rw [eg]
    refine ⟨rs[i], e2, ?_, i, t, List.getElem?_eq_getElem hir, et, rfl, ht⟩
    obtain ⟨it, rt, ⟨o, e, hc, n, hdt⟩, _⟩ := I1.tuple ht
    refine ⟨o, it.toArray, n, e, hc, hdt, ?_⟩
    cases rt with
    | cons a b => cases b with
      | cons c d =>
        cases d
        obtain ⟨t1, rfl⟩ := a
        obtain ⟨t2, rfl⟩ := c
        exact .cons (intKind_is _ _ _ _) (.cons (intKind_is _ _ _ _) .nil)
  refine call_setT (R := R) (ns := ts.map fun t => [t.1, t.2]) (I.ok.hd hcalm) (by omega) pl.isList hi (by simp; omega) (by simp; omega) fun h' tk hS hk => ?_
  refine Calls.spliced_nil ?_
  have hk' : ∀ b o, s1.heap.get? b = some o → h'.get? b = some o := fun b o e => hk b o (Heap.lt_size e) e
  have I2 : Inv X pins σ H1 { s1 with heap := h', toks := tk } := I1.kept hk'
  refine sorted_setT I2 (I.ok.hd hcalm) hS hk' (by rw [List.length_map]; omega) B (fun b k hbk => ?_) fun l qs ps h1 h2 h3 h4 => q l qs ps (Paired.mapP h1 fun b t hb => ?_) h2 (fun t => ?_) h4
  · obtain ⟨i, t, _, ht, ek, hsq⟩ := hbk
    exact ⟨t.1, t.2, ek, (hB t (List.mem_of_getElem? ht)).1, (hB t (List.mem_of_getElem? ht)).2, hsq⟩
  · obtain ⟨i, u, h5, h6, ek, _⟩ := hb
    have e1 : t.1 = u.1 := by injection ek
    have e2 : t.2 = u.2 := by injection ek with _ e; injection e
    exact ⟨i, h5, by rw [h6, Prod.ext e1 e2]⟩
  · rw [h3 t, List.mem_map]
    constructor
    · rintro ⟨u, hu, e⟩
      have e1 : u.1 = t.1 := by injection e
      have e2 : u.2 = t.2 := by injection e with _ e; injection e
      have : u = t := Prod.ext e1 e2
      exact this ▸ hu
    · exact fun ht => ⟨t, ht, rfl⟩
section
theorem strs_of : ∀ {ts : List Str} {us : List Value}, Vals (ts.map V.str) us → ∃ l : List (Str × Tok), us = PySem.strValues l ∧ l.map (·.1) = ts
  | [], us, h => by cases h; exact ⟨[], rfl, rfl⟩
  | t :: ts, us, h => by
    cases h with
    | cons r h =>
      obtain ⟨k, rfl⟩ := r
      obtain ⟨l, e1, e2⟩ := strs_of h
      exact ⟨(t, k) :: l, by rw [e1]; rfl, by rw [List.map_cons, e2]⟩
def rJoinS (K : PySem.W.Frag) : V → List V → Hp → VK → Prop := fun x vs H Q => ∃ (sep : Str) (l : Addr) (ts : List Str), x = .str sep ∧ vs = [.ref l] ∧ SqL K H l (ts.map V.str) ∧ PySem.JoinOk sep ts = true ∧ Q (.str (Txt.join sep ts)) H
theorem mt_joinS {X : Cx} {K : PySem.W.Frag} (hK : X.K = K) : MtR X "str.join" (rJoinS K) := by
  subst hK
  intro pins s σ H x vs v us Q I rx rv h
  obtain ⟨sep, l, ts, rfl, rfl, hq, hok, q⟩ := h
  obtain ⟨t, rfl⟩ := rx
  obtain ⟨u, rfl, ru⟩ := rv.one
  cases ru
  obtain ⟨its, rv', pl, _⟩ := I.list hq
  obtain ⟨ls, rfl, e⟩ := strs_of rv'
  refine SC.join pl.isList e hok fun t' k => ?_
  exact ⟨.str (Txt.join sep ts), H, I.tok k, ⟨_, rfl⟩, q⟩
end
section
theorem Inv.newList {X : Cx} {pins : List (Addr × Obj)} {σ : St} {H : Hp} {s : Shared} (I : Inv X pins σ H s) {m : Str → Option Value} (hnm : s.heap.Ns X.env.locals m) {hh : Heap} {k : Nat} (hk : ∀ b o, b ≠ X.env.locals → s.heap.get? b = some o → hh.get? b = some o) (hns : hh.Ns X.env.locals m)
    {its : List Value} {c : Nat} {vs : List V} (rv : Vals vs its) (hz : vs.length ≤ sizeLine) (eD : hh.get? s.heap.objs.size = some { cls := .type "list", data := .seq its.toArray c }) : Inv X pins σ (upd H s.heap.objs.size (.lst vs)) { s with heap := hh, toks := k } := by
  have hL : X.env.locals < s.heap.objs.size := hnm.lt
  have hge : s.heap.get? s.heap.objs.size = none := Heap.get?_none_of_le (Nat.le_refl _)
  have I1 : Inv X pins σ H { s with heap := hh, toks := k } := I.butFrame hnm hk hns
  refine I1.adoptN (a := s.heap.objs.size) (o := .lst vs) (I.hok.fresh (Nat.le_refl _)) ⟨hz, _, c, rv, eD⟩ (fun hx => ?_) (Nat.ne_of_gt hL) (fun x c e z => ?_) (fun p hp z => ?_)
  · cases z : X.s₀.heap.get? s.heap.objs.size with
    | none => rfl
    | some o =>
      obtain ⟨ob, e⟩ := I.base.there _ o z hx
      rw [hge] at e; cases e
  · obtain ⟨v, o, ho, _⟩ := I.cell x c e
    rw [z, hge] at ho; cases ho
  · have e := (I.pin p hp).1
    rw [z, hge] at e; cases e
theorem vals_strs : ∀ (l : List (Str × Tok)), Vals ((l.map (·.1)).map V.str) (PySem.strValues l)
  | [] => .nil
  | p :: l => .cons ⟨p.2, rfl⟩ (vals_strs l)
theorem split_len (x y : Str) : (PySem.Txt.split x y).length ≤ x.length + 2 := by
  unfold PySem.Txt.split
  split
  · show 1 ≤ _; omega
  · split
    · show 1 ≤ _; omega
    · have e1 := StrLaws.occ_length_le x y 0 x.length (x.length + 1)
      rw [length_partsBetween]; omega
def rSplit : V → List V → Hp → VK → Prop := fun x vs H Q => ∃ z y : Str, x = .str z ∧ vs = [.str y] ∧ (y.length == 0) = false ∧ z.length + 2 ≤ sizeLine ∧ ∀ l, H l = none → Q (.ref l) (upd H l (.lst ((PySem.Txt.split z y).map V.str)))
theorem mt_split {X : Cx} : MtR X "str.split" rSplit := by
  intro pins s σ H x vs v us Q I rx rv h
  obtain ⟨z, y, rfl, rfl, hy, hz, q⟩ := h
  obtain ⟨t, rfl⟩ := rx
  obtain ⟨u, rfl, t2, rfl⟩ := rv.one
  obtain ⟨m, hnm, hlk⟩ := id I.loc
  have F : Fr X.base X.env.locals s.heap m := ⟨hnm, I.bk, Nat.le_trans I.ok.bsz I.ok.above⟩
  have N : News X.base X.env.locals s.heap (allNews X.base s.heap X.env.locals) := news_all
  refine splitN1 F N hy (fun l h' k e F' N' => ?_) hz
  have N2 : News X.base X.env.locals h' (allNews X.base s.heap X.env.locals) := fun p hp => N' p (List.mem_cons_of_mem _ hp)
  have keep : ∀ b o, b ≠ X.env.locals → s.heap.get? b = some o → h'.get? b = some o := fun b o hb e => by
    cases z : X.base.get? b with
    | some o' =>
      have := I.bk b o' z
      rw [e] at this; cases this
      exact F'.keep b _ z
    | none => exact (N2 (b, o) (mem_allNews hb z e)).1
  have eD := (N' _ List.mem_cons_self).1
  have rv' := vals_strs l
  rw [e] at rv'
  have I2 := I.newList (k := k) hnm keep F'.ns rv' (by rw [List.length_map]; exact Nat.le_trans (split_len z y) hz) eD
  exact ⟨.ref _, _, I2, rfl, q _ (I.hok.fresh (Nat.le_refl _))⟩
def rAffix (f : Str → Str → Bool) : V → List V → Hp → VK → Prop := fun x vs H Q => ∃ z y : Str, x = .str z ∧ vs = [.str y] ∧ Q (.bl (f z y)) H
theorem mt_endswith {X : Cx} : MtR X "str.endswith" (rAffix PySem.Txt.endswith) := by
  intro pins s σ H x vs v us Q I rx rv h
  obtain ⟨z, y, rfl, rfl, q⟩ := h
  obtain ⟨t, rfl⟩ := rx
  obtain ⟨u, rfl, t2, rfl⟩ := rv.one
  exact SC.endswith ⟨.bl _, H, I, rfl, q⟩
def rIntT : List V → Hp → VK → Prop := fun xs H Q => ∃ (z : Str) (n : Int), xs = [.str z] ∧ PySem.intText? z = some n ∧ z.length ≤ 640 ∧ Q (.int n) H
theorem intTq {X : Cx} {K : PySem.W.Frag} (hK : X.K = K) : CallR X (.type "int") rIntT := by
  intro pins s σ H xs us Q I r h
  obtain ⟨z, n, rfl, hn, hl, q⟩ := h
  obtain ⟨u, rfl, t, rfl⟩ := vals1 r
  exact PySem.W.KIN.call_text hn hl ⟨.int n, H, I.tok _, ⟨_, rfl⟩, q⟩
theorem lenSq {X : Cx} {K : PySem.W.Frag} (hK : X.K = K) : CallR X (.builtin "len") (fun xs H Q => ∃ z, xs = [.str z] ∧ z.length ≤ sizeLine ∧ Q (.int z.length) H) := call_len_str
theorem ixs {X : Cx} {K : PySem.W.Frag} (hK : X.K = K) : IxR X rIxS := ix_str
theorem bt_str : bootBuiltins "str" = some (.type "str") := by decide +kernel
def rSlS : V → Option Int → Option Int → Hp → VK → Prop := fun x lo hi H Q => ∃ z : Str, x = .str z ∧ z.length ≤ sizeLine ∧ Q (.str (PySem.Txt.slice z lo hi)) H
theorem sl_str {X : Cx} : SlR X rSlS := by
  intro pins s σ H x v vl vu lo hi sl Q I rx hs pl pu h
  obtain ⟨z, rfl, hz, q⟩ := h
  obtain ⟨t, rfl⟩ := rx
  refine ⟨"str", _, slot_str_getitem.lookup, typeIs_str s z t, ?_⟩
  have fin : ∀ t' k, EP X pins σ Q (.str (PySem.Txt.slice z lo hi) t') { s with toks := k } := fun t' k => ⟨.str _, H, I.tok _, ⟨_, rfl⟩, q⟩
  obtain ⟨o, ho, hc, hd⟩ := hs
  cases pl with
  | none =>
    cases pu with
    | none => exact wpAny_getItem_str_slice (l := none) (u := none) (st := none) ⟨o, ho, hc, hd⟩ rfl (post_val_or_str ⟨Nat.le_trans (PySem.Txt.slice_le z _ _) hz, fin⟩)
    | int j tj => exact wpAny_getItem_str_slice (l := none) (u := some (j, tj)) (st := none) ⟨o, ho, hc, hd⟩ rfl (post_val_or_str ⟨Nat.le_trans (PySem.Txt.slice_le z _ _) hz, fin⟩)
  | int i ti =>
    cases pu with
    | none => exact wpAny_getItem_str_slice (l := some (i, ti)) (u := none) (st := none) ⟨o, ho, hc, hd⟩ rfl (post_val_or_str ⟨Nat.le_trans (PySem.Txt.slice_le z _ _) hz, fin⟩)
    | int j tj => exact wpAny_getItem_str_slice (l := some (i, ti)) (u := some (j, tj)) (st := none) ⟨o, ho, hc, hd⟩ rfl (post_val_or_str ⟨Nat.le_trans (PySem.Txt.slice_le z _ _) hz, fin⟩)
def Its (x : Str) : It := ⟨fun i _ => i < x.cps.size, fun i H v H' => H' = H ∧ ∃ c, x.cps.toList[i]? = some c ∧ v = .str ⟨#[c]⟩, fun i _ => x.cps.size ≤ i⟩
theorem turn_text {P : Program} {w : World} {K : PySem.W.Frag} {tg : Expr} (it : Addr) (nm : String) (x : Str) (t : Tok) (hnm : nm = "str_ascii_iterator" ∨ nm = "str_iterator") (W : ∀ A' : Around, A'.handled = none → Walks P w A' it [it] [it] x.cps.size (SignAt x) (fun i h => h.IsStrIter it nm x t i))
    (hd : ∀ (A : Around) (s : Shared) (i : Nat) (Q : Option Value → Shared → Prop) (E : Value → Shared → Prop), A.handled = none → s.heap.IsStrIter it nm x t i → x.cps[i]? = none → (∀ h', (∀ b o, b ≠ it → s.heap.get? b = some o → h'.get? b = some o) → Q none { s with heap := h' }) → wpAny (model P w) A (pyNext (.ref it)) Q E s) :
    Turn P w K tg (Its x) [it] it (fun i h => h.IsStrIter it nm x t i) where
  mem := by simp
  obj := fun i h st b hb => by
    have e : b = it := by simpa using hb
    subst e
    obtain ⟨o, e, c, d⟩ := st
    exact ⟨o, e, fun v z => by rw [d] at z; cases z⟩
  keep := fun i h h' st k => by
    obtain ⟨o, e, r⟩ := st
    exact ⟨o, k it (by simp) o e, r⟩
  item := by
    intro X hP hw hK hc i pins s σ H E I hf st hg
    subst hP hw hK
    obtain ⟨f0, f1, f2, f3, f4, f5⟩ := hf it (by simp)
    refine (W X.A (I.ok.hd hc)).item i s _ _ hg st fun v h' tk hv st' kk => ?_
    obtain ⟨c, u, hcu, rfl⟩ := hv
    have I1 : Inv X pins σ H { s with heap := h', toks := tk } := I.turned (fun b o hb e => kk b o (by simpa using hb) e) f0 f1 f3 f4 f5
    obtain ⟨o, e, cc, d⟩ := id st'
    refine ⟨_, rfl, go_of (s := { s with heap := h', toks := tk }) (n := nm) e cc d (by rcases hnm with z | z <;> subst z <;> decide) ⟨.str ⟨#[c]⟩, H, I1, ⟨u, rfl⟩, ⟨rfl, c, ?_, rfl⟩, st', fun b hb => (hf b hb).1⟩⟩
    rw [Array.getElem?_toList]; exact hcu
  done := by
    intro X hP hw hK hc i pins s σ H E I hf st hg
    subst hP hw hK
    obtain ⟨f0, f1, f2, f3, f4, f5⟩ := hf it (by simp)
    exact hd X.A s i _ _ (I.ok.hd hc) st (Array.getElem?_eq_none hg) fun h' eb => ⟨rfl, I.turned (t' := s.toks) (fun b o hb e => eb b o hb e) f0 f1 f3 f4 f5⟩
  self := fun A i s Q E st h => by
    rcases hnm with z | z
    · subst z; exact wpAny_pyIter_striter_ascii st h
    · subst z; exact wpAny_pyIter_striter_wide st h
def iTxt (tl : TE) : TI := fun σ H R => tl σ H fun x H1 => ∃ z, x = .str z ∧ R (Its z) H1
theorem pis {X : Cx} {K : PySem.W.Frag} {tg l : Expr} {tl : TE} (hK : X.K = K) (hl : PE X l tl) : PI X tg l (iTxt tl) := by
  intro pins s σ H R I h
  refine thn (hl pins s σ H _ I h) fun v s1 ⟨x, H1, I1, r1, z, e, q⟩ => ?_
  subst e
  obtain ⟨t, rfl⟩ := r1
  have fp : ∀ b ∈ [s1.heap.objs.size], FpOk X pins H1 b := fun b hb => by
    have e : b = s1.heap.objs.size := by simpa using hb
    subst e
    exact I1.fpOk (Nat.le_refl _) (I1.hok.fresh (Nat.le_refl _))
  cases ha : z.cps.all (· < 128)
  · exact wpAny_pyIter_wide ha ⟨s1.heap.objs.size, [s1.heap.objs.size], _, _, H1, rfl, I1.kept (t' := s1.toks) fun b o e => Heap.get?_push_of_some _ e, turn_text _ _ z t (.inr rfl) (fun A' hA => Walks.strWide hA _ z t) (fun A s i Q E hh st hn k => wpAny_pyNext_wide_end hh st hn k), ⟨_, Heap.get?_push_size _ rfl, rfl, rfl⟩, fp, q⟩
  · exact wpAny_pyIter_ascii ha ⟨s1.heap.objs.size, [s1.heap.objs.size], _, _, H1, rfl, I1.kept (t' := s1.toks) fun b o e => Heap.get?_push_of_some _ e, turn_text _ _ z t (.inl rfl) (fun A' hA => Walks.strAscii hA _ z t) (fun A s i Q E hh st hn k => wpAny_pyNext_ascii_end hh st hn k), ⟨_, Heap.get?_push_size _ rfl, rfl, rfl⟩, fp, q⟩
theorem lc_text {x : Str} {g : TG} {tc : TT} {te : TE} {Fin : List V → Hp → Prop} {σ₀ : St} {H : Hp} (Pv : Nat → St → List V → Hp → Prop) (h0 : Pv 0 σ₀ [] H) (hz : ∀ i σ ys H, Pv i σ ys H → ys.length < sizeLine)
    (hs : ∀ i c σ ys H, x.cps.toList[i]? = some c → Pv i σ ys H → g (.str ⟨#[c]⟩) σ H fun σ2 H2 => tc σ2 H2 fun b H3 => if b = true then te σ2 H3 fun v H4 => Pv (i + 1) σ2 (ys ++ [v]) H4 else Pv (i + 1) σ2 ys H3)
    (hd : ∀ σ ys H, Pv x.length σ ys H → Fin ys H) : LcW (Its x) g tc te Fin σ₀ H := by
  refine ⟨fun i m σ ys H => m = x.cps.size - i ∧ i ≤ x.cps.size ∧ Pv i σ ys H, ⟨x.cps.size, by simp, Nat.zero_le _, h0⟩, ?_⟩
  rintro i m σ ys H ⟨rfl, hi, p⟩
  refine ⟨hz i σ ys H p, ?_⟩
  by_cases hlt : i < x.cps.size
  · refine .inr ⟨hlt, Pv (i + 1), fun σ' ys' H' p' => ⟨x.cps.size - (i + 1), by omega, rfl, hlt, p'⟩, fun v H' y => ?_⟩
    obtain ⟨rfl, c, hc, rfl⟩ := y
    exact hs i c σ ys _ hc p
  · have e : i = x.cps.size := by omega
    subst e
    exact .inl ⟨Nat.le_refl _, hd _ _ _ p⟩
end
def rMaxT (K : PySem.W.Frag) : List V → Hp → VK → Prop := fun xs H Q => ∃ (p : Addr) (ns : List Int), xs = [.ref p] ∧ SqT K H p (ns.map V.int) ∧ ns ≠ [] ∧ ∀ M, M ∈ ns → (∀ a, a ∈ ns → a ≤ M) → Q (.int M) H
theorem maxtq {X : Cx} {K : PySem.W.Frag} (hK : X.K = K) (hc : X.calm = true := by rfl) : CallR X (.builtin "max") (rMaxT K) := by
  subst hK
  intro pins s σ H xs us Q I r h
  obtain ⟨p, ns, rfl, hq, hne, q⟩ := h
  obtain ⟨u, rfl, rx⟩ := vals1 r
  cases rx
  obtain ⟨its, rv, pl, hz⟩ := I.tuple hq
  have hi := intsAre_of rv
  have hall := hi.allInts
  have hnum := hi.numsOf
  have ht : s.heap.IsTuple p its.toArray := pl
  obtain ⟨ys, ey⟩ := hall.items
  rw [ey] at ht
  have e2 : PySem.numsOf (intItems ys).toList = ns := by rw [← ey]; exact hnum
  rw [nums_intItems] at e2
  have hpos : 0 < ns.length := List.length_pos_iff.mpr hne
  have hys : ys.size = ns.length := by rw [← e2, List.length_map, Array.length_toList]
  have e1 : (intItems ys).size = ys.size := by simp [intItems]
  obtain ⟨o, ho, _⟩ := id ht
  have hnp : p ≠ s.heap.objs.size := Nat.ne_of_lt (Heap.lt_size ho)
  have W := Walks.tuple (prog := X.prog) (w := X.w) (A := X.A.in1) (show X.A.in1.handled = none from I.ok.hd hc) s.heap.objs.size p hnp (intItems ys)
  refine call_max_walk (wpAny_pyIter_tuple ht ⟨s.heap.objs.size, _, _, _, _, _, _, rfl, W, ⟨⟨_, Heap.get?_push_size _ rfl, rfl, rfl⟩, ht.at fun o e => Heap.get?_push_of_some _ e⟩, fun b hb => ?_, by omega, CmpOf.ints_gt (numAt ys) (fun _ _ => intItems_at), fun v h' tk hv hk => ?_⟩)
  · rcases List.mem_cons.mp hb with rfl | hb
    · exact Heap.lt_size (Heap.get?_push_size _ rfl)
    · obtain rfl := List.mem_singleton.mp hb
      exact Heap.lt_size (Heap.get?_push_of_some _ ho)
  · rw [e1] at hv
    obtain ⟨t, rfl⟩ := intItems_at hv
    obtain ⟨h1, h2⟩ := argBest_gt (numAt ys) (ys.size - 1)
    refine ⟨.int _, H, I.kept (t' := tk) (fun b o e => hk b o (fun hb => absurd (Heap.lt_size e) ((List.mem_singleton.mp hb) ▸ Nat.lt_irrefl _)) (Heap.get?_push_of_some _ e)), ⟨t, rfl⟩, q _ ?_ fun a ha => ?_⟩
    · rw [numAt_eq, ← e2]; exact PySem.getD_mem (by rw [List.length_map, Array.length_toList]; omega)
    · rw [← e2] at ha
      obtain ⟨j, hj, rfl⟩ := PySem.mem_getD ha
      rw [List.length_map, Array.length_toList] at hj
      rw [← numAt_eq]
      exact h2 j (by omega)
section
variable {M : Model} {A : Around} {E : Value → Shared → Prop} {s : Shared}
theorem leave_at {B : Heap} {env : Env} {outer : List Env} {L x : Addr} {c a0 fl : Value} {Q : Unit → Shared → Prop} (hA : A.frames = some (env :: outer)) (hL : env.frame = some L)
    (k1 : B.StaysIn s.heap) (k2 : B.get? x = none) (k3 : s.heap.FunFrames B (env :: outer)) (k4 : s.heap.TracedAtW B x c a0 fl)
    (q : ∀ h', Heap.FlyingW B outer x c a0 h' → s.heap.UpToSlots h' → Q () { s with heap := h' }) : wpAny M A (leaving env (.ref x)) Q E s := by
  by_cases hz : fl = rawInt L
  · subst hz
    unfold leaving
    refine wpAny_bind (wpAny_noteFrame_againW hL k4 ?_)
    exact wpAny_landsW ⟨k1, k2, k3, k4⟩ fun h' ⟨g1, g2, ⟨_, _, g3⟩, g4⟩ up => q h' ⟨g1, g2, g3, g4⟩ up
  · obtain ⟨ox, fs, T, oT, ts, ex, ⟨ec, e0⟩, ed, e1, eB, eT, tT, td, t3⟩ := k4
    subst ec
    unfold leaving noteFrame
    simp only [hL]
    refine wpAny_bind (wpAny_bind (wpAny_field ex ed e1 ?_))
    rw [if_pos (by simp : (Value.ref T != Value.none) = true)]
    refine wpAny_bind (wpAny_field tT td t3 ?_)
    rw [if_neg (by simpa using hz)]
    refine wpAny_bind (wpAny_setField tT td (Array.getElem?_eq_some_iff.mp t3).1 ?_)
    have ot : ∀ b, b ≠ T → (s.heap.update T (Obj.mapFields (·.setIfInBounds 3 Value.none))).get? b = s.heap.get? b := fun b n => Heap.get?_update_other _ _ n.symm
    have nr : ∀ b o, s.heap.get? b = some o → (∀ us, o.data ≠ .fields us) → b ≠ T := fun b o eb n z => by
      rw [z, tT] at eb; cases eb; exact n ts td
    refine wpAny_newEntryW hA (k3.of_keeps fun b o eb n => ⟨o, (ot b (nr b o eb n)).trans eb, rfl⟩) hL ((ot x eT.symm).trans ex) (fun b o eb => (ot b (fun z => by rw [z, eB] at eb; cases eb)).trans (k1 b o eb)) k2 ed (Array.getElem?_eq_some_iff.mp e1).1 e0 ?_
    rintro h' ⟨x1, ⟨_, _, x2⟩, x3, x4⟩
    exact q h' ⟨x1, k2, x2, x3⟩ fun b o eb n => x4 b o ((ot b (nr b o eb n)).trans eb) n
theorem pass_on {α : Type} {B : Heap} {x : Addr} {c a0 fl : Value} {what : String} {env : Env} {Q : α → Shared → Prop} (k4 : s.heap.TracedAtW B x c a0 fl)
    (q : ∀ h' T fl', s.heap.get? T ≠ none → B.get? T = none → (∃ oT ts, s.heap.get? T = some oT ∧ oT.data = .fields ts) → (∀ b, b ≠ T → h'.get? b = s.heap.get? b) → h'.TracedAtW B x c a0 fl' → E (.ref x) { s with heap := h' }) : wpAny M A (PySem.passOn what (.ref x) env) Q E s := by
  obtain ⟨ox, fs, T, oT, ts, ex, ec, ed, e1, eB, eT, tT, td, t3⟩ := k4
  have hs : 3 < ts.size := (Array.getElem?_eq_some_iff.mp t3).1
  unfold PySem.passOn
  refine wpAny_bind (wpAny_field ex ed e1 ?_)
  rw [if_neg (by simp)]
  unfold setFlight
  refine wpAny_bind (wpAny_bind (wpAny_field ex ed e1 ?_))
  rw [if_pos (by simp : (Value.ref T != Value.none) = true)]
  refine wpAny_setField tT td hs (wpAny_throw (q _ T (env.frame.elim Value.none fun f => rawInt f) (by rw [tT]; simp) eB ⟨_, _, tT, td⟩ (fun b n => Heap.get?_update_other _ _ n.symm) ?_))
  exact ⟨ox, fs, T, _, _, (Heap.get?_update_other _ _ eT).trans ex, ec, ed, e1, eB, eT, Heap.get?_update_self _ tT (Obj.isFreed_of_fields (Obj.data_mapFields td _)), Obj.data_mapFields td _, by simp [hs]⟩
end
theorem frames_but {B B' h h' : Heap} (hB : ∀ b, B.get? b = none → B'.get? b = none) (hk : ∀ b o, B.get? b = none → h.get? b = some o → (∀ us, o.data ≠ .fields us) → h'.get? b = some o) : ∀ {l : List Env}, h.FunFrames B l → h'.FunFrames B' l
  | [], _ => trivial
  | env :: _, ⟨a1, ⟨L, o, a2, a3, a4, a5⟩, a6⟩ => ⟨a1, ⟨L, o, a2, hB L a3, hk L o a3 a4 a5, a5⟩, frames_but hB hk a6⟩
section
variable {P : Program} {w : World} {K : PySem.W.Frag} {mg : Str → Option Value} {base : Heap} {N : List Str} {qual : Str} {scope : Scope} {f : Addr} {cd : Value} {A : Around} {outer : List Env} {s0 : Shared} {H0 : Hp} {E : XK}
theorem comp_out {pins : List (Addr × Obj)} {σ : St} {H : Hp} {s : Shared} {e : Value} {s' : Shared} {C : Addr} {m : Str → Option Value} {use : Option (Value → Sem Unit)} {Q : Value → Shared → Prop} {acc : Value} {F : Value → Shared → Prop} (I : Inv (cxOf (CX1 P w) P w K mg base N qual scope f cd A outer s0 H0 E) pins σ H s)
    (h : CX1 P w (envOfC qual scope s0.heap.objs.size f cd :: outer) H s E e s') (hC : s.heap.Ns C m) (fC : H C = none) (nC : C ∉ frs (envOfC qual scope s0.heap.objs.size f cd :: outer)) (gC : s0.heap.objs.size ≤ C) :
    wpAny (model P w) (A.deeper (envOfC qual scope s0.heap.objs.size f cd)) (noteFrame e (envOfC qual scope s0.heap.objs.size f cd)) (fun _ st => compPost (model P w) (A.deeper (envOfC qual scope s0.heap.objs.size f cd)) (cxOf (CX1 P w) P w K mg base N qual scope f cd A outer s0 H0 E).xe use Q acc C (.error e) st) F s' := by
  obtain ⟨x, Cc, a0, B, H', rfl, fly, hE⟩ := h
  have hfl := fly.fl
  refine wpAny_looks_onW (L := s0.heap.objs.size) (env := envOfC qual scope s0.heap.objs.size f cd) (outer := outer) I.ok.frames rfl hfl fun h4 held up4 => ?_
  obtain ⟨b1, b2, b3, b4⟩ := held
  obtain ⟨oC, es, ep, hoC, hdC, hrest⟩ := id hC
  have hCB : B.get? C = some oC := fly.keepB C oC hoC fC nC
  have hC4 : h4.get? C = some oC := b1 C oC hCB
  suffices hp : ∃ m, h4.Ns C m ∧ ∀ h', Heap.SameBut C h4 h' → ∀ cenv : Env, cenv.locals = C → wpAny (model P w) (A.deeper (envOfC qual scope s0.heap.objs.size f cd)) (PySem.passOn "comprehension.variables-let-go" (.ref x) cenv : Sem Value) (fun _ _ => False) (cxOf (CX1 P w) P w K mg base N qual scope f cd A outer s0 H0 E).xe { s' with heap := h' } by
    cases use <;> exact hp
  refine ⟨m, ⟨oC, es, ep, hC4, hdC, hrest⟩, fun h5 sb cenv _ => ?_⟩
  have g5 : ∀ b, b ≠ C → h5.get? b = h4.get? b := fun b n => sb.2 b n
  have neB : ∀ {b : Addr}, B.get? b = none → b ≠ C := fun {b} e z => by rw [z, hCB] at e; cases e
  have tr5 : h5.TracedAtW B x (.ref Cc) a0 (rawInt s0.heap.objs.size) := by
    obtain ⟨ox, fs, T, oT, ts, ex, ec, ed, e1, eB, eT, tT, td, t3⟩ := b4
    exact ⟨ox, fs, T, oT, ts, (g5 x (neB b2)).trans ex, ec, ed, e1, eB, eT, (g5 T (neB eB)).trans tT, td, t3⟩
  refine pass_on (s := { s' with heap := h5 }) tr5 fun h6 T fl' _ hT0 ⟨oT, ts, tT, td⟩ g6 tr6 => ?_
  have hTC := neB hT0
  have hB' : ∀ {b : Addr}, B.get? b = none → (PySem.W.hideAll B [C]).get? b = none := fun {b} e => by
    cases z : (PySem.W.hideAll B [C]).get? b with
    | none => rfl
    | some o => rw [PySem.W.of_hideAll _ z] at e; cases e
  have unC : ∀ {b : Addr} {o : Obj}, (PySem.W.hideAll B [C]).get? b = some o → b ≠ C := fun {b o} e z => by
    rw [z, PySem.W.hideAll_none _ (List.mem_singleton.mpr rfl)] at e; cases e
  have k46 : ∀ b o, b ≠ C → h4.get? b = some o → (∀ us, o.data ≠ .fields us) → h6.get? b = some o := fun b o n e d => by
    have h5b : h5.get? b = some o := (g5 b n).trans e
    have nT : b ≠ T := fun z => by
      have tT' : h5.get? T = some oT := tT
      rw [z, tT'] at h5b; cases h5b; exact d ts td
    exact (g6 b nT).trans h5b
  have stk := I.stack
  have above : ∀ b o, s0.heap.get? b = some o → b ∉ frs outer → b ∉ frs (envOfC qual scope s0.heap.objs.size f cd :: outer) := fun b o e hb q => by
    rcases List.mem_cons.mp (I.stkSub b q) with z | z
    · have h1 : s0.heap.objs.size ≤ b := by rw [z]; exact I.ok.above
      exact absurd (Nat.lt_of_lt_of_le (Heap.lt_size e) h1) (Nat.lt_irrefl _)
    · exact hb z
  have oldC : ∀ b o, s0.heap.get? b = some o → b ∉ [C] := fun b o e z => by
    have z' : b = C := by simpa using z
    exact absurd (Nat.lt_of_lt_of_le (Heap.lt_size e) gC) (by rw [z']; exact Nat.lt_irrefl _)
  show wpAny _ _ (leaving _ (.ref x)) _ _ _
  refine leave_at (B := PySem.W.hideAll B [C]) (c := .ref Cc) (a0 := a0) (fl := fl') (L := s0.heap.objs.size) (outer := outer) I.ok.frames rfl (fun b o e => ?_) (hB' b2) (frames_but (fun b e => hB' e) (fun b o e1 e2 d => k46 b o (neB e1) e2 d) b3) ?_ fun h7 y1 y2 => ?_
  · have eb := PySem.W.of_hideAll _ e
    have n := unC e
    have nT : b ≠ T := fun z => by rw [z, hT0] at eb; cases eb
    exact (g6 b nT).trans ((g5 b n).trans (b1 b o eb))
  · obtain ⟨ox, fs, T, oT, ts, ex, ec, ed, e1, eB, eT, tT, td, t3⟩ := tr6
    exact ⟨ox, fs, T, oT, ts, ex, ec, ed, e1, hB' eB, eT, tT, td, t3⟩
  refine ⟨x, Cc, a0, PySem.W.hideAll B [C], H', rfl, ⟨y1, fly.os.trans I.os, fly.bare, fun b o e n hb => ?_, fun b o e n hb => ?_, fun b o e n => ?_, fun b o e hb => ?_, fun b xs q => fly.tups b xs (I.base.tups b xs q), fun b o u q => fly.frzs b o u (I.base.frzs b o u q), fun b ps q => ?_, fun a u e => ?_, ?_⟩, hE⟩
  · exact PySem.W.hideAll_get _ (fly.keepB b o (I.base.keep b o e n hb (by simp [cxOf])) (I.base.free b o e n (by simp [cxOf])) (above b o e hb)) (oldC b o e)
  · obtain ⟨sl, e1⟩ := I.base.slot b o e n hb (by simp [cxOf])
    have hb2 : b ∈ frs (envOfC qual scope s0.heap.objs.size f cd :: outer) := List.mem_cons_of_mem _ hb
    obtain ⟨sl1, e2⟩ := fly.slot b _ e1 (I.base.free b o e n (by simp [cxOf])) hb2
    obtain ⟨_, o2, e3, hd⟩ := fly.fl.2.2.1.mem hb2
    rw [e2] at e3
    cases e3
    obtain ⟨sl2, e4⟩ := up4 b _ e2 hd
    have e6 := k46 b _ (fun z => nC (z ▸ hb2)) e4 hd
    obtain ⟨sl3, e7⟩ := y2 b _ e6 hd
    exact ⟨sl3, e7⟩
  · obtain ⟨o', e'⟩ := I.base.there b o e (by simp [cxOf])
    exact fly.free b o' e' (I.base.free b o e n (by simp [cxOf]))
  · obtain ⟨o', e'⟩ := I.base.there b o e (by simp [cxOf])
    obtain ⟨o2, e2⟩ := fly.thereB b o' e' (above b o e hb)
    exact ⟨o2, PySem.W.hideAll_get _ e2 (oldC b o e)⟩
  · obtain ⟨m1, e1⟩ := I.base.tbls b ps q
    obtain ⟨m2, e2⟩ := fly.tbls b _ e1
    exact ⟨m1 ++ m2, by rw [e2, Array.append_assoc]⟩
  · refine (fly.hok a u e).stay (fun b v hb q => PySem.W.hideAll_get _ q fun z => ?_) (fun _ q => q) fun _ _ q => q
    have z' : b = C := by simpa using z
    have hz := fly.free C oC hoC fC
    rw [← z'] at hz
    rcases hb with rfl | hb
    · rw [e] at hz; cases hz
    · rw [hb] at hz; cases hz
  · cases q : s0.heap.get? x with
    | none => rfl
    | some o =>
      obtain ⟨o', e'⟩ := I.base.there x o q (by simp [cxOf])
      have := fly.new
      rw [e'] at this
      cases this
end
theorem lc_loopX {prog : Program} {w : World} {A : Around} {R : Result → Shared → Prop} {s : Shared} {elt tg it₀ : Expr} {ifs : List Expr} {sc : Scope} {pos : Pos} {it acc : Value} {env : Env} (J : Nat → Shared → Prop) {XB : Value → Shared → Prop} (hx : ∀ e st, XB e st → wpAny (model prog w) A (noteFrame e env) (fun _ st' => R (.error e) st') (fun e' st' => R (.error e') st') st)
    (step : ∀ k st, J k st → wpAny (model prog w) A (pyNext it) (fun r st1 => match r with
      | none => R (.ok .next) st1
      | some v => wpAny (model prog w) A (letOwnedTupleGo tg it v) (fun _ st2 => wpAny (model prog w) A (assign tg env v) (fun _ st3 =>
          wpAny (model prog w) A (forIn ifs true fun c r => if r = true then do let ok ← isTrue c env (eval c env); pure (ForInStep.yield ok) else pure (ForInStep.yield r)) (fun ok st4 =>
            if ok = true then wpAny (model prog w) A (eval elt env) (fun x st5 => wpAny (model prog w) A (call (.builtin "list.append") [acc, x]) (fun _ st6 => ∃ m, m < k ∧ J m st6) (fun _ _ => False) st5) XB st4
            else ∃ m, m < k ∧ J m st4) (fun _ _ => False) st3) (fun _ _ => False) st2) (fun _ _ => False) st1) (fun _ _ => False) st)
    (k₀ : Nat) (h₀ : J k₀ s) : codeAny (model prog w) A (.compLoop (.ListComp elt [⟨tg, it₀, ifs, 0⟩] sc pos) 0 it acc env) R s := by
  refine codeAny_loop rfl J (fun k st hJ => ?_) k₀ h₀
  show wpAny _ A ((compTurn (.ListComp elt [⟨tg, it₀, ifs, 0⟩] sc pos) 0 it acc env).onRaise (fun x => do noteFrame x env; theTreesLotGoes x)) _ _ st
  refine wpAny_noted ?_
  rw [compTurn_list]
  refine wpAny_bind (wpAny_standAt (wpAny_bind (wpAny_mono (step k st hJ) (fun r st1 q1 => ?_) fun _ _ z => z.elim)))
  cases r with
  | none => exact wpAny_pure q1
  | some v =>
    refine wpAny_bind (wpAny_mono q1 (fun _ st2 q2 => ?_) fun _ _ z => z.elim)
    refine wpAny_bind (wpAny_mono q2 (fun _ st3 q3 => wpAny_bind (wpAny_mono q3 (fun ok st4 q4 => ?_) fun _ _ z => z.elim)) fun _ _ z => z.elim)
    cases ok with
    | false => exact wpAny_pure ⟨rfl, q4⟩
    | true => exact wpAny_bind (wpAny_bind (wpAny_mono q4 (fun x st5 q5 => wpAny_bind (wpAny_mono q5 (fun _ st6 q6 => wpAny_pure (wpAny_pure ⟨rfl, q6⟩)) fun _ _ z => z.elim)) fun e st z => hx e st z))
def XBl (Y : Cx) (E : XK) : Value → Shared → Prop := fun e s' => ∃ (pl : List (Addr × Obj)) (σ : St) (H1 : Hp) (s1 : Shared), Inv Y pl σ H1 s1 ∧ CX1 Y.prog Y.w Y.stack H1 s1 E e s'
theorem pe_fnxB {Y : Cx} {E : XK} {k m : Nat} {x : Str} {sp : Sp} {e : Expr} {es : List Expr} {t : TA} {p pos : Pos} (C : CalleeX Y.prog Y.w Y.K Y.mg Y.base k x sp) (hr : Room m Y.A)
    (hg : Gl (Y.wish (XBl Y E)) x) (ha : PA (Y.wish (XBl Y E)) (e :: es) t) (hk : k ≤ m := by decide)
    (hdb : (x == ("__debug__" : Str)) = false := by decide) (he : starEach (e :: es) Y.env = (false, eval e Y.env) :: starEach es Y.env := by rfl)
    (hpl : (backTo pos (starEach es Y.env)).any (·.1) = false := by rfl) :
    PE (Y.wish (XBl Y E)) (.Call (.Name x p) (e :: es) [] pos) (tFnX sp E t) := by
  intro pins s σ H Q I h
  obtain ⟨f', hm, kp, run⟩ := C.ex
  refine wpAny_Call_Name_kw (ld_glob I hg hm ?_ hdb)
  refine PySem.W.callWith_K (h₀ := Y.base) I.ok.mod.kin kp (thn (ha pos pins s σ H _ I h) fun us s1 ⟨vs, H1, I1, r, q⟩ => ⟨I1.kIn, ?_⟩) he hpl
  refine wpAny_call (codeAny_mono (run Y.A _ s1 H1 us vs Q E (hr.mono hk) I1.env0 r q) fun rs s' hq => ?_)
  cases rs with
  | error e => exact ⟨pins, σ, H1, s1, I1.unwish, hq⟩
  | ok fl =>
    cases fl with
    | ret u => exact I1.after hq
    | next => exact False.elim hq
    | brk => exact False.elim hq
    | cont => exact False.elim hq
theorem lc_coreX {X : Cx} {pins : List (Addr × Obj)} {σ : St} {H2 : Hp} {s2 : Shared} {sc : Scope} {NB : List Str} {nt : Nat} {fr : List Nat} {cl : List (Str × Addr)} {tg iter elt : Expr} {ifs : List Expr} {pos : Pos} {g : TG} {tc : TT} {te : TE} {J : It} {fp : List Addr} {it : Addr}
    {tn : Nat → Heap → Prop} {Fin : List V → Hp → Prop} {E : Value → Shared → Prop} {EX : XK} (hcalm : X.calm = true) (S : LcScope X.N X.env.scope sc NB nt fr)
    (P1 : ∀ x a, cl.lookup x = some a → X.env.cells.lookup x = some a) (P2 : ∀ y ∈ sc.names, y.2 = .free → ∃ a, cl.lookup y.1 = some a)
    (hg : ∀ cl C s₀ H₀ ex, PG (X.blk NB sc cl C s₀ H₀ ex) tg g) (ht : ∀ cl C s₀ H₀ ex, PTs (X.blk NB sc cl C s₀ H₀ ex) ifs tc) (he : ∀ cl C s₀ H₀ ex, PE ((X.blk NB sc cl C s₀ H₀ ex).wish (XBl (X.blk NB sc cl C s₀ H₀ ex) EX)) elt te)
    (I2 : Inv X pins σ H2 s2) (T : Turn X.prog X.w X.K tg J fp it tn) (st2 : tn 0 s2.heap) (f2 : ∀ b ∈ fp, FpOk X pins H2 b) (hw : LcW J g tc te Fin (lcSt nt fr σ) H2) {RR : Value → Addr → Result → Shared → Prop}
    (hRR : ∀ D C s' H' ys, Fin ys H' → H' D = none → Inv X pins σ (upd H' D (.lst ys)) s' → FpOk X pins (upd H' D (.lst ys)) C → (∃ m, s'.heap.Ns C m) → RR (.ref D) C (.ok .next) s')
    (hRX : ∀ D C e H1 s1 st m, Inv X pins σ H1 s1 → CX1 X.prog X.w X.stack H1 s1 EX e st → s1.heap.Ns C m → H1 C = none → C ∉ frs X.stack → X.s₀.heap.objs.size ≤ C → wpAny (model X.prog X.w) X.A (noteFrame e X.env) (fun _ st' => RR (.ref D) C (.error e) st') (fun e' st' => RR (.ref D) C (.error e') st') st) :
    wpAny (model X.prog X.w) X.A (newList []) (fun acc s₃ => wpAny (model X.prog X.w) X.A (newFunctionEnv sc X.env.globals cl [] X.env.qual none .none (some X.env)) (fun cenv s₄ =>
      codeAny (model X.prog X.w) X.A (.compStart (.ListComp elt [⟨tg, iter, ifs, 0⟩] sc pos) 0 (.ref it) acc { cenv with scope := relabel sc X.env }) (RR acc cenv.locals) s₄) E s₃) E s2 := by
  obtain ⟨W, ⟨m0, w0⟩, turn⟩ := hw
  refine wpAny_newObj_type (wpAny_newFunctionEnv S.nocell (by intro y hy; simp at hy) (fun h1 hns hsb => ?_) S.kind)
  dsimp only at hns hsb ⊢
  generalize hH : s2.heap.push { cls := .type "list", dict := none, data := .seq ([] : List Value).toArray } = hp at hns hsb ⊢
  have eC : hp.objs.size = s2.heap.objs.size + 1 := by rw [← hH, Heap.size_push]
  -- the state with the empty list
  have k3 : ∀ b o, s2.heap.get? b = some o → hp.get? b = some o := fun b o e => by rw [← hH]; exact Heap.get?_push_of_some _ e
  have I3 : Inv X pins σ H2 { s2 with heap := hp } := I2.kept (t' := s2.toks) k3
  have oD : hp.get? s2.heap.objs.size = some { cls := .type "list", data := .seq ([] : List Value).toArray 0 } := by rw [← hH]; exact Heap.get?_push_size _ rfl
  have k4 : ∀ b o, hp.get? b = some o → h1.get? b = some o := fun b o e => hsb.extBut b o (Nat.ne_of_lt (Heap.lt_size e)) (Heap.get?_push_of_some _ e)
  have fD : ∀ (H' : Hp), H' s2.heap.objs.size = none → FpOk X pins H' s2.heap.objs.size := fun H' e => I2.fpOk (Nat.le_refl _) e
  have fC : ∀ (H' : Hp), H' hp.objs.size = none → FpOk X pins H' hp.objs.size := fun H' e => I3.fpOk (Nat.le_refl _) e
  have nD : H2 s2.heap.objs.size = none := I2.hok.fresh (Nat.le_refl _)
  have lfp : ∀ b ∈ fp, b < s2.heap.objs.size := fun b hb => by
    obtain ⟨o, e, _⟩ := T.obj _ _ st2 b hb
    exact Heap.lt_size e
  have hex : ∀ b ∈ s2.heap.objs.size :: fp, FpOk X pins H2 b ∧ b < hp.objs.size := fun b hb => by
    rcases List.mem_cons.mp hb with rfl | hb
    · exact ⟨fD H2 nD, by omega⟩
    · exact ⟨f2 b hb, Nat.lt_of_lt_of_le (lfp b hb) (by rw [eC]; exact Nat.le_succ _)⟩
  have loop : ∀ (s4 : Shared), s4 = { s2 with heap := h1, toks := s2.toks + ([] : List (Str × Value)).length } →
      codeAny (model X.prog X.w) X.A (.compLoop (.ListComp elt [⟨tg, iter, ifs, 0⟩] sc pos) 0 (.ref it) (.ref s2.heap.objs.size) (compEnvC sc cl hp.objs.size X.env)) (RR (.ref s2.heap.objs.size) hp.objs.size) s4 := by
    rintro s4 rfl
    have IB : Inv (X.blk NB sc cl hp.objs.size { s2 with heap := hp } H2 (s2.heap.objs.size :: fp)) [] (lcSt nt fr σ) H2 { s2 with heap := h1, toks := s2.toks + ([] : List (Str × Value)).length } :=
      blk_inv (s3 := { s2 with heap := hp }) I3 S P1 P2 rfl ⟨_, hns⟩ k4 rfl rfl hex
    have stat : ∀ {H' : Hp} {pl : List (Addr × Obj)}, (∀ b ∈ fp, H' b = none) → (∀ p ∈ pl, p.1 = s2.heap.objs.size) → ∀ b ∈ fp, FpOk (X.blk NB sc cl hp.objs.size { s2 with heap := hp } H2 (s2.heap.objs.size :: fp)) pl H' b := fun {H' pl} hn hpl b hb => by
      obtain ⟨f, hl⟩ := hex b (List.mem_cons_of_mem _ hb)
      refine ⟨hn b hb, Nat.ne_of_lt hl, fun z => ?_, .inl (List.mem_cons_of_mem _ hb), fun x c e => f.2.2.2.2.1 x c (P1 x c e), fun p hp' => ?_⟩
      · rcases List.mem_cons.mp (I3.stkSub b z) with q | q
        · exact f.2.1 q
        · exact f.2.2.1 q
      · rw [hpl p hp']
        exact Nat.ne_of_gt (lfp b hb)
    refine lc_loopX (XB := XBl (X.blk NB sc cl hp.objs.size { s2 with heap := hp } H2 (s2.heap.objs.size :: fp)) EX) (fun n s' => ∃ i σ' ys its H', Inv (X.blk NB sc cl hp.objs.size { s2 with heap := hp } H2 (s2.heap.objs.size :: fp)) [] σ' H' s' ∧ tn i s'.heap ∧ (∀ b ∈ fp, H' b = none) ∧ H' s2.heap.objs.size = none ∧
      (∃ e, s'.heap.get? s2.heap.objs.size = some { cls := .type "list", data := .seq (List.toArray its) e }) ∧ Vals ys its ∧ W i n σ' ys H') (fun e st z => ?_) ?_ m0
      ⟨0, _, [], [], H2, IB, T.keep _ _ _ st2 fun b _ o e => k4 b o (k3 b o e), fun b hb => (f2 b hb).1, nD, ⟨0, k4 _ _ oD⟩, .nil, w0⟩
    · obtain ⟨pl, σ', H1, s1, IB1, hz⟩ := z
      obtain ⟨mC, hmC, _⟩ := IB1.loc
      have IX : Inv X pins σ H1 s1 := I3.call' (ch := s2.heap.objs.size :: fp) IB1.os IB1.base IB1.hok IB1.bare fun b hb => by
        obtain ⟨f, _⟩ := hex b hb
        exact ⟨f.2.2.2.1, f.2.1, f.2.2.2.2.1, f.2.2.2.2.2⟩
      have fC1 := fC H1 IB1.free
      refine hRX _ _ e H1 s1 st mC IX hz hmC IB1.free (fun q => ?_) I3.sz
      rcases List.mem_cons.mp (I3.stkSub _ q) with y | y
      · exact fC1.2.1 y
      · exact fC1.2.2.1 y
    rintro n s5 ⟨i, σ5, ys, its, H5, I5, st5, fr5, nD5, ⟨e5, o5⟩, rv, w5⟩
    have pinD : ∀ {σ' : St} {H' : Hp} {s' : Shared} {o : Obj}, Inv (X.blk NB sc cl hp.objs.size { s2 with heap := hp } H2 (s2.heap.objs.size :: fp)) [] σ' H' s' → s'.heap.get? s2.heap.objs.size = some o → (∀ v, o.data ≠ .cell v) → H' s2.heap.objs.size = none →
        Inv (X.blk NB sc cl hp.objs.size { s2 with heap := hp } H2 (s2.heap.objs.size :: fp)) [(s2.heap.objs.size, o)] σ' H' s' := fun {σ' H' s' o} J' eo ed en => J'.pins_of fun p hp' => by
      have ep : p = (s2.heap.objs.size, o) := by simpa using hp'
      subst ep
      refine ⟨eo, en, by show s2.heap.objs.size ≠ hp.objs.size; omega, fun z => ?_, ed⟩
      rcases List.mem_cons.mp (I3.stkSub _ z) with q | q
      · exact (fD H2 nD).2.1 q
      · exact (fD H2 nD).2.2.1 q
    obtain ⟨hlen, way⟩ := turn i n σ5 ys H5 w5
    rcases way with ⟨stop, fin⟩ | ⟨go, N, hN, step⟩
    · refine wpAny_mono (T.done (X.blk NB sc cl hp.objs.size { s2 with heap := hp } H2 (s2.heap.objs.size :: fp)) rfl rfl rfl hcalm i [(s2.heap.objs.size, _)] s5 σ5 H5 (fun _ _ => False) (pinD I5 o5 (fun v z => nomatch z) nD5) (stat fr5 (by simp)) st5 stop) (fun r s6 ⟨hr, I6⟩ => ?_) fun _ _ z => z
      subst hr
      have o6 := (I6.pin (s2.heap.objs.size, _) (List.mem_append_right _ (List.mem_singleton.mpr rfl))).1
      have I6' : Inv X pins σ H5 s6 := I3.call' (ch := s2.heap.objs.size :: fp) I6.os I6.base I6.hok I6.bare fun b hb => by
        obtain ⟨f, _⟩ := hex b hb
        exact ⟨f.2.2.2.1, f.2.1, f.2.2.2.2.1, f.2.2.2.2.2⟩
      obtain ⟨mC, hmC, _⟩ := I6.loc
      have fD' := fD H5 nD5
      have I7 : Inv X pins σ (upd H5 s2.heap.objs.size (.lst ys)) s6 := I6'.adopt nD5 ⟨Nat.le_of_lt hlen, its, _, rv, o6⟩ I2.sz fD'.2.1 fD'.2.2.2.2.1 fD'.2.2.2.2.2
      refine hRR _ _ s6 H5 ys fin nD5 I7 (fC _ ?_) ⟨mC, hmC⟩
      rw [upd_ne (by show hp.objs.size ≠ s2.heap.objs.size; omega)]
      exact I6.free
    · refine wpAny_mono (T.item (X.blk NB sc cl hp.objs.size { s2 with heap := hp } H2 (s2.heap.objs.size :: fp)) rfl rfl rfl hcalm i [(s2.heap.objs.size, _)] s5 σ5 H5 (fun _ _ => False) (pinD I5 o5 (fun v z => nomatch z) nD5) (stat fr5 (by simp)) st5 go) (fun r s6 ⟨u, hr, h6⟩ => ?_) fun _ _ z => z
      subst hr
      refine wpAny_mono h6 (fun _ s7 ⟨x, H7, I7, r7, y7, st7, fr7⟩ => ?_) fun _ _ z => z
      have n7 := (I7.pin (s2.heap.objs.size, _) (List.mem_append_right _ (List.mem_singleton.mpr rfl))).2.1
      have I7' := I7.pinned (stat fr7 (by simp)) (T.obj _ _ st7)
      refine wpAny_mono (hg _ _ _ _ _ _ s7 σ5 H7 x u _ I7' r7 (step x H7 y7)) (fun _ s8 ⟨σ8, H8, I8, q8⟩ => ?_) fun _ _ z => z
      refine wpAny_mono (ht _ _ _ _ _ _ s8 σ8 H8 _ I8 q8) (fun ok s9 ⟨H9, I9, q9⟩ => ?_) fun _ _ z => z
      have back : ∀ {H' : Hp} {s' : Shared} {ys' : List V}, Inv (X.blk NB sc cl hp.objs.size { s2 with heap := hp } H2 (s2.heap.objs.size :: fp)) ([(s2.heap.objs.size, { cls := .type "list", data := .seq its.toArray e5 })] ++ pinsAt fp s7.heap) σ8 H' s' →
          tn (i + 1) s'.heap ∧ (∀ b ∈ fp, H' b = none) ∧ H' s2.heap.objs.size = none ∧ s'.heap.get? s2.heap.objs.size = some { cls := .type "list", data := .seq its.toArray e5 } := fun {H' s' ys'} I' => by
        have pD := I'.pin (s2.heap.objs.size, _) (List.mem_append_right _ (List.mem_append_left _ (List.mem_singleton.mpr rfl)))
        refine ⟨T.keep _ _ _ st7 fun b hb o e => (I'.pin (b, o) (List.mem_append_right _ (List.mem_append_right _ (mem_pinsAt hb e)))).1, fun b hb => ?_, pD.2.1, pD.1⟩
        obtain ⟨o, e, d⟩ := T.obj _ _ st7 b hb
        exact (I'.pin (b, o) (List.mem_append_right _ (List.mem_append_right _ (mem_pinsAt hb e)))).2.1
      cases ok with
      | false =>
        obtain ⟨m', hm, w'⟩ := hN σ8 ys H9 q9
        obtain ⟨b1, b2, b3, b4⟩ := back (ys' := ys) I9
        exact ⟨m', hm, i + 1, σ8, ys, its, H9, I9.pins_of (fun p hp' => absurd hp' (by simp)), b1, b2, b3, ⟨_, b4⟩, rv, w'⟩
      | true =>
        refine wpAny_mono (he _ _ _ _ _ _ s9 σ8 H9 _ (I9.wish _) q9) (fun y sa ⟨v, Ha, Iw, ra, qa⟩ => ?_) fun _ _ z => z
        have Ia := Iw.unwish
        obtain ⟨m', hm, w'⟩ := hN σ8 (ys ++ [v]) Ha qa
        obtain ⟨b1, b2, b3, b4⟩ := back (ys' := ys) Ia
        refine append_at (hsz := by show its.toArray.size ≤ sizeLine; rw [List.size_toArray, ← rv.length]; exact Nat.le_of_lt hlen) b4 fun h' hs' hD' => ?_
        have I0 : Inv (X.blk NB sc cl hp.objs.size { s2 with heap := hp } H2 (s2.heap.objs.size :: fp)) [] σ8 Ha sa := Ia.pins_of (fun p hp' => absurd hp' (by simp))
        refine ⟨m', hm, i + 1, σ8, ys ++ [v], its ++ [y], Ha, I0.turned (t' := sa.toks) (fun b o hb e => hs'.extBut b o hb e) b3 (by show s2.heap.objs.size ≠ hp.objs.size; omega) (.inl List.mem_cons_self) (fun x c e => (fD H2 nD).2.2.2.2.1 x c (P1 x c e)) (fun p hp' => absurd hp' (by simp)),
          T.keep _ _ _ b1 fun b hb o e => hs'.extBut b o (Nat.ne_of_lt (lfp b hb)) e, b2, b3, ⟨e5 + 1, ?_⟩, rv.append (.cons ra .nil), w'⟩
        rw [hD', List.push_toArray]
  exact codeAny_compStart_list (loop _ rfl) (T.self _ 0 _ _ _ (T.keep _ _ _ st2 fun b _ o e => k4 b o (k3 b o e)) (loop _ rfl))
theorem ps_setLCX {P : Program} {w : World} {K : PySem.W.Frag} {mg : Str → Option Value} {base : Heap} {N : List Str} {qual : Str} {scope : Scope} {f : Addr} {cd : Value} {A : Around} {outer : List Env} {s0 : Shared} {H0 : Hp} {E : XK} {X : Cx} (hX : X = cxOf (CX1 P w) P w K mg base N qual scope f cd A outer s0 H0 E) {sc : Scope} {NB : List Str} {nt : Nat} {fr : List Nat} {tg iter elt : Expr} {ifs : List Expr} {pos spos py : Pos} {wi : TI} {g : TG} {tc : TT} {te : TE} {i : Nat} {y : Str} (hcalm : X.calm = true) (S : lcOk X.N X.env.scope sc NB nt fr = true)
    (hN : X.N.Nodup) (hiy : X.N[i]? = some y) (hy : X.env.scope.names.lookup y = some .local)
    (hi : PI X tg iter wi) (hg : ∀ cl C s₀ H₀ ex, PG (X.blk NB sc cl C s₀ H₀ ex) tg g) (ht : ∀ cl C s₀ H₀ ex, PTs (X.blk NB sc cl C s₀ H₀ ex) ifs tc) (he : ∀ cl C s₀ H₀ ex, PE ((X.blk NB sc cl C s₀ H₀ ex).wish (XBl (X.blk NB sc cl C s₀ H₀ ex) E)) elt te)
    (hsw : swapsWith (.ListComp elt [⟨tg, iter, ifs, 0⟩] sc pos) (some (.Name y py)) spos.line X.env = pure true := by rfl)
    (hs : ∀ x, foldedSetIterable iter X.env x = pure x := by intro _; rfl) : PS X (.Assign [.Name y py] (.ListComp elt [⟨tg, iter, ifs, 0⟩] sc pos) spos) (tAsg (tLC nt fr wi g tc te) (gName i)) := by
  intro pins s σ H D I h
  have S := lcOk.mk S
  have hfree : ∀ x ∈ sc.names, x.2 = .free → ∃ a, X.env.cells.lookup x.1 = some a := fun x hx e => I.ok.has x.1 (S.out x hx e)
  obtain ⟨P1, _, P2⟩ := cl_fold sc.names [] hfree (fun x a e => by simp at e)
  rw [exec_Assign_Name_used _ _ _ _ hsw]
  refine wpAny_bind (wpAny_standAt (wpAny_bind ?_))
  show wpAny _ X.A (do let _ ← comprehension (.ListComp elt [⟨tg, iter, ifs, 0⟩] sc pos) sc X.env _ (newList []) false (eval iter X.env) (some (assign (.Name y py) X.env))) _ _ s
  refine wpAny_bind (wpAny_mono (wpAny_comprehension_free (use := some (assign (.Name y py) X.env)) (Q := fun _ s' => SP X pins D .next s') rfl hs (closure_ok hfree) S.kind S.locs
    (thn (hi pins s σ H _ I h) fun xv s1 h1 => thn h1 fun itv s2 h2 => ?_)) (fun _ s' hq => wpAny_pure (wpAny_pure hq)) fun _ _ e => e)
  obtain ⟨it, fp, tn, J, H2, rfl, I2, T, st2, f2, hw⟩ := h2
  refine lc_coreX (EX := E) (RR := fun acc C => compPost (model X.prog X.w) X.A X.xe (some (assign (.Name y py) X.env)) (fun _ s' => SP X pins D .next s') acc C) hcalm S P1 P2 hg ht he I2 T st2 f2 hw (fun d C s' H' ys fin nD I' fC ⟨m, hm⟩ => ?_) (fun d C e H1 s1 st m IX hz j1 j2 j3 j4 => by subst hX; exact comp_out IX hz j1 j2 j3 j4)
  show wpAny _ X.A (assign (.Name y py) X.env (.ref d)) _ _ _
  obtain ⟨oC, es, ep, hoC, hdC, hrest⟩ := id hm
  have IC : Inv X (pins ++ [(C, oC)]) σ (upd H' d (.lst ys)) s' := I'.pins_of fun p hp => by
    rcases List.mem_append.mp hp with z | z
    · exact I'.pin p (List.mem_append_right _ z)
    · have ep : p = (C, oC) := by simpa using z
      subst ep
      exact ⟨hoC, fC.1, fC.2.1, fC.2.2.1, fun v z => by rw [hdC] at z; cases z⟩
  refine wpAny_assign_Name (store_ok IC hN hiy (.inl hy) (v := .ref d) rfl (fun s'' I'' => ?_) (.inr hy))
  have pC := I''.pin (C, oC) (List.mem_append_right _ (List.mem_append_right _ (List.mem_singleton.mpr rfl)))
  refine ⟨m, ⟨oC, es, ep, pC.1, hdC, hrest⟩, fun h' hs' => ⟨_, _, I''.unpinned.turned (t' := s''.toks) (fun b o hb e => hs'.extBut b o hb e) fC.1 fC.2.1 fC.2.2.2.1 fC.2.2.2.2.1 fC.2.2.2.2.2, fin d nD⟩⟩
end L2
namespace HT
open PySem PyProof.Rows
theorem rcGe_int (A : Around) (s : Shared) (a : Int) (t : Tok) (c : Int) (u : Tok) (prog : Program) (w : World) (E : Value → Shared → Prop) (Q : Value → Shared → Prop) (h : Q (.bool (!decide (a < c))) s) :
    wpAny (model prog w) A (richCompare .GtE (.int a t) (.int c u)) Q E s := by
  have e : (!decide (a < c)) = decide (c ≤ a) := by by_cases z : a < c <;> simp [z] <;> omega
  rw [e] at h
  exact (PyProof.Rows.ge_int h : wpAny (model prog w) A (compareOp .GtE (.int a t) (.int c u)) Q E s)
section
open PySem.SeqAt
open PySem.AutoSeq1 (wpAny_loadPart')
open PySem.MeetsSeq PySem.MeetsSeq2 PySem.MeetsSeq3
theorem tuple_ge_ints (l b : Addr) (items items2 : Array Value) (n n2 : Nat) (dd dd2 : Option Addr) (sl sl2 : Array (Option Value)) (ns ms : List Int) (hi : IntsAre items.toList ns) (hj : IntsAre items2.toList ms) :
    Meets (Builtin.«tuple.__ge__» ⟨[.ref l, .ref b], []⟩)
      (fun _ R s => s.heap.get? l = some { cls := .type "tuple", dict := dd, data := .seq items n, slots := sl } ∧ s.heap.get? b = some { cls := .type "tuple", dict := dd2, data := .seq items2 n2, slots := sl2 } ∧
        R (.ok (.ret (.bool (!lexLt ns ms)))) s) :=
  .of_wp fun prog w A R s h => by
    obtain ⟨hp, g, d, tk, os⟩ := s; obtain ⟨hl, hb, h⟩ := h
    have f2 := AutoSeq1.sub_tuple_tuple
    have z1 : items.size = ns.length := by rw [← hi.length]; simp
    have z2 : items2.size = ms.length := by rw [← hj.length]; simp
    wp_walk using wpAny_loadPart' hl, wpAny_loadPart' hb, wpAny_forIn_list _ (fun rest b s' => b.1 = none ∧ s' = ⟨hp, g, d, tk, os⟩ ∧ ∃ (vs ws : List Value) (ns' ms' : List Int), rest = vs.zip ws ∧
      IntsAre vs ns' ∧ IntsAre ws ms' ∧ ns'.length + items2.size = ms'.length + items.size ∧ R (.ok (.ret (.bool (!lexLt ns' ms')))) ⟨hp, g, d, tk, os⟩) _
    case turn =>
      rintro ⟨y, x⟩ rest b s' ⟨hb', rfl, vs, ws, ns', ms', hz, hvi, hwi, hlen, hR⟩
      cases hvi with
      | nil => rw [List.zip_nil_left] at hz; cases hz
      | cons a t hvi' =>
        cases hwi with
        | nil => rw [List.zip_nil_right] at hz; cases hz
        | cons c u hwi' =>
          rw [List.zip_cons_cons] at hz
          injection hz with hyx hrest
          injection hyx with hy hx
          subst hy hx
          rw [lexLt_cons] at hR
          simp only [List.length_cons] at hlen
          obtain ⟨e, he, hiff⟩ := eqAt_int A.in1 ⟨hp, g, d, tk, os⟩ a t c u
          refine wpAny_bind (he prog w _ _ ?_)
          cases e with
          | true =>
            rw [if_pos (hiff.mp rfl)] at hR
            wp_walk
            exact ⟨rfl, rfl, _, _, _, _, hrest, hvi', hwi', by omega, hR⟩
          | false =>
            rw [if_neg (fun q => absurd (hiff.mpr q) Bool.false_ne_true)] at hR
            have hri := rcGe_int A.in1 ⟨hp, g, d, tk, os⟩ a t c u prog w
            wp_walk using hri
            exact ⟨_, rfl, by simpa using hR⟩
    case fin =>
      rintro ⟨b1, b2⟩ s' ⟨hb', rfl, vs, ws, ns', ms', hz, hvi, hwi, hlen, hR⟩
      simp only at hb'
      subst hb'
      have hv : lexLt ns' ms' = decide (items.size < items2.size) := by
        cases hvi with
        | nil =>
          cases hwi with
          | nil =>
            simp only [List.length_nil] at hlen
            rw [lexLt_nil_nil]
            exact (decide_eq_false (by omega)).symm
          | cons c u hw =>
            simp only [List.length_nil, List.length_cons] at hlen
            rw [lexLt_nil_cons]
            exact (decide_eq_true (by omega)).symm
        | cons a t hv =>
          cases hwi with
          | nil =>
            simp only [List.length_nil, List.length_cons] at hlen
            rw [lexLt_cons_nil]
            exact (decide_eq_false (by omega)).symm
          | cons c u hw =>
            rw [List.zip_cons_cons] at hz
            cases hz
      rw [hv, show (!decide (items.size < items2.size)) = decide (items2.size ≤ items.size) by by_cases z : items.size < items2.size <;> simp [z] <;> omega] at hR
      wp_walk
      exact ⟨_, rfl, by simpa [Builtin.Tuple.tupleCompareSizes] using hR⟩
    case h =>
      exact ⟨rfl, rfl, items.toList, items2.toList, ns, ms, rfl, hi, hj, by omega, h⟩
end
section
variable {prog : Program} {w : World} {A : Around} {E : Value → Shared → Prop} {s : Shared}
theorem ge_tupInts {l b : Addr} {items items2 : Array Value} {ns ms : List Int} {Q : Value → Shared → Prop} (hl : IsTup s.heap l items) (hb : IsTup s.heap b items2) (hi : IntsAre items.toList ns) (hj : IntsAre items2.toList ms)
    (hu : A.units < cLine) (h : Q (.bool (!lexLt ns ms)) s) : wpAny (model prog w) A (compareOp .GtE (.ref l) (.ref b)) Q E s := by
  obtain ⟨⟨cls, dd, data, sl⟩, ho, hc, n, hd⟩ := id hl
  obtain ⟨⟨cls2, dd2, data2, sl2⟩, ho2, hc2, n2, hd2⟩ := id hb
  simp only at hc hd hc2 hd2
  subst hc hd hc2 hd2
  exact richCompare_meets_room (op := .GtE) ⟨_, ho, rfl⟩ ⟨_, ho2, rfl⟩ PySem.F.slot_tuple_ge PySem.F.entry_tuple_ge (PySem.F.args_tuple_ge_2 _ _) (tuple_ge_ints l b items items2 n n2 dd dd2 sl sl2 ns ms hi hj)
    ⟨ho, ho2, show Value.bool (!lexLt ns ms) ≠ Value.notImplemented ∧ Q (.bool (!lexLt ns ms)) s from ⟨(fun x => nomatch x), h⟩⟩ hu
end
end HT
namespace L2
open PySem PySem.Spec PyProof.Rows
def rGeT (K : PySem.W.Frag) : R2 := fun x y H Q => ∃ a b ns ms, x = .ref a ∧ y = .ref b ∧ SqT K H a (ns.map V.int) ∧ SqT K H b (ms.map V.int) ∧ Q (.bl (!HT.lexLt ns ms)) H
theorem geT {X : Cx} {K : PySem.W.Frag} {k : Nat} (hK : X.K = K) (hr : Room k X.A) : OpR X (compareOp .GtE) (rGeT K) := by
  subst hK
  intro pins s σ H x y v u Q I rx ry h
  obtain ⟨a, b, ns, ms, rfl, rfl, ha, hb, q⟩ := h
  cases rx
  cases ry
  have hu := hr.units
  obtain ⟨its, r1, p1, _⟩ := I.tuple ha
  obtain ⟨its2, r2, p2, _⟩ := I.tuple hb
  have i1 : IntsAre its.toArray.toList ns := intsAre_of r1
  have i2 : IntsAre its2.toArray.toList ms := intsAre_of r2
  exact HT.ge_tupInts p1 p2 i1 i2 (by omega) ⟨.bl _, H, I, rfl, q⟩
def tFmtR (t : TE) : TE := fun σ H Q => t σ H fun v H1 => ∃ y : Str, v = .str y ∧ (PySem.reprText y).length ≤ sizeLine ∧ Q (.str (PySem.reprText y)) H1
theorem pe_fmtR {X : Cx} {e : Expr} {t : TE} {pos : Pos} (h : PE X e t) : PE X (.FormattedValue e 114 none pos) (tFmtR t) := by
  intro pins s σ H Q I q
  refine wpAny_FormattedValue_repr (thn (h pins s σ H _ I q) fun v s1 ⟨x, H1, I1, rx, y, hy, hz, q1⟩ => ?_)
  subst hy
  obtain ⟨tk, rfl⟩ := rx
  exact wpAny_pyReprObj_str (wpAny_formatField_str (s := { s1 with toks := s1.toks + 1 }) ⟨.str _, H1, I1.tok _, ⟨_, rfl⟩, q1⟩ ⟨.str _, H1, I1.tok _, ⟨_, rfl⟩, q1⟩ hz) hz
theorem vals_pick {xs : List V} {us : List Value} (r : Vals xs us) : ∀ idx : List Nat, Vals (idx.filterMap (xs[·]?)) (idx.filterMap (us.toArray[·]?))
  | [] => .nil
  | i :: idx => by
    rw [List.filterMap_cons, List.filterMap_cons]
    cases e : xs[i]? with
    | none =>
      have hl := r.length
      have : us.toArray[i]? = none := by
        rw [List.getElem?_toArray]
        exact List.getElem?_eq_none (by have := List.getElem?_eq_none_iff.mp e; omega)
      rw [this]
      exact vals_pick r idx
    | some x =>
      obtain ⟨u, hu, ru⟩ := r.get e
      rw [show us.toArray[i]? = some u by simpa using hu]
      exact .cons ru (vals_pick r idx)
theorem fm_congr {α β : Type} {f g : α → Option β} : ∀ {l : List α}, (∀ x ∈ l, f x = g x) → l.filterMap f = l.filterMap g
  | [], _ => rfl
  | a :: l, h => by rw [List.filterMap_cons, List.filterMap_cons, h a List.mem_cons_self, fm_congr fun x hx => h x (List.mem_cons_of_mem _ hx)]
theorem pick_self (ys : List V) : (List.range ys.length).filterMap (fun k => ys[k]?) = ys := by
  induction ys with
  | nil => rfl
  | cons y ys ih =>
    rw [List.length_cons, List.range_succ_eq_map, List.filterMap_cons, List.filterMap_map]
    show y :: _ = y :: ys
    congr 1
theorem rev_pick (xs : List V) : (sliceRange (sliceBounds none none (some (-1)) xs.length).1 (sliceBounds none none (some (-1)) xs.length).2.1 (sliceBounds none none (some (-1)) xs.length).2.2).filterMap (xs[·]?) = xs.reverse := by
  have e : sliceRange (sliceBounds none none (some (-1)) xs.length).1 (sliceBounds none none (some (-1)) xs.length).2.1 (sliceBounds none none (some (-1)) xs.length).2.2 = (List.range xs.length).map fun k => xs.length - 1 - k := by
    unfold sliceRange
    simp [sliceBounds]
    rw [show (if -1 < (xs.length : Int) - 1 then (xs.length : Int) else 0).toNat = xs.length by split <;> omega]
    refine List.map_congr_left fun k hk => ?_
    have := List.mem_range.mp hk
    omega
  rw [e, List.filterMap_map]
  have e2 := pick_self xs.reverse
  rw [List.length_reverse] at e2
  refine Eq.trans (fm_congr fun k hk => ?_) e2
  have := List.mem_range.mp hk
  show xs[xs.length - 1 - k]? = xs.reverse[k]?
  rw [List.getElem?_reverse this]
def tRev (K : PySem.W.Frag) (te : TE) : TE := fun σ H Q => te σ H fun x H1 => ∃ (a : Addr) (xs : List V), x = .ref a ∧ SqL K H1 a xs ∧ ∀ p : Addr, H1 p = none → Q (.ref p) (upd H1 p (.lst xs.reverse))
theorem pe_rev {X : Cx} {K : PySem.W.Frag} {e : Expr} {te : TE} {j : Nat} {p1 p1' p2 pos : Pos} (hK : X.K = K) (he : PE X e te) : PE X (.Subscript e (.Slice none none (some (.UnaryOp .USub (.Constant (.int 1) j p1) p1')) p2) pos) (tRev K te) := by
  subst hK
  intro pins s σ H Q I h
  refine Subscript_ (thn (he pins s σ H _ I h) fun v s1 ⟨x, H1, I1, r1, a, xs, ex, hx, q⟩ => ?_)
  subst ex
  cases r1
  refine wpAny_Slice ?_
  rw [evalPart_none, evalPart_some]
  refine wpAny_pure (wpAny_pure (thn (pe_neg (X := X) pins s1 σ H1 (fun y H2 => y = .int (-1) ∧ H2 = H1) I1 ⟨rfl, rfl⟩) fun u s2 ⟨y, H2, I2, ry, ey, eH⟩ => ?_))
  subst ey eH
  obtain ⟨t, rfl⟩ := ry
  have I4 : Inv X pins σ H2 { s2 with heap := s2.heap.push { cls := .type "slice", data := .fields #[.none, .none, .int (-1) t] } } := I2.kept (t' := s2.toks) fun b ob z => Heap.get?_push_of_some _ z
  obtain ⟨its, r, ht, hz⟩ := I4.list hx
  have hlen := r.length
  refine tail_any (ops := [.ref a, .ref s2.heap.objs.size]) ht.isList.typeIs slot_list_getitem.lookup ?_ (by with_unfolding_all rfl)
  refine wpAny_getItem_list_slice ht.isList (Heap.IsSliceOf.new ..) .none .none (.int (-1) t) (by decide) ?_ (by rw [List.size_toArray]; omega)
  have rp := vals_pick r (sliceRange (sliceBounds none none (some (-1)) its.toArray.size).1 (sliceBounds none none (some (-1)) its.toArray.size).2.1 (sliceBounds none none (some (-1)) its.toArray.size).2.2)
  rw [List.size_toArray, ← hlen, rev_pick] at rp
  refine ⟨.ref _, _, I4.laid (t' := s2.toks) (o := .lst xs.reverse) (fun b ob z => Heap.get?_push_of_some _ z) (Nat.le_refl _) ⟨by rw [List.length_reverse]; exact hz, _, 0, rp, ?_⟩, rfl, q _ (I4.hok.fresh (Nat.le_refl _))⟩
  rw [hlen]
  exact Heap.get?_push_size _ rfl
def noneV : V → Bool
  | .non => true
  | _ => false
def rInN (K : PySem.W.Frag) : R2 := fun x y H Q => ∃ (p : Addr) (xs : List V), x = .non ∧ y = .ref p ∧ SqL K H p xs ∧ (∀ v ∈ xs, v = .non ∨ ∃ a zs, v = .ref a ∧ SqT K H a zs) ∧ Q (.bl (xs.any noneV)) H
def noneU : Value → Bool
  | .none => true
  | _ => false
theorem inN {X : Cx} {K : PySem.W.Frag} {k : Nat} (hK : X.K = K) (hr : Room k X.A) : OpR X (compareOp .In) (rInN K) := by
  subst hK
  intro pins s σ H x y v u Q I rx ry h
  obtain ⟨p, xs, rfl, rfl, hq, hv, q⟩ := h
  cases rx
  cases ry
  have hu := hr.units
  obtain ⟨its, r, pl, hz⟩ := I.list hq
  have key : ∀ {ys : List V} {us : List Value}, Vals ys us → (∀ v ∈ ys, v = .non ∨ ∃ a zs, v = .ref a ∧ SqT X.K H a zs) → us.any noneU = ys.any noneV ∧ ∀ w ∈ us, SeqAt.EqAt X.A.in1 s w .none (noneU w) := by
    intro ys us hr'
    induction hr' with
    | nil => exact fun _ => ⟨rfl, fun w hw => nomatch hw⟩
    | cons r1 r2 ih =>
      intro hv'
      obtain ⟨e1, e2⟩ := ih fun v hm => hv' v (List.mem_cons_of_mem _ hm)
      rcases hv' _ List.mem_cons_self with rfl | ⟨a, zs, rfl, ht⟩
      · cases r1
        refine ⟨by rw [List.any_cons, List.any_cons, e1]; rfl, fun w hw => ?_⟩
        rcases List.mem_cons.mp hw with rfl | hw
        · exact eqAt_V (y := .non) (x := .non) rfl rfl rfl rfl
        · exact e2 w hw
      · cases r1
        refine ⟨by rw [List.any_cons, List.any_cons, e1]; rfl, fun w hw => ?_⟩
        rcases List.mem_cons.mp hw with rfl | hw
        · obtain ⟨it, _, pt, _⟩ := I.tuple ht
          exact SeqAt.EqAt.tuple_none (show s.heap.IsTuple a it.toArray from pt) (by rw [Around.in1_units]; omega)
        · exact e2 w hw
  obtain ⟨e1, e2⟩ := key r hv
  refine SeqAt.in_listAt noneU pl.isList (fun w hw => e2 w (by simpa using hw)) ⟨.bl _, H, I, rfl, ?_⟩
  rw [show its.toArray.any noneU = its.any noneU by simp, e1]
  exact q
def tTryA (K : PySem.W.Frag) (C0 : Addr) (jv i : Nat) (sp : Sp) (t : TA) (ts : TS) : TS := fun D σ H => t σ H fun vs H1 => sp vs H1 (fun v H2 => D.nx (σ.set jv (some v)) H2) fun c _ H2 => ∃ C, c = .ref C ∧ PySem.W.mroIn K C (.ref C0) = some true ∧
  ∀ x, H2 x = none → ts (tryEnds i D) (σ.set i (some (.ref x))) (upd H2 x (ExcO x C))
theorem ps_tryA {X : Cx} {k m : Nat} {va x n y : Str} {sp : Sp} {e : Expr} {es : List Expr} {t : TA} {ts : TS} {p cpos epos yp hpos pos : Pos} {b₀ : Stmt} {suite : List Stmt} {C0 : Addr} {i jv : Nat} {vp : Pos} (C : CalleeX X.prog X.w X.K X.mg X.base k x sp) (hr : Room m X.A) (hg : Gl X x)
    (hstk : X.stack = X.env :: X.outer) (hfr : X.env.frame = some X.env.locals) (hcalm : X.calm = true)
    (hy : Gl X y) (hym : X.mg y = some (.ref C0)) (q0 : PySem.W.excIn X.K C0 bmVE "ValueError.__new__" = true) (hN : X.N.Nodup) (hj : X.N[jv]? = some va) (hv : X.env.scope.names.lookup va = some .local) (hi : X.N[i]? = some n) (hn : X.env.scope.names.lookup n = some .local)
    (ha : PA X.nox (e :: es) t) (hs : ∀ v, PSs (X.inX v).nox (b₀ :: suite) ts) (hk : k ≤ m := by decide)
    (hdb : (x == ("__debug__" : Str)) = false := by decide) (hdy : (y == ("__debug__" : Str)) = false := by decide) (he : starEach (e :: es) X.env = (false, eval e X.env) :: starEach es X.env := by rfl) (hpl : (backTo cpos (starEach es X.env)).any (·.1) = false := by rfl)
    (hsw : swapsWith (.Call (.Name x p) (e :: es) [] cpos) (some (.Name va vp)) epos.line X.env = pure false := by rfl) :
    PS X (.Try [.Assign [.Name va vp] (.Call (.Name x p) (e :: es) [] cpos) epos] [.ExceptHandler (some (.Name y yp)) (some n) (b₀ :: suite) hpos] [] [] pos) (tTryA X.K C0 jv i sp t ts) := by
  intro pins s σ H D I h
  obtain ⟨f, hm, kp, run⟩ := C.ex
  refine wpAny_Try_except (wpAny_execs_cons (wpAny_Assign_Name ?_ hsw))
  refine wpAny_Call_Name_kw (ld_glob I hg hm ?_ hdb)
  refine PySem.W.callWith_K (h₀ := X.base) I.ok.mod.kin kp (wpAny_mono (ha cpos pins s σ H _ (I.wish _) h) (fun us s1 ⟨vs, H1, I1', r, q⟩ => ⟨I1'.unwish.kIn, ?_⟩) fun _ _ z => False.elim z) he hpl
  have I1 := I1'.unwish
  refine wpAny_call (codeAny_mono (run X.A X.stack s1 H1 us vs _ _ (hr.mono hk) I1.env0 r q) fun rs s' hq => ?_)
  cases rs with
  | ok fl =>
    cases fl with
    | ret u =>
      obtain ⟨v', H2, I2, rv, q2⟩ := I1.after hq
      exact store_ok I2 hN hj (.inl hv) rv (fun s3 I3 => wpAny_execs_nil (wpAny_execs_nil ⟨_, H2, I3, q2⟩)) (.inr hv)
    | next => exact False.elim hq
    | brk => exact False.elim hq
    | cont => exact False.elim hq
  | error ex =>
    obtain ⟨x', C', a0, B, H2, rfl, fly, C, hC, hmro, q2⟩ := hq
    cases hC
    have fly0 := fly
    have fl0 := fly.fl
    rw [hstk] at fl0
    refine wpAny_looks_onW (by rw [I.ok.frames, hstk]) hfr fl0 fun h4 hheld4 hsm4 => ?_
    refine wpAny_landsW hheld4 fun h5 hheld hsm5' => ?_
    have fly5 := fly.on (h1 := h5) (by rw [hstk]; exact hheld) (hsm4.trans hsm5')
    have I5 := I1.landed fly5
    obtain ⟨ob, hob, hobc⟩ := hheld.there
    refine wpAny_handleBy_cons (codeAny_handlers_test (ld_glob (X := X.inX (.ref x')) (I5.inX _) hy hym ?_ hdy)) (by intro q; cases q)
    refine exc_matches (K := X.K) I5.kIn hob hobc q0 hmro (codeAny_handlers_suite_as ?_)
    refine lands_againW hheld fun h6 hfl6 hsm6 => ?_
    have fly6 := fly5.on (h1 := h6) (by rw [hstk]; exact hfl6) hsm6
    have I6 := I1.caught fly6
    refine store_ok (X := X.inX (.ref x')) (I6.inX _) hN hi (.inl hn) (v := .ref x') rfl (fun s7 I7 => ?_) (.inr hn)
    refine wpAny_mono (hs (.ref x') pins s7 _ _ (tryEnds i D) (I7.wish _) (q2 x' fly6.nx)) (fun fl s8 q8 => ?_) fun _ _ z => False.elim z
    have q9 : SP (X.inX (.ref x')) pins (tryEnds i D) fl s8 := q8.unwish
    cases fl with
    | next =>
      obtain ⟨σ', H', I', q⟩ := q9
      exact forget_ok (I'.outX I.ok.hd) hN hi hn fun s9 I9 => ⟨_, H', I9, q⟩
    | brk =>
      obtain ⟨σ', H', I', q⟩ := q9
      exact forget_ok (I'.outX I.ok.hd) hN hi hn fun s9 I9 => ⟨_, H', I9, q⟩
    | cont =>
      obtain ⟨σ', H', I', q⟩ := q9
      exact forget_ok (I'.outX I.ok.hd) hN hi hn fun s9 I9 => ⟨_, H', I9, q⟩
    | ret u =>
      obtain ⟨v, σ', H', I', rv, q⟩ := q9
      exact forget_ok (I'.outX I.ok.hd) hN hi hn fun s9 I9 => ⟨v, _, H', I9, rv, q⟩
end L2
set_option linter.all false
namespace Mw
def tied (ts : List (Nat × Nat)) (p q : Nat) : Bool := ts.any fun t => (t.1 == p && t.2 == q) || (t.1 == q && t.2 == p)
def nbr (n : Nat) (ts : List (Nat × Nat)) (p : Nat) : List Nat := (List.range n).filter fun q => tied ts p q
def webL (n : Nat) (ts : List (Nat × Nat)) : List (List Nat) := (List.range n).map (nbr n ts)
theorem tied_iff {ts : List (Nat × Nat)} {p q : Nat} : tied ts p q = true ↔ ((p, q) ∈ ts ∨ (q, p) ∈ ts) := by
  unfold tied
  rw [List.any_eq_true]
  constructor
  · rintro ⟨⟨a, b⟩, h1, h2⟩
    simp only [Bool.or_eq_true, Bool.and_eq_true, beq_iff_eq] at h2
    rcases h2 with ⟨rfl, rfl⟩ | ⟨rfl, rfl⟩
    · exact .inl h1
    · exact .inr h1
  · rintro (h | h)
    · exact ⟨_, h, by simp⟩
    · exact ⟨_, h, by simp⟩
theorem tied_append (a b : List (Nat × Nat)) (p q : Nat) : tied (a ++ b) p q = (tied a p q || tied b p q) := by
  unfold tied; rw [List.any_append]
def okSeq (n : Nat) (ts : List (Nat × Nat)) : Prop := ∀ i t, ts[i]? = some t → t.1 < n ∧ t.2 < n ∧ t.1 ≠ t.2 ∧ tied (ts.take i) t.1 t.2 = false
theorem range_rising (n : Nat) : (List.range n).Pairwise (· < ·) := by
  rw [List.pairwise_iff_getElem]
  intro i j hi hj hij
  simpa using hij
theorem nbr_rising (n : Nat) (ts : List (Nat × Nat)) (p : Nat) : (nbr n ts p).Pairwise (· < ·) := (range_rising n).filter _
theorem mem_nbr {n : Nat} {ts : List (Nat × Nat)} {p q : Nat} : q ∈ nbr n ts p ↔ q < n ∧ ((p, q) ∈ ts ∨ (q, p) ∈ ts) := by
  unfold nbr; rw [List.mem_filter, List.mem_range, tied_iff]
theorem sorted_perm_eq : ∀ {l m : List Int}, l.Perm m → l.Pairwise (· ≤ ·) → m.Pairwise (· ≤ ·) → l = m
  | [], m, h, _, _ => (List.nil_perm.mp h).symm
  | a :: l, [], h, _, _ => absurd h.symm (by intro z; exact absurd (List.nil_perm.mp z) (by simp))
  | a :: l, b :: m, h, h1, h2 => by
    have h1' := List.pairwise_cons.mp h1
    have h2' := List.pairwise_cons.mp h2
    have e : a = b := by
      have x1 : a ∈ b :: m := h.mem_iff.mp List.mem_cons_self
      have x2 : b ∈ a :: l := h.mem_iff.mpr List.mem_cons_self
      rcases List.mem_cons.mp x1 with z | z
      · exact z
      · rcases List.mem_cons.mp x2 with w | w
        · exact w.symm
        · have := h2'.1 a z; have := h1'.1 b w; omega
    subst e
    congr 1
    exact sorted_perm_eq (List.Perm.cons_inv h) h1'.2 h2'.2
end Mw
set_option linter.all false
namespace Mw
def Inn (g : List (List Nat)) : Prop := ∀ x y, y ∈ g.getD x [] → y < g.length
def Symm (g : List (List Nat)) : Prop := ∀ x y, y ∈ g.getD x [] → x ∈ g.getD y []
theorem nodup_lt_len : ∀ (n : Nat) (l : List Nat), l.Nodup → (∀ x ∈ l, x < n) → l.length ≤ n
  | 0, l, _, h => by
    cases l with
    | nil => exact Nat.le_refl _
    | cons x l => exact absurd (h x List.mem_cons_self) (by omega)
  | n + 1, l, nd, h => by
    by_cases m : n ∈ l
    · have e := List.length_erase_of_mem m
      have := nodup_lt_len n (l.erase n) (nd.erase n) fun x hx => by
        rw [List.Nodup.mem_erase_iff nd] at hx
        have := h x hx.2
        have := hx.1
        omega
      omega
    · have := nodup_lt_len n l nd fun x hx => by
        have := h x hx
        have : x ≠ n := fun z => m (z ▸ hx)
        omega
      omega
def mark (s : Nat) (c : (Nat → Option Nat) × List Nat) (o : Nat) : (Nat → Option Nat) × List Nat :=
  if c.1 o = none then (fun x => if x = o then some s else c.1 x, c.2 ++ [o]) else c
def left (n : Nat) (t : Nat → Option Nat) : Nat := (List.range n).countP fun x => (t x).isNone
theorem webL_getD {n : Nat} {ts : List (Nat × Nat)} {p : Nat} (h : p < n) : (webL n ts).getD p [] = nbr n ts p := by
  unfold webL
  rw [List.getD_eq_getElem?_getD, List.getElem?_map, List.getElem?_range h]
  rfl
theorem webL_getD_ge {n : Nat} {ts : List (Nat × Nat)} {p : Nat} (h : ¬ p < n) : (webL n ts).getD p [] = [] := by
  unfold webL
  rw [List.getD_eq_getElem?_getD, List.getElem?_eq_none (by simpa using h)]
  rfl
theorem webL_length (n : Nat) (ts : List (Nat × Nat)) : (webL n ts).length = n := by unfold webL; rw [List.length_map, List.length_range]
theorem webL_mem {n : Nat} {ts : List (Nat × Nat)} {x y : Nat} : y ∈ (webL n ts).getD x [] ↔ x < n ∧ y < n ∧ ((x, y) ∈ ts ∨ (y, x) ∈ ts) := by
  by_cases hx : x < n
  · rw [webL_getD hx, mem_nbr]
    simp [hx]
  · rw [webL_getD_ge hx]
    simp [hx]
def norm (t : Nat × Nat) : Nat × Nat := if t.1 ≤ t.2 then t else (t.2, t.1)
structure Good (n : Nat) (ts : List (Nat × Nat)) : Prop where
  inn : ∀ t ∈ ts, t.1 < n ∧ t.2 < n ∧ t.1 ≠ t.2
  nd : (ts.map norm).Nodup
theorem norm_swap (a b : Nat) : norm (a, b) = norm (b, a) := by
  unfold norm
  by_cases h : a ≤ b
  · by_cases h' : b ≤ a
    · have : a = b := by omega
      subst this; rfl
    · rw [if_pos h, if_neg h']
  · rw [if_neg h, if_pos (by show b ≤ a; omega)]
theorem Good.seq {n : Nat} {ts : List (Nat × Nat)} (h : Good n ts) : okSeq n ts := by
  intro i t ht
  obtain ⟨q1, q2, q3⟩ := h.inn t (List.mem_of_getElem? ht)
  refine ⟨q1, q2, q3, ?_⟩
  cases e : tied (ts.take i) t.1 t.2 with
  | false => rfl
  | true =>
    exfalso
    rw [tied_iff] at e
    have key : ∀ u, u ∈ ts.take i → norm u = norm t → False := by
      intro u hu en
      obtain ⟨j, hj, eu⟩ := List.getElem_of_mem hu
      rw [List.length_take] at hj
      rw [List.getElem_take] at eu
      obtain ⟨hi, et⟩ := List.getElem?_eq_some_iff.mp ht
      have hj' : j < (ts.map norm).length := by rw [List.length_map]; omega
      have hi' : i < (ts.map norm).length := by rw [List.length_map]; omega
      have := (List.getElem_inj (i := j) (j := i) (h₀ := hj') (h₁ := hi') h.nd).mp (by rw [List.getElem_map, List.getElem_map, eu, et, en])
      omega
    rcases e with e | e
    · exact key _ e rfl
    · exact key _ e (norm_swap _ _)
theorem Good.perm {n : Nat} {ts us : List (Nat × Nat)} (h : Good n ts) (p : us.Perm ts) : Good n us :=
  ⟨fun t ht => h.inn t (p.mem_iff.mp ht), ((p.map norm).nodup_iff).mpr h.nd⟩
theorem Good.len {n : Nat} {ts : List (Nat × Nat)} (h : Good n ts) : True := trivial
end Mw
set_option linter.all false
namespace Mw
def nb1 (p : Nat) (t : Nat × Nat) : List Nat := (if t.1 = p then [t.2] else []) ++ (if t.2 = p then [t.1] else [])
def nb (ts : List (Nat × Nat)) (p : Nat) : List Nat := ts.flatMap (nb1 p)
theorem mem_nb1 {p q : Nat} {t : Nat × Nat} : q ∈ nb1 p t ↔ t = (p, q) ∨ t = (q, p) := by
  obtain ⟨a, b⟩ := t
  unfold nb1
  rw [List.mem_append]
  constructor
  · rintro (h | h)
    · split at h
      · rename_i e; simp at h; exact .inl (Prod.ext e h.symm)
      · simp at h
    · split at h
      · rename_i e; simp at h; exact .inr (Prod.ext h.symm e)
      · simp at h
  · rintro (h | h)
    · injection h with h1 h2; exact .inl (by simp [h1, h2])
    · injection h with h1 h2; exact .inr (by simp [h1, h2])
theorem mem_nb {ts : List (Nat × Nat)} {p q : Nat} : q ∈ nb ts p ↔ (p, q) ∈ ts ∨ (q, p) ∈ ts := by
  unfold nb
  rw [List.mem_flatMap]
  constructor
  · rintro ⟨t, ht, hq⟩
    rcases mem_nb1.mp hq with rfl | rfl
    · exact .inl ht
    · exact .inr ht
  · rintro (h | h)
    · exact ⟨_, h, mem_nb1.mpr (.inl rfl)⟩
    · exact ⟨_, h, mem_nb1.mpr (.inr rfl)⟩
theorem Good.tail {n : Nat} {t : Nat × Nat} {ts : List (Nat × Nat)} (h : Good n (t :: ts)) : Good n ts := ⟨fun u hu => h.inn u (List.mem_cons_of_mem _ hu), by have := h.nd; rw [List.map_cons, List.nodup_cons] at this; exact this.2⟩
theorem nb_nodup {n : Nat} {p : Nat} : ∀ {ts : List (Nat × Nat)}, Good n ts → (nb ts p).Nodup
  | [], _ => by simp [nb]
  | t :: ts, h => by
    have ih := nb_nodup (p := p) h.tail
    have hn := h.nd
    rw [List.map_cons, List.nodup_cons] at hn
    obtain ⟨_, _, hne⟩ := h.inn t List.mem_cons_self
    unfold nb
    rw [List.flatMap_cons, List.nodup_append]
    refine ⟨?_, ih, fun a ha b hb e => ?_⟩
    · unfold nb1
      by_cases h1 : t.1 = p
      · rw [if_pos h1, if_neg (fun h2 => hne (h1.trans h2.symm))]; simp
      · rw [if_neg h1]; split <;> simp
    · subst e
      apply hn.1
      rw [List.mem_map]
      rcases mem_nb.mp hb with m | m
      · refine ⟨_, m, ?_⟩
        rcases mem_nb1.mp ha with rfl | rfl
        · rfl
        · exact norm_swap _ _
      · refine ⟨_, m, ?_⟩
        rcases mem_nb1.mp ha with rfl | rfl
        · exact norm_swap _ _
        · rfl
theorem rising_nodup {l : List Nat} (h : l.Pairwise (· < ·)) : l.Nodup := by
  rw [List.nodup_iff_pairwise_ne]
  exact h.imp fun z => by omega
theorem nb_perm {n : Nat} {ts : List (Nat × Nat)} (h : Good n ts) (p : Nat) : (nbr n ts p).Perm (nb ts p) := by
  rw [List.perm_ext_iff_of_nodup (rising_nodup (nbr_rising n ts p)) (nb_nodup h)]
  intro q
  rw [mem_nbr, mem_nb]
  refine ⟨fun z => z.2, fun z => ⟨?_, z⟩⟩
  rcases z with z | z
  · exact (h.inn _ z).2.1
  · exact (h.inn _ z).1
theorem nb_snoc (ts : List (Nat × Nat)) (t : Nat × Nat) (p : Nat) : nb (ts ++ [t]) p = nb ts p ++ nb1 p t := by
  unfold nb
  rw [List.flatMap_append]
  simp
theorem nb_lt {n : Nat} {ts : List (Nat × Nat)} (h : Good n ts) {p q : Nat} (hq : q ∈ nb ts p) : q < n := by
  rcases mem_nb.mp hq with z | z
  · exact (h.inn _ z).2.1
  · exact (h.inn _ z).1
theorem nb_len {n : Nat} {ts : List (Nat × Nat)} (h : Good n ts) (p : Nat) : (nb ts p).length ≤ n := nodup_lt_len n _ (nb_nodup h) fun _ hq => nb_lt h hq
theorem Good.take {n : Nat} {ts : List (Nat × Nat)} (h : Good n ts) (i : Nat) : Good n (ts.take i) := ⟨fun u hu => h.inn u (List.mem_of_mem_take hu), by rw [List.map_take]; exact h.nd.sublist (List.take_sublist _ _)⟩
end Mw
set_option linter.all false
namespace Mw
def pcF : Nat → Nat → Nat
  | 0, _ => 0
  | f + 1, n => n % 2 + pcF f (n / 2)
def pc (n : Nat) : Nat := pcF n n
def ud (a b : Nat) : Nat := pc (a ^^^ b)
theorem ud_comm (a b : Nat) : ud a b = ud b a := by unfold ud; rw [Nat.xor_comm]
def amid (a b x : Nat) : Prop := (a ^^^ x) &&& (x ^^^ b) = 0
instance (a b x : Nat) : Decidable (amid a b x) := inferInstanceAs (Decidable (_ = _))
def maj (a b c : Nat) : Nat := a &&& b ||| b &&& c ||| a &&& c
structure Iso (B : List Nat) : Prop where
  nd : B.Nodup
  step : ∀ a ∈ B, ∀ b ∈ B, a ≠ b → ∃ c ∈ B, ud a c = 1 ∧ amid a b c
structure Med (B : List Nat) : Prop extends Iso B where
  med : ∀ a ∈ B, ∀ b ∈ B, ∀ c ∈ B, maj a b c ∈ B
theorem Med.perm {B C : List Nat} (h : Med B) (p : C.Perm B) : Med C :=
  ⟨⟨p.nodup_iff.mpr h.nd, fun a ha b hb ne => by
    obtain ⟨c, hc, q⟩ := h.step a (p.mem_iff.mp ha) b (p.mem_iff.mp hb) ne
    exact ⟨c, p.mem_iff.mpr hc, q⟩⟩, fun a ha b hb c hc => p.mem_iff.mpr (h.med a (p.mem_iff.mp ha) b (p.mem_iff.mp hb) c (p.mem_iff.mp hc))⟩
def up (k x : Nat) : Nat := x + 2 ^ k
def IsWeb (g : List (List Nat)) (B : List Nat) : Prop := g.length = B.length ∧ ∀ x y, y ∈ g.getD x [] ↔ x < B.length ∧ y < B.length ∧ ud (B.getD x 0) (B.getD y 0) = 1
theorem IsWeb.inn {g : List (List Nat)} {B : List Nat} (h : IsWeb g B) : Inn g := fun x y q => by rw [h.1]; exact ((h.2 x y).mp q).2.1
theorem IsWeb.symm {g : List (List Nat)} {B : List Nat} (h : IsWeb g B) : Symm g := fun x y q => by
  obtain ⟨q1, q2, q3⟩ := (h.2 x y).mp q
  exact (h.2 y x).mpr ⟨q2, q1, by rw [ud_comm]; exact q3⟩
theorem getD_mem {B : List Nat} {x : Nat} (h : x < B.length) : B.getD x 0 ∈ B := by
  rw [List.getD_eq_getElem?_getD, List.getElem?_eq_getElem h]; exact List.getElem_mem h
theorem mem_getD {B : List Nat} {v : Nat} (h : v ∈ B) : ∃ x, x < B.length ∧ B.getD x 0 = v := by
  obtain ⟨x, hx, e⟩ := List.getElem_of_mem h
  exact ⟨x, hx, by rw [List.getD_eq_getElem?_getD, List.getElem?_eq_getElem hx]; exact e⟩
end Mw
set_option linter.all false
namespace Mw
end Mw
set_option linter.all false
namespace Mw
def mk (B : List Nat) (t : Nat × Nat) : Nat := B.getD t.1 0 ^^^ B.getD t.2 0
def rowG (g : List (List Nat)) (p : Nat) : List (Nat × Nat) := ((g.getD p []).filter fun q => decide (p < q)).map fun q => (p, q)
def tiesG (g : List (List Nat)) (k : Nat) : List (Nat × Nat) := (List.range k).flatMap (rowG g)
theorem tiesG_succ (g : List (List Nat)) (k : Nat) : tiesG g (k + 1) = tiesG g k ++ rowG g k := by
  unfold tiesG
  rw [List.range_succ, List.flatMap_append]
  simp
theorem mem_rowG {g : List (List Nat)} {p : Nat} {t : Nat × Nat} : t ∈ rowG g p ↔ t.1 = p ∧ t.2 ∈ g.getD p [] ∧ p < t.2 := by
  unfold rowG
  rw [List.mem_map]
  constructor
  · rintro ⟨q, hq, rfl⟩
    rw [List.mem_filter, decide_eq_true_eq] at hq
    exact ⟨rfl, hq⟩
  · rintro ⟨rfl, h⟩
    exact ⟨t.2, List.mem_filter.mpr ⟨h.1, decide_eq_true h.2⟩, rfl⟩
theorem mem_tiesG {g : List (List Nat)} {k : Nat} {t : Nat × Nat} : t ∈ tiesG g k ↔ t.1 < k ∧ t.2 ∈ g.getD t.1 [] ∧ t.1 < t.2 := by
  unfold tiesG
  rw [List.mem_flatMap]
  constructor
  · rintro ⟨p, hp, h⟩
    obtain ⟨rfl, h⟩ := mem_rowG.mp h
    exact ⟨List.mem_range.mp hp, h⟩
  · rintro ⟨h1, h2⟩
    exact ⟨t.1, List.mem_range.mpr h1, mem_rowG.mpr ⟨rfl, h2⟩⟩
def Rising (g : List (List Nat)) : Prop := ∀ p, (g.getD p []).Pairwise (· < ·)
theorem webL_rising (n : Nat) (ts : List (Nat × Nat)) : Rising (webL n ts) := by
  intro p
  by_cases h : p < n
  · rw [webL_getD h]
    unfold nbr
    exact List.Pairwise.filter _ List.pairwise_lt_range
  · rw [webL_getD_ge h]
    exact .nil
end Mw
set_option linter.all false
namespace Mw
open PySem
def cs (x : PySem.Str) : List Nat := x.cps.toList
theorem cs_inj {x y : PySem.Str} (h : cs x = cs y) : x = y := PySem.Str.ext' (Array.toList_inj.mp h)
theorem cs_app (x y : PySem.Str) : cs (x ++ y) = cs x ++ cs y := by
  unfold cs
  rw [PySem.Str.cps_append, Array.toList_append]
theorem cs_len (x : PySem.Str) : (cs x).length = x.length := by simp [cs, PySem.Str.length]
theorem cs_mk (l : List Nat) : cs ⟨l.toArray⟩ = l := by simp [cs]
def joinL (c : Nat) : List (List Nat) → List Nat
  | [] => []
  | [x] => x
  | x :: y :: r => x ++ c :: joinL c (y :: r)
theorem cs_join (c : Nat) : ∀ l : List PySem.Str, cs (PySem.Str.join ⟨#[c]⟩ l) = joinL c (l.map cs)
  | [] => rfl
  | [x] => rfl
  | x :: y :: r => by
    show cs (x ++ ⟨#[c]⟩ ++ PySem.Str.join ⟨#[c]⟩ (y :: r)) = cs x ++ c :: joinL c (cs y :: r.map cs)
    rw [cs_app, cs_app, cs_join c (y :: r), List.append_assoc]
    rfl
theorem cut_eq {c : Nat} : ∀ {x y a b : List Nat}, c ∉ x → c ∉ y → x ++ c :: a = y ++ c :: b → x = y ∧ a = b
  | [], [], a, b, _, _, h => ⟨rfl, (List.cons.inj h).2⟩
  | [], y :: ys, a, b, _, hy, h => by
    have := (List.cons.inj h).1
    exact absurd (by rw [this]; exact List.mem_cons_self) hy
  | x :: xs, [], a, b, hx, _, h => by
    have := (List.cons.inj h).1
    exact absurd (by rw [← this]; exact List.mem_cons_self) hx
  | x :: xs, y :: ys, a, b, hx, hy, h => by
    obtain ⟨h1, h2⟩ := List.cons.inj h
    obtain ⟨h3, h4⟩ := cut_eq (fun z => hx (List.mem_cons_of_mem _ z)) (fun z => hy (List.mem_cons_of_mem _ z)) h2
    exact ⟨by rw [h1, h3], h4⟩
theorem joinL_inj {c : Nat} : ∀ {P Q : List (List Nat)}, P ≠ [] → Q ≠ [] → (∀ p ∈ P, c ∉ p) → (∀ q ∈ Q, c ∉ q) → joinL c P = joinL c Q → P = Q
  | [x], [y], _, _, _, _, h => by rw [show x = y from h]
  | [x], y :: z :: r, _, _, hP, _, h => by
    have h' : x = y ++ c :: joinL c (z :: r) := h
    exact absurd (by rw [h']; simp) (hP x List.mem_cons_self)
  | x :: z :: r, [y], _, _, _, hQ, h => by
    have h' : x ++ c :: joinL c (z :: r) = y := h
    exact absurd (by rw [← h']; simp) (hQ y List.mem_cons_self)
  | x :: z :: r, y :: u :: q, _, _, hP, hQ, h => by
    have h' : x ++ c :: joinL c (z :: r) = y ++ c :: joinL c (u :: q) := h
    obtain ⟨h1, h2⟩ := cut_eq (hP x List.mem_cons_self) (hQ y List.mem_cons_self) h'
    rw [h1, joinL_inj (by simp) (by simp) (fun p hp => hP p (List.mem_cons_of_mem _ hp)) (fun p hp => hQ p (List.mem_cons_of_mem _ hp)) h2]
theorem split_ne (x y : PySem.Str) : Txt.split x y ≠ [] := by
  unfold Txt.split
  split
  · simp
  · split
    · simp
    · rw [StrLaws.partsBetween_eq]
      obtain ⟨p, r, e⟩ := StrLaws.partsFrom_ne x y.length 0 (Builtin.Str.occurrences x y 0 x.length (x.length + 1))
      rw [e]; simp
theorem map_cs_inj : ∀ {l m : List PySem.Str}, l.map cs = m.map cs → l = m
  | [], [], _ => rfl
  | [], y :: m, h => by simp at h
  | x :: l, [], h => by simp at h
  | x :: l, y :: m, h => by
    rw [List.map_cons, List.map_cons] at h
    obtain ⟨h1, h2⟩ := List.cons.inj h
    rw [cs_inj h1, map_cs_inj h2]
theorem split_of {x : PySem.Str} {c : Nat} {P : List PySem.Str} (hP : P ≠ []) (hf : ∀ p ∈ P, c ∉ cs p) (h : cs x = joinL c (P.map cs)) : Txt.split x ⟨#[c]⟩ = P := by
  have e := congrArg cs (StrLaws.join_split x ⟨#[c]⟩)
  rw [cs_join, h] at e
  refine map_cs_inj (joinL_inj (c := c) (by simpa using split_ne x ⟨#[c]⟩) (by simpa using hP) (fun p hp => ?_) (fun p hp => ?_) e)
  · obtain ⟨q, hq, rfl⟩ := List.mem_map.mp hp
    exact StrLaws.split_free x c q hq
  · obtain ⟨q, hq, rfl⟩ := List.mem_map.mp hp
    exact hf q hq
theorem split_join {x : PySem.Str} {c : Nat} : cs x = joinL c ((Txt.split x ⟨#[c]⟩).map cs) := by
  rw [← cs_join, StrLaws.join_split]
theorem slice_last (x : PySem.Str) (c : Nat) : Txt.slice (x ++ ⟨#[c]⟩) none (some (-1)) = x := by
  have hl : (x ++ ⟨#[c]⟩ : PySem.Str).length = x.length + 1 := by rw [PySem.Str.length_append]; rfl
  have e := StrLaws.sliceText_to_neg (x := x ++ ⟨#[c]⟩) (j := -1) (by decide) (by rw [hl]; omega)
  show StrLaws.sliceText _ _ _ = x
  rw [e]
  refine cs_inj ?_
  rw [cs_mk, hl, List.drop_zero]
  show List.take _ (cs (x ++ ⟨#[c]⟩)) = _
  rw [cs_app, show ((-1 : Int) + ((x.length + 1 : Nat) : Int) - 0).toNat = (cs x).length by rw [cs_len]; omega]
  exact List.take_left
theorem slice_cs (x : PySem.Str) (h : x.length ≠ 0) : cs (Txt.slice x none (some (-1))) = (cs x).dropLast := by
  have e := StrLaws.sliceText_to_neg (x := x) (j := -1) (by decide) (by omega)
  show cs (StrLaws.sliceText _ _ _) = _
  rw [e, cs_mk, List.drop_zero, List.dropLast_eq_take]
  show List.take _ (cs x) = _
  congr 1
  rw [cs_len]; omega
theorem ends_of (x : PySem.Str) (c : Nat) : Txt.endswith x ⟨#[c]⟩ = decide ((cs x).getLast? = some c) := by
  unfold Txt.endswith
  rw [StrLaws.subAt_eq, Bool.eq_iff_iff, Bool.and_eq_true, decide_eq_true_eq, decide_eq_true_eq, beq_iff_eq]
  show (0 + 1 ≤ x.length ∧ List.take 1 (List.drop (x.length - 1) (cs x)) = [c]) ↔ _
  rw [List.getLast?_eq_getElem?, cs_len]
  constructor
  · rintro ⟨h1, h2⟩
    have := congrArg (·[0]?) h2
    simpa using this
  · intro h
    have hlt : x.length - 1 < (cs x).length := (List.getElem?_eq_some_iff.mp h).1
    rw [cs_len] at hlt
    refine ⟨by omega, ?_⟩
    have hlt' : x.length - 1 < (cs x).length := by rw [cs_len]; omega
    rw [List.drop_eq_getElem_cons hlt', List.take_succ_cons, List.take_zero]
    rw [List.getElem?_eq_getElem hlt'] at h
    rw [Option.some.inj h]
def num (n : Nat) : PySem.Str := PySem.Str.ofString (toString (n : Int))
def figs : List Nat := cs (PySem.Str.ofString "0123456789")
def isNum (most : Nat) (z : PySem.Str) : Bool := (decide (1 ≤ z.length) && decide (z.length ≤ most)) && !(((cs z).head? == some 48) && !(cs z == [48])) && (cs z).all fun c => decide (c ∈ figs)
def numOk (n : Nat) : Bool := isNum 2 (num n) && (cs (num n)).all (fun c => decide (48 ≤ c) && decide (c ≤ 57)) && decide ((num n).length ≤ 2) && decide (1 ≤ (num n).length)
theorem num_all : (List.range 100).all numOk = true := by decide +kernel
theorem num_ok {n : Nat} (h : n < 100) : isNum 2 (num n) = true ∧ (∀ c ∈ cs (num n), 48 ≤ c ∧ c ≤ 57) ∧ (num n).length ≤ 2 ∧ 1 ≤ (num n).length := by
  have := List.all_eq_true.mp num_all n (List.mem_range.mpr h)
  unfold numOk at this
  rw [Bool.and_eq_true, Bool.and_eq_true, Bool.and_eq_true, decide_eq_true_eq, decide_eq_true_eq, List.all_eq_true] at this
  obtain ⟨⟨⟨h1, h2⟩, h3⟩, h4⟩ := this
  refine ⟨h1, fun c hc => ?_, h3, h4⟩
  have := h2 c hc
  rw [Bool.and_eq_true, decide_eq_true_eq, decide_eq_true_eq] at this
  exact this
theorem num_int {n : Nat} (h : n < 100) : PySem.intText? (num n) = some (n : Int) := PySem.W.KIN.num_reads (by omega) (by omega)
theorem num_free {n c : Nat} (h : n < 100) (hc : c < 48 ∨ 57 < c) : c ∉ cs (num n) := fun z => by
  have := (num_ok h).2.1 c z
  omega
def tieT (t : Nat × Nat) : PySem.Str := num t.1 ++ PySem.Str.ofString "-" ++ num t.2
def headT (n : Nat) : PySem.Str := num n ++ PySem.Str.ofString ":"
def wordsT (n : Nat) (ts : List (Nat × Nat)) : List PySem.Str := headT n :: ts.map tieT
def dueT (n : Nat) (ts : List (Nat × Nat)) : PySem.Str := ts.foldl (fun d t => d ++ PySem.Str.ofString " " ++ num t.1 ++ PySem.Str.ofString "-" ++ num t.2) (headT n)
theorem sp_is : PySem.Str.ofString " " = ⟨#[32]⟩ := by decide +kernel
theorem mi_is : PySem.Str.ofString "-" = ⟨#[45]⟩ := by decide +kernel
theorem co_is : PySem.Str.ofString ":" = ⟨#[58]⟩ := by decide +kernel
theorem no_is : PySem.Str.ofString "0" = ⟨#[48]⟩ := by decide +kernel
theorem cs_tie (t : Nat × Nat) : cs (tieT t) = cs (num t.1) ++ 45 :: cs (num t.2) := by
  unfold tieT
  rw [cs_app, cs_app, mi_is, List.append_assoc]; rfl
theorem cs_head (n : Nat) : cs (headT n) = cs (num n) ++ [58] := by
  unfold headT
  rw [cs_app, co_is]; rfl
theorem joinL_snoc (c : Nat) : ∀ (x : List Nat) (l : List (List Nat)) (y : List Nat), joinL c (x :: (l ++ [y])) = joinL c (x :: l) ++ c :: y
  | x, [], y => rfl
  | x, z :: l, y => by
    show x ++ c :: joinL c (z :: (l ++ [y])) = (x ++ c :: joinL c (z :: l)) ++ c :: y
    rw [joinL_snoc c z l y, List.append_assoc]; rfl
theorem cs_due (n : Nat) (ts : List (Nat × Nat)) : cs (dueT n ts) = joinL 32 ((wordsT n ts).map cs) := by
  suffices h : ∀ (k : Nat), k ≤ ts.length → cs (dueT n (ts.take k)) = joinL 32 ((wordsT n (ts.take k)).map cs) by
    have := h ts.length (Nat.le_refl _)
    rwa [List.take_length] at this
  intro k
  induction k with
  | zero => intro _; rfl
  | succ k ih =>
    intro hk
    have e : ts.take (k + 1) = ts.take k ++ [ts[k]] := by rw [List.take_add_one, List.getElem?_eq_getElem (by omega)]; rfl
    rw [e]
    unfold dueT wordsT
    rw [List.foldl_append, List.map_append, List.map_cons, List.map_append]
    show cs (dueT n (ts.take k) ++ PySem.Str.ofString " " ++ num ts[k].1 ++ PySem.Str.ofString "-" ++ num ts[k].2) = joinL 32 (cs (headT n) :: ((ts.take k).map tieT).map cs ++ [cs (tieT ts[k])])
    rw [List.cons_append, joinL_snoc, cs_app, cs_app, cs_app, cs_app, ih (by omega), cs_tie, sp_is, mi_is]
    show _ ++ [32] ++ _ ++ [45] ++ _ = _
    rw [List.append_assoc, List.append_assoc, List.append_assoc]
    rfl
theorem dueT_snoc (n : Nat) (ts : List (Nat × Nat)) (t : Nat × Nat) : dueT n (ts ++ [t]) = dueT n ts ++ PySem.Str.ofString " " ++ num t.1 ++ PySem.Str.ofString "-" ++ num t.2 := by
  unfold dueT
  rw [List.foldl_append]; rfl
theorem due_join (n : Nat) (ts : List (Nat × Nat)) : Txt.join (PySem.Str.ofString " ") (wordsT n ts) = dueT n ts := by
  refine cs_inj ?_
  rw [cs_due, ← cs_join, ← sp_is]
  exact congrArg cs (StrLaws.glued_eq_join _ _)
theorem free_tie {t : Nat × Nat} (h1 : t.1 < 100) (h2 : t.2 < 100) : 32 ∉ cs (tieT t) := by
  rw [cs_tie]
  intro z
  rcases List.mem_append.mp z with z | z
  · exact num_free h1 (by omega) z
  · rcases List.mem_cons.mp z with z | z
    · cases z
    · exact num_free h2 (by omega) z
theorem free_head {n : Nat} (h : n < 100) : 32 ∉ cs (headT n) := by
  rw [cs_head]
  intro z
  rcases List.mem_append.mp z with z | z
  · exact num_free h (by omega) z
  · simp at z
theorem split_due {n : Nat} {ts : List (Nat × Nat)} (hn : n < 100) (h : ∀ t ∈ ts, t.1 < 100 ∧ t.2 < 100) : Txt.split (dueT n ts) (PySem.Str.ofString " ") = wordsT n ts := by
  rw [sp_is]
  refine split_of (by simp [wordsT]) (fun p hp => ?_) (cs_due n ts)
  rcases List.mem_cons.mp hp with rfl | hp
  · exact free_head hn
  · obtain ⟨t, ht, rfl⟩ := List.mem_map.mp hp
    exact free_tie (h t ht).1 (h t ht).2
theorem split_tie {t : Nat × Nat} (h1 : t.1 < 100) (h2 : t.2 < 100) : Txt.split (tieT t) (PySem.Str.ofString "-") = [num t.1, num t.2] := by
  rw [mi_is]
  refine split_of (by simp) (fun p hp => ?_) (by rw [cs_tie]; rfl)
  simp only [List.mem_cons, List.not_mem_nil, or_false] at hp
  rcases hp with rfl | rfl
  · exact num_free h1 (by omega)
  · exact num_free h2 (by omega)
theorem ends_head (n : Nat) : Txt.endswith (headT n) (PySem.Str.ofString ":") = true := by
  rw [co_is, ends_of, cs_head]
  simp
theorem slice_head (n : Nat) : Txt.slice (headT n) none (some (-1)) = num n := by
  unfold headT
  rw [co_is, slice_last]
theorem tie_len {t : Nat × Nat} (h1 : t.1 < 100) (h2 : t.2 < 100) : (tieT t).length ≤ 5 := by
  rw [← cs_len, cs_tie, List.length_append, List.length_cons, cs_len, cs_len]
  have := (num_ok h1).2.2.1
  have := (num_ok h2).2.2.1
  omega
theorem head_len {n : Nat} (h : n < 100) : (headT n).length ≤ 3 := by
  rw [← cs_len, cs_head, List.length_append, cs_len]
  have := (num_ok h).2.2.1
  show _ + 1 ≤ 3
  omega
theorem due_len {n : Nat} {ts : List (Nat × Nat)} (hn : n < 100) (h : ∀ t ∈ ts, t.1 < 100 ∧ t.2 < 100) : (dueT n ts).length ≤ 3 + 6 * ts.length := by
  suffices q : ∀ (k : Nat), k ≤ ts.length → (dueT n (ts.take k)).length ≤ 3 + 6 * k by
    have := q ts.length (Nat.le_refl _)
    rwa [List.take_length] at this
  intro k
  induction k with
  | zero => intro _; exact head_len hn
  | succ k ih =>
    intro hk
    have e : ts.take (k + 1) = ts.take k ++ [ts[k]] := by rw [List.take_add_one, List.getElem?_eq_getElem (by omega)]; rfl
    have hm := h ts[k] (List.getElem_mem _)
    have a := (num_ok hm.1).2.2.1
    have b := (num_ok hm.2).2.2.1
    have c := ih (by omega)
    rw [e, dueT_snoc]
    have s1 : (PySem.Str.ofString " ").length = 1 := by rw [sp_is]; rfl
    have s2 : (PySem.Str.ofString "-").length = 1 := by rw [mi_is]; rfl
    rw [PySem.Str.length_append, PySem.Str.length_append, PySem.Str.length_append, PySem.Str.length_append, s1, s2]
    omega
theorem join_ok {n : Nat} {ts : List (Nat × Nat)} (hn : n < 100) (h : ∀ t ∈ ts, t.1 < 100 ∧ t.2 < 100) (hl : ts.length ≤ 1000) : PySem.JoinOk (PySem.Str.ofString " ") (wordsT n ts) = true := by
  unfold PySem.JoinOk
  rw [sp_is]
  have hB : ∀ y ∈ wordsT n ts, y.length ≤ 5 := fun y hy => by
    rcases List.mem_cons.mp hy with rfl | hy
    · exact Nat.le_trans (head_len hn) (by decide)
    · obtain ⟨t, ht, rfl⟩ := List.mem_map.mp hy
      exact tie_len (h t ht).1 (h t ht).2
  have hw : (wordsT n ts).length ≤ 1001 := by unfold wordsT; rw [List.length_cons, List.length_map]; omega
  have := StrLaws.joinFits (sep := ⟨#[32]⟩) (texts := wordsT n ts) (B := 5) hB (by show _ * 5 + _ * 1 ≤ _; omega)
  simpa using this
end Mw
namespace K44
open PySem L2 Mw
def top (i : Nat) : Stmt := PySem.Challenge.pw_middleweb_k44_texts_of_no_webs.main.body.getD i (.Pass ⟨0, 0, 0, 0⟩)
abbrev sis_whole : Stmt := top 13
theorem scis_whole : FnScope ["thing"] ["thing"] (defScope sis_whole) := ⟨rfl, rfl, rfl, by decide +kernel, rfl, by decide +kernel, by decide +kernel⟩
abbrev sis_whole_within : Stmt := top 14
theorem scis_whole_within : FnScope ["thing", "least", "most"] ["thing", "least", "most"] (defScope sis_whole_within) := ⟨rfl, rfl, rfl, by decide +kernel, rfl, by decide +kernel, by decide +kernel⟩
abbrev scheck_number : Stmt := top 15
theorem sccheck_number : FnScope ["thing", "least", "most"] ["thing", "least", "most"] (defScope scheck_number) := ⟨rfl, rfl, rfl, by decide +kernel, rfl, by decide +kernel, by decide +kernel⟩
abbrev scheck_tie : Stmt := top 16
theorem sccheck_tie : FnScope ["many", "tie", "place"] ["many", "tie"] (defScope scheck_tie) := ⟨rfl, rfl, rfl, by decide +kernel, rfl, by decide +kernel, by decide +kernel⟩
abbrev stied_places : Stmt := top 17
theorem sctied_places : FnScope ["marks"] ["marks"] (defScope stied_places) := ⟨rfl, rfl, rfl, by decide +kernel, rfl, by decide +kernel, by decide +kernel⟩
abbrev sweb_of : Stmt := top 18
theorem scweb_of : FnScope ["many", "ties", "marks", "tie"] ["many", "ties"] (defScope sweb_of) := ⟨rfl, rfl, rfl, by decide +kernel, rfl, by decide +kernel, by decide +kernel⟩
abbrev sties_of : Stmt := top 19
theorem scties_of : FnScope ["web", "ties", "place", "tied"] ["web"] (defScope sties_of) := ⟨rfl, rfl, rfl, by decide +kernel, rfl, by decide +kernel, by decide +kernel⟩
abbrev sis_number : Stmt := top 23
theorem scis_number : FnScope ["word", "most"] ["word", "most"] (defScope sis_number) := ⟨rfl, rfl, rfl, by decide +kernel, rfl, by decide +kernel, by decide +kernel⟩
abbrev sshow_web : Stmt := top 24
theorem scshow_web : FnScope ["web", "many"] ["web"] (defScope sshow_web) := ⟨rfl, rfl, rfl, by decide +kernel, rfl, by decide +kernel, by decide +kernel⟩
abbrev sread_many : Stmt := top 25
theorem scread_many : FnScope ["word", "figures"] ["word"] (defScope sread_many) := ⟨rfl, rfl, rfl, by decide +kernel, rfl, by decide +kernel, by decide +kernel⟩
abbrev sread_tie : Stmt := top 26
theorem scread_tie : FnScope ["many", "word", "ends", "tie"] ["many", "word"] (defScope sread_tie) := ⟨rfl, rfl, rfl, by decide +kernel, rfl, by decide +kernel, by decide +kernel⟩
abbrev sread_web : Stmt := top 27
theorem scread_web : FnScope ["text", "words", "many", "ties"] ["text"] (defScope sread_web) := ⟨rfl, rfl, rfl, by decide +kernel, rfl, by decide +kernel, by decide +kernel⟩
abbrev s_law_mixed : Stmt := top 29
theorem sc_law_mixed : FnScope ["_law_number_here", "_law_k"] ["_law_number_here", "_law_k"] (defScope s_law_mixed) := ⟨rfl, rfl, rfl, by decide +kernel, rfl, by decide +kernel, by decide +kernel⟩
abbrev s_law_cell : Stmt := top 30
theorem sc_law_cell : FnScope ["_law_script", "_law_k", "_law_seed"] ["_law_script", "_law_k"] (defScope s_law_cell) := ⟨rfl, rfl, rfl, by decide +kernel, rfl, by decide +kernel, by decide +kernel⟩
abbrev s_law_pen : Stmt := top 31
theorem sc_law_pen : FnScope ["_law_script"] ["_law_script"] (defScope s_law_pen) := ⟨rfl, rfl, rfl, by decide +kernel, rfl, by decide +kernel, by decide +kernel⟩
abbrev s_law_take : Stmt := top 32
theorem sc_law_take : FnScope ["_law_pen_here", "_law_many", "_law_found"] ["_law_pen_here", "_law_many"] (defScope s_law_take) := ⟨rfl, rfl, rfl, by decide +kernel, rfl, by decide +kernel, by decide +kernel⟩
abbrev s_law_any : Stmt := top 33
theorem sc_law_any : FnScope ["_law_pen_here", "_law_most", "_law_many", "_law_base", "_law_ties", "_law_a", "_law_b"] ["_law_pen_here", "_law_most"] (defScope s_law_any) := ⟨rfl, rfl, rfl, by decide +kernel, rfl, by decide +kernel, by decide +kernel⟩
abbrev s_law_near : Stmt := top 34
theorem sc_law_near : FnScope ["_law_many", "_law_ties", "_law_found", "_law_a", "_law_b"] ["_law_many", "_law_ties"] (defScope s_law_near) := ⟨rfl, rfl, rfl, by decide +kernel, rfl, by decide +kernel, by decide +kernel⟩
abbrev s_law_number : Stmt := top 35
theorem sc_law_number : FnScope ["_law_word"] ["_law_word"] (defScope s_law_number) := ⟨rfl, rfl, rfl, by decide +kernel, rfl, by decide +kernel, by decide +kernel⟩
abbrev s_law_tie : Stmt := top 36
theorem sc_law_tie : FnScope ["_law_word", "_law_many", "_law_ends"] ["_law_word", "_law_many"] (defScope s_law_tie) := ⟨rfl, rfl, rfl, by decide +kernel, rfl, by decide +kernel, by decide +kernel⟩
abbrev s_law_writes : Stmt := top 37
theorem sc_law_writes : FnScope ["_law_text", "_law_words", "_law_many", "_law_ties"] ["_law_text"] (defScope s_law_writes) := ⟨rfl, rfl, rfl, by decide +kernel, rfl, by decide +kernel, by decide +kernel⟩
abbrev s_law_bent_words : Stmt := top 38
theorem sc_law_bent_words : FnScope ["_law_pen_here", "_law_words", "_law_at", "_law_other", "_law_word", "_law_way"] ["_law_pen_here", "_law_words"] (defScope s_law_bent_words) := ⟨rfl, rfl, rfl, by decide +kernel, rfl, by decide +kernel, by decide +kernel⟩
abbrev s_law_bent : Stmt := top 39
theorem sc_law_bent : FnScope ["_law_pen_here", "_law_text", "_law_at", "_law_sign", "_law_some"] ["_law_pen_here", "_law_text"] (defScope s_law_bent) := ⟨rfl, rfl, rfl, by decide +kernel, rfl, by decide +kernel, by decide +kernel⟩
abbrev s_law_right : Stmt := top 40
theorem sc_law_right : FnScope ["_law_text", "_law_due", "_law_caught", "_law_web", "e", "_law_many", "_law_ties", "_law_near_here"] ["_law_text"] (defScope s_law_right) := ⟨rfl, rfl, rfl, by decide +kernel, rfl, by decide +kernel, by decide +kernel⟩
abbrev slaw : Stmt := top 41
theorem sclaw : FnScope ["_law_script", "_law_pen_here", "_law_many", "_law_ties", "_law_good", "_law_a", "_law_b", "_law_k", "_law_text", "_law_odd"] ["_law_script"] (defScope slaw) := ⟨rfl, rfl, rfl, by decide +kernel, rfl, by decide +kernel, by decide +kernel⟩
structure Txt (K : PySem.W.Frag) (mg : Str → Option Value) (tMOST_PLACES : Tok) (tFIGURES : Tok) (tMOST_FIGURES : Tok) (cNoWeb : Addr) (cNoText : Addr) (cWebError : Addr) (cNoFit : Addr) (cNoName : Addr) (cNoPlace : Addr) (cNoRow : Addr) (cNotClosed : Addr) (cNotOne : Addr) (cTooMany : Addr) : Prop where
  dis_whole : DefAt K mg "is_whole" sis_whole
  dis_whole_within : DefAt K mg "is_whole_within" sis_whole_within
  dcheck_number : DefAt K mg "check_number" scheck_number
  dcheck_tie : DefAt K mg "check_tie" scheck_tie
  dtied_places : DefAt K mg "tied_places" stied_places
  dweb_of : DefAt K mg "web_of" sweb_of
  dties_of : DefAt K mg "ties_of" sties_of
  dis_number : DefAt K mg "is_number" sis_number
  dshow_web : DefAt K mg "show_web" sshow_web
  dread_many : DefAt K mg "read_many" sread_many
  dread_tie : DefAt K mg "read_tie" sread_tie
  dread_web : DefAt K mg "read_web" sread_web
  d_law_mixed : DefAt K mg "_law_mixed" s_law_mixed
  d_law_cell : DefAt K mg "_law_cell" s_law_cell
  d_law_pen : DefAt K mg "_law_pen" s_law_pen
  d_law_take : DefAt K mg "_law_take" s_law_take
  d_law_any : DefAt K mg "_law_any" s_law_any
  d_law_near : DefAt K mg "_law_near" s_law_near
  d_law_number : DefAt K mg "_law_number" s_law_number
  d_law_tie : DefAt K mg "_law_tie" s_law_tie
  d_law_writes : DefAt K mg "_law_writes" s_law_writes
  d_law_bent_words : DefAt K mg "_law_bent_words" s_law_bent_words
  d_law_bent : DefAt K mg "_law_bent" s_law_bent
  d_law_right : DefAt K mg "_law_right" s_law_right
  dlaw : DefAt K mg "law" slaw
  z_len : mg "len" = none
  z_isinstance : mg "isinstance" = none
  z_int : mg "int" = none
  z_bool : mg "bool" = none
  z_list : mg "list" = none
  z_tuple : mg "tuple" = none
  z_range : mg "range" = none
  z_enumerate : mg "enumerate" = none
  z_sorted : mg "sorted" = none
  z_min : mg "min" = none
  z_max : mg "max" = none
  z_all : mg "all" = none
  z_set : mg "set" = none
  z_str : mg "str" = none
  z_ValueError : mg "ValueError" = none
  k_MOST_PLACES : mg "MOST_PLACES" = some (.int 24 tMOST_PLACES)
  k_FIGURES : mg "FIGURES" = some (.str "0123456789" tFIGURES)
  k_MOST_FIGURES : mg "MOST_FIGURES" = some (.int 2 tMOST_FIGURES)
  m_NoWeb : mg "NoWeb" = some (.ref cNoWeb)
  m_NoText : mg "NoText" = some (.ref cNoText)
  m_WebError : mg "WebError" = some (.ref cWebError)
  m_NoFit : mg "NoFit" = some (.ref cNoFit)
  m_NoName : mg "NoName" = some (.ref cNoName)
  m_NoPlace : mg "NoPlace" = some (.ref cNoPlace)
  m_NoRow : mg "NoRow" = some (.ref cNoRow)
  m_NotClosed : mg "NotClosed" = some (.ref cNotClosed)
  m_NotOne : mg "NotOne" = some (.ref cNotOne)
  m_TooMany : mg "TooMany" = some (.ref cTooMany)
  q_NoWeb : PySem.W.excIn K cNoWeb bmVE "ValueError.__new__" = true
  q_NoText : PySem.W.excIn K cNoText bmVE "ValueError.__new__" = true
  q_WebError : PySem.W.excIn K cWebError bmVE "ValueError.__new__" = true
  e_NoWeb : excK K cNoWeb = true
  r_NoWeb_WebError : PySem.W.mroIn K cNoWeb (.ref cWebError) = some true
  i_NoWeb_t0 : PySem.W.kitAny K (.ref cNoWeb) [.ref cNoFit, .ref cNoName, .ref cNoPlace, .ref cNoRow, .ref cNotClosed, .ref cNotOne, .ref cNoWeb, .ref cTooMany] = some true
  i_NoWeb_NoText : PySem.W.kitOne K (.ref cNoWeb) (.ref cNoText) = some false
  i_NoWeb_ValueError : PySem.W.kitOne K (.ref cNoWeb) (.type "ValueError") = some true
  e_NoText : excK K cNoText = true
  r_NoText_WebError : PySem.W.mroIn K cNoText (.ref cWebError) = some true
  i_NoText_t0 : PySem.W.kitAny K (.ref cNoText) [.ref cNoFit, .ref cNoName, .ref cNoPlace, .ref cNoRow, .ref cNotClosed, .ref cNotOne, .ref cNoWeb, .ref cTooMany] = some false
  i_NoText_NoText : PySem.W.kitOne K (.ref cNoText) (.ref cNoText) = some true
  i_NoText_ValueError : PySem.W.kitOne K (.ref cNoText) (.type "ValueError") = some true
section
variable {P : Program} {w : World} {K : PySem.W.Frag} {mg : Str → Option Value} {base : Heap} {tMOST_PLACES : Tok} {tFIGURES : Tok} {tMOST_FIGURES : Tok} {cNoWeb : Addr} {cNoText : Addr} {cWebError : Addr} {cNoFit : Addr} {cNoName : Addr} {cNoPlace : Addr} {cNoRow : Addr} {cNotClosed : Addr} {cNotOne : Addr} {cTooMany : Addr}
theorem kit_int_int : PySem.W.kitOne K (.type "int") (.type "int") = some true := by kernel_rfl
theorem kit_int_bool : PySem.W.kitOne K (.type "int") (.type "bool") = some false := by kernel_rfl
def spWh : Sp := fun vs H Q _ => ∃ i : Int, vs = [.int i] ∧ Q (.bl true) H
theorem Cis_whole (T : Txt K mg tMOST_PLACES tFIGURES tMOST_FIGURES cNoWeb cNoText cWebError cNoFit cNoName cNoPlace cNoRow cNotClosed cNotOne cTooMany) : Callee P w K mg base 1 "is_whole" ["thing"] spWh := by
  refine mkCallee T.dis_whole scis_whole (fun _ _ _ _ _ _ us hl => match us, hl with | [_], _ => rfl) (fun vs H Q E h => ?_) (fun f cdv A outer s H vs Q E hr h => ?_)
  · obtain ⟨i, rfl, _⟩ := h; rfl
  · obtain ⟨i, rfl, q⟩ := h
    refine ⟨_, (pss_one (ps_ret (pe_and (pe_callB (isiq (K := K) rfl) rfl T.z_isinstance bt_isinstance (pa_cons (pv 0) (pa_cons (pe_bltn (v := .ty "int") rfl T.z_int bt_int rfl) pa_nil sE_Name) sE_Name)) (pe_one (pe_not (pe_callB (isiq (K := K) rfl) rfl T.z_isinstance bt_isinstance (pa_cons (pv 0) (pa_cons (pe_bltn (v := .ty "bool") rfl T.z_bool bt_bool rfl) pa_nil sE_Name) sE_Name))))))), ?_⟩
    refine ⟨_, rfl, _, "int", .type "int", true, rfl, .int i, kit_int_int, true, rfl, iteT ?_⟩
    exact ⟨_, rfl, _, "bool", .type "int", false, rfl, .int i, kit_int_bool, false, rfl, q⟩
def spWithin : Sp := fun vs H Q _ => ∃ i lo hi : Int, vs = [.int i, .int lo, .int hi] ∧ Q (.bl (decide (lo ≤ i) && decide (i ≤ hi))) H
theorem Cis_whole_within (T : Txt K mg tMOST_PLACES tFIGURES tMOST_FIGURES cNoWeb cNoText cWebError cNoFit cNoName cNoPlace cNoRow cNotClosed cNotOne cTooMany) : Callee P w K mg base 2 "is_whole_within" ["thing", "least", "most"] spWithin := by
  have Cis_whole := Cis_whole (P := P) (w := w) (base := base) T
  refine mkCallee T.dis_whole_within scis_whole_within (fun _ _ _ _ _ _ us hl => match us, hl with | [_, _, _], _ => rfl) (fun vs H Q E h => ?_) (fun f cdv A outer s H vs Q E hr h => ?_)
  · obtain ⟨i, lo, hi, rfl, _⟩ := h; rfl
  · obtain ⟨i, lo, hi, rfl, q⟩ := h
    refine ⟨_, (pss_one (ps_ret (pe_and (pe_fn Cis_whole hr rfl (pa_cons (pv 0) pa_nil sE_Name)) (pe_one (pe_chain op_le op_le (pv 1) (pv 0) (pv 2)))))), ?_⟩
    refine ⟨_, rfl, i, rfl, true, rfl, iteT ?_⟩
    refine ⟨_, rfl, _, rfl, lo, i, rfl, rfl, _, rfl, ?_⟩
    by_cases h1 : lo ≤ i
    · rw [decide_eq_true h1] at q ⊢
      exact iteT ⟨_, rfl, i, hi, rfl, rfl, q⟩
    · rw [decide_eq_false h1] at q ⊢
      exact iteF q
def spNumber : Sp := fun vs H Q _ => ∃ i lo hi : Int, vs = [.int i, .int lo, .int hi] ∧ lo ≤ i ∧ i ≤ hi ∧ Q .non H
theorem Ccheck_number (T : Txt K mg tMOST_PLACES tFIGURES tMOST_FIGURES cNoWeb cNoText cWebError cNoFit cNoName cNoPlace cNoRow cNotClosed cNotOne cTooMany) : Callee P w K mg base 3 "check_number" ["thing", "least", "most"] spNumber := by
  have Cis_whole_within := Cis_whole_within (P := P) (w := w) (base := base) T
  refine mkCallee T.dcheck_number sccheck_number (fun _ _ _ _ _ _ us hl => match us, hl with | [_, _, _], _ => rfl) (fun vs H Q E h => ?_) (fun f cdv A outer s H vs Q E hr h => ?_)
  · obtain ⟨i, lo, hi, rfl, _⟩ := h; rfl
  · obtain ⟨i, lo, hi, rfl, h1, h2, q⟩ := h
    refine ⟨_, (pss_one (ps_if (pt_not (pt_val (pe_fn Cis_whole_within hr rfl (pa_cons (pv 0) (pa_cons (pv 1) (pa_cons (pv 2) pa_nil sE_Name) sE_Name) sE_Name)))) pss_never pss_nil)), ?_⟩
    refine ⟨_, rfl, _, rfl, _, rfl, i, lo, hi, rfl, _, rfl, ?_⟩
    rw [decide_eq_true h1, decide_eq_true h2]
    exact q
end
section
variable {P : Program} {w : World} {K : PySem.W.Frag} {mg : Str → Option Value} {base : Heap} {tMOST_PLACES : Tok} {tFIGURES : Tok} {tMOST_FIGURES : Tok} {cNoWeb : Addr} {cNoText : Addr} {cWebError : Addr} {cNoFit : Addr} {cNoName : Addr} {cNoPlace : Addr} {cNoRow : Addr} {cNotClosed : Addr} {cNotOne : Addr} {cTooMany : Addr}
theorem kit_tup_tup : PySem.W.kitOne K (.type "tuple") (.type "tuple") = some true := by kernel_rfl
theorem kit_list_list : PySem.W.kitOne K (.type "list") (.type "list") = some true := by kernel_rfl
def spTie : Sp := fun vs H Q _ => ∃ (n : Int) (t : Addr) (a b : Int), vs = [.int n, .ref t] ∧ H t = some (.tup [.int a, .int b]) ∧ (0 ≤ a ∧ a < n) ∧ (0 ≤ b ∧ b < n) ∧ a ≠ b ∧ Q .non H
theorem Ccheck_tie (T : Txt K mg tMOST_PLACES tFIGURES tMOST_FIGURES cNoWeb cNoText cWebError cNoFit cNoName cNoPlace cNoRow cNotClosed cNotOne cTooMany) : Callee P w K mg base 4 "check_tie" ["many", "tie"] spTie := by
  have Ccheck_number := Ccheck_number (P := P) (w := w) (base := base) T
  refine mkCallee T.dcheck_tie sccheck_tie (fun _ _ _ _ _ _ us hl => match us, hl with | [_, _], _ => rfl) (fun vs H Q E h => ?_) (fun f cdv A outer s H vs Q E hr h => ?_)
  · obtain ⟨n, t, a, b, rfl, _⟩ := h; rfl
  · obtain ⟨n, t, a, b, rfl, ht, ha, hb, hne, q⟩ := h
    have hS : SqT K H t [.int a, .int b] := SqT.of ht
    refine ⟨_, (pss_cons (ps_if (PW.pt (pw_or (pt_not (pt_val (pe_callB (isiq (K := K) rfl) rfl T.z_isinstance bt_isinstance (pa_cons (pv 1) (pa_cons (pe_bltn (v := .ty "tuple") rfl T.z_tuple bt_tuple rfl) pa_nil sE_Name) sE_Name)))) (pw_or1 (pt_cmpR op_ne (pe_callB (lenq (K := K) rfl) rfl T.z_len bt_len (pa_cons (pv 1) pa_nil sE_Name)) pe_int (nomark _))))) pss_never pss_nil) (pss_cons (ps_for PassesOwn.never rfl (pit (K := K) rfl (pv 1)) (pg_name (i := 2) sccheck_tie.nd rfl (by first | exact Or.inl rfl | exact Or.inr rfl)) (pss_one (ps_expr (pe_fn Ccheck_number hr rfl (pa_cons (pv 2) (pa_cons pe_int (pa_cons (pe_op op_sub (pv 0) pe_int) pa_nil sE_BinOp) sE_Constant) sE_Name))))) (pss_one (ps_if (pt_cmpR op_eq (pe_ix (ixt (K := K) rfl) (pv 1) pe_int (fun _ _ => rfl)) (pe_ix (ixt (K := K) rfl) (pv 1) pe_int (fun _ _ => rfl)) (nomark _)) pss_never pss_nil)))), ?_⟩
    refine ⟨_, rfl, _, "tuple", .type "tuple", true, rfl, .tup ht, kit_tup_tup, true, rfl, iteF ?_⟩
    refine ⟨_, rfl, t, _, rfl, .inr hS, rfl, _, rfl, iteNS rfl ?_⟩
    refine ⟨_, rfl, t, rfl, ⟨_, hS⟩, for_tup (xs := [.int a, .int b]) (fun i σ H' => ∃ v, σ = [some (.int n), some (.ref t), v] ∧ H' = H) ⟨_, rfl, rfl⟩ (fun i σ H' _ ⟨_, _, e⟩ => by rw [e]; exact hS) ?_ ?_⟩
    · rintro i x σ H' hi ⟨v, rfl, rfl⟩
      obtain ⟨z, rfl, hz⟩ : ∃ z, x = V.int z ∧ 0 ≤ z ∧ z < n := by
        match i, hi with
        | 0, hi => exact ⟨a, by simpa using hi.symm, ha⟩
        | 1, hi => exact ⟨b, by simpa using hi.symm, hb⟩
        | i + 2, hi => simp at hi
      exact ⟨_, rfl, _, rfl, _, _, rfl, rfl, z, 0, n - 1, rfl, by omega, by omega, _, rfl, rfl⟩
    · rintro σ H' ⟨v, rfl, rfl⟩
      refine ⟨_, rfl, t, _, 0, _, rfl, rfl, hS, rfl, _, rfl, t, _, 1, _, rfl, rfl, hS, rfl, rfl, _, rfl, ?_⟩
      rw [decide_eq_false (by intro z; injection z with z; exact hne z)]
      exact iteF q
def idx (bs : List Bool) : List V := ((List.range bs.length).filter fun q => bs.getD q false).map fun q : Nat => V.int (q : Int)
def spTied (K : PySem.W.Frag) : Sp := fun vs H Q _ => ∃ (l : Addr) (bs : List Bool), vs = [.ref l] ∧ SqL K H l (bs.map V.bl) ∧ bs.length ≤ 100 ∧ ∀ t H', H t = none → H' t = some (.tup (idx bs)) → Same H H' → Q (.ref t) H'
theorem Ctied_places (T : Txt K mg tMOST_PLACES tFIGURES tMOST_FIGURES cNoWeb cNoText cWebError cNoFit cNoName cNoPlace cNoRow cNotClosed cNotOne cTooMany) : Callee P w K mg base 1 "tied_places" ["marks"] (spTied K) := by
  refine mkCallee T.dtied_places sctied_places (fun _ _ _ _ _ _ us hl => match us, hl with | [_], _ => rfl) (fun vs H Q E h => ?_) (fun f cdv A outer s H vs Q E hr h => ?_)
  · obtain ⟨l, bs, rfl, _⟩ := h; rfl
  · obtain ⟨l, bs, rfl, hS, hl, k⟩ := h
    refine ⟨_, (pss_one (ps_ret (pe_callTy (tupq (K := K) rfl) rfl T.z_tuple bt_tuple (pa_cons (pe_lc (NB := ["place", "is_tied"]) (nt := 2) (fr := []) rfl (by kernel_rfl) (pi_enum (K := K) rfl rfl T.z_enumerate (pa_cons (pv 0) pa_nil sE_Name)) (fun _ _ _ _ _ => (pgt (K := K) (n := 2) rfl rfl (pgs_cons (pg_name (i := 0) (show List.Nodup (["place", "is_tied"] : List Str) by decide +kernel) rfl (by first | exact Or.inl rfl | exact Or.inr rfl)) (pgs_cons (pg_name (i := 1) (show List.Nodup (["place", "is_tied"] : List Str) by decide +kernel) rfl (by first | exact Or.inl rfl | exact Or.inr rfl)) pgs_nil)))) (fun _ _ _ _ _ => (pts_one (pt_val (pv 1)))) (fun _ _ _ _ _ => (pv 0))) pa_nil)))), ?_⟩
    refine ⟨_, rfl, l, rfl, ⟨_, hS⟩, lc_enum (xs := bs.map V.bl) (fun i σ ys H' => (∃ v1 v2, σ = [v1, v2]) ∧ i ≤ bs.length ∧ ys = ((List.range i).filter fun q => bs.getD q false).map (fun q : Nat => V.int (q : Int)) ∧ Same H H')
      ⟨⟨_, _, rfl⟩, Nat.zero_le _, rfl, Same.refl H⟩ (fun i σ ys H' _ p => p.2.2.2.seq hS) (fun i σ ys H' p => ?_) ?_ ?_⟩
    · rw [p.2.2.1, List.length_map]
      have h1 := List.length_filter_le (fun q => bs.getD q false) (List.range i)
      rw [List.length_range] at h1
      exact Nat.lt_of_le_of_lt (Nat.le_trans h1 (Nat.le_trans p.2.1 hl)) (by decide)
    · rintro i x t σ ys H' hi ⟨⟨v1, v2, rfl⟩, hib, rfl, hs⟩ ht
      rw [List.getElem?_map] at hi
      cases eb : bs[i]? with
      | none => rw [eb] at hi; cases hi
      | some b =>
        rw [eb] at hi
        cases hi
        have hlt : i < bs.length := (List.getElem?_eq_some_iff.mp eb).1
        refine ⟨t, _, rfl, SqT.of upd_same, rfl, _, _, rfl, _, _, rfl, rfl, _, rfl, b, rfl, ?_⟩
        have eg : bs.getD i false = b := by rw [List.getD_eq_getElem?_getD, eb]; rfl
        have er : (List.range (i + 1)).filter (fun q => bs.getD q false) = (List.range i).filter (fun q => bs.getD q false) ++ (if b = true then [i] else []) := by
          rw [List.range_succ, List.filter_append]
          congr 1
          cases b with
          | true => rw [List.filter_cons_of_pos (by simpa using eg)]; rfl
          | false => rw [List.filter_cons_of_neg (by rw [eg]; exact Bool.false_ne_true)]; rfl
        cases b with
        | true =>
          refine iteT ⟨_, rfl, ⟨_, _, rfl⟩, hlt, ?_, hs.updr ht⟩
          rw [er, List.map_append]
          rfl
        | false =>
          refine iteF ⟨⟨_, _, rfl⟩, hlt, ?_, hs.updr ht⟩
          rw [er, List.map_append]
          simp
    · rintro σ ys H' ⟨_, _, rfl, hs⟩ D hD
      refine ⟨D, _, rfl, .inl ⟨SqL.of upd_same, fun t ht => ?_⟩⟩
      rw [List.length_map] at *
      exact k t _ ((hs.updr hD).free ht) upd_same ((hs.updr hD).updr ht)
end
section
variable {P : Program} {w : World} {K : PySem.W.Frag} {mg : Str → Option Value} {base : Heap} {tMOST_PLACES : Tok} {tFIGURES : Tok} {tMOST_FIGURES : Tok} {cNoWeb : Addr} {cNoText : Addr} {cWebError : Addr} {cNoFit : Addr} {cNoName : Addr} {cNoPlace : Addr} {cNoRow : Addr} {cNotClosed : Addr} {cNotOne : Addr} {cTooMany : Addr}
def TieV (H : Hp) (v : V) (t : Nat × Nat) : Prop := ∃ r, v = .ref r ∧ H r = some (.tup [.int (t.1 : Int), .int (t.2 : Int)])
def RowV (H : Hp) (v : V) (row : List Nat) : Prop := ∃ r, v = .ref r ∧ H r = some (.tup (row.map fun q : Nat => V.int (q : Int)))
def TiesAt (H : Hp) (l : Addr) (ts : List (Nat × Nat)) : Prop := ∃ xs, H l = some (.lst xs) ∧ Paired (TieV H) xs ts
def WebAt (H : Hp) (a : Addr) (g : List (List Nat)) : Prop := ∃ xs, H a = some (.tup xs) ∧ Paired (RowV H) xs g
theorem paired_mono {α β : Type} {F G : α → β → Prop} (h : ∀ a b, F a b → G a b) {l : List α} {m : List β} (p : Paired F l m) : Paired G l m := Paired.mapP p h
theorem paired_at {α β : Type} {F : α → β → Prop} : ∀ {l : List α} {m : List β}, Paired F l m → ∀ (i : Nat) (a : α), l[i]? = some a → ∃ b, m[i]? = some b ∧ F a b
  | _, _, .nil, i, a, h => by simp at h
  | _, _, .cons r t, 0, a, h => by simp at h; subst h; exact ⟨_, rfl, r⟩
  | _, _, .cons r t, i + 1, a, h => by simp at h; obtain ⟨b, q1, q2⟩ := paired_at t i a h; exact ⟨b, by simpa using q1, q2⟩
theorem paired_append {α β : Type} {F : α → β → Prop} : ∀ {l l' : List α} {m m' : List β}, Paired F l m → Paired F l' m' → Paired F (l ++ l') (m ++ m')
  | _, _, _, _, .nil, s => s
  | _, _, _, _, .cons r t, s => .cons r (paired_append t s)
theorem TieV.mono {H H' : Hp} (s : Same H H') {v : V} {t : Nat × Nat} (h : TieV H v t) : TieV H' v t := let ⟨r, e, q⟩ := h; ⟨r, e, s _ _ q⟩
theorem RowV.mono {H H' : Hp} (s : Same H H') {v : V} {t : List Nat} (h : RowV H v t) : RowV H' v t := let ⟨r, e, q⟩ := h; ⟨r, e, s _ _ q⟩
theorem TiesAt.mono {H H' : Hp} (s : Same H H') {l : Addr} {ts : List (Nat × Nat)} (h : TiesAt H l ts) : TiesAt H' l ts := let ⟨xs, e, q⟩ := h; ⟨xs, s _ _ e, paired_mono (fun _ _ => TieV.mono s) q⟩
theorem WebAt.mono {H H' : Hp} (s : Same H H') {l : Addr} {g : List (List Nat)} (h : WebAt H l g) : WebAt H' l g := let ⟨xs, e, q⟩ := h; ⟨xs, s _ _ e, paired_mono (fun _ _ => RowV.mono s) q⟩
structure MarksAt (H : Hp) (D : Addr) (rs : List Addr) (n : Nat) (M : Nat → Nat → Bool) : Prop where
  ls : H D = some (.lst (rs.map V.ref))
  len : rs.length = n
  nd : rs.Nodup
  row : ∀ (p : Nat) (r : Addr), rs[p]? = some r → H r = some (.lst ((List.range n).map fun q => V.bl (M p q)))
theorem atI_map {f : Nat → V} {n q : Nat} (h : q < n) : atI ((List.range n).map f) (q : Int) = some (f q) := atI_nat (by rw [List.getElem?_map, List.getElem?_range h]; rfl)
theorem ixN_lt {n q : Nat} (h : q < n) : ixN n (q : Int) = some q := by
  unfold ixN
  rw [if_pos (Int.natCast_nonneg _), if_pos (by omega), Int.toNat_natCast]
theorem map_set {f : Nat → Bool} {n q : Nat} : ((List.range n).map fun j => V.bl (f j)).set q (.bl true) = (List.range n).map fun j => V.bl (f j || j == q) := by
  apply List.ext_getElem?
  intro j
  rw [List.getElem?_set, List.getElem?_map, List.getElem?_map]
  by_cases hj : j < n
  · rw [List.getElem?_range hj, List.length_map, List.length_range]
    by_cases e : q = j
    · subst e
      simp [hj]
    · have e' : (j == q) = false := by simpa using fun z => e z.symm
      simp [e, e']
  · rw [List.getElem?_eq_none (by simpa using hj), List.length_map, List.length_range]
    by_cases e : q = j
    · subst e
      simp [hj]
    · simp [e]
theorem MarksAt.put {H : Hp} {D : Addr} {rs : List Addr} {n : Nat} {M : Nat → Nat → Bool} (h : MarksAt H D rs n M) {a b : Nat} {r : Addr} (er : rs[a]? = some r) (hb : b < n) :
    MarksAt (upd H r (.lst (((List.range n).map fun q => V.bl (M a q)).set b (.bl true)))) D rs n (fun p q => M p q || (p == a && q == b)) := by
  have hr := h.row a r er
  have nD : D ≠ r := by
    intro e
    subst e
    have z := h.ls
    rw [hr] at z
    have z' := HO.lst.inj (Option.some.inj z)
    have hl : rs.length = n := h.len
    cases rs with
    | nil => simp at er
    | cons r0 rs =>
      cases n with
      | zero => simp at hl
      | succ n => rw [List.range_succ_eq_map] at z'; simp at z'
  refine ⟨by rw [upd_ne nD]; exact h.ls, h.len, h.nd, fun p r' e' => ?_⟩
  by_cases hp : p = a
  · subst hp
    rw [er] at e'
    cases e'
    rw [upd_same, map_set]
    simp
  · have ne : r' ≠ r := by
      rintro rfl
      obtain ⟨h1, e1⟩ := List.getElem?_eq_some_iff.mp er
      obtain ⟨h2, e2⟩ := List.getElem?_eq_some_iff.mp e'
      exact hp ((List.getElem_inj h.nd).mp (e2.trans e1.symm))
    rw [upd_ne ne, h.row p r' e']
    have : (p == a) = false := by simpa using hp
    simp [this]
def spWeb : Sp := fun vs H Q _ => ∃ (n : Nat) (l : Addr) (ts : List (Nat × Nat)), vs = [.int (n : Int), .ref l] ∧ 1 ≤ n ∧ n ≤ 24 ∧ TiesAt H l ts ∧ okSeq n ts ∧ ∀ a H', H a = none → WebAt H' a (webL n ts) → Same H H' → Q (.ref a) H'
theorem Cweb_of (T : Txt K mg tMOST_PLACES tFIGURES tMOST_FIGURES cNoWeb cNoText cWebError cNoFit cNoName cNoPlace cNoRow cNotClosed cNotOne cTooMany) : Callee P w K mg base 5 "web_of" ["many", "ties"] spWeb := by
  have Ccheck_number := Ccheck_number (P := P) (w := w) (base := base) T
  have Ccheck_tie := Ccheck_tie (P := P) (w := w) (base := base) T
  have Ctied_places := Ctied_places (P := P) (w := w) (base := base) T
  refine mkCallee T.dweb_of scweb_of (fun _ _ _ _ _ _ us hl => match us, hl with | [_, _], _ => rfl) (fun vs H Q E h => ?_) (fun f cdv A outer s H vs Q E hr h => ?_)
  · obtain ⟨n, l, ts, rfl, _⟩ := h; rfl
  · obtain ⟨n, l, ts, rfl, h1, h24, ⟨xs, hl, hp⟩, hok, k⟩ := h
    refine ⟨_, (pss_cons (ps_expr (pe_fn Ccheck_number hr rfl (pa_cons (pv 0) (pa_cons pe_int (pa_cons (pe_glob (v := .int 24) rfl T.k_MOST_PLACES ⟨_, rfl⟩) pa_nil sE_Name) sE_Constant) sE_Name))) (pss_cons (ps_if (pt_not (pt_val (pe_callB (isiq (K := K) rfl) rfl T.z_isinstance bt_isinstance (pa_cons (pv 1) (pa_cons (pe_bltn (v := .ty "list") rfl T.z_list bt_list rfl) pa_nil sE_Name) sE_Name)))) pss_never pss_nil) (pss_cons (ps_setLC (NB := ["place", "many"]) (nt := 1) (fr := [0]) rfl (by kernel_rfl) (i := 2) scweb_of.nd rfl rfl (pi_range1 rfl T.z_range (pa_cons (pv 0) pa_nil sE_Name)) (fun _ _ _ _ _ => (pg_name (i := 0) (show List.Nodup (["place", "many"] : List Str) by decide +kernel) rfl (by first | exact Or.inl rfl | exact Or.inr rfl))) (fun _ _ _ _ _ => pts_nil) (fun _ _ _ _ _ => (pe_op op_rep (pe_lst (pa_cons pe_bl pa_nil sE_Constant)) (pv 1)))) (pss_cons (ps_for PassesOwn.never rfl (pil (K := K) rfl (pv 1)) (pg_name (i := 3) scweb_of.nd rfl (by first | exact Or.inl rfl | exact Or.inr rfl)) (pss_cons (ps_expr (pe_fn Ccheck_tie hr rfl (pa_cons (pv 0) (pa_cons (pv 3) pa_nil sE_Name) sE_Name))) (pss_cons (ps_if (pt_val (pe_ix (ixl (K := K) rfl) (pe_ix (ixl (K := K) rfl) (pv 2) (pe_ix (ixt (K := K) rfl) (pv 3) pe_int (fun _ _ => rfl)) (fun _ _ => rfl)) (pe_ix (ixt (K := K) rfl) (pv 3) pe_int (fun _ _ => rfl)) (fun _ _ => rfl))) pss_never pss_nil) (pss_cons (ps_asg pe_bl (pg_sub (pe_ix (ixl (K := K) rfl) (pv 2) (pe_ix (ixt (K := K) rfl) (pv 3) pe_int (fun _ _ => rfl)) (fun _ _ => rfl)) (pe_ix (ixt (K := K) rfl) (pv 3) pe_int (fun _ _ => rfl)) set_list)) (pss_one (ps_asg pe_bl (pg_sub (pe_ix (ixl (K := K) rfl) (pv 2) (pe_ix (ixt (K := K) rfl) (pv 3) pe_int (fun _ _ => rfl)) (fun _ _ => rfl)) (pe_ix (ixt (K := K) rfl) (pv 3) pe_int (fun _ _ => rfl)) set_list))))))) (pss_one (ps_ret (pe_callTy (tupq (K := K) rfl) rfl T.z_tuple bt_tuple (pa_cons (pe_lc (NB := ["row"]) (nt := 1) (fr := []) rfl (by kernel_rfl) (pil (K := K) rfl (pv 2)) (fun _ _ _ _ _ => (pg_name (i := 0) (show List.Nodup (["row"] : List Str) by decide +kernel) rfl (by first | exact Or.inl rfl | exact Or.inr rfl))) (fun _ _ _ _ _ => pts_nil) (fun _ _ _ _ _ => (pe_fn Ctied_places hr rfl (pa_cons (pv 0) pa_nil sE_Name)))) pa_nil)))))))), ?_⟩
    refine ⟨_, rfl, n, 1, 24, rfl, by omega, by omega, ?_⟩
    refine ⟨_, rfl, _, "list", .type "list", true, rfl, .lst hl, kit_list_list, true, rfl, iteF ?_⟩
    -- the marks
    refine ⟨_, rfl, (n : Int), rfl, by omega, by omega, lc_range (Pv := fun i σ' ys H' => (∃ v, σ' = [v, some (.int (n : Int))]) ∧ i ≤ n ∧ ∃ rs : List Addr, ys = rs.map V.ref ∧ rs.length = i ∧ rs.Nodup ∧
        (∀ (p : Nat) (r : Addr), rs[p]? = some r → H' r = some (.lst ((List.range n).map fun q => V.bl false)) ∧ H r = none) ∧ Same H H') ⟨⟨_, rfl⟩, Nat.zero_le _, [], rfl, rfl, List.nodup_nil, fun p r e => by simp at e, Same.refl H⟩ (fun i σ' ys H' p => ?_) ?_ ?_⟩
    · obtain ⟨_, hi, rs, rfl, e, _⟩ := p
      rw [List.length_map, e]
      exact Nat.lt_of_le_of_lt (Nat.le_trans hi h24) (by decide)
    · rintro i σ' ys H' hi ⟨⟨v, rfl⟩, _, rs, rfl, hlen, hnd, hrow, hs⟩
      refine lcN ?_
      refine ⟨by show 1 ≤ sizeLine; decide, fun p1 hp1 => ⟨_, rfl, p1, n, [.bl false], rfl, rfl, upd_same, by omega, by omega, ?_, fun p2 hp2 => ?_⟩⟩
      · rw [Int.toNat_natCast]
        show 1 * n ≤ sizeLine
        exact Nat.le_trans (by omega : 1 * n ≤ 24) (by decide)
      · have s1 := hs.updr (o := .lst [.bl false]) hp1
        have s2 := s1.updr (o := .lst (List.replicate ((n : Int)).toNat [V.bl false]).flatten) hp2
        have er : (List.replicate ((n : Int)).toNat [V.bl false]).flatten = (List.range n).map fun q => V.bl false := by
          rw [Int.toNat_natCast]
          simp [List.map_const']
        refine ⟨⟨_, rfl⟩, by omega, rs ++ [p2], by simp, by simp [hlen], ?_, fun p r e => ?_, s2⟩
        · rw [List.nodup_append]
          refine ⟨hnd, by simp, fun a ha b hb => ?_⟩
          have : b = p2 := by simpa using hb
          subst this
          rintro rfl
          obtain ⟨j, hj, e⟩ := List.getElem_of_mem ha
          have q := (hrow j a (by rw [List.getElem?_eq_getElem hj, e])).1
          have q2 : upd H' p1 (.lst [.bl false]) a = some _ := (Same.new hp1) _ _ q
          rw [hp2] at q2
          cases q2
        · by_cases hlt : p < rs.length
          · rw [List.getElem?_append_left hlt] at e
            obtain ⟨q1, q2⟩ := hrow p r e
            exact ⟨(Same.new hp2) _ _ ((Same.new hp1) _ _ q1), q2⟩
          · have ep : p = rs.length := by
              have := (List.getElem?_eq_some_iff.mp e).1
              simp at this
              omega
            subst ep
            simp at e
            subst e
            exact ⟨by rw [upd_same, er], s1.free hp2⟩
    · rintro σ' ys H1 ⟨_, _, rs, rfl, hlen, hnd, hrow, hs1⟩ D hD
      have nD : H D = none := hs1.free hD
      have hs2 : Same H (upd H1 D (.lst (rs.map V.ref))) := hs1.updr hD
      have M0 : MarksAt (upd H1 D (.lst (rs.map V.ref))) D rs n (fun p q => tied ([] : List (Nat × Nat)) p q) := ⟨upd_same, by rw [hlen, Int.toNat_natCast], hnd, fun p r e => (Same.new hD) _ _ (hrow p r e).1⟩
      -- the ties
      refine ⟨_, rfl, l, rfl, ⟨_, SqL.of (hs2 _ _ hl)⟩, for_list (xs := xs) (fun i σ H' => (∃ v, σ = [some (.int (n : Int)), some (.ref l), some (.ref D), v]) ∧ MarksAt H' D rs n (fun p q => tied (ts.take i) p q) ∧ Same H H')
        ⟨⟨_, rfl⟩, M0, hs2⟩ (fun i σ H' _ p => SqL.of (p.2.2 _ _ hl)) ?_ ?_⟩
      · rintro i x σ H2 hi ⟨⟨v, rfl⟩, M, hs⟩
        obtain ⟨⟨a, b⟩, et, r, rfl, hr0⟩ := paired_at hp i x hi
        obtain ⟨ha, hb, hne, hnt⟩ := hok i _ et
        dsimp only at ha hb hne hnt hr0
        have hr2 := hs _ _ hr0
        have hT : SqT K H2 r [.int (a : Int), .int (b : Int)] := SqT.of hr2
        obtain ⟨ra, ea⟩ : ∃ ra, rs[a]? = some ra := ⟨_, List.getElem?_eq_getElem (by rw [M.len]; exact ha)⟩
        obtain ⟨rb, eb⟩ : ∃ rb, rs[b]? = some rb := ⟨_, List.getElem?_eq_getElem (by rw [M.len]; exact hb)⟩
        have aD : ∀ (j : Nat) (rj : Addr), rs[j]? = some rj → atI (rs.map V.ref) (j : Int) = some (.ref rj) := fun j rj e => atI_nat (by rw [List.getElem?_map, e]; rfl)
        -- check_tie; is there a mark
        refine ⟨_, rfl, _, rfl, n, r, a, b, rfl, hr2, ⟨by omega, by omega⟩, ⟨by omega, by omega⟩, by omega, ?_⟩
        refine ⟨_, rfl, _, rfl, r, _, 0, _, rfl, rfl, hT, rfl, D, _, a, _, rfl, rfl, SqL.of M.ls, aD a ra ea, _, rfl, r, _, 1, _, rfl, rfl, hT, rfl, ra, _, b, _, rfl, rfl, SqL.of (M.row a ra ea), atI_map hb, _, rfl, ?_⟩
        rw [hnt]
        refine iteF ?_
        -- the mark, this way round
        refine ⟨_, rfl, _, rfl, r, _, 0, _, rfl, rfl, hT, rfl, D, _, a, _, rfl, rfl, SqL.of M.ls, aD a ra ea, _, rfl, r, _, 1, _, rfl, rfl, hT, rfl, ra, _, b, b, rfl, rfl, M.row a ra ea, ixN_lt (by simpa using hb), ?_⟩
        have M1 := M.put ea hb
        have nra : H ra = none := (hrow a ra ea).2
        have nrb : H rb = none := (hrow b rb eb).2
        have hs3 := hs.of_upd (o := .lst (((List.range n).map fun q => V.bl (tied (ts.take i) a q)).set b (.bl true))) nra
        have hT3 : SqT K (upd H2 ra (.lst (((List.range n).map fun q => V.bl (tied (ts.take i) a q)).set b (.bl true)))) r [.int (a : Int), .int (b : Int)] := SqT.of (hs3 _ _ hr0)
        -- and the other way round
        refine ⟨_, rfl, _, rfl, r, _, 1, _, rfl, rfl, hT3, rfl, D, _, b, _, rfl, rfl, SqL.of M1.ls, aD b rb eb, _, rfl, r, _, 0, _, rfl, rfl, hT3, rfl, rb, _, a, a, rfl, rfl, M1.row b rb eb, ixN_lt (by simpa using ha), ?_⟩
        have M2 := M1.put eb ha
        refine ⟨⟨_, rfl⟩, ?_, hs3.of_upd nrb⟩
        have em : (fun p q => tied (ts.take (i + 1)) p q) = fun p q => ((tied (ts.take i) p q || (p == a && q == b)) || (p == b && q == a)) := by
          funext p q
          rw [List.take_add_one, et, tied_append, Bool.or_assoc]
          congr 1
          simp only [Option.toList_some, tied, List.any_cons, List.any_nil, Bool.or_false]
          rw [Bool.eq_iff_iff]
          simp only [Bool.or_eq_true, Bool.and_eq_true, beq_iff_eq]
          constructor
          · rintro (⟨z1, z2⟩ | ⟨z1, z2⟩)
            · exact .inl ⟨z1.symm, z2.symm⟩
            · exact .inr ⟨z2.symm, z1.symm⟩
          · rintro (⟨z1, z2⟩ | ⟨z1, z2⟩)
            · exact .inl ⟨z1.symm, z2.symm⟩
            · exact .inr ⟨z2.symm, z1.symm⟩
        rw [em]
        exact M2
      · rintro σ H2 ⟨⟨v, rfl⟩, M, hs⟩
        have etk : ts.take xs.length = ts := by rw [hp.length]; exact List.take_length
        rw [etk] at M
        -- the rows
        refine ⟨_, rfl, D, rfl, ⟨_, SqL.of M.ls⟩, lc_list (xs := rs.map V.ref) (fun i σ' ys H' => (∃ v, σ' = [v]) ∧ i ≤ n ∧ Paired (RowV H') ys ((webL n ts).take i) ∧ Same H2 H') ⟨⟨_, rfl⟩, Nat.zero_le _, .nil, Same.refl H2⟩ (fun i σ' ys H' _ p => SqL.of (p.2.2.2 _ _ M.ls)) (fun i σ' ys H' p => ?_) ?_ ?_⟩
        · rw [p.2.2.1.length, List.length_take]
          exact Nat.lt_of_le_of_lt (Nat.le_trans (Nat.min_le_left _ _) (Nat.le_trans p.2.1 h24)) (by decide)
        · rintro i x σ' ys H3 hi ⟨⟨v, rfl⟩, _, hpr, hs3⟩
          rw [List.getElem?_map] at hi
          cases er : rs[i]? with
          | none => rw [er] at hi; cases hi
          | some r =>
            rw [er] at hi
            cases hi
            have hin : i < n := by rw [← M.len]; exact (List.getElem?_eq_some_iff.mp er).1
            refine lcN ?_
            refine ⟨_, rfl, r, (List.range n).map (fun q => tied ts i q), rfl, SqL.of ?_, by simp; omega, fun t H4 ht ht4 hs4 => ?_⟩
            · rw [List.map_map]
              exact hs3 _ _ (M.row i r er)
            · refine ⟨⟨_, rfl⟩, hin, ?_, hs3.trans hs4⟩
              have ew : (webL n ts).take (i + 1) = (webL n ts).take i ++ [nbr n ts i] := by
                rw [List.take_add_one]
                congr 1
                unfold webL
                rw [List.getElem?_map, List.getElem?_range hin]
                rfl
              rw [ew]
              refine paired_append (paired_mono (fun _ _ => RowV.mono hs4) hpr) (.cons ⟨t, rfl, ?_⟩ .nil)
              rw [ht4]
              congr 2
              unfold idx nbr
              rw [List.length_map, List.length_range]
              congr 1
              refine List.filter_congr fun q hq => ?_
              rw [List.mem_range] at hq
              rw [List.getD_eq_getElem?_getD, List.getElem?_map, List.getElem?_range hq]
              rfl
        · rintro σ' ys H3 ⟨_, _, hpr, hs3⟩ D2 hD2
          refine ⟨D2, _, rfl, .inl ⟨SqL.of upd_same, fun t ht => ?_⟩⟩
          have hs4 : Same H3 (upd (upd H3 D2 (.lst ys)) t (.tup ys)) := (Same.new hD2).updr ht
          refine k t _ ((hs.trans hs3).free ((Same.new hD2).free ht)) ⟨ys, upd_same, ?_⟩ ((hs.trans hs3).trans hs4)
          have e2 : (webL n ts).take (rs.map V.ref).length = webL n ts := by
            rw [List.length_map, M.len]
            exact List.take_of_length_le (by simp [webL])
          rw [e2] at hpr
          exact paired_mono (fun _ _ => RowV.mono hs4) hpr
end
section
variable {P : Program} {w : World} {K : PySem.W.Frag} {mg : Str → Option Value} {base : Heap} {tMOST_PLACES : Tok} {tFIGURES : Tok} {tMOST_FIGURES : Tok} {cNoWeb : Addr} {cNoText : Addr} {cWebError : Addr} {cNoFit : Addr} {cNoName : Addr} {cNoPlace : Addr} {cNoRow : Addr} {cNotClosed : Addr} {cNotOne : Addr} {cTooMany : Addr}
def spMixed : Sp := fun vs H Q _ => ∃ n k : Int, vs = [.int n, .int k] ∧ ∀ r : Int, Q (.int r) H
theorem C_law_mixed (T : Txt K mg tMOST_PLACES tFIGURES tMOST_FIGURES cNoWeb cNoText cWebError cNoFit cNoName cNoPlace cNoRow cNotClosed cNotOne cTooMany) : Callee P w K mg base 1 "_law_mixed" ["_law_number_here", "_law_k"] spMixed := by
  refine mkCallee T.d_law_mixed sc_law_mixed (fun _ _ _ _ _ _ us hl => match us, hl with | [_, _], _ => rfl) (fun vs H Q E h => ?_) (fun f cdv A outer s H vs Q E hr h => ?_)
  · obtain ⟨n, k, rfl, _⟩ := h; rfl
  · obtain ⟨n, k, rfl, q⟩ := h
    refine ⟨_, (pss_cons (ps_set (i := 0) sc_law_mixed.nd rfl (by first | exact Or.inl rfl | exact Or.inr rfl) (pe_op op_mod (pe_op op_mul (pe_op op_add (pe_op op_add (pe_op op_mod (pv 0) pe_int) (pe_op op_mul pe_int (pv 1))) pe_int) pe_int) pe_int)) (pss_cons (ps_set (i := 0) sc_law_mixed.nd rfl (by first | exact Or.inl rfl | exact Or.inr rfl) (pe_op op_mod (pe_op op_add (pe_op op_mul (pv 0) (pv 0)) (pe_op op_mul pe_int (pv 1))) pe_int)) (pss_one (ps_ret (pe_op op_mod (pe_op op_mul (pv 0) (pe_op op_add (pe_op op_mod (pv 0) pe_int) pe_int)) pe_int))))), ?_⟩
    refine ⟨_, rfl, _, _, rfl, rfl, (by show (0 : Int) < _; decide), _, rfl, _, _, rfl, rfl, .inl ⟨by decide, by decide⟩, _, _, rfl, rfl, _, _, rfl, rfl, _, _, rfl, rfl, .inr ⟨by decide, by decide⟩, _, _, rfl, rfl, (by show (0 : Int) < _; decide), ?_⟩
    refine ⟨_, rfl, _, rfl, _, _, rfl, rfl, .inl ⟨by omega, by omega⟩, _, rfl, _, _, rfl, rfl, .inl ⟨by decide, by decide⟩, _, _, rfl, rfl, _, _, rfl, rfl, (by show (0 : Int) < _; decide), ?_⟩
    exact ⟨_, rfl, _, rfl, _, _, rfl, rfl, (by show (0 : Int) < _; decide), _, _, rfl, rfl, _, _, rfl, rfl, .inl ⟨by omega, by omega⟩, _, _, rfl, rfl, (by show (0 : Int) < _; decide), q _⟩
def spCell (K : PySem.W.Frag) : Sp := fun vs H Q _ => ∃ (a : Addr) (ns : List Int) (k : Nat), vs = [.ref a, .int (k : Int)] ∧ SqL K H a (ns.map V.int) ∧ ns.length ≤ 63 ∧ k < 1000000000 ∧ ∀ r : Int, Q (.int r) H
theorem C_law_cell (T : Txt K mg tMOST_PLACES tFIGURES tMOST_FIGURES cNoWeb cNoText cWebError cNoFit cNoName cNoPlace cNoRow cNotClosed cNotOne cTooMany) : Callee P w K mg base 2 "_law_cell" ["_law_script", "_law_k"] (spCell K) := by
  have C_law_mixed := C_law_mixed (P := P) (w := w) (base := base) T
  refine mkCallee T.d_law_cell sc_law_cell (fun _ _ _ _ _ _ us hl => match us, hl with | [_, _], _ => rfl) (fun vs H Q E h => ?_) (fun f cdv A outer s H vs Q E hr h => ?_)
  · obtain ⟨a, ns, k, rfl, _⟩ := h; rfl
  · obtain ⟨a, ns, k, rfl, hS, hlen, hk, q⟩ := h
    have at_ : ∀ j : Nat, j < ns.length → ∃ z, atI (ns.map V.int) (j : Int) = some (.int z) := fun j hj => ⟨ns[j], atI_nat (by simp [hj])⟩
    refine ⟨_, (pss_cons (ps_if (pt_cmpR op_lt (pv 1) (pe_callB (lenq (K := K) rfl) rfl T.z_len bt_len (pa_cons (pv 0) pa_nil sE_Name)) (nomark _)) (pss_one (ps_ret (pe_ix (ixl (K := K) rfl) (pv 0) (pv 1) (fun _ _ => rfl)))) pss_nil) (pss_cons (ps_set (i := 2) sc_law_cell.nd rfl (by first | exact Or.inl rfl | exact Or.inr rfl) (pe_op op_add pe_int (pv 1))) (pss_cons (ps_if (pt_cmpR op_gt (pe_callB (lenq (K := K) rfl) rfl T.z_len bt_len (pa_cons (pv 0) pa_nil sE_Name)) pe_int (nomark _)) (pss_one (ps_set (i := 2) sc_law_cell.nd rfl (by first | exact Or.inl rfl | exact Or.inr rfl) (pe_op op_add (pv 2) (pe_op op_mul (pe_op op_mod (pe_ix (ixl (K := K) rfl) (pv 0) (pe_op op_mod (pv 1) (pe_callB (lenq (K := K) rfl) rfl T.z_len bt_len (pa_cons (pv 0) pa_nil sE_Name))) (fun _ _ => rfl)) (pe_op op_pow pe_int pe_int)) (pe_op op_add (pe_op op_fdiv (pv 1) (pe_callB (lenq (K := K) rfl) rfl T.z_len bt_len (pa_cons (pv 0) pa_nil sE_Name))) pe_int))))) pss_nil) (pss_one (ps_ret (pe_fn C_law_mixed hr rfl (pa_cons (pv 2) (pa_cons (pv 1) pa_nil sE_Name) sE_Name))))))), ?_⟩
    refine ⟨_, rfl, _, rfl, a, _, rfl, .inl hS, _, _, rfl, rfl, _, rfl, ite2 (fun h => ?_) (fun h => ?_)⟩
    · have h' := of_decide_eq_true h
      rw [List.length_map] at h'
      obtain ⟨z, hz⟩ := at_ k (by omega)
      exact ⟨_, rfl, _, rfl, a, _, _, _, rfl, rfl, hS, hz, q z⟩
    · refine ⟨_, rfl, _, _, rfl, rfl, ?_⟩
      refine ⟨_, rfl, a, _, rfl, .inl hS, _, _, rfl, rfl, _, rfl, ite2 (fun h2 => ?_) (fun h2 => ?_)⟩
      · have h3 := of_decide_eq_true h2
        rw [List.length_map] at h3
        have hm : ((k : Int) % ((ns.map V.int).length : Int)) = ((k % ns.length : Nat) : Int) := by rw [List.length_map]; rfl
        obtain ⟨z, hz⟩ := at_ (k % ns.length) (Nat.mod_lt _ (by omega))
        obtain ⟨e, he, hd2⟩ : ∃ e : Nat, e = k / ns.length ∧ e ≤ k := ⟨_, rfl, Nat.div_le_self _ _⟩
        have hd : ((k : Int) / ((ns.map V.int).length : Int)) = (e : Int) := by rw [List.length_map, he]; rfl
        refine ⟨_, rfl, _, rfl, _, rfl, _, rfl, a, _, rfl, .inl hS, _, _, rfl, rfl, (by rw [List.length_map]; omega), a, _, _, .int z, rfl, rfl, hS, (by rw [hm]; exact hz), _, _, rfl, rfl, ⟨by decide, by decide, by decide⟩, _, _, rfl, rfl, (by show (0 : Int) < _; decide),
          _, rfl, _, rfl, a, _, rfl, .inl hS, _, _, rfl, rfl, ⟨by rw [List.length_map]; omega, by rw [List.length_map]; omega⟩, _, _, rfl, rfl, _, _, rfl, rfl, .inr ⟨by rw [hd]; omega, by rw [hd]; omega⟩, _, _, rfl, rfl, ?_⟩
        exact ⟨_, rfl, _, rfl, _, _, rfl, q⟩
      · exact ⟨_, rfl, _, rfl, _, _, rfl, q⟩
def PenAt (K : PySem.W.Frag) (a : Addr) (ns : List Int) (H : Hp) (p : Addr) (n : Nat) : Prop := ∃ (k : Nat) (v c b : Int), H p = some (.lst [.ref a, .int (k : Int), .int v, .int c, .int b]) ∧ SqL K H a (ns.map V.int) ∧ ns.length ≤ 63 ∧ k ≤ n ∧ (b = 0 ∨ b = 1) ∧ a ≠ p
theorem sqL_ne {H : Hp} {a p : Addr} {o : HO} {xs : List V} (h : SqL K H a xs) (ne : a ≠ p) : SqL K (upd H p o) a xs := by
  rcases h with (h | ⟨u, h⟩) | h
  · exact .inl (.inl (by rw [upd_ne ne]; exact h))
  · exact .inl (.inr ⟨u, by rw [upd_ne ne]; exact h⟩)
  · exact .inr h
theorem PenAt.mono {a : Addr} {ns : List Int} {H H' : Hp} {p : Addr} {n m : Nat} (h : PenAt K a ns H p n) (s : Same H H') (hm : n ≤ m) : PenAt K a ns H' p m := by
  obtain ⟨k, v, c, b, h1, h2, h3, h4, h5, h6⟩ := h
  exact ⟨k, v, c, b, s _ _ h1, s.seq h2, h3, by omega, h5, h6⟩
theorem SameB.free {a : Addr} {ns : List Int} {H H' : Hp} {p : Addr} {n : Nat} (s : SameB p H H') (hp : PenAt K a ns H' p n) {t : Addr} (h : H' t = none) : H t = none := by
  cases e : H t with
  | none => rfl
  | some o =>
    by_cases ht : t = p
    · subst ht
      obtain ⟨_, _, _, _, h1, _⟩ := hp
      rw [h] at h1
      cases h1
    · rw [s t o e ht] at h
      cases h
def spPen (K : PySem.W.Frag) : Sp := fun vs H Q _ => ∃ (a : Addr) (ns : List Int), vs = [.ref a] ∧ SqL K H a (ns.map V.int) ∧ ns.length ≤ 63 ∧ ∀ p H', H p = none → PenAt K a ns H' p 1 → Same H H' → Q (.ref p) H'
end
section
variable {P : Program} {w : World} {K : PySem.W.Frag} {mg : Str → Option Value} {base : Heap} {tMOST_PLACES : Tok} {tFIGURES : Tok} {tMOST_FIGURES : Tok} {cNoWeb : Addr} {cNoText : Addr} {cWebError : Addr} {cNoFit : Addr} {cNoName : Addr} {cNoPlace : Addr} {cNoRow : Addr} {cNotClosed : Addr} {cNotOne : Addr} {cTooMany : Addr}
theorem C_law_pen (T : Txt K mg tMOST_PLACES tFIGURES tMOST_FIGURES cNoWeb cNoText cWebError cNoFit cNoName cNoPlace cNoRow cNotClosed cNotOne cTooMany) : Callee P w K mg base 3 "_law_pen" ["_law_script"] (spPen K) := by
  have C_law_cell := C_law_cell (P := P) (w := w) (base := base) T
  refine mkCallee T.d_law_pen sc_law_pen (fun _ _ _ _ _ _ us hl => match us, hl with | [_], _ => rfl) (fun vs H Q E h => ?_) (fun f cdv A outer s H vs Q E hr h => ?_)
  · obtain ⟨a, ns, rfl, _⟩ := h; rfl
  · obtain ⟨a, ns, rfl, hS, hlen, k⟩ := h
    refine ⟨_, (pss_one (ps_ret (pe_lstK (K := K) rfl (pa_cons (pv 0) (pa_cons pe_int (pa_cons pe_int (pa_cons pe_int (pa_cons (pe_op op_mod (pe_fn C_law_cell hr rfl (pa_cons (pv 0) (pa_cons pe_int pa_nil sE_Constant) sE_Name)) pe_int) pa_nil sE_BinOp) sE_Constant) sE_Constant) sE_Constant) sE_Name)))), ?_⟩
    refine ⟨_, rfl, _, rfl, a, ns, 0, rfl, hS, hlen, by decide, fun r => ⟨_, _, rfl, rfl, (by show (0 : Int) < _; decide), (by show 5 ≤ sizeLine; decide), fun p hp lp => ?_⟩⟩
    refine k p _ hp ⟨1, 0, 0, _, upd_same, sqL_ne hS (hS.ne_new hp lp), hlen, Nat.le_refl _, ?_, hS.ne_new hp lp⟩ (Same.new hp)
    show r % 2 = 0 ∨ r % 2 = 1
    omega
def spTake (K : PySem.W.Frag) : Sp := fun vs H Q _ => ∃ (p : Addr) (m n : Nat) (a : Addr) (ns : List Int), vs = [.ref p, .int (m : Int)] ∧ PenAt K a ns H p n ∧ n < 100000000 ∧ 0 < m ∧ m < 1000000000 ∧ ∀ (r : Nat) H', r < m → PenAt K a ns H' p (n + 1) → SameB p H H' → Q (.int (r : Int)) H'
theorem C_law_take (T : Txt K mg tMOST_PLACES tFIGURES tMOST_FIGURES cNoWeb cNoText cWebError cNoFit cNoName cNoPlace cNoRow cNotClosed cNotOne cTooMany) : Callee P w K mg base 3 "_law_take" ["_law_pen_here", "_law_many"] (spTake K) := by
  have C_law_cell := C_law_cell (P := P) (w := w) (base := base) T
  have C_law_mixed := C_law_mixed (P := P) (w := w) (base := base) T
  refine mkCallee T.d_law_take sc_law_take (fun _ _ _ _ _ _ us hl => match us, hl with | [_, _], _ => rfl) (fun vs H Q E h => ?_) (fun f cdv A outer s H vs Q E hr h => ?_)
  · obtain ⟨p, m, n, a, ns, rfl, _⟩ := h; rfl
  · obtain ⟨p, m, n, a, ns, rfl, ⟨k, v, c, b, hp, hS, hlen, hk, hb, hne⟩, hn, hm, hm2, q⟩ := h
    refine ⟨_, (pss_cons (ps_if (pt_cmpR op_eq (pe_ix (ixl (K := K) rfl) (pv 0) pe_int (fun _ _ => rfl)) pe_int (nomark _)) (pss_cons (ps_asg (pe_fn C_law_cell hr rfl (pa_cons (pe_ix (ixl (K := K) rfl) (pv 0) pe_int (fun _ _ => rfl)) (pa_cons (pe_ix (ixl (K := K) rfl) (pv 0) pe_int (fun _ _ => rfl)) pa_nil sE_Subscript) sE_Subscript)) (pg_sub (pv 0) pe_int set_list)) (pss_cons (ps_if (pt_cmpR op_eq (pe_ix (ixl (K := K) rfl) (pv 0) pe_int (fun _ _ => rfl)) pe_int (nomark _)) (pss_one (ps_asg (pe_fn C_law_mixed hr rfl (pa_cons (pe_ix (ixl (K := K) rfl) (pv 0) pe_int (fun _ _ => rfl)) (pa_cons (pe_ix (ixl (K := K) rfl) (pv 0) pe_int (fun _ _ => rfl)) pa_nil sE_Subscript) sE_Subscript)) (pg_sub (pv 0) pe_int set_list))) pss_nil) (pss_cons (ps_asg (pe_ix (ixl (K := K) rfl) (pe_lst (pa_cons pe_int (pa_cons pe_int pa_nil sE_Constant) sE_Constant)) (pe_ix (ixl (K := K) rfl) (pv 0) pe_int (fun _ _ => rfl)) (fun _ _ => rfl)) (pg_sub (pv 0) pe_int set_list)) (pss_one (ps_asg (pe_op op_add (pe_ix (ixl (K := K) rfl) (pv 0) pe_int (fun _ _ => rfl)) pe_int) (pg_sub (pv 0) pe_int set_list)))))) pss_nil) (pss_cons (ps_asg (pe_op op_sub (pe_ix (ixl (K := K) rfl) (pv 0) pe_int (fun _ _ => rfl)) pe_int) (pg_sub (pv 0) pe_int set_list)) (pss_cons (ps_set (i := 2) sc_law_take.nd rfl (by first | exact Or.inl rfl | exact Or.inr rfl) (pe_op op_mod (pe_ix (ixl (K := K) rfl) (pv 0) pe_int (fun _ _ => rfl)) (pv 1))) (pss_cons (ps_asg (pe_op op_fdiv (pe_ix (ixl (K := K) rfl) (pv 0) pe_int (fun _ _ => rfl)) (pv 1)) (pg_sub (pv 0) pe_int set_list)) (pss_one (ps_ret (pv 2))))))), ?_⟩
    -- what stands behind the filling
    have fin : ∀ (H2 : Hp) (k2 : Nat) (v2 c2 : Int), H2 p = some (.lst [.ref a, .int (k2 : Int), .int v2, .int c2, .int b]) → SqL K H2 a (ns.map V.int) → k2 ≤ n + 1 → SameB p H H2 →
        ∀ (x y : Int), Q (.int (v2 % m)) (upd (upd H2 p (.lst [.ref a, .int (k2 : Int), .int v2, .int x, .int b])) p (.lst [.ref a, .int (k2 : Int), .int y, .int x, .int b])) := by
      intro H2 k2 v2 c2 h1 h2 h3 h4 x y
      obtain ⟨r, hr1⟩ : ∃ r : Nat, (r : Int) = v2 % m := ⟨(v2 % m).toNat, Int.toNat_of_nonneg (Int.emod_nonneg _ (by omega))⟩
      have hr2 : r < m := by
        have := Int.emod_lt_of_pos v2 (show (0 : Int) < m by omega)
        omega
      rw [← hr1]
      refine q r _ hr2 ⟨k2, y, x, b, upd_same, sqL_ne (sqL_ne h2 hne) hne, hlen, h3, hb, hne⟩ fun d o e nd => ?_
      rw [upd_ne nd, upd_ne nd]
      exact h4 d o e nd
    refine ⟨_, rfl, p, _, 3, _, rfl, rfl, SqL.of hp, rfl, rfl, _, rfl, ite2 (fun hc => ?_) (fun hc => ?_)⟩
    · -- the next cell
      refine ⟨_, rfl, p, _, 0, _, rfl, rfl, SqL.of hp, rfl, _, rfl, p, _, 1, _, rfl, rfl, SqL.of hp, rfl, a, ns, k, rfl, hS, hlen, by omega, fun r1 => ?_⟩
      refine ⟨_, rfl, p, _, 2, 2, rfl, rfl, hp, rfl, ?_⟩
      have e1 : upd H p (.lst [.ref a, .int (k : Int), .int r1, .int c, .int b]) p = some (.lst [.ref a, .int (k : Int), .int r1, .int c, .int b]) := upd_same
      have s1 : SameB p H (upd H p (.lst [.ref a, .int (k : Int), .int r1, .int c, .int b])) := fun d o e nd => by rw [upd_ne nd]; exact e
      have q1 : SqL K (upd H p (.lst [.ref a, .int (k : Int), .int r1, .int c, .int b])) a (ns.map V.int) := sqL_ne hS hne
      -- behind the second one
      have fill : ∀ (H2 : Hp) (v2 : Int), H2 p = some (.lst [.ref a, .int (k : Int), .int v2, .int c, .int b]) → SqL K H2 a (ns.map V.int) → SameB p H H2 → ∀ l, H2 l = none → ∀ z x y : Int,
          Q (.int (v2 % m)) (upd (upd (upd (upd (upd H2 l (.lst [.int 40, .int 1])) p (.lst [.ref a, .int (k : Int), .int v2, .int z, .int b])) p (.lst [.ref a, .int ((k : Int) + 1), .int v2, .int z, .int b])) p (.lst [.ref a, .int ((k : Int) + 1), .int v2, .int x, .int b])) p (.lst [.ref a, .int ((k : Int) + 1), .int y, .int x, .int b])) := by
        intro H2 v2 h1 h2 h3 l hl z x y
        have nl : p ≠ l := ne_of_none h1 hl
        refine fin _ (k + 1) v2 z upd_same (sqL_ne (sqL_ne ?_ hne) hne) (by omega) (fun d o e nd => ?_) x y
        · rcases h2 with (h2 | ⟨u, h2⟩) | h2
          · exact .inl (.inl ((Same.new hl) _ _ h2))
          · exact .inl (.inr ⟨u, (Same.new hl) _ _ h2⟩)
          · exact .inr h2
        · rw [upd_ne nd, upd_ne nd]
          exact (Same.new hl) _ _ (h3 d o e nd)
      have at4 : ∃ z : Int, atI [V.int 40, V.int 1] b = some (.int z) := by
        rcases hb with rfl | rfl
        · exact ⟨40, rfl⟩
        · exact ⟨1, rfl⟩
      obtain ⟨z, hz⟩ := at4
      refine ⟨_, rfl, p, _, 4, _, rfl, rfl, SqL.of e1, rfl, rfl, _, rfl, ite2 (fun hb1 => ?_) (fun hb1 => ?_)⟩
      · refine ⟨_, rfl, p, _, 2, _, rfl, rfl, SqL.of e1, rfl, _, rfl, p, _, 1, _, rfl, rfl, SqL.of e1, rfl, _, _, rfl, fun r2 => ?_⟩
        refine ⟨_, rfl, p, _, 2, 2, rfl, rfl, e1, rfl, ?_⟩
        have e2 : upd (upd H p (.lst [.ref a, .int (k : Int), .int r1, .int c, .int b])) p (.lst [.ref a, .int (k : Int), .int r2, .int c, .int b]) p = some (.lst [.ref a, .int (k : Int), .int r2, .int c, .int b]) := upd_same
        refine ⟨by show 2 ≤ sizeLine; decide, fun l hl => ?_⟩
        have e3 := (Same.new (o := .lst [.int 40, .int 1]) hl) _ _ e2
        refine ⟨_, rfl, p, _, 4, _, rfl, rfl, SqL.of e3, rfl, l, _, b, _, rfl, rfl, SqL.of upd_same, hz, _, rfl, p, _, 3, 3, rfl, rfl, e3, rfl, ?_⟩
        refine ⟨_, rfl, p, _, 1, _, rfl, rfl, SqL.of upd_same, rfl, _, _, rfl, rfl, _, rfl, p, _, 1, 1, rfl, rfl, upd_same, rfl, ?_⟩
        refine ⟨_, rfl, p, _, 3, _, rfl, rfl, SqL.of upd_same, rfl, _, _, rfl, rfl, _, rfl, p, _, 3, 3, rfl, rfl, upd_same, rfl, ?_⟩
        refine ⟨_, rfl, p, _, 2, _, rfl, rfl, SqL.of upd_same, rfl, _, rfl, _, _, rfl, rfl, (show (0 : Int) < m by omega), ?_⟩
        refine ⟨_, rfl, p, _, 2, _, rfl, rfl, SqL.of upd_same, rfl, _, rfl, _, _, rfl, rfl, ⟨by omega, by omega⟩, _, rfl, p, _, 2, 2, rfl, rfl, upd_same, rfl, ?_⟩
        refine ⟨_, rfl, ?_⟩
        exact fill _ r2 e2 (sqL_ne q1 hne) (fun d o e nd => by rw [upd_ne nd]; exact s1 d o e nd) l hl z _ _
      · refine ⟨by show 2 ≤ sizeLine; decide, fun l hl => ?_⟩
        have e3 := (Same.new (o := .lst [.int 40, .int 1]) hl) _ _ e1
        refine ⟨_, rfl, p, _, 4, _, rfl, rfl, SqL.of e3, rfl, l, _, b, _, rfl, rfl, SqL.of upd_same, hz, _, rfl, p, _, 3, 3, rfl, rfl, e3, rfl, ?_⟩
        refine ⟨_, rfl, p, _, 1, _, rfl, rfl, SqL.of upd_same, rfl, _, _, rfl, rfl, _, rfl, p, _, 1, 1, rfl, rfl, upd_same, rfl, ?_⟩
        refine ⟨_, rfl, p, _, 3, _, rfl, rfl, SqL.of upd_same, rfl, _, _, rfl, rfl, _, rfl, p, _, 3, 3, rfl, rfl, upd_same, rfl, ?_⟩
        refine ⟨_, rfl, p, _, 2, _, rfl, rfl, SqL.of upd_same, rfl, _, rfl, _, _, rfl, rfl, (show (0 : Int) < m by omega), ?_⟩
        refine ⟨_, rfl, p, _, 2, _, rfl, rfl, SqL.of upd_same, rfl, _, rfl, _, _, rfl, rfl, ⟨by omega, by omega⟩, _, rfl, p, _, 2, 2, rfl, rfl, upd_same, rfl, ?_⟩
        refine ⟨_, rfl, ?_⟩
        exact fill _ r1 e1 q1 s1 l hl z _ _
    · refine ⟨_, rfl, p, _, 3, _, rfl, rfl, SqL.of hp, rfl, _, _, rfl, rfl, _, rfl, p, _, 3, 3, rfl, rfl, hp, rfl, ?_⟩
      refine ⟨_, rfl, p, _, 2, _, rfl, rfl, SqL.of upd_same, rfl, _, rfl, _, _, rfl, rfl, (show (0 : Int) < m by omega), ?_⟩
      refine ⟨_, rfl, p, _, 2, _, rfl, rfl, SqL.of upd_same, rfl, _, rfl, _, _, rfl, rfl, ⟨by omega, by omega⟩, _, rfl, p, _, 2, 2, rfl, rfl, upd_same, rfl, ?_⟩
      refine ⟨_, rfl, ?_⟩
      exact fin H k v c hp hS (by omega) SameB.refl _ _
end
section
variable {P : Program} {w : World} {K : PySem.W.Frag} {mg : Str → Option Value} {base : Heap} {tMOST_PLACES : Tok} {tFIGURES : Tok} {tMOST_FIGURES : Tok} {cNoWeb : Addr} {cNoText : Addr} {cWebError : Addr} {cNoFit : Addr} {cNoName : Addr} {cNoPlace : Addr} {cNoRow : Addr} {cNotClosed : Addr} {cNotOne : Addr} {cTooMany : Addr}
theorem pen_lst {a : Addr} {ns : List Int} {H : Hp} {p : Addr} {n : Nat} (h : PenAt K a ns H p n) : ∃ xs, H p = some (.lst xs) := let ⟨_, _, _, _, h, _⟩ := h; ⟨_, h⟩
theorem penlt {a : Addr} {ns : List Int} {H : Hp} {p : Addr} {n m : Nat} (h : PenAt K a ns H p n) (e : n ≤ m) : PenAt K a ns H p m := h.mono (Same.refl H) e
def Off (K : PySem.W.Frag) (a : Addr) (ns : List Int) (l : Addr) : Prop := ∀ (H : Hp) (o : HO), SqL K H a (ns.map V.int) → SqL K (upd H l o) a (ns.map V.int)
theorem SqL.off {H : Hp} {a l : Addr} {ns : List Int} (h : SqL K H a (ns.map V.int)) (hl : H l = none) : Off K a ns l := by
  rcases h with (h | ⟨u, h⟩) | h
  · exact fun H' o q => sqL_ne q (by rintro rfl; rw [hl] at h; cases h)
  · exact fun H' o q => sqL_ne q (by rintro rfl; rw [hl] at h; cases h)
  · exact fun H' o _ => .inr h
theorem PenAt.off {a l : Addr} {ns : List Int} {H : Hp} {p : Addr} {n : Nat} (h : PenAt K a ns H p n) (hl : H l = none) : Off K a ns l := let ⟨_, _, _, _, _, h, _⟩ := h; SqL.off h hl
theorem PenAt.put {a l : Addr} {ns : List Int} {H : Hp} {p : Addr} {n : Nat} {o : HO} (h : PenAt K a ns H p n) (hl : Off K a ns l) (ne : l ≠ p) : PenAt K a ns (upd H l o) p n := by
  obtain ⟨k, v, c, b, h1, h2, h3, h4, h5, h6⟩ := h
  exact ⟨k, v, c, b, by rw [upd_ne ne.symm]; exact h1, hl _ _ h2, h3, h4, h5, h6⟩
theorem PenAt.ne {a l : Addr} {ns : List Int} {H : Hp} {p : Addr} {n : Nat} (h : PenAt K a ns H p n) (hl : H l = none) : l ≠ p := by
  obtain ⟨xs, e⟩ := pen_lst h
  rintro rfl
  rw [hl] at e
  cases e
section
variable {a0 : Addr} {ns : List Int}
theorem SameB.tup {H H' : Hp} {p r : Addr} {n : Nat} {xs : List V} (s : SameB p H H') (hp : PenAt K a0 ns H p n) (h : H r = some (.tup xs)) : H' r = some (.tup xs) := by
  obtain ⟨ys, e⟩ := pen_lst hp
  exact s r _ h (by rintro rfl; rw [e] at h; cases h)
theorem TieV.monoB {H H' : Hp} {p : Addr} {n : Nat} (s : SameB p H H') (hp : PenAt K a0 ns H p n) {v : V} {t : Nat × Nat} (h : TieV H v t) : TieV H' v t := let ⟨r, e, q⟩ := h; ⟨r, e, SameB.tup s hp q⟩
theorem RowV.monoB {H H' : Hp} {p : Addr} {n : Nat} (s : SameB p H H') (hp : PenAt K a0 ns H p n) {v : V} {t : List Nat} (h : RowV H v t) : RowV H' v t := let ⟨r, e, q⟩ := h; ⟨r, e, SameB.tup s hp q⟩
theorem WebAt.monoB {H H' : Hp} {p : Addr} {n : Nat} (s : SameB p H H') (hp : PenAt K a0 ns H p n) {l : Addr} {g : List (List Nat)} (h : WebAt H l g) : WebAt H' l g := let ⟨xs, e, q⟩ := h; ⟨xs, SameB.tup s hp e, paired_mono (fun _ _ => RowV.monoB s hp) q⟩
theorem TiesAt.monoB {H H' : Hp} {p : Addr} {n : Nat} (s : SameB p H H') (hp : PenAt K a0 ns H p n) {l : Addr} (hl : l ≠ p) {ts : List (Nat × Nat)} (h : TiesAt H l ts) : TiesAt H' l ts := let ⟨xs, e, q⟩ := h; ⟨xs, s _ _ e hl, paired_mono (fun _ _ => TieV.monoB s hp) q⟩
end
theorem TieV.putL {H : Hp} {l : Addr} {xs : List V} {o : HO} (hl : H l = some (.lst xs)) {v : V} {t : Nat × Nat} (h : TieV H v t) : TieV (upd H l o) v t := let ⟨r, e, q⟩ := h; ⟨r, e, by rw [upd_ne (by rintro rfl; rw [hl] at q; cases q)]; exact q⟩
theorem SameB.upd {p a : Addr} {H H' : Hp} {o : HO} (s : SameB p H H') (h : H a = none) : SameB p H (L2.upd H' a o) := fun b u e n => by rw [upd_ne (ne_of_none e h)]; exact s b u e n
theorem paired_take {α β : Type} {F : α → β → Prop} : ∀ {l : List α} {m : List β}, Paired F l m → ∀ k : Nat, Paired F (l.take k) (m.take k)
  | _, _, _, 0 => .nil
  | _, _, .nil, k + 1 => .nil
  | _, _, .cons r t, k + 1 => .cons r (paired_take t k)
theorem paired_drop {α β : Type} {F : α → β → Prop} : ∀ {l : List α} {m : List β}, Paired F l m → ∀ k : Nat, Paired F (l.drop k) (m.drop k)
  | _, _, h, 0 => h
  | _, _, .nil, k + 1 => .nil
  | _, _, .cons r t, k + 1 => paired_drop t k
structure Part (ts : List (Nat × Nat)) (i j : Nat) : Prop where
  inn : ∀ t ∈ ts, ∃ a b, (t = (a, b) ∨ t = (b, a)) ∧ b < a ∧ (a < i ∨ (a = i ∧ b < j))
  nd : (ts.map norm).Nodup
theorem norm_ab {a b : Nat} (h : b < a) : norm (a, b) = (b, a) := by unfold norm; rw [if_neg (by show ¬ a ≤ b; omega)]
theorem norm_ba {a b : Nat} (h : b < a) : norm (b, a) = (b, a) := by unfold norm; rw [if_pos (by show b ≤ a; omega)]
theorem Part.nil : Part [] 0 0 := ⟨fun t h => absurd h (by simp), by simp⟩
theorem Part.skip {ts : List (Nat × Nat)} {i j : Nat} (h : Part ts i j) : Part ts i (j + 1) := ⟨fun t ht => by obtain ⟨a, b, e, l, c⟩ := h.inn t ht; exact ⟨a, b, e, l, by omega⟩, h.nd⟩
theorem Part.next {ts : List (Nat × Nat)} {i j : Nat} (h : Part ts i j) (hj : j ≤ i) : Part ts (i + 1) 0 := ⟨fun t ht => by obtain ⟨a, b, e, l, c⟩ := h.inn t ht; exact ⟨a, b, e, l, by omega⟩, h.nd⟩
theorem Part.put {ts : List (Nat × Nat)} {i j : Nat} (h : Part ts i j) (hj : j < i) {t : Nat × Nat} (ht : t = (i, j) ∨ t = (j, i)) (k : Nat) : Part (ts.take k ++ t :: ts.drop k) i (j + 1) := by
  have pm : (ts.take k ++ t :: ts.drop k).Perm (t :: ts) := by
    refine List.perm_middle.trans ?_
    rw [List.take_append_drop]
  have en : norm t = (j, i) := by
    rcases ht with rfl | rfl
    · exact norm_ab hj
    · exact norm_ba hj
  refine ⟨fun u hu => ?_, (pm.map norm).nodup_iff.mpr ?_⟩
  · rcases List.mem_cons.mp (pm.mem_iff.mp hu) with rfl | z
    · exact ⟨i, j, ht, hj, .inr ⟨rfl, Nat.lt_succ_self _⟩⟩
    · exact h.skip.inn u z
  · rw [List.map_cons, List.nodup_cons]
    refine ⟨fun z => ?_, h.nd⟩
    rw [List.mem_map] at z
    obtain ⟨u, hu, e⟩ := z
    obtain ⟨a, b, e1, l, c⟩ := h.inn u hu
    have eu : norm u = (b, a) := by
      rcases e1 with rfl | rfl
      · exact norm_ab l
      · exact norm_ba l
    rw [eu, en] at e
    injection e with e2 e3
    omega
theorem Part.good {ts : List (Nat × Nat)} {n : Nat} (h : Part ts n 0) : Good n ts := ⟨fun t ht => by
  obtain ⟨a, b, e, l, c⟩ := h.inn t ht
  rcases e with rfl | rfl
  · exact ⟨by show a < n; omega, by show b < n; omega, by show a ≠ b; omega⟩
  · exact ⟨by show b < n; omega, by show a < n; omega, by show b ≠ a; omega⟩, h.nd⟩
def spAny (K : PySem.W.Frag) : Sp := fun vs H Q _ => ∃ (p : Addr) (m n : Nat) (a : Addr) (ns : List Int), vs = [.ref p, .int (m : Int)] ∧ PenAt K a ns H p n ∧ n < 10000000 ∧ 1 ≤ m ∧ m ≤ 24 ∧
  ∀ (t l : Addr) (many : Nat) (ts : List (Nat × Nat)) H', 1 ≤ many → many ≤ m → H l = none → l ≠ p → Off K a ns l → H' t = some (.tup [.int (many : Int), .ref l]) → TiesAt H' l ts → Good many ts → ts.length ≤ 600 → PenAt K a ns H' p (n + 2000) → SameB p H H' → Q (.ref t) H'
theorem C_law_any (T : Txt K mg tMOST_PLACES tFIGURES tMOST_FIGURES cNoWeb cNoText cWebError cNoFit cNoName cNoPlace cNoRow cNotClosed cNotOne cTooMany) : Callee P w K mg base 4 "_law_any" ["_law_pen_here", "_law_most"] (spAny K) := by
  have C_law_take := C_law_take (P := P) (w := w) (base := base) T
  refine mkCallee T.d_law_any sc_law_any (fun _ _ _ _ _ _ us hl => match us, hl with | [_, _], _ => rfl) (fun vs H Q E h => ?_) (fun f cdv A outer s H vs Q E hr h => ?_)
  · obtain ⟨p, m, n, a, ns, rfl, _⟩ := h; rfl
  · obtain ⟨p, m, n, a, ns, rfl, pen0, hn, hm1, hm24, k⟩ := h
    refine ⟨_, (pss_cons (ps_set (i := 2) sc_law_any.nd rfl (by first | exact Or.inl rfl | exact Or.inr rfl) (pe_op op_add pe_int (pe_fn C_law_take hr rfl (pa_cons (pv 0) (pa_cons (pv 1) pa_nil sE_Name) sE_Name)))) (pss_cons (ps_set (i := 3) sc_law_any.nd rfl (by first | exact Or.inl rfl | exact Or.inr rfl) (pe_ix (ixl (K := K) rfl) (pe_lst (pa_cons pe_int (pa_cons pe_int (pa_cons pe_int (pa_cons (pv 2) pa_nil sE_Name) sE_Constant) sE_Constant) sE_Constant)) (pe_fn C_law_take hr rfl (pa_cons (pv 0) (pa_cons pe_int pa_nil sE_Constant) sE_Name)) (fun _ _ => rfl))) (pss_cons (ps_set (i := 4) sc_law_any.nd rfl (by first | exact Or.inl rfl | exact Or.inr rfl) (pe_lst pa_nil)) (pss_cons (ps_for PassesOwn.never rfl (pi_range1 rfl T.z_range (pa_cons (pv 2) pa_nil sE_Name)) (pg_name (i := 5) sc_law_any.nd rfl (by first | exact Or.inl rfl | exact Or.inr rfl)) (pss_one (ps_for PassesOwn.never rfl (pi_range1 rfl T.z_range (pa_cons (pv 5) pa_nil sE_Name)) (pg_name (i := 6) sc_law_any.nd rfl (by first | exact Or.inl rfl | exact Or.inr rfl)) (pss_one (ps_if (PW.pt (pw_and (pt_cmpR op_lt (pe_fn C_law_take hr rfl (pa_cons (pv 0) (pa_cons (pe_op op_add (pv 3) pe_int) pa_nil sE_BinOp) sE_Name)) pe_int (nomark _)) (pw_and1 (pt_cmpR op_gt (pv 3) pe_int (nomark _))))) (pss_one (ps_expr (bm (K := K) rfl PySem.F.plainAttrs_list PySem.F.slot_list_insert PySem.F.type_list_insert mt_insert (pv 4) (pa_cons (pe_fn C_law_take hr rfl (pa_cons (pv 0) (pa_cons (pe_op op_add (pe_callB (lenq (K := K) rfl) rfl T.z_len bt_len (pa_cons (pv 4) pa_nil sE_Name)) pe_int) pa_nil sE_BinOp) sE_Name)) (pa_cons (pe_ix (ixl (K := K) rfl) (pe_lst (pa_cons (pe_tup (pa_cons (pv 5) (pa_cons (pv 6) pa_nil sE_Name) sE_Name)) (pa_cons (pe_tup (pa_cons (pv 6) (pa_cons (pv 5) pa_nil sE_Name) sE_Name)) pa_nil sE_Tuple) sE_Tuple)) (pe_fn C_law_take hr rfl (pa_cons (pv 0) (pa_cons pe_int pa_nil sE_Constant) sE_Name)) (fun _ _ => rfl)) pa_nil sE_Subscript) sE_Call)))) pss_nil))))) (pss_one (ps_ret (pe_tup (pa_cons (pv 2) (pa_cons (pv 4) pa_nil sE_Name) sE_Name)))))))), ?_⟩
    refine ⟨_, rfl, _, rfl, p, m, n, a, ns, rfl, pen0, by omega, by omega, by omega, fun r H1 hr1 pen1 s1 => ⟨_, _, rfl, rfl, ?_⟩⟩
    refine ⟨_, rfl, by show 4 ≤ sizeLine; decide, fun L hL => ?_⟩
    have nL := pen1.ne hL
    refine ⟨_, rfl, p, 4, n + 1, a, ns, rfl, pen1.mono (Same.new hL) (Nat.le_refl _), by omega, by omega, by omega, fun r2 H2 hr2 pen2 s2 => ?_⟩
    have eL : H2 L = some (.lst [.int 2, .int 3, .int 5, .int ((1 + r : Nat) : Int)]) := s2 _ _ upd_same nL
    obtain ⟨bs, hbs, hbs1, hbs2⟩ : ∃ bs : Nat, atI [V.int 2, .int 3, .int 5, .int ((1 + r : Nat) : Int)] (r2 : Int) = some (.int (bs : Int)) ∧ 1 ≤ bs ∧ bs ≤ 24 := by
      match r2, hr2 with
      | 0, _ => exact ⟨2, rfl, by omega, by omega⟩
      | 1, _ => exact ⟨3, rfl, by omega, by omega⟩
      | 2, _ => exact ⟨5, rfl, by omega, by omega⟩
      | 3, _ => exact ⟨1 + r, rfl, by omega, by omega⟩
    refine ⟨L, _, _, _, rfl, rfl, SqL.of eL, hbs, ?_⟩
    refine ⟨by show 0 ≤ sizeLine; decide, fun l hl => ?_⟩
    have nl := pen2.ne hl
    have off := pen2.off hl
    have sB : SameB p H H2 := (s1.trans ((Same.new hL).b)).trans s2
    have nlH : H l = none := SameB.free sB pen2 hl
    have pen3 := pen2.mono (Same.new (o := .lst []) hl) (Nat.le_refl _)
    refine ⟨_, rfl, ((1 + r : Nat) : Int), rfl, by omega, by omega, for_range0 (Pv := fun i σ H' => (∃ v5 v6, σ = [some (.ref p), some (.int (m : Int)), some (.int ((1 + r : Nat) : Int)), some (.int (bs : Int)), some (.ref l), v5, v6]) ∧ i ≤ 24 ∧
        (∃ ts, TiesAt H' l ts ∧ Part ts i 0 ∧ ts.length ≤ 25 * i) ∧ PenAt K a ns H' p (n + 2 + 75 * i) ∧ SameB p H H')
      ⟨⟨_, _, rfl⟩, Nat.zero_le _, ⟨[], ⟨[], upd_same, .nil⟩, Part.nil, Nat.le_refl _⟩, pen3, sB.trans (Same.new hl).b⟩ ?_ ?_⟩
    · rintro i σ H3 hi ⟨⟨v5, v6, rfl⟩, hi24, ⟨ts, hts, hpt, hlen⟩, pen4, s4⟩
      refine ⟨_, rfl, (i : Int), rfl, by omega, by omega, for_range0 (Pv := fun j σ H' => (∃ v6, σ = [some (.ref p), some (.int (m : Int)), some (.int ((1 + r : Nat) : Int)), some (.int (bs : Int)), some (.ref l), some (.int (i : Int)), v6]) ∧ j ≤ i ∧
          (∃ ts, TiesAt H' l ts ∧ Part ts i j ∧ ts.length ≤ 25 * i + j) ∧ PenAt K a ns H' p (n + 2 + 75 * i + 3 * j) ∧ SameB p H H')
        ⟨⟨_, rfl⟩, Nat.zero_le _, ⟨ts, hts, hpt, hlen⟩, pen4, s4⟩ ?_ ?_⟩
      · rintro j σ H4 hj ⟨⟨v6', rfl⟩, hji, ⟨ts, hts, hpt, hlen⟩, pen5, s5⟩
        refine ⟨_, rfl, _, rfl, _, _, rfl, rfl, p, bs + 1, _, a, ns, rfl, pen5, by omega, by omega, by omega, fun r5 H5 hr5 pen6 s6 => ⟨_, _, rfl, rfl, _, rfl, ?_⟩⟩
        have hts6 := hts.monoB s6 pen5 nl
        have s56 := s5.trans s6
        have out : (∃ v6, [some (V.ref p), some (.int (m : Int)), some (.int ((1 + r : Nat) : Int)), some (.int (bs : Int)), some (.ref l), some (.int (i : Int)), some (.int (j : Int))] = [some (V.ref p), some (.int (m : Int)), some (.int ((1 + r : Nat) : Int)), some (.int (bs : Int)), some (.ref l), some (.int (i : Int)), v6]) ∧ j + 1 ≤ i ∧
          (∃ ts, TiesAt H5 l ts ∧ Part ts i (j + 1) ∧ ts.length ≤ 25 * i + (j + 1)) ∧ PenAt K a ns H5 p (n + 2 + 75 * i + 3 * (j + 1)) ∧ SameB p H H5 :=
          ⟨⟨_, rfl⟩, hj, ⟨ts, hts6, hpt.skip, by omega⟩, penlt pen6 (by omega), s56⟩
        refine ite2 (fun hc => ?_) (fun hc => iteF out)
        refine ⟨_, rfl, _, _, rfl, rfl, _, rfl, ite2 (fun hc2 => ?_) (fun hc2 => out)⟩
        -- a tie more
        obtain ⟨xs, hxs, hpx⟩ := hts6
        have hxl := hpx.length
        refine ⟨_, rfl, .inl ⟨rfl, _, SqL.of hxs⟩, _, rfl, _, rfl, l, _, rfl, .inl (SqL.of hxs), _, _, rfl, rfl, p, xs.length + 1, _, a, ns, rfl, pen6, by omega, by omega, by omega, fun r7 H7 hr7 pen7 s7 => ?_⟩
        have hxs7 := s7 _ _ hxs nl
        have hpx7 := paired_mono (fun _ _ => TieV.monoB s7 pen6) hpx
        refine ⟨_, rfl, _, rfl, by show 2 ≤ sizeLine; decide, fun t1 ht1 => ⟨_, rfl, _, rfl, by show 2 ≤ sizeLine; decide, fun t2 ht2 => ⟨by show 2 ≤ sizeLine; decide, fun L2 hL2 => ?_⟩⟩⟩
        generalize hH8 : upd (upd (upd H7 t1 _) t2 _) L2 _ = H8
        have s8 : Same H7 H8 := by rw [← hH8]; exact ((Same.new ht1).updr ht2).updr hL2
        have c1 : H8 t1 = some (.tup [.int (i : Int), .int (j : Int)]) := by rw [← hH8]; exact ((Same.new ht2).updr hL2) _ _ upd_same
        have c2 : H8 t2 = some (.tup [.int (j : Int), .int (i : Int)]) := by rw [← hH8]; exact (Same.new hL2) _ _ upd_same
        have cL : H8 L2 = some (.lst [.ref t1, .ref t2]) := by rw [← hH8]; exact upd_same
        have pen8 := pen7.mono s8 (Nat.le_refl _)
        have nL2 : L2 ≠ p := by
          have q : ∀ z, H7 z = none → z ≠ p := fun z hz => pen7.ne hz
          exact q L2 (((Same.new ht1).updr ht2).free hL2)
        refine ⟨_, rfl, p, 2, _, a, ns, rfl, pen8, by omega, by omega, by omega, fun r9 H9 hr9 pen9 s9 => ?_⟩
        have cL9 := s9 _ _ cL nL2
        obtain ⟨tv, t, htv, ht, hT⟩ : ∃ (tv : V) (t : Nat × Nat), atI [V.ref t1, .ref t2] (r9 : Int) = some tv ∧ (t = (i, j) ∨ t = (j, i)) ∧ TieV H9 tv t := by
          match r9, hr9 with
          | 0, _ => exact ⟨_, (i, j), rfl, .inl rfl, t1, rfl, SameB.tup s9 pen8 c1⟩
          | 1, _ => exact ⟨_, (j, i), rfl, .inr rfl, t2, rfl, SameB.tup s9 pen8 c2⟩
        have hxs9 := s9 _ _ (s8 _ _ hxs7) nl
        have hpx9 := paired_mono (fun _ _ h => TieV.monoB s9 pen8 (TieV.mono s8 h)) hpx7
        refine ⟨L2, _, _, _, rfl, rfl, SqL.of cL9, htv, l, xs, r7, tv, rfl, rfl, hxs9, by omega, small1000 (by omega), ⟨_, rfl⟩, hj, ⟨ts.take r7 ++ t :: ts.drop r7, ⟨_, upd_same, ?_⟩, hpt.put hj ht r7, ?_⟩, penlt (pen9.put off nl) (by omega), SameB.upd (((s56.trans s7).trans s8.b).trans s9) nlH⟩
        · exact paired_append (paired_mono (fun _ _ => TieV.putL hxs9) (paired_take hpx9 r7)) (.cons (TieV.putL hxs9 hT) (paired_mono (fun _ _ => TieV.putL hxs9) (paired_drop hpx9 r7)))
        · rw [List.length_append, List.length_cons, List.length_take, List.length_drop]
          omega
      · rintro σ H4 ⟨⟨v6', rfl⟩, _, ⟨ts, hts, hpt, hlen⟩, pen5, s5⟩
        exact ⟨⟨_, _, rfl⟩, by omega, ⟨ts, hts, hpt.next (Nat.le_refl _), by omega⟩, penlt pen5 (by omega), s5⟩
    · rintro σ H3 ⟨⟨v5, v6, rfl⟩, _, ⟨ts, hts, hpt, hlen⟩, pen4, s4⟩
      refine ⟨_, rfl, _, rfl, by show 2 ≤ sizeLine; decide, fun t ht => ?_⟩
      refine k t l (1 + r) ts _ (by omega) (by omega) nlH nl off upd_same (hts.mono (Same.new ht)) hpt.good (by omega) ((pen4.mono (Same.new ht) (by omega))) (s4.trans (Same.new ht).b)
end
section
variable {P : Program} {w : World} {K : PySem.W.Frag} {mg : Str → Option Value} {base : Heap} {tMOST_PLACES : Tok} {tFIGURES : Tok} {tMOST_FIGURES : Tok} {cNoWeb : Addr} {cNoText : Addr} {cWebError : Addr} {cNoFit : Addr} {cNoName : Addr} {cNoPlace : Addr} {cNoRow : Addr} {cNotClosed : Addr} {cNotOne : Addr} {cTooMany : Addr}
def natL (l : List Nat) : List V := l.map fun q : Nat => V.int (q : Int)
theorem natL_len (l : List Nat) : (natL l).length = l.length := by unfold natL; rw [List.length_map]
theorem natL_snoc (l : List Nat) (q : Nat) : natL l ++ [.int (q : Int)] = natL (l ++ [q]) := by unfold natL; rw [List.map_append]; rfl
theorem natL_get {l : List Nat} {i : Nat} {x : V} (h : (natL l)[i]? = some x) : ∃ q, l[i]? = some q ∧ x = .int (q : Int) := by
  unfold natL at h
  rw [List.getElem?_map] at h
  cases e : l[i]? with
  | none => rw [e] at h; cases h
  | some q => rw [e] at h; cases h; exact ⟨q, rfl, rfl⟩
theorem natL_ints (l : List Nat) : natL l = (l.map Int.ofNat).map V.int := by unfold natL; rw [List.map_map]; rfl
theorem WebAt.row {H : Hp} {a : Addr} {g : List (List Nat)} (h : WebAt H a g) : ∃ xs, H a = some (.tup xs) ∧ xs.length = g.length ∧ ∀ p, p < g.length → ∃ r, atI xs (p : Int) = some (.ref r) ∧ H r = some (.tup (natL (g.getD p []))) := by
  obtain ⟨xs, h1, h2⟩ := h
  refine ⟨xs, h1, h2.length, fun p hp => ?_⟩
  obtain ⟨v, ev, r, rfl, hr⟩ : ∃ v, xs[p]? = some v ∧ RowV H v (g.getD p []) := by
    have aux : ∀ {l : List V} {m : List (List Nat)}, Paired (RowV H) l m → ∀ (i : Nat), i < m.length → ∃ v, l[i]? = some v ∧ RowV H v (m.getD i []) := by
      intro l m hp
      induction hp with
      | nil => intro i hi; simp at hi
      | cons r t ih =>
        intro i hi
        cases i with
        | zero => exact ⟨_, rfl, r⟩
        | succ i =>
          simp at hi
          obtain ⟨v, q1, q2⟩ := ih i hi
          exact ⟨v, by simpa using q1, by simpa using q2⟩
    exact aux h2 p hp
  exact ⟨r, atI_nat ev, hr⟩
end
section
variable {P : Program} {w : World} {K : PySem.W.Frag} {mg : Str → Option Value} {base : Heap} {tMOST_PLACES : Tok} {tFIGURES : Tok} {tMOST_FIGURES : Tok} {cNoWeb : Addr} {cNoText : Addr} {cWebError : Addr} {cNoFit : Addr} {cNoName : Addr} {cNoPlace : Addr} {cNoRow : Addr} {cNotClosed : Addr} {cNotOne : Addr} {cTooMany : Addr}
theorem filter_take_succ {α : Type} {l : List α} {f : α → Bool} {j : Nat} {x : α} (h : l[j]? = some x) : (l.take (j + 1)).filter f = (l.take j).filter f ++ (if f x = true then [x] else []) := by
  rw [List.take_add_one, h, List.filter_append]
  congr 1
  cases e : f x <;> simp [e]
def spTiesG : Sp := fun vs H Q _ => ∃ (wa : Addr) (g : List (List Nat)), vs = [.ref wa] ∧ WebAt H wa g ∧ g.length ≤ 24 ∧ (∀ p, (g.getD p []).length ≤ 24) ∧
  ∀ l H', TiesAt H' l (tiesG g g.length) → H l = none → Same H H' → Q (.ref l) H'
theorem Cties_of (T : Txt K mg tMOST_PLACES tFIGURES tMOST_FIGURES cNoWeb cNoText cWebError cNoFit cNoName cNoPlace cNoRow cNotClosed cNotOne cTooMany) : Callee P w K mg base 1 "ties_of" ["web"] spTiesG := by
  refine mkCallee T.dties_of scties_of (fun _ _ _ _ _ _ us hl => match us, hl with | [_], _ => rfl) (fun vs H Q E h => ?_) (fun f cdv A outer s H vs Q E hr h => ?_)
  · obtain ⟨wa, g, rfl, _⟩ := h; rfl
  · obtain ⟨wa, g, rfl, hw, h24, hrows, k⟩ := h
    obtain ⟨ws, hws, hwl, hrow⟩ := hw.row
    refine ⟨_, (pss_cons (ps_set (i := 1) scties_of.nd rfl (by first | exact Or.inl rfl | exact Or.inr rfl) (pe_lst pa_nil)) (pss_cons (ps_for PassesOwn.never rfl (pi_enumT (K := K) rfl rfl T.z_enumerate (pa_cons (pv 0) pa_nil sE_Name)) (pgt (K := K) (n := 2) rfl rfl (pgs_cons (pg_name (i := 2) scties_of.nd rfl (by first | exact Or.inl rfl | exact Or.inr rfl)) (pgs_cons (pg_name (i := 3) scties_of.nd rfl (by first | exact Or.inl rfl | exact Or.inr rfl)) pgs_nil))) (pss_one (ps_expr (bm (K := K) rfl PySem.F.plainAttrs_list PySem.F.slot_list_extend PySem.F.type_list_extend mt_extend (pv 1) (pa_cons (pe_lc (NB := ["other", "place"]) (nt := 1) (fr := [2]) rfl (by kernel_rfl) (pit (K := K) rfl (pv 3)) (fun _ _ _ _ _ => (pg_name (i := 0) (show List.Nodup (["other", "place"] : List Str) by decide +kernel) rfl (by first | exact Or.inl rfl | exact Or.inr rfl))) (fun _ _ _ _ _ => (pts_one (pt_cmpR op_lt (pv 1) (pv 0) (nomark _)))) (fun _ _ _ _ _ => (pe_tup (pa_cons (pv 1) (pa_cons (pv 0) pa_nil sE_Name) sE_Name)))) pa_nil))))) (pss_one (ps_ret (pv 1))))), ?_⟩
    refine ⟨by show 0 ≤ sizeLine; decide, fun f0 hf0 => ?_⟩
    have s0 := Same.new (o := .lst []) hf0
    refine ⟨_, rfl, wa, rfl, ⟨_, SqT.of (s0 _ _ hws)⟩, for_enumT (xs := ws) (fun i σ H' => (∃ v2 v3, σ = [some (.ref wa), some (.ref f0), v2, v3]) ∧ i ≤ g.length ∧ TiesAt H' f0 (tiesG g i) ∧ (tiesG g i).length ≤ 24 * i ∧ Same H H')
      ⟨⟨_, _, rfl⟩, Nat.zero_le _, ⟨[], upd_same, .nil⟩, Nat.le_refl _, s0⟩ (fun i σ H' _ q => SqT.of (q.2.2.2.2 _ _ hws)) ?_ ?_⟩
    · rintro i x t σ H1 hi ⟨⟨v2, v3, rfl⟩, _, ⟨xs, hf, hp⟩, hlen, s1⟩ ht
      have hi' : i < g.length := by
        have := (List.getElem?_eq_some_iff.mp hi).1
        omega
      obtain ⟨r, er, hr1⟩ := hrow i hi'
      have ex : x = .ref r := by
        have := atI_nat hi
        rw [er] at this
        exact (Option.some.inj this).symm
      subst ex
      have st := Same.new (o := .tup [.int (i : Int), .ref r]) ht
      have s2 := s1.trans st
      refine ⟨t, _, rfl, SqT.of upd_same, rfl, _, _, rfl, _, _, rfl, rfl, ?_⟩
      have hf2 := st _ _ hf
      have hp2 := paired_mono (fun _ _ => TieV.mono st) hp
      have hr2 := s2 _ _ hr1
      generalize upd H1 t (.tup [.int (i : Int), .ref r]) = H2 at *
      have hrl := hrows i
      refine ⟨_, rfl, .inl ⟨rfl, _, SqL.of hf2⟩, _, rfl, r, rfl, ⟨_, SqT.of hr2⟩, lc_tup (xs := natL (g.getD i [])) (fun j σ' ys H' => (∃ v, σ' = [v, some (.int (i : Int))]) ∧ Paired (TieV H') ys ((((g.getD i []).take j).filter fun q => decide (i < q)).map fun q => (i, q)) ∧ Same H2 H')
        ⟨⟨_, rfl⟩, .nil, Same.refl _⟩ (fun j σ' ys H' _ q => SqT.of (q.2.2 _ _ hr2)) (fun j σ' ys H' q => ?_) ?_ ?_⟩
      · rw [q.2.1.length, List.length_map]
        refine small1000 (Nat.le_trans (List.length_filter_le _ _) ?_)
        rw [List.length_take]
        omega
      · rintro j x σ' ys H3 hj ⟨⟨v, rfl⟩, hp3, s3⟩
        obtain ⟨q, eq, rfl⟩ := natL_get hj
        rw [filter_take_succ eq, List.map_append]
        refine ⟨_, rfl, _, rfl, _, _, rfl, rfl, _, rfl, ?_⟩
        by_cases z : i < q
        · refine iteDT (by omega) ⟨_, rfl, _, rfl, by show 2 ≤ sizeLine; decide, fun u hu => ⟨⟨_, rfl⟩, ?_, s3.updr hu⟩⟩
          rw [decide_eq_true z]
          exact paired_append (paired_mono (fun _ _ => TieV.mono (Same.new hu)) hp3) (.cons ⟨u, rfl, upd_same⟩ .nil)
        · refine iteDF (by omega) ⟨⟨_, rfl⟩, ?_, s3⟩
          rw [decide_eq_false z]
          simpa using hp3
      · rintro σ' ys H3 ⟨_, hp3, s3⟩ D hD
        have e1 : (g.getD i []).take (natL (g.getD i [])).length = g.getD i [] := by rw [natL_len, List.take_length]
        rw [e1] at hp3
        have sD := Same.new (o := .lst ys) hD
        have hfD := sD _ _ (s3 _ _ hf2)
        have l1 := hp.length
        have l2 : ys.length ≤ 24 := by
          rw [hp3.length, List.length_map]
          exact Nat.le_trans (List.length_filter_le _ _) (by omega)
        refine ⟨f0, D, xs, ys, rfl, rfl, hfD, upd_same, Nat.le_of_lt (small1000 (by omega)), ⟨_, _, rfl⟩, hi', ⟨xs ++ ys, upd_same, ?_⟩, ?_, (s2.trans (s3.trans sD)).of_upd hf0⟩
        · rw [tiesG_succ]
          exact paired_append (paired_mono (fun _ _ h => TieV.putL hfD (TieV.mono (s3.trans sD) h)) hp2) (paired_mono (fun _ _ h => TieV.putL hfD (TieV.mono sD h)) hp3)
        · rw [tiesG_succ, List.length_append]
          have : (rowG g i).length ≤ 24 := by rw [show rowG g i = ((g.getD i []).filter fun q => decide (i < q)).map fun q => (i, q) from rfl, ← hp3.length]; exact l2
          omega
    · rintro σ H1 ⟨⟨v2, v3, rfl⟩, _, hti, _, s1⟩
      rw [hwl] at hti
      exact ⟨_, rfl, k f0 H1 hti hf0 s1⟩
theorem eqV_nat (a b : Nat) : eqV (.int (a : Int)) (.int (b : Int)) = decide (a = b) := by
  show (((a : Nat) : Int) == (b : Int)) = _
  rw [Bool.eq_iff_iff, beq_iff_eq, decide_eq_true_eq]
  omega
def tieE (t u : Nat × Nat) : Nat → Bool
  | 0 => decide (t.1 = u.1)
  | _ => decide (t.2 = u.2)
theorem tieE_eq (t u : Nat × Nat) : ((List.range (min 2 2)).all (tieE t u) && 2 == 2) = decide (t = u) := by
  show ((tieE t u 0 && (tieE t u 1 && true)) && true) = _
  obtain ⟨a, b⟩ := t
  obtain ⟨c, d⟩ := u
  rw [Bool.eq_iff_iff]
  simp [tieE, Prod.mk.injEq]
theorem tieE_at {H : Hp} {n : Nat} {t u : Nat × Nat} (j : Nat) (x y : V) (hx : [V.int (t.1 : Int), .int (t.2 : Int)][j]? = some x) (hy : [V.int (u.1 : Int), .int (u.2 : Int)][j]? = some y) : EqQ K H n x y (tieE t u j) := by
  match j, hx, hy with
  | 0, hx, hy =>
    simp at hx hy
    subst hx hy
    have := EqQ.flat (K := K) (H := H) (n := n) (x := .int (t.1 : Int)) (y := .int (u.1 : Int)) rfl rfl
    rw [eqV_nat] at this
    exact this
  | 1, hx, hy =>
    simp at hx hy
    subst hx hy
    have := EqQ.flat (K := K) (H := H) (n := n) (x := .int (t.2 : Int)) (y := .int (u.2 : Int)) rfl rfl
    rw [eqV_nat] at this
    exact this
  | j + 2, hx, hy => simp at hx
theorem eqQ_tie {H : Hp} {v x : V} {t : Nat × Nat} (h1 : TieV H v t) (h2 : TieV H x t) : EqQ K H 1 v x true := by
  obtain ⟨a, rfl, ha⟩ := h1
  obtain ⟨b, rfl, hb⟩ := h2
  by_cases e : a = b
  · subst e; exact .same
  · have := EqQ.tups (K := K) (H := H) (n := 0) (e := tieE t t) e (SqT.of ha) (SqT.of hb) tieE_at
    have q : ((List.range (min 2 2)).all (tieE t t) && 2 == 2) = true := by rw [tieE_eq]; simp
    rw [← q]
    exact this
theorem all_true (n : Nat) : (List.range n).all (fun _ => true) = true := by simp
theorem topQ_ties {H : Hp} {a b : Addr} {ts : List (Nat × Nat)} (h1 : TiesAt H a ts) (h2 : TiesAt H b ts) : TopQ K H (.ref a) (.ref b) true := by
  obtain ⟨xs, ha, pa⟩ := h1
  obtain ⟨ys, hb, pb⟩ := h2
  have := TopQ.lsts (K := K) (H := H) (n := 1) (e := fun _ => true) (by decide) (SqL.of ha) (SqL.of hb) (by rw [pa.length, pb.length]) fun j x y hx hy => by
    obtain ⟨t, et, ht⟩ := paired_at pa j x hx
    obtain ⟨u, eu, hu⟩ := paired_at pb j y hy
    rw [et] at eu
    cases eu
    exact eqQ_tie ht hu
  rw [all_true] at this
  exact this
end
section
theorem tied_of {ts : List (Nat × Nat)} {p q : Nat} (h : (p, q) ∈ ts ∨ (q, p) ∈ ts) : tied ts p q = true := tied_iff.mpr h
end
section
def normT (t : Nat × Nat) : Nat × Nat := (min t.1 t.2, max t.1 t.2)
theorem asc_ext {α : Type} (c : α → Int) : ∀ {l m : List α}, l.Pairwise (fun a b => c a < c b) → m.Pairwise (fun a b => c a < c b) → (∀ x, x ∈ l ↔ x ∈ m) → l = m
  | [], [], _, _, _ => rfl
  | [], y :: m, _, _, h => by have := (h y).mpr List.mem_cons_self; cases this
  | x :: l, [], _, _, h => by have := (h x).mp List.mem_cons_self; cases this
  | x :: l, y :: m, h1, h2, h => by
    rw [List.pairwise_cons] at h1 h2
    have e : x = y := by
      rcases List.mem_cons.mp ((h x).mp List.mem_cons_self) with e | hx
      · exact e
      · rcases List.mem_cons.mp ((h y).mpr List.mem_cons_self) with e | hy
        · exact e.symm
        · have := h1.1 y hy
          have := h2.1 x hx
          omega
    subst e
    rw [asc_ext c h1.2 h2.2 fun z => ⟨fun hz => ?_, fun hz => ?_⟩]
    · rcases List.mem_cons.mp ((h z).mp (List.mem_cons_of_mem _ hz)) with rfl | q
      · exact absurd (h1.1 z hz) (Int.lt_irrefl _)
      · exact q
    · rcases List.mem_cons.mp ((h z).mpr (List.mem_cons_of_mem _ hz)) with rfl | q
      · exact absurd (h2.1 z hz) (Int.lt_irrefl _)
      · exact q
def codeP (t : Nat × Nat) : Int := (t.1 : Int) * 100 + (t.2 : Int)
theorem rowG_asc {n : Nat} {ts : List (Nat × Nat)} (p : Nat) : (rowG (webL n ts) p).Pairwise (fun a b => codeP a < codeP b) := by
  unfold rowG
  rw [List.pairwise_map]
  refine (webL_rising n ts p).filter _ |>.imp fun {a b} h => ?_
  unfold codeP
  show (p : Int) * 100 + (a : Int) < (p : Int) * 100 + (b : Int)
  omega
theorem tiesG_asc {n : Nat} {ts : List (Nat × Nat)} (h24 : n ≤ 24) : ∀ k, k ≤ n → (tiesG (webL n ts) k).Pairwise (fun a b => codeP a < codeP b)
  | 0, _ => by unfold tiesG; simp
  | k + 1, hk => by
    rw [tiesG_succ, List.pairwise_append]
    refine ⟨tiesG_asc h24 k (by omega), rowG_asc k, fun a ha b hb => ?_⟩
    obtain ⟨a1, a2, a3⟩ := mem_tiesG.mp ha
    have hb2 : b ∈ tiesG (webL n ts) (k + 1) := by rw [tiesG_succ]; exact List.mem_append_right _ hb
    obtain ⟨b1, b2, b3⟩ := mem_tiesG.mp hb2
    have ek : b.1 = k := by
      unfold rowG at hb
      obtain ⟨q, _, e⟩ := List.mem_map.mp hb
      rw [← e]
    have := (webL_mem.mp a2).2.1
    unfold codeP
    omega
theorem norm_mem {n : Nat} {ts : List (Nat × Nat)} (hok : okSeq n ts) (t : Nat × Nat) : t ∈ tiesG (webL n ts) n ↔ t ∈ ts.map normT := by
  rw [mem_tiesG, List.mem_map]
  constructor
  · rintro ⟨h1, h2, h3⟩
    obtain ⟨_, _, h4⟩ := webL_mem.mp h2
    rcases h4 with h4 | h4
    · exact ⟨_, h4, by unfold normT; show (min t.1 t.2, max t.1 t.2) = t; rw [show min t.1 t.2 = t.1 by omega, show max t.1 t.2 = t.2 by omega]⟩
    · exact ⟨_, h4, by unfold normT; show (min t.2 t.1, max t.2 t.1) = t; rw [show min t.2 t.1 = t.1 by omega, show max t.2 t.1 = t.2 by omega]⟩
  · rintro ⟨⟨a, b⟩, hm, rfl⟩
    obtain ⟨i, hi, e⟩ := List.getElem_of_mem hm
    obtain ⟨h1, h2, h3, _⟩ := hok i (a, b) (by rw [List.getElem?_eq_getElem hi, e])
    dsimp only at h1 h2 h3
    refine ⟨?_, webL_mem.mpr ⟨?_, ?_, ?_⟩, ?_⟩
    all_goals (show _; unfold normT; dsimp only)
    · omega
    · omega
    · omega
    · by_cases z : a < b
      · rw [show min a b = a by omega, show max a b = b by omega]; exact .inl hm
      · rw [show min a b = b by omega, show max a b = a by omega]; exact .inr hm
    · omega
theorem norm_ne {n : Nat} {ts : List (Nat × Nat)} (hok : okSeq n ts) {i j : Nat} (hij : i < j) (hj : j < ts.length) : normT (ts.getD i (0, 0)) ≠ normT (ts.getD j (0, 0)) := by
  intro e
  have hi : i < ts.length := by omega
  have g1 : ts.getD i (0, 0) = ts[i] := by rw [List.getD_eq_getElem?_getD, List.getElem?_eq_getElem hi]; rfl
  have g2 : ts.getD j (0, 0) = ts[j] := by rw [List.getD_eq_getElem?_getD, List.getElem?_eq_getElem hj]; rfl
  rw [g1, g2] at e
  have hj4 := (hok j ts[j] (List.getElem?_eq_getElem hj)).2.2.2
  have hin : ts[i] ∈ ts.take j := List.mem_of_getElem? (i := i) (by rw [List.getElem?_take_of_lt hij, List.getElem?_eq_getElem hi])
  have e1 := congrArg Prod.fst e
  have e2 := congrArg Prod.snd e
  unfold normT at e1 e2
  dsimp only at e1 e2
  have t1 : tied (ts.take j) ts[j].1 ts[j].2 = true := by
    refine tied_of ?_
    have : (ts[i].1 = ts[j].1 ∧ ts[i].2 = ts[j].2) ∨ (ts[i].1 = ts[j].2 ∧ ts[i].2 = ts[j].1) := by omega
    rcases this with ⟨x, y⟩ | ⟨x, y⟩
    · exact .inl (by rw [← x, ← y]; exact hin)
    · exact .inr (by rw [← x, ← y]; exact hin)
  rw [t1] at hj4
  cases hj4
theorem few_ties {n : Nat} {ts : List (Nat × Nat)} (hok : okSeq n ts) (hn : n ≤ 9) : ts.length ≤ 36 := by
  have inj : ∀ b : Fin 9, ∀ d : Fin 9, ∀ a : Fin 9, ∀ c : Fin 9, a.1 < b.1 → c.1 < d.1 → b.1 * (b.1 - 1) / 2 + a.1 = d.1 * (d.1 - 1) / 2 + c.1 → a.1 = c.1 ∧ b.1 = d.1 := by decide +kernel
  have low : ∀ b : Fin 9, ∀ a : Fin 9, a.1 < b.1 → b.1 * (b.1 - 1) / 2 + a.1 < 36 := by decide +kernel
  have hv : ∀ i, i < ts.length → (normT (ts.getD i (0, 0))).1 < (normT (ts.getD i (0, 0))).2 ∧ (normT (ts.getD i (0, 0))).2 < 9 := fun i hi => by
    obtain ⟨h1, h2, h3, _⟩ := hok i ts[i] (List.getElem?_eq_getElem hi)
    rw [List.getD_eq_getElem?_getD, List.getElem?_eq_getElem hi, Option.getD_some]
    unfold normT
    dsimp only
    omega
  have := nodup_lt_len 36 ((List.range ts.length).map fun i => (normT (ts.getD i (0, 0))).2 * ((normT (ts.getD i (0, 0))).2 - 1) / 2 + (normT (ts.getD i (0, 0))).1) ?_ ?_
  · rw [List.length_map, List.length_range] at this; exact this
  · rw [List.nodup_iff_pairwise_ne, List.pairwise_map, List.pairwise_iff_getElem]
    intro i j hi hj hij e
    rw [List.length_range] at hi hj
    rw [List.getElem_range, List.getElem_range] at e
    obtain ⟨a1, a2⟩ := hv i hi
    obtain ⟨b1, b2⟩ := hv j hj
    have q := inj ⟨_, a2⟩ ⟨_, b2⟩ ⟨_, Nat.lt_trans a1 a2⟩ ⟨_, Nat.lt_trans b1 b2⟩ a1 b1 e
    exact norm_ne hok hij hj (Prod.ext q.1 q.2)
  · intro x hx
    obtain ⟨i, hi, rfl⟩ := List.mem_map.mp hx
    obtain ⟨a1, a2⟩ := hv i (List.mem_range.mp hi)
    exact low ⟨_, a2⟩ ⟨_, Nat.lt_trans a1 a2⟩ a1
theorem sorted_is {n : Nat} {ts : List (Nat × Nat)} {ps : List Nat} (h24 : n ≤ 24) (hok : okSeq n ts) (hp : ps.Perm (List.range ts.length)) (hs : ps.Pairwise fun i j => codeT (fun i => ((normT (ts.getD i (0, 0))).1 : Int)) (fun i => ((normT (ts.getD i (0, 0))).2 : Int)) 100 i ≤ codeT (fun i => ((normT (ts.getD i (0, 0))).1 : Int)) (fun i => ((normT (ts.getD i (0, 0))).2 : Int)) 100 j) :
    ps.map (fun i => normT (ts.getD i (0, 0))) = tiesG (webL n ts) n := by
  have nd : ps.Nodup := hp.nodup_iff.mpr List.nodup_range
  have lt : ∀ i ∈ ps, i < ts.length := fun i hi => List.mem_range.mp (hp.mem_iff.mp hi)
  refine asc_ext codeP ?_ (tiesG_asc h24 n (Nat.le_refl _)) fun t => ?_
  · rw [List.pairwise_map]
    rw [List.nodup_iff_pairwise_ne] at nd
    have both := hs.and nd
    refine List.Pairwise.imp_of_mem ?_ both
    intro i j hi hj ⟨h1, h2⟩
    have b2 : ∀ k, k < ts.length → (normT (ts.getD k (0, 0))).1 < 24 ∧ (normT (ts.getD k (0, 0))).2 < 24 := fun k hk => by
      obtain ⟨q1, q2, _⟩ := hok k ts[k] (List.getElem?_eq_getElem hk)
      rw [List.getD_eq_getElem?_getD, List.getElem?_eq_getElem hk, Option.getD_some]
      unfold normT
      dsimp only
      omega
    have bi := b2 i (lt i hi)
    have bj := b2 j (lt j hj)
    have ne : normT (ts.getD i (0, 0)) ≠ normT (ts.getD j (0, 0)) := by
      rcases Nat.lt_or_gt_of_ne h2 with z | z
      · exact norm_ne hok z (lt j hj)
      · exact Ne.symm (norm_ne hok z (lt i hi))
    unfold codeT at h1
    dsimp only at h1
    unfold codeP
    have : ¬ ((normT (ts.getD i (0, 0))).1 = (normT (ts.getD j (0, 0))).1 ∧ (normT (ts.getD i (0, 0))).2 = (normT (ts.getD j (0, 0))).2) := fun z => ne (Prod.ext z.1 z.2)
    omega
  · rw [norm_mem hok]
    simp only [List.mem_map]
    constructor
    · rintro ⟨i, hi, rfl⟩
      refine ⟨ts.getD i (0, 0), ?_, rfl⟩
      rw [List.getD_eq_getElem?_getD, List.getElem?_eq_getElem (lt i hi)]
      exact List.getElem_mem _
    · rintro ⟨t, ht, rfl⟩
      obtain ⟨i, hi, rfl⟩ := List.getElem_of_mem ht
      refine ⟨i, hp.mem_iff.mpr (List.mem_range.mpr hi), ?_⟩
      rw [List.getD_eq_getElem?_getD, List.getElem?_eq_getElem hi]
      rfl
end
section
variable {P : Program} {w : World} {K : PySem.W.Frag} {mg : Str → Option Value} {base : Heap} {tMOST_PLACES : Tok} {tFIGURES : Tok} {tMOST_FIGURES : Tok} {cNoWeb : Addr} {cNoText : Addr} {cWebError : Addr} {cNoFit : Addr} {cNoName : Addr} {cNoPlace : Addr} {cNoRow : Addr} {cNotClosed : Addr} {cNotOne : Addr} {cTooMany : Addr}
structure TabG (H : Hp) (l : Addr) (rs : List Addr) (n : Nat) (c : Nat → List V) : Prop where
  ls : H l = some (.lst (rs.map V.ref))
  len : rs.length = n
  nd : rs.Nodup
  out : l ∉ rs
  row : ∀ (p : Nat) (r : Addr), rs[p]? = some r → H r = some (.lst (c p))
theorem TabG.mono {H H' : Hp} {l : Addr} {rs : List Addr} {n : Nat} {c : Nat → List V} (h : TabG H l rs n c) (s : Same H H') : TabG H' l rs n c := ⟨s _ _ h.ls, h.len, h.nd, h.out, fun p r e => s _ _ (h.row p r e)⟩
theorem TabG.monoB {H H' : Hp} {p l : Addr} {rs : List Addr} {n : Nat} {c : Nat → List V} (h : TabG H l rs n c) (s : SameB p H H') (hl : l ≠ p) (hr : ∀ r ∈ rs, r ≠ p) : TabG H' l rs n c :=
  ⟨s _ _ h.ls hl, h.len, h.nd, h.out, fun q r e => s _ _ (h.row q r e) (hr r (List.mem_of_getElem? e))⟩
theorem TabG.congr {H : Hp} {l : Addr} {rs : List Addr} {n : Nat} {c d : Nat → List V} (h : TabG H l rs n c) (e : ∀ p, p < n → c p = d p) : TabG H l rs n d := ⟨h.ls, h.len, h.nd, h.out, fun p r q => by rw [← e p (by rw [← h.len]; exact (List.getElem?_eq_some_iff.mp q).1)]; exact h.row p r q⟩
theorem TabG.at {H : Hp} {l : Addr} {rs : List Addr} {n : Nat} {c : Nat → List V} (h : TabG H l rs n c) {a : Nat} (ha : a < n) : ∃ r, rs[a]? = some r ∧ atI (rs.map V.ref) (a : Int) = some (.ref r) ∧ H r = some (.lst (c a)) := by
  have e : rs[a]? = some (rs[a]'(by rw [h.len]; exact ha)) := List.getElem?_eq_getElem _
  exact ⟨_, e, atI_nat (by rw [List.getElem?_map, e]; rfl), h.row a _ e⟩
theorem TabG.put {H : Hp} {l : Addr} {rs : List Addr} {n : Nat} {c : Nat → List V} (h : TabG H l rs n c) {a : Nat} {r : Addr} (er : rs[a]? = some r) (xs : List V) : TabG (upd H r (.lst xs)) l rs n (fun p => if p = a then xs else c p) := by
  refine ⟨?_, h.len, h.nd, h.out, fun p r' e' => ?_⟩
  · rw [upd_ne (fun z : l = r => h.out (by rw [z]; exact List.mem_of_getElem? er))]; exact h.ls
  · by_cases hp : p = a
    · subst hp
      rw [er] at e'
      cases e'
      rw [upd_same, if_pos rfl]
    · have ne : r' ≠ r := by
        rintro rfl
        obtain ⟨h1, e1⟩ := List.getElem?_eq_some_iff.mp er
        obtain ⟨h2, e2⟩ := List.getElem?_eq_some_iff.mp e'
        exact hp ((List.getElem_inj h.nd).mp (e2.trans e1.symm))
      rw [upd_ne ne, if_neg hp]
      exact h.row p r' e'
theorem TabG.off {H : Hp} {l z : Addr} {rs : List Addr} {n : Nat} {c : Nat → List V} {o : HO} (h : TabG H l rs n c) (hl : z ≠ l) (hr : z ∉ rs) : TabG (upd H z o) l rs n c :=
  ⟨by rw [upd_ne hl.symm]; exact h.ls, h.len, h.nd, h.out, fun p r e => by rw [upd_ne (fun q : r = z => hr (by rw [← q]; exact List.mem_of_getElem? e))]; exact h.row p r e⟩
theorem nodup_new {H' : Hp} {rs : List Addr} {l : Addr} {c : Nat → List V} (nd : rs.Nodup) (row : ∀ (p : Nat) (r : Addr), rs[p]? = some r → H' r = some (.lst (c p))) (nl : H' l = none) : (rs ++ [l]).Nodup := by
  rw [List.nodup_append]
  refine ⟨nd, by simp, fun a ha b hb => ?_⟩
  have : b = l := by simpa using hb
  subst this
  rintro rfl
  obtain ⟨j, hj, e⟩ := List.getElem_of_mem ha
  have q := row j a (by rw [List.getElem?_eq_getElem hj, e])
  rw [nl] at q
  cases q
theorem row_new {H' H2 : Hp} {rs : List Addr} {l : Addr} {c : Nat → List V} (s : Same H' H2) (row : ∀ (p : Nat) (r : Addr), rs[p]? = some r → H' r = some (.lst (c p))) (hl : H2 l = some (.lst (c rs.length))) : ∀ (p : Nat) (r : Addr), (rs ++ [l])[p]? = some r → H2 r = some (.lst (c p)) := by
  intro p r e
  by_cases hlt : p < rs.length
  · rw [List.getElem?_append_left hlt] at e
    exact s _ _ (row p r e)
  · have ep : p = rs.length := by
      have := (List.getElem?_eq_some_iff.mp e).1
      simp at this
      omega
    subst ep
    simp at e
    subst e
    exact hl
theorem out_new {H' : Hp} {rs : List Addr} {D : Addr} {c : Nat → List V} (row : ∀ (p : Nat) (r : Addr), rs[p]? = some r → H' r = some (.lst (c p))) (nD : H' D = none) : D ∉ rs := by
  intro z
  obtain ⟨j, hj, e⟩ := List.getElem_of_mem z
  have q := row j D (by rw [List.getElem?_eq_getElem hj, e])
  rw [nD] at q
  cases q
def spNear : Sp := fun vs H Q _ => ∃ (n : Nat) (l : Addr) (ts : List (Nat × Nat)), vs = [.int (n : Int), .ref l] ∧ n ≤ 24 ∧ TiesAt H l ts ∧ Good n ts ∧
  ∀ l2 rs2 H', H l2 = none → (∀ r ∈ rs2, H r = none) → TabG H' l2 rs2 n (fun p => natL (nbr n ts p)) → Same H H' → Q (.ref l2) H'
theorem C_law_near (T : Txt K mg tMOST_PLACES tFIGURES tMOST_FIGURES cNoWeb cNoText cWebError cNoFit cNoName cNoPlace cNoRow cNotClosed cNotOne cTooMany) : Callee P w K mg base 1 "_law_near" ["_law_many", "_law_ties"] spNear := by
  refine mkCallee T.d_law_near sc_law_near (fun _ _ _ _ _ _ us hl => match us, hl with | [_, _], _ => rfl) (fun vs H Q E h => ?_) (fun f cdv A outer s H vs Q E hr h => ?_)
  · obtain ⟨n, l, ts, rfl, _⟩ := h; rfl
  · obtain ⟨n, l, ts, rfl, h24, ⟨xs, hl, hp⟩, good, k⟩ := h
    refine ⟨_, (pss_cons (ps_setLC (NB := ["_law_place"]) (nt := 1) (fr := []) rfl (by kernel_rfl) (i := 2) sc_law_near.nd rfl rfl (pi_range1 rfl T.z_range (pa_cons (pv 0) pa_nil sE_Name)) (fun _ _ _ _ _ => (pg_name (i := 0) (show List.Nodup (["_law_place"] : List Str) by decide +kernel) rfl (by first | exact Or.inl rfl | exact Or.inr rfl))) (fun _ _ _ _ _ => pts_nil) (fun _ _ _ _ _ => (pe_lst pa_nil))) (pss_cons (ps_for PassesOwn.never rfl (pil (K := K) rfl (pv 1)) (pgt (K := K) (n := 2) rfl rfl (pgs_cons (pg_name (i := 3) sc_law_near.nd rfl (by first | exact Or.inl rfl | exact Or.inr rfl)) (pgs_cons (pg_name (i := 4) sc_law_near.nd rfl (by first | exact Or.inl rfl | exact Or.inr rfl)) pgs_nil))) (pss_cons (ps_expr (bm (K := K) rfl PySem.F.plainAttrs_list PySem.F.slot_list_append PySem.F.type_list_append mt_append (pe_ix (ixl (K := K) rfl) (pv 2) (pv 3) (fun _ _ => rfl)) (pa_cons (pv 4) pa_nil sE_Name))) (pss_one (ps_expr (bm (K := K) rfl PySem.F.plainAttrs_list PySem.F.slot_list_append PySem.F.type_list_append mt_append (pe_ix (ixl (K := K) rfl) (pv 2) (pv 4) (fun _ _ => rfl)) (pa_cons (pv 3) pa_nil sE_Name)))))) (pss_one (ps_ret (pe_lc (NB := ["_law_some"]) (nt := 1) (fr := []) rfl (by kernel_rfl) (pil (K := K) rfl (pv 2)) (fun _ _ _ _ _ => (pg_name (i := 0) (show List.Nodup (["_law_some"] : List Str) by decide +kernel) rfl (by first | exact Or.inl rfl | exact Or.inr rfl))) (fun _ _ _ _ _ => pts_nil) (fun _ _ _ _ _ => (pe_callB (sortq (K := K) rfl) rfl T.z_sorted bt_sorted (pa_cons (pv 0) pa_nil sE_Name)))))))), ?_⟩
    refine ⟨_, rfl, (n : Int), rfl, by omega, by omega, lc_range0 (Pv := fun i σ' ys H' => (∃ v, σ' = [v]) ∧ i ≤ n ∧ ∃ rs : List Addr, ys = rs.map V.ref ∧ rs.length = i ∧ rs.Nodup ∧ (∀ r ∈ rs, H r = none) ∧ (∀ (p : Nat) (r : Addr), rs[p]? = some r → H' r = some (.lst (natL []))) ∧ Same H H')
      ⟨⟨_, rfl⟩, Nat.zero_le _, [], rfl, rfl, List.nodup_nil, fun r hr => absurd hr (by simp), fun p r e => by simp at e, Same.refl H⟩ (fun i σ' ys H' p => ?_) ?_ ?_⟩
    · obtain ⟨_, hi, rs, rfl, e, _⟩ := p
      rw [List.length_map, e]
      exact small1000 (by omega)
    · rintro i σ' ys H1 hi ⟨⟨v, rfl⟩, _, rs, rfl, hlen, hnd, hnone, hrow, hs⟩
      refine lcN ⟨by show 0 ≤ sizeLine; decide, fun r hr => ⟨⟨_, rfl⟩, by omega, rs ++ [r], by simp, by simp [hlen], nodup_new (c := fun _ => natL []) hnd hrow hr, ?_, row_new (c := fun _ => natL []) (Same.new hr) hrow upd_same, hs.updr hr⟩⟩
      intro z hz
      rcases List.mem_append.mp hz with q | q
      · exact hnone z q
      · have : z = r := by simpa using q
        subst this
        exact hs.free hr
    · rintro σ' ys H1 ⟨_, _, rs, rfl, hlen, hnd, hnone, hrow, hs⟩ D hD
      have nD : H D = none := hs.free hD
      have out := out_new (c := fun _ => natL []) hrow hD
      have tab0 : TabG (upd H1 D (.lst (rs.map V.ref))) D rs n (fun p => natL (nb [] p)) := ⟨upd_same, hlen, hnd, out, fun p r e => (Same.new hD) _ _ (hrow p r e)⟩
      refine ⟨_, rfl, l, rfl, ⟨_, SqL.of ((hs.updr hD) _ _ hl)⟩, for_list (xs := xs) (fun i σ H' => (∃ v3 v4, σ = [some (.int (n : Int)), some (.ref l), some (.ref D), v3, v4]) ∧ TabG H' D rs n (fun p => natL (nb (ts.take i) p)) ∧ Same H H')
        ⟨⟨_, _, rfl⟩, tab0, hs.updr hD⟩ (fun i σ H' _ q => SqL.of (q.2.2 _ _ hl)) ?_ ?_⟩
      · rintro i x σ H2 hi ⟨⟨v3, v4, rfl⟩, tab, s2⟩
        obtain ⟨⟨a, b⟩, et, r, rfl, hr0⟩ := paired_at hp i x hi
        obtain ⟨ha, hb, hne⟩ := good.inn _ (List.mem_of_getElem? et)
        dsimp only at ha hb hne hr0
        refine ⟨r, _, rfl, SqT.of (s2 _ _ hr0), rfl, _, _, rfl, _, _, rfl, rfl, ?_⟩
        obtain ⟨ra, ia, ea, ra1⟩ := tab.at ha
        have la := nb_len (good.take i) a
        have nra : H ra = none := hnone ra (List.mem_of_getElem? ia)
        refine ⟨_, rfl, _, rfl, D, _, _, _, rfl, rfl, SqL.of tab.ls, ea, .inl ⟨rfl, _, SqL.of ra1⟩, _, rfl, ra, _, _, rfl, rfl, ra1, by rw [natL_len]; exact small1000 (by omega), ?_⟩
        have tab1 := tab.put ia (natL (nb (ts.take i) a) ++ [.int (b : Int)])
        obtain ⟨rb, ib, eb, rb1⟩ := tab1.at hb
        rw [if_neg (fun z => hne z.symm)] at rb1
        have lb := nb_len (good.take i) b
        have nrb : H rb = none := hnone rb (List.mem_of_getElem? ib)
        refine ⟨_, rfl, _, rfl, D, _, _, _, rfl, rfl, SqL.of tab1.ls, eb, .inl ⟨rfl, _, SqL.of rb1⟩, _, rfl, rb, _, _, rfl, rfl, rb1, by rw [natL_len]; exact small1000 (by omega), ?_⟩
        have tab2 := tab1.put ib (natL (nb (ts.take i) b) ++ [.int (a : Int)])
        refine ⟨⟨_, _, rfl⟩, tab2.congr fun p hp => ?_, (s2.of_upd nra).of_upd nrb⟩
        have ek : ts.take (i + 1) = ts.take i ++ [(a, b)] := by rw [List.take_add_one, et]; rfl
        rw [ek, nb_snoc]
        by_cases h1 : p = b
        · subst h1
          rw [show nb1 p (a, p) = [a] by simp [nb1, hne], ← natL_snoc]
          exact if_pos rfl
        · by_cases h2 : p = a
          · subst h2
            rw [show nb1 p (p, b) = [b] by simp [nb1, Ne.symm hne], ← natL_snoc]
            exact (if_neg h1).trans (if_pos rfl)
          · rw [show nb1 p (a, b) = [] by simp [nb1, Ne.symm h1, Ne.symm h2], List.append_nil]
            exact (if_neg h1).trans (if_neg h2)
      · rintro σ H2 ⟨⟨v3, v4, rfl⟩, tab, s2⟩
        have etk : ts.take xs.length = ts := by rw [hp.length]; exact List.take_length
        rw [etk] at tab
        refine ⟨_, rfl, D, rfl, ⟨_, SqL.of tab.ls⟩, lc_list (xs := rs.map V.ref) (fun i σ' ys H' => (∃ v, σ' = [v]) ∧ i ≤ n ∧ (∃ rs2 : List Addr, ys = rs2.map V.ref ∧ rs2.length = i ∧ rs2.Nodup ∧ (∀ r ∈ rs2, H r = none) ∧ (∀ (p : Nat) (r : Addr), rs2[p]? = some r → H' r = some (.lst (natL (nbr n ts p))))) ∧ Same H2 H')
          ⟨⟨_, rfl⟩, Nat.zero_le _, ⟨[], rfl, rfl, List.nodup_nil, fun r hr => absurd hr (by simp), fun p r e => by simp at e⟩, Same.refl _⟩ (fun i σ' ys H' _ q => SqL.of (q.2.2.2 _ _ tab.ls)) (fun i σ' ys H' p => ?_) ?_ ?_⟩
        · obtain ⟨_, hi, ⟨rs2, rfl, e, _⟩, _⟩ := p
          rw [List.length_map, e]
          exact small1000 (by omega)
        · rintro i x σ' ys H3 hi ⟨⟨v, rfl⟩, _, ⟨rs2, rfl, hlen2, hnd2, hnone2, hrow2⟩, s3⟩
          rw [List.getElem?_map] at hi
          cases er : rs[i]? with
          | none => rw [er] at hi; cases hi
          | some r =>
            rw [er] at hi
            cases hi
            have hin : i < n := by rw [← tab.len]; exact (List.getElem?_eq_some_iff.mp er).1
            have hrr := s3 _ _ (tab.row i r er)
            rw [natL_ints] at hrr
            have lb := nb_len good i
            refine lcN ⟨_, rfl, r, _, rfl, SqL.of hrr, by rw [List.length_map]; omega, fun L ms q1 q2 hL => ?_⟩
            have em : ms = (nbr n ts i).map Int.ofNat := by
              refine sorted_perm_eq (q1.trans ((nb_perm good i).map Int.ofNat).symm) q2 ?_
              rw [List.pairwise_map]
              exact (nbr_rising _ _ _).imp fun z => by show (_ : Int) ≤ _; exact Int.ofNat_le.mpr (Nat.le_of_lt z)
            rw [em, ← natL_ints]
            refine ⟨⟨_, rfl⟩, by omega, ⟨rs2 ++ [L], by simp, by simp [hlen2], nodup_new (c := fun p => natL (nbr n ts p)) hnd2 hrow2 hL, ?_, row_new (c := fun p => natL (nbr n ts p)) (Same.new hL) hrow2 (by rw [upd_same, hlen2])⟩, s3.updr hL⟩
            intro z hz
            rcases List.mem_append.mp hz with q | q
            · exact hnone2 z q
            · have : z = L := by simpa using q
              subst this
              exact (s2.trans s3).free hL
        · rintro σ' ys H3 ⟨_, _, ⟨rs2, rfl, hlen2, hnd2, hnone2, hrow2⟩, s3⟩ D2 hD2
          rw [List.length_map, hlen] at hlen2
          exact k D2 rs2 _ ((s2.trans s3).free hD2) hnone2 ⟨upd_same, hlen2, hnd2, out_new (c := fun p => natL (nbr n ts p)) hrow2 hD2, fun p r e => (Same.new hD2) _ _ (hrow2 p r e)⟩ ((s2.trans s3).updr hD2)
end
section
variable {P : Program} {w : World} {K : PySem.W.Frag} {mg : Str → Option Value} {base : Heap} {tMOST_PLACES : Tok} {tFIGURES : Tok} {tMOST_FIGURES : Tok} {cNoWeb : Addr} {cNoText : Addr} {cWebError : Addr} {cNoFit : Addr} {cNoName : Addr} {cNoPlace : Addr} {cNoRow : Addr} {cNotClosed : Addr} {cNotOne : Addr} {cTooMany : Addr}
theorem nbr_len (n : Nat) (ts : List (Nat × Nat)) (p : Nat) : (nbr n ts p).length ≤ n := by
  unfold nbr
  refine Nat.le_trans (List.length_filter_le _ _) ?_
  rw [List.length_range]
  exact Nat.le_refl _
theorem webL_at {n : Nat} {ts : List (Nat × Nat)} {p : Nat} (h : p < n) : (webL n ts).getD p [] = nbr n ts p := by
  unfold webL
  rw [List.getD_eq_getElem?_getD, List.getElem?_map, List.getElem?_range h]
  rfl
theorem eqQ_natT {H : Hp} {a b : Addr} {l : List Nat} (h1 : H a = some (.tup (natL l))) (h2 : H b = some (.tup (natL l))) : EqQ K H 1 (.ref a) (.ref b) true := by
  by_cases e : a = b
  · subst e; exact .same
  · have := EqQ.tups (K := K) (H := H) (n := 0) (e := fun _ => true) e (SqT.of h1) (SqT.of h2) fun j x y hx hy => by
      rw [hx] at hy
      cases hy
      obtain ⟨q, _, rfl⟩ := natL_get hx
      have := EqQ.flat (K := K) (H := H) (n := 0) (x := .int (q : Int)) (y := .int (q : Int)) rfl rfl
      rw [eqV_nat, decide_eq_true rfl] at this
      exact this
    rw [all_true] at this
    simpa using this
theorem topQ_web {H : Hp} {a b : Addr} {g : List (List Nat)} (h1 : WebAt H a g) (h2 : WebAt H b g) : TopQ K H (.ref a) (.ref b) true := by
  obtain ⟨xs, e1, p1⟩ := h1
  obtain ⟨ys, e2, p2⟩ := h2
  have := TopQ.tups (K := K) (H := H) (n := 1) (e := fun _ => true) (by decide) (SqT.of e1) (SqT.of e2) fun j x y hx hy => by
    obtain ⟨r1, f1, q1, rfl, z1⟩ := paired_at p1 j x hx
    obtain ⟨r2, f2, q2, rfl, z2⟩ := paired_at p2 j y hy
    rw [f1] at f2
    cases f2
    exact eqQ_natT z1 z2
  rw [all_true, p1.length, p2.length] at this
  simpa using this
theorem webL_rows (n : Nat) (ts : List (Nat × Nat)) (h : n ≤ 24) : ∀ p, ((webL n ts).getD p []).length ≤ 24 := fun p => by
  by_cases z : p < n
  · rw [webL_at z]; exact Nat.le_trans (nbr_len n ts p) h
  · rw [List.getD_eq_getElem?_getD, List.getElem?_eq_none (by rw [webL_length]; omega)]; simp
theorem paired_maps {H : Hp} {f : Nat → V} {g : Nat → Nat × Nat} : ∀ {ps : List Nat}, (∀ i ∈ ps, TieV H (f i) (g i)) → Paired (TieV H) (ps.map f) (ps.map g)
  | [], _ => .nil
  | i :: ps, h => .cons (h i List.mem_cons_self) (paired_maps fun j hj => h j (List.mem_cons_of_mem _ hj))
end
section
variable {P : Program} {w : World} {K : PySem.W.Frag} {mg : Str → Option Value} {base : Heap} {tMOST_PLACES : Tok} {tFIGURES : Tok} {tMOST_FIGURES : Tok} {cNoWeb : Addr} {cNoText : Addr} {cWebError : Addr} {cNoFit : Addr} {cNoName : Addr} {cNoPlace : Addr} {cNoRow : Addr} {cNotClosed : Addr} {cNotOne : Addr} {cTooMany : Addr}
theorem bools_all {l : List Nat} {f : Nat → Bool} : ((l.map f).all id) = l.all f := by rw [List.all_map]; rfl
theorem head_at {z : Str} (h : 1 ≤ z.length) : ∃ c, atI z.cps.toList (0 : Int) = some c ∧ (cs z).head? = some c := by
  have hl : 0 < (cs z).length := by rw [cs_len]; omega
  refine ⟨(cs z)[0], atI_nat (j := 0) (List.getElem?_eq_getElem hl), ?_⟩
  rw [List.head?_eq_getElem?, List.getElem?_eq_getElem hl]
theorem dec_one {c d : Nat} : decide (V.str ⟨#[c]⟩ = V.str ⟨#[d]⟩) = decide (c = d) := by
  rw [Bool.eq_iff_iff, decide_eq_true_eq, decide_eq_true_eq]
  constructor
  · intro h; injection h with h; injection h with h; simpa using h
  · rintro rfl; rfl
theorem dec_cs {x y : Str} : decide (V.str x = V.str y) = (cs x == cs y) := by
  rw [Bool.eq_iff_iff, decide_eq_true_eq, beq_iff_eq]
  constructor
  · intro h; injection h with h; rw [h]
  · intro h; rw [cs_inj h]
theorem in_figs (c : Nat) : (!(Builtin.Str.occurrences (Str.ofString "0123456789") ⟨#[c]⟩ 0 (Str.ofString "0123456789").length 1).isEmpty) = decide (c ∈ figs) := StrLaws.found_one _ c
theorem figs_walk {z : Str} {H : Hp} {v0 : Option V} {Fin : List V → Hp → Prop} (hz : z.length ≤ 1000000) (h : Fin (((cs z).map fun c => decide (c ∈ figs)).map V.bl) H) :
    LcW (Its z) (gName 0) tYes (tOp (fun x y H Q => ∃ i j, x = V.str i ∧ y = V.str j ∧ Q (V.bl (!(Builtin.Str.occurrences j i 0 j.length 1).isEmpty)) H) (tVar 0) (tC (V.str (Str.ofString "0123456789")))) Fin [v0] H := by
  refine lc_text (fun i σ ys H' => (∃ v, σ = [v]) ∧ H' = H ∧ ys.length ≤ i ∧ i ≤ z.length ∧ ys = (((cs z).take i).map fun c => decide (c ∈ figs)).map V.bl) ⟨⟨_, rfl⟩, rfl, Nat.zero_le _, Nat.zero_le _, rfl⟩ (fun i σ ys H' q => ?_) ?_ ?_
  · rw [sizeLine_eq]; have := q.2.2.1; have := q.2.2.2.1; omega
  · rintro i c σ ys H' hc ⟨⟨v, rfl⟩, rfl, hl, hi, rfl⟩
    have hlt : i < (cs z).length := (List.getElem?_eq_some_iff.mp hc).1
    rw [cs_len] at hlt
    refine lcN ⟨_, rfl, _, _, rfl, rfl, ⟨_, rfl⟩, rfl, ?_, hlt, ?_⟩
    · rw [List.length_append]; show _ + 1 ≤ _; omega
    · rw [in_figs, List.take_add_one, show (cs z)[i]? = some c from hc, List.map_append, List.map_append]; rfl
  · rintro σ ys H' ⟨_, rfl, _, _, rfl⟩
    rw [← cs_len, List.take_length]
    exact h
def spIsNum : Sp := fun vs H Q _ => ∃ (z : Str) (m : Nat), vs = [.str z, .int (m : Int)] ∧ z.length ≤ 1000000 ∧ ∀ H', Same H H' → Q (.bl (isNum m z)) H'
theorem Cis_number (T : Txt K mg tMOST_PLACES tFIGURES tMOST_FIGURES cNoWeb cNoText cWebError cNoFit cNoName cNoPlace cNoRow cNotClosed cNotOne cTooMany) : Callee P w K mg base 1 "is_number" ["word", "most"] spIsNum := by
  refine mkCallee T.dis_number scis_number (fun _ _ _ _ _ _ us hl => match us, hl with | [_, _], _ => rfl) (fun vs H Q E h => ?_) (fun f cdv A outer s H vs Q E hr h => ?_)
  · obtain ⟨z, m, rfl, _⟩ := h; rfl
  · obtain ⟨z, m, rfl, hz, k⟩ := h
    have hzl : z.length ≤ sizeLine := by rw [sizeLine_eq]; omega
    refine ⟨_, (pss_cons (ps_if (PW.pt (pw_or (pt_not (pt_chain op_le op_le pe_int (pe_callB (lenSq (K := K) rfl) rfl T.z_len bt_len (pa_cons (pv 0) pa_nil sE_Name)) (pv 1))) (pw_or1 (PW.pt (pw_and (pt_cmpR op_eq (pe_ix (ixs (K := K) rfl) (pv 0) pe_int (fun _ _ => rfl)) pe_str (nomark _)) (pw_and1 (pt_cmpR op_ne (pv 0) pe_str (nomark _)))))))) (pss_one (ps_ret pe_bl)) pss_nil) (pss_one (ps_ret (pe_callB (allq (K := K) rfl) rfl T.z_all bt_all (pa_cons (pe_lc (NB := ["sign"]) (nt := 1) (fr := []) rfl (by kernel_rfl) (pis (K := K) rfl (pv 0)) (fun _ _ _ _ _ => (pg_name (i := 0) (show List.Nodup (["sign"] : List Str) by decide +kernel) rfl (by first | exact Or.inl rfl | exact Or.inr rfl))) (fun _ _ _ _ _ => pts_nil) (fun _ _ _ _ _ => (pe_cmpR op_in_str (pv 0) (pe_glob (v := .str "0123456789") rfl T.k_FIGURES ⟨_, rfl⟩) rfl))) pa_nil))))), ?_⟩
    have e0 : (cs z == [48]) = decide (V.str z = V.str (Str.ofString "0")) := by rw [dec_cs, no_is]; rfl
    have kF : isNum m z = false → Q (.bl false) H := fun e => by have := k H (Same.refl H); rw [e] at this; exact this
    have kA : (decide (1 ≤ z.length) && decide (z.length ≤ m)) = true → (((cs z).head? == some 48) && !(cs z == [48])) = false → ∀ l, H l = none → Q (.bl (((cs z).map fun c => decide (c ∈ figs)).all id)) (upd H l (.lst (((cs z).map fun c => decide (c ∈ figs)).map V.bl))) := fun e1 e2 l hl => by
      have := k _ (Same.new (o := .lst (((cs z).map fun c => decide (c ∈ figs)).map V.bl)) hl)
      unfold isNum at this
      rw [e1, e2] at this
      rw [bools_all]
      exact this
    refine ⟨_, rfl, _, rfl, hzl, _, _, rfl, rfl, _, rfl, ?_⟩
    by_cases h1 : 1 ≤ z.length
    · refine iteDT (by omega) ⟨_, rfl, _, _, rfl, rfl, _, rfl, ?_⟩
      by_cases h2 : z.length ≤ m
      · rw [decide_eq_true (show (z.length : Int) ≤ (m : Int) by omega)]
        have e1 : (decide (1 ≤ z.length) && decide (z.length ≤ m)) = true := by simp [h1, h2]
        obtain ⟨c, hc, hd⟩ := head_at h1
        refine ⟨_, rfl, _, _, c, rfl, rfl, hzl, hc, rfl, _, rfl, ?_⟩
        rw [no_is, dec_one]
        by_cases h3 : c = 48
        · refine iteDT h3 ⟨_, rfl, rfl, _, rfl, ?_⟩
          rw [dec_cs]
          show if (!(cs z == [48])) = true then _ else _
          cases h4 : (cs z == [48]) with
          | true => exact iteF ⟨_, rfl, z, rfl, figs_walk hz fun l hl => ⟨l, _, rfl, SqL.of upd_same, kA e1 (by rw [h4]; simp) l hl⟩⟩
          | false => exact iteT (kF (by unfold isNum; rw [h4, hd, h3]; simp))
        · exact iteDF h3 (iteF ⟨_, rfl, z, rfl, figs_walk hz fun l hl => ⟨l, _, rfl, SqL.of upd_same, kA e1 (by rw [hd]; simp [h3]) l hl⟩⟩)
      · rw [decide_eq_false (show ¬ (z.length : Int) ≤ (m : Int) by omega)]
        exact kF (by unfold isNum; simp [h2])
    · refine iteDF (by omega) ⟨_, rfl, ?_⟩
      exact kF (by unfold isNum; simp [h1])
end
section
variable {P : Program} {w : World} {K : PySem.W.Frag} {mg : Str → Option Value} {base : Heap} {tMOST_PLACES : Tok} {tFIGURES : Tok} {tMOST_FIGURES : Tok} {cNoWeb : Addr} {cNoText : Addr} {cWebError : Addr} {cNoFit : Addr} {cNoName : Addr} {cNoPlace : Addr} {cNoRow : Addr} {cNotClosed : Addr} {cNotOne : Addr} {cTooMany : Addr}
theorem log_small {n : Nat} (h : n < 1000) : ((n : Nat) : Int).natAbs.log2 < 1920 := by
  rw [Int.natAbs_natCast]
  exact Nat.lt_of_le_of_lt (Nat.log2_le_self n) (by omega)
theorem len_of {z : Str} {n : Nat} (h : z.length ≤ n) (hn : n ≤ 10000 := by omega) : z.length ≤ sizeLine := by rw [sizeLine_eq]; omega
theorem head_eq (n : Nat) : Str.empty ++ num n ++ Str.ofString ":" = headT n := by rw [Str.empty_append]; rfl
theorem mi_len : (Str.ofString "-").length = 1 := by rw [mi_is]; rfl
theorem sp_len : (Str.ofString " ").length = 1 := by rw [sp_is]; rfl
theorem co_len : (Str.ofString ":").length = 1 := by rw [co_is]; rfl
def spShow : Sp := fun vs H Q _ => ∃ (wa : Addr) (g : List (List Nat)), vs = [.ref wa] ∧ WebAt H wa g ∧ g.length ≤ 24 ∧ (∀ p, (g.getD p []).length ≤ 24) ∧ (∀ t ∈ tiesG g g.length, t.1 < 24 ∧ t.2 < 24) ∧ (tiesG g g.length).length ≤ 1000 ∧ ∀ H', Same H H' → Q (.str (dueT g.length (tiesG g g.length))) H'
theorem Cshow_web (T : Txt K mg tMOST_PLACES tFIGURES tMOST_FIGURES cNoWeb cNoText cWebError cNoFit cNoName cNoPlace cNoRow cNotClosed cNotOne cTooMany) : Callee P w K mg base 2 "show_web" ["web"] spShow := by
  have Cties_of := Cties_of (P := P) (w := w) (base := base) T
  refine mkCallee T.dshow_web scshow_web (fun _ _ _ _ _ _ us hl => match us, hl with | [_], _ => rfl) (fun vs H Q E h => ?_) (fun f cdv A outer s H vs Q E hr h => ?_)
  · obtain ⟨wa, g, rfl, _⟩ := h; rfl
  · obtain ⟨wa, g, rfl, hw, h24, hrows, hsm, hmany, k⟩ := h
    obtain ⟨ws, hws, hwl, hrow⟩ := hw.row
    refine ⟨_, (pss_cons (ps_set (i := 1) scshow_web.nd rfl (by first | exact Or.inl rfl | exact Or.inr rfl) (pe_callB (lenq (K := K) rfl) rfl T.z_len bt_len (pa_cons (pv 0) pa_nil sE_Name))) (pss_one (ps_ret (bm (K := K) rfl PySem.F.plainAttrs_str PySem.F.slot_str_join PySem.F.type_str_join (mt_joinS (K := K) rfl) pe_str (pa_cons (pe_op op_cat (pe_lst (pa_cons (pe_join (pj_cons (pe_fmt (pv 1)) (pj_cons pe_str pj_nil))) pa_nil)) (pe_lc (NB := ["tie"]) (nt := 1) (fr := []) rfl (by kernel_rfl) (pil (K := K) rfl (pe_fn Cties_of hr rfl (pa_cons (pv 0) pa_nil sE_Name))) (fun _ _ _ _ _ => (pg_name (i := 0) (show List.Nodup (["tie"] : List Str) by decide +kernel) rfl (by first | exact Or.inl rfl | exact Or.inr rfl))) (fun _ _ _ _ _ => pts_nil) (fun _ _ _ _ _ => (pe_op op_add_str (pe_op op_add_str (pe_callTy call_str_int rfl T.z_str bt_str (pa_cons (pe_ix (ixt (K := K) rfl) (pv 0) pe_int (fun _ _ => rfl)) pa_nil sE_Subscript)) pe_str) (pe_callTy call_str_int rfl T.z_str bt_str (pa_cons (pe_ix (ixt (K := K) rfl) (pv 0) pe_int (fun _ _ => rfl)) pa_nil sE_Subscript)))))) pa_nil sE_BinOp))))), ?_⟩
    refine ⟨_, rfl, wa, ws, rfl, .inr (SqT.of hws), ?_⟩
    rw [hwl]
    have hn := num_ok (show g.length < 100 by omega)
    have h2 : (Str.empty ++ num g.length).length ≤ 2 := by rw [Str.empty_append]; exact hn.2.2.1
    have h3 := head_len (show g.length < 100 by omega)
    refine ⟨rfl, _, rfl, _, rfl, log_small (by omega), num g.length, rfl, len_of h2, Str.ofString ":", rfl, ?_, ?_, ?_, fun l0 hl0 => ?_⟩
    · rw [head_eq]; exact len_of h3
    · rw [head_eq]; exact len_of h3
    · show 1 ≤ sizeLine; decide
    rw [head_eq]
    have s0 := Same.new (o := .lst [.str (headT g.length)]) hl0
    refine ⟨_, rfl, wa, g, rfl, hw.mono s0, h24, hrows, fun l H1 hti nl s1 => ?_⟩
    obtain ⟨xs, hl, hp⟩ := hti
    have hxl := hp.length
    refine ⟨l, rfl, ⟨_, SqL.of hl⟩, lc_list (xs := xs) (fun i σ ys H' => (∃ v, σ = [v]) ∧ i ≤ xs.length ∧ H' = H1 ∧ ys = (((tiesG g g.length).take i).map tieT).map V.str)
      ⟨⟨_, rfl⟩, Nat.zero_le _, rfl, rfl⟩ (fun i σ ys H' _ q => by rw [q.2.2.1]; exact SqL.of hl) (fun i σ ys H' q => ?_) ?_ ?_⟩
    · rw [q.2.2.2, List.length_map, List.length_map, List.length_take]
      exact small1000 (by have := q.2.1; omega)
    · rintro i x σ ys H' hi ⟨⟨v, rfl⟩, _, rfl, rfl⟩
      obtain ⟨⟨a, b⟩, et, r, rfl, hr0⟩ := paired_at hp i x hi
      obtain ⟨ha, hb⟩ := hsm _ (List.mem_of_getElem? et)
      dsimp only at ha hb hr0
      have na := (num_ok (show a < 100 by omega)).2.2.1
      have nb := (num_ok (show b < 100 by omega)).2.2.1
      refine lcN ⟨_, rfl, r, _, _, _, rfl, rfl, SqT.of hr0, rfl, _, rfl, log_small (by omega), num a, Str.ofString "-", rfl, rfl, ?_, _, rfl, r, _, _, _, rfl, rfl, SqT.of hr0, rfl, _, rfl, log_small (by omega), num a ++ Str.ofString "-", num b, rfl, rfl, ?_, ⟨_, rfl⟩, (List.getElem?_eq_some_iff.mp hi).1, rfl, ?_⟩
      · rw [mi_len, sizeLine_eq]; omega
      · rw [Str.length_append, mi_len, sizeLine_eq]; omega
      · rw [List.take_add_one, et, List.map_append, List.map_append]; rfl
    · rintro σ ys H' ⟨_, _, rfl, rfl⟩ D hD
      rw [show (tiesG g g.length).take xs.length = tiesG g g.length by rw [hxl, List.take_length]]
      have sD := Same.new (o := .lst (((tiesG g g.length).map tieT).map V.str)) hD
      refine ⟨l0, D, _, _, rfl, rfl, (s1.trans sD) _ _ upd_same, upd_same, ?_, fun p hp0 => ?_⟩
      · rw [List.length_map, List.length_map]
        show 1 + _ ≤ _
        rw [sizeLine_eq]
        omega
      · have sp := Same.new (o := .lst ([V.str (headT g.length)] ++ ((tiesG g g.length).map tieT).map V.str)) hp0
        refine ⟨Str.ofString " ", p, wordsT g.length (tiesG g g.length), rfl, rfl, SqL.of upd_same, join_ok (by omega) (fun t ht => by have := hsm t ht; omega) hmany, ?_⟩
        rw [due_join]
        exact k _ (s0.trans (s1.trans (sD.trans sp)))
end
section
variable {P : Program} {w : World} {K : PySem.W.Frag} {mg : Str → Option Value} {base : Heap} {tMOST_PLACES : Tok} {tFIGURES : Tok} {tMOST_FIGURES : Tok} {cNoWeb : Addr} {cNoText : Addr} {cWebError : Addr} {cNoFit : Addr} {cNoName : Addr} {cNoPlace : Addr} {cNoRow : Addr} {cNotClosed : Addr} {cNotOne : Addr} {cTooMany : Addr}
theorem tiesG_lt {n : Nat} {ts : List (Nat × Nat)} : ∀ t ∈ tiesG (webL n ts) n, t.1 < t.2 ∧ t.2 < n := fun t ht => by
  obtain ⟨a1, a2, a3⟩ := mem_tiesG.mp ht
  exact ⟨a3, (webL_mem.mp a2).2.1⟩
def toI (t : Nat × Nat) : Int × Int := ((t.1 : Int), (t.2 : Int))
theorem toI_inj {t u : Nat × Nat} (h : toI t = toI u) : t = u := by
  unfold toI at h
  injection h with h1 h2
  exact Prod.ext (by omega) (by omega)
theorem refs_of {H : Hp} {ys : List V} {ts : List (Nat × Nat)} (h : Paired (TieV H) ys ts) : ∃ rs : List Addr, ys = rs.map V.ref ∧ Paired (fun r (t : Int × Int) => H r = some (.tup [.int t.1, .int t.2])) rs (ts.map toI) := by
  induction h with
  | nil => exact ⟨[], rfl, .nil⟩
  | cons r t ih =>
    obtain ⟨a, rfl, ha⟩ := r
    obtain ⟨rs, rfl, hp⟩ := ih
    exact ⟨a :: rs, rfl, .cons ha hp⟩
theorem paired_back {H : Hp} {F : Addr → Int × Int → Prop} (hF : ∀ q t, F q (toI t) → TieV H (.ref q) t) : ∀ {qs : List Addr} {ts : List (Nat × Nat)}, Paired F qs (ts.map toI) → Paired (TieV H) (qs.map V.ref) ts
  | [], [], _ => .nil
  | q :: qs, t :: ts, .cons r h => .cons (hF q t r) (paired_back hF h)
theorem sorted_same {ts : List (Nat × Nat)} {ps : List (Int × Int)} (hs : ∀ t ∈ ts, t.2 < 100) (ha : ts.Pairwise fun a b => codeP a < codeP b) (hp : ps.Pairwise lexL) (hm : ∀ t, t ∈ ps ↔ t ∈ ts.map toI) : ps = ts.map toI := by
  refine asc_ext (fun t : Int × Int => t.1 * 100 + t.2) ?_ ?_ hm
  · refine List.Pairwise.imp_of_mem ?_ hp
    intro a b h1 h2 h
    obtain ⟨t, ht, rfl⟩ := List.mem_map.mp ((hm a).mp h1)
    obtain ⟨u, hu, rfl⟩ := List.mem_map.mp ((hm b).mp h2)
    have := hs t ht
    have := hs u hu
    unfold lexL toI at h
    unfold toI
    dsimp only at h ⊢
    omega
  · rw [List.pairwise_map]
    exact ha
theorem cut1 (x : V) (xs : List V) : cutV (x :: xs) (some 1) none = xs := by
  have e : HT.sIx (x :: xs).length 0 (some 1) = 1 := by
    unfold HT.sIx
    simp only [List.length_cons]
    split <;> omega
  unfold cutV
  rw [e]
  show (xs.take _) = xs
  exact List.take_of_length_le (by simp [HT.sIx])
theorem kit_str_str : PySem.W.kitOne K (.type "str") (.type "str") = some true := by kernel_rfl
end
section
variable {P : Program} {w : World} {K : PySem.W.Frag} {mg : Str → Option Value} {base : Heap} {tMOST_PLACES : Tok} {tFIGURES : Tok} {tMOST_FIGURES : Tok} {cNoWeb : Addr} {cNoText : Addr} {cWebError : Addr} {cNoFit : Addr} {cNoName : Addr} {cNoPlace : Addr} {cNoRow : Addr} {cNotClosed : Addr} {cNotOne : Addr} {cTooMany : Addr}
theorem figs_back : figs.all (fun c => (cs (num (c - 48)) == [c]) && decide (c - 48 < 100) && (figs.all fun d => c == 48 || ((cs (num ((c - 48) * 10 + (d - 48))) == [c, d]) && decide ((c - 48) * 10 + (d - 48) < 100)))) = true := by decide +kernel
theorem num_of {z : Str} (h : isNum 2 z = true) : ∃ n, n < 100 ∧ z = num n := by
  unfold isNum at h
  rw [Bool.and_eq_true, Bool.and_eq_true, Bool.and_eq_true, decide_eq_true_eq, decide_eq_true_eq, List.all_eq_true] at h
  obtain ⟨⟨⟨h1, h2⟩, h3⟩, h4⟩ := h
  rw [← cs_len] at h1 h2
  have fb := List.all_eq_true.mp figs_back
  match hz : cs z, h1, h2, h3, h4 with
  | [], h1, _, _, _ => simp at h1
  | [c], _, _, _, h4 =>
    have hc := of_decide_eq_true (h4 c (by simp))
    have := fb c hc
    rw [Bool.and_eq_true, Bool.and_eq_true, beq_iff_eq, decide_eq_true_eq] at this
    exact ⟨c - 48, this.1.2, cs_inj (by rw [hz, this.1.1])⟩
  | [c, d], _, _, h3, h4 =>
    have hc := of_decide_eq_true (h4 c (by simp))
    have hd := of_decide_eq_true (h4 d (by simp))
    have := fb c hc
    rw [Bool.and_eq_true, List.all_eq_true] at this
    have := this.2 d hd
    rw [Bool.or_eq_true, Bool.and_eq_true, beq_iff_eq, beq_iff_eq, decide_eq_true_eq] at this
    rcases this with e | e
    · subst e; simp at h3
    · exact ⟨_, e.2, cs_inj (by rw [hz, e.1])⟩
  | _ :: _ :: _ :: _, _, h2, _, _ => simp at h2
theorem num_inj {a b : Nat} (ha : a < 100) (hb : b < 100) (h : num a = num b) : a = b := by
  have := num_int ha
  rw [h, num_int hb] at this
  have := Option.some.inj this
  omega
theorem head_of {z : Str} (h1 : Txt.endswith z (Str.ofString ":") = true) (h2 : isNum 2 (Txt.slice z none (some (-1))) = true) : ∃ n, n < 100 ∧ z = headT n := by
  obtain ⟨n, hn, e⟩ := num_of h2
  rw [co_is, ends_of, decide_eq_true_eq] at h1
  refine ⟨n, hn, cs_inj ?_⟩
  have hne : cs z ≠ [] := fun q => by rw [q] at h1; simp at h1
  have hl : z.length ≠ 0 := fun q => hne (List.eq_nil_of_length_eq_zero (by rw [cs_len]; exact q))
  have e2 := slice_cs z hl
  rw [e] at e2
  rw [cs_head, e2]
  have q := List.dropLast_concat_getLast hne
  rw [List.getLast?_eq_some_getLast hne] at h1
  rw [Option.some.inj h1] at q
  exact q.symm
theorem head_inj {a b : Nat} (ha : a < 100) (hb : b < 100) (h : headT a = headT b) : a = b := by
  have e := slice_head a
  rw [h, slice_head b] at e
  exact (num_inj hb ha e).symm
theorem tie_of {z x y : Str} (h : Txt.split z (Str.ofString "-") = [x, y]) (hx : isNum 2 x = true) (hy : isNum 2 y = true) : ∃ a b, a < 100 ∧ b < 100 ∧ x = num a ∧ y = num b ∧ z = tieT (a, b) := by
  obtain ⟨a, ha, rfl⟩ := num_of hx
  obtain ⟨b, hb, rfl⟩ := num_of hy
  refine ⟨a, b, ha, hb, rfl, rfl, cs_inj ?_⟩
  have e := split_join (x := z) (c := 45)
  rw [← mi_is, h] at e
  rw [e, cs_tie]; rfl
theorem tie_inj {t u : Nat × Nat} (ht : t.1 < 100 ∧ t.2 < 100) (hu : u.1 < 100 ∧ u.2 < 100) (h : tieT t = tieT u) : t = u := by
  have e := split_tie ht.1 ht.2
  rw [h, split_tie hu.1 hu.2] at e
  injection e with e1 e2
  injection e2 with e2
  exact Prod.ext (num_inj ht.1 hu.1 e1.symm) (num_inj ht.2 hu.2 e2.symm)
theorem ties_inj : ∀ {ts us : List (Nat × Nat)}, (∀ t ∈ ts, t.1 < 100 ∧ t.2 < 100) → (∀ t ∈ us, t.1 < 100 ∧ t.2 < 100) → ts.map tieT = us.map tieT → ts = us
  | [], [], _, _, _ => rfl
  | [], u :: us, _, _, h => by simp at h
  | t :: ts, [], _, _, h => by simp at h
  | t :: ts, u :: us, h1, h2, h => by
    rw [List.map_cons, List.map_cons] at h
    obtain ⟨e1, e2⟩ := List.cons.inj h
    rw [tie_inj (h1 t List.mem_cons_self) (h2 u List.mem_cons_self) e1, ties_inj (fun x hx => h1 x (List.mem_cons_of_mem _ hx)) (fun x hx => h2 x (List.mem_cons_of_mem _ hx)) e2]
def IsTie (n : Nat) (z : Str) (t : Nat × Nat) : Prop := t.1 < t.2 ∧ t.2 < n ∧ z = tieT t
structure Wr (z : Str) (n : Nat) (ts : List (Nat × Nat)) : Prop where
  h1 : 1 ≤ n
  h24 : n ≤ 24
  lt : ∀ t ∈ ts, t.1 < t.2 ∧ t.2 < n
  asc : ts.Pairwise fun a b => codeP a < codeP b
  eq : z = dueT n ts
theorem Wr.small {z : Str} {n : Nat} {ts : List (Nat × Nat)} (h : Wr z n ts) : ∀ t ∈ ts, t.1 < 100 ∧ t.2 < 100 := fun t ht => by have := h.lt t ht; have := h.h24; omega
theorem Wr.words {z : Str} {n : Nat} {ts : List (Nat × Nat)} (h : Wr z n ts) : Txt.split z (Str.ofString " ") = wordsT n ts := by
  rw [h.eq]; exact split_due (by have := h.h24; omega) h.small
theorem Wr.of {z : Str} {n : Nat} {ts : List (Nat × Nat)} (h1 : 1 ≤ n) (h24 : n ≤ 24) (lt : ∀ t ∈ ts, t.1 < t.2 ∧ t.2 < n) (asc : ts.Pairwise fun a b => codeP a < codeP b) (h : Txt.split z (Str.ofString " ") = wordsT n ts) : Wr z n ts := by
  refine ⟨h1, h24, lt, asc, cs_inj ?_⟩
  have e := split_join (x := z) (c := 32)
  rw [← sp_is, h] at e
  rw [e, cs_due]
theorem Wr.uniq {z : Str} {n m : Nat} {ts us : List (Nat × Nat)} (h : Wr z n ts) (g : Wr z m us) : n = m ∧ ts = us := by
  have e := h.words
  rw [g.words] at e
  obtain ⟨e1, e2⟩ := List.cons.inj e
  exact ⟨head_inj (by have := h.h24; omega) (by have := g.h24; omega) e1.symm, (ties_inj g.small h.small e2).symm⟩
theorem Wr.ok {z : Str} {n : Nat} {ts : List (Nat × Nat)} (h : Wr z n ts) : okSeq n ts := by
  intro i t e
  obtain ⟨a1, a2⟩ := h.lt t (List.mem_of_getElem? e)
  have hs := h.small
  refine ⟨by omega, a2, by omega, ?_⟩
  cases q : tied (ts.take i) t.1 t.2 with
  | false => rfl
  | true =>
    have lt : ∀ u ∈ ts.take i, codeP u < codeP t := fun u hu => by
      obtain ⟨j, hj, rfl⟩ := List.getElem_of_mem hu
      rw [List.length_take] at hj
      obtain ⟨hi, rfl⟩ := List.getElem?_eq_some_iff.mp e
      rw [List.getElem_take]
      exact List.pairwise_iff_getElem.mp h.asc j i (by omega) hi (by omega)
    rcases tied_iff.mp q with g | g
    · exact absurd (lt _ g) (Int.lt_irrefl _)
    · obtain ⟨b1, _⟩ := h.lt _ (List.mem_of_mem_take g)
      dsimp only at b1
      omega
def spc (z : Str) : Nat := (cs z).count 32
theorem count_joinL {c : Nat} : ∀ {Q : List (List Nat)}, Q ≠ [] → (joinL c Q).count c + 1 = (Q.map fun q => q.count c).sum + Q.length
  | [x], _ => by simp [joinL]
  | x :: y :: r, _ => by
    have ih := count_joinL (c := c) (Q := y :: r) (by simp)
    show (x ++ c :: joinL c (y :: r)).count c + 1 = _
    rw [List.count_append, List.count_cons_self, List.map_cons, List.sum_cons, List.length_cons]
    omega
theorem sum_zero {l : List Nat} (h : ∀ x ∈ l, x = 0) : l.sum = 0 := by
  induction l with
  | nil => rfl
  | cons a l ih => rw [List.sum_cons, h a List.mem_cons_self, ih fun x hx => h x (List.mem_cons_of_mem _ hx)]
theorem words_len (z : Str) : (Txt.split z (Str.ofString " ")).length = spc z + 1 := by
  have e := congrArg (List.count 32) (split_join (x := z) (c := 32))
  have q := count_joinL (c := 32) (Q := (Txt.split z ⟨#[32]⟩).map cs) (by simpa using split_ne z ⟨#[32]⟩)
  have s0 : (((Txt.split z ⟨#[32]⟩).map cs).map fun q => q.count 32).sum = 0 := sum_zero fun x hx => by
    rw [List.map_map] at hx
    obtain ⟨p, hp, rfl⟩ := List.mem_map.mp hx
    exact List.count_eq_zero.mpr (StrLaws.split_free z 32 p hp)
  rw [s0, List.length_map, ← e] at q
  rw [sp_is]
  unfold spc
  omega
theorem Wr.len {z : Str} {n : Nat} {ts : List (Nat × Nat)} (h : Wr z n ts) : ts.length = spc z := by
  have e := words_len z
  rw [h.words] at e
  unfold wordsT at e
  rw [List.length_cons, List.length_map] at e
  omega
structure Tx (z : Str) (N M : Nat) : Prop where
  len : z.length ≤ N
  few : spc z ≤ M
  sgn : ∀ c ∈ cs z, c < 16 ^ 8
theorem word_sgn {z y p : Str} {c : Nat} (h : ∀ c ∈ cs z, c < 16 ^ 8) (hp : p ∈ Txt.split z ⟨#[c]⟩) : ∀ d ∈ cs p, d < 16 ^ 8 := by
  intro d hd
  refine h d ?_
  rw [split_join (x := z) (c := c)]
  have hm : cs p ∈ (Txt.split z ⟨#[c]⟩).map cs := List.mem_map.mpr ⟨p, hp, rfl⟩
  clear hp
  generalize (Txt.split z ⟨#[c]⟩).map cs = Q at hm
  induction Q with
  | nil => cases hm
  | cons x Q ih =>
    cases Q with
    | nil =>
      have : cs p = x := by simpa using hm
      rw [this] at hd
      exact hd
    | cons y r =>
      show d ∈ x ++ c :: joinL c (y :: r)
      rcases List.mem_cons.mp hm with e | hm
      · rw [e] at hd; exact List.mem_append_left _ hd
      · exact List.mem_append_right _ (List.mem_cons_of_mem _ (ih hm))
theorem eqQ_tieD {H : Hp} {v x : V} {t u : Nat × Nat} (h1 : TieV H v t) (h2 : TieV H x u) : EqQ K H 1 v x (decide (t = u)) := by
  obtain ⟨a, rfl, ha⟩ := h1
  obtain ⟨b, rfl, hb⟩ := h2
  by_cases e : a = b
  · subst e
    rw [ha] at hb
    have : t = u := by
      injection hb with hb
      injection hb with hb
      injection hb with e1 e2
      injection e2 with e2
      injection e1 with e1
      injection e2 with e2
      exact Prod.ext (by omega) (by omega)
    rw [decide_eq_true this]
    exact .same
  · have := EqQ.tups (K := K) (H := H) (n := 0) (e := tieE t u) e (SqT.of ha) (SqT.of hb) tieE_at
    rw [← tieE_eq]
    exact this
theorem topQ_tiesN {H : Hp} {a b : Addr} {ts us : List (Nat × Nat)} (h1 : TiesAt H a ts) (h2 : TiesAt H b us) (hne : ts ≠ us) : TopQ K H (.ref a) (.ref b) false := by
  obtain ⟨xs, ha, pa⟩ := h1
  obtain ⟨ys, hb, pb⟩ := h2
  by_cases hl : xs.length = ys.length
  · have := TopQ.lsts (K := K) (H := H) (n := 1) (e := fun j => decide (ts[j]? = us[j]?)) (by decide) (SqL.of ha) (SqL.of hb) hl fun j x y hx hy => by
      obtain ⟨t, et, ht⟩ := paired_at pa j x hx
      obtain ⟨u, eu, hu⟩ := paired_at pb j y hy
      have := eqQ_tieD (K := K) ht hu
      rw [show decide (ts[j]? = us[j]?) = decide (t = u) by rw [et, eu]; simp]
      exact this
    have e : ((List.range xs.length).all fun j => decide (ts[j]? = us[j]?)) = false := by
      rw [Bool.eq_false_iff]
      intro q
      rw [List.all_eq_true] at q
      refine hne (List.ext_getElem? fun j => ?_)
      by_cases hj : j < xs.length
      · exact of_decide_eq_true (q j (List.mem_range.mpr hj))
      · rw [List.getElem?_eq_none (by have := pa.length; omega), List.getElem?_eq_none (by have := pb.length; omega)]
    rw [e] at this
    exact this
  · exact .lstsN (SqL.of ha) (SqL.of hb) hl
end
section
variable {P : Program} {w : World} {K : PySem.W.Frag} {mg : Str → Option Value} {base : Heap} {tMOST_PLACES : Tok} {tFIGURES : Tok} {tMOST_FIGURES : Tok} {cNoWeb : Addr} {cNoText : Addr} {cWebError : Addr} {cNoFit : Addr} {cNoName : Addr} {cNoPlace : Addr} {cNoRow : Addr} {cNotClosed : Addr} {cNotOne : Addr} {cTooMany : Addr}
theorem len_le {z : Str} {n : Nat} (h : z.length ≤ n) (hn : n ≤ 16000000 := by omega) : z.length ≤ sizeLine := by rw [sizeLine_eq]; omega
theorem app_le {a b : Str} {m n : Nat} (h1 : a.length ≤ m) (h2 : b.length ≤ n) : (a ++ b).length ≤ m + n := by rw [Str.length_append]; exact Nat.add_le_add h1 h2
def spManyX (cN : Addr) : Sp := fun vs H Q E => ∃ z : Str, vs = [.str z] ∧ z.length ≤ 1000000 ∧ (∀ n : Nat, 1 ≤ n → n ≤ 24 → z = headT n → ∀ H', Same H H' → Q (.int (n : Int)) H') ∧ ((¬ ∃ n, 1 ≤ n ∧ n ≤ 24 ∧ z = headT n) → ∀ H', Same H H' → E (.ref cN) none H')
theorem Xread_many (T : Txt K mg tMOST_PLACES tFIGURES tMOST_FIGURES cNoWeb cNoText cWebError cNoFit cNoName cNoPlace cNoRow cNotClosed cNotOne cTooMany) : CalleeX P w K mg base 2 "read_many" (spManyX cNoText) := by
  have Cis_number := Cis_number (P := P) (w := w) (base := base) T
  refine mkCalleeX T.dread_many scread_many (fun _ _ _ _ _ _ us hl => match us, hl with | [_], _ => rfl) (fun vs H Q E h => ?_) (fun f cdv A outer s H vs Q E hr h => ?_)
  · obtain ⟨n, rfl, _⟩ := h; rfl
  · obtain ⟨z, rfl, hz, kq, ke⟩ := h
    refine ⟨_, (pss_cons (ps_set (i := 1) scread_many.nd rfl (by first | exact Or.inl rfl | exact Or.inr rfl) (pe_slice sl_str (pv 0) po_none (po_some pe_neg))) (pss_cons (ps_if (PW.pt (pw_or (pt_not (pt_val (bm (K := K) rfl PySem.F.plainAttrs_str PySem.F.slot_str_endswith PySem.F.type_str_endswith mt_endswith (pv 0) (pa_cons pe_str pa_nil sE_Constant)))) (pw_or1 (pt_not (pt_val (pe_fn Cis_number hr rfl (pa_cons (pv 1) (pa_cons (pe_glob (v := .int 2) rfl T.k_MOST_FIGURES ⟨_, rfl⟩) pa_nil sE_Name) sE_Name))))))) (pss_one (ps_raise T.q_NoText T.m_NoText rfl (pa_cons pe_str pa_nil sE_Constant))) pss_nil) (pss_cons (ps_if (pt_not (pt_chain op_le op_le pe_int (pe_callTy (intTq (K := K) rfl) rfl T.z_int bt_int (pa_cons (pv 1) pa_nil sE_Name)) (pe_glob (v := .int 24) rfl T.k_MOST_PLACES ⟨_, rfl⟩))) (pss_one (ps_raise T.q_NoText T.m_NoText rfl (pa_cons (pe_join (pj_cons pe_str (pj_cons (pe_fmt (pe_glob (v := .int 24) rfl T.k_MOST_PLACES ⟨_, rfl⟩)) (pj_cons pe_str pj_nil)))) pa_nil))) pss_nil) (pss_one (ps_ret (pe_callTy (intTq (K := K) rfl) rfl T.z_int bt_int (pa_cons (pv 1) pa_nil sE_Name))))))), ?_⟩
    have hs : (Txt.slice z none (some (-1))).length ≤ 1000000 := Nat.le_trans (Txt.slice_le z _ _) hz
    refine ⟨_, rfl, _, rfl, _, rfl, len_le hz, ?_⟩
    refine ⟨_, rfl, rfl, _, _, rfl, rfl, ?_⟩
    cases h1 : Txt.endswith z (Str.ofString ":") with
    | false => exact ⟨false, rfl, iteT ⟨by show 1 ≤ sizeLine; decide, ke (fun ⟨n, _, _, e⟩ => by rw [e, ends_head] at h1; cases h1) H (Same.refl H)⟩⟩
    | true =>
      refine ⟨true, rfl, iteF ⟨_, rfl, Txt.slice z none (some (-1)), 2, rfl, by omega, fun H1 s1 => ?_⟩⟩
      cases h2 : isNum 2 (Txt.slice z none (some (-1))) with
      | false => exact ⟨false, rfl, iteT ⟨by show 1 ≤ sizeLine; decide, ke (fun ⟨n, _, _, e⟩ => by rw [e, slice_head, (num_ok (by omega)).1] at h2; cases h2) H1 s1⟩⟩
      | true =>
        obtain ⟨n, hn, rfl⟩ := head_of h1 h2
        have hn2 := num_ok hn
        have hi := num_int hn
        rw [slice_head]
        refine ⟨true, rfl, iteF ⟨_, rfl, num n, _, rfl, hi, Nat.le_trans hn2.2.2.1 (by decide), _, _, rfl, rfl, _, rfl, ?_⟩⟩
        have fin : ∀ H', Same H H' → ¬ (1 ≤ n ∧ n ≤ 24) → E (.ref cNoText) none H' := fun H' s' hno => ke (fun ⟨m, a1, a2, e⟩ => hno (by rw [head_inj hn (by omega) e]; exact ⟨a1, a2⟩)) H' s'
        by_cases a1 : 1 ≤ n
        · refine iteDT (by omega) ⟨_, _, rfl, rfl, _, rfl, ?_⟩
          by_cases a2 : n ≤ 24
          · rw [decide_eq_true (show (n : Int) ≤ 24 by omega)]
            exact ⟨_, rfl, num n, _, rfl, hi, Nat.le_trans hn2.2.2.1 (by decide), kq n a1 a2 rfl H1 s1⟩
          · rw [decide_eq_false (show ¬ (n : Int) ≤ 24 by omega)]
            exact ⟨_, rfl, by decide +kernel, _, rfl, by decide, _, rfl, by decide +kernel, _, rfl, by decide +kernel, by decide +kernel, by show 1 ≤ sizeLine; decide, fin H1 s1 fun q => a2 q.2⟩
        · refine iteDF (by omega) ?_
          exact ⟨_, rfl, _, rfl, by decide +kernel, _, rfl, by decide, _, rfl, by decide +kernel, _, rfl, by decide +kernel, by decide +kernel, by show 1 ≤ sizeLine; decide, fin H1 s1 fun q => a1 q.1⟩
def spTieX (cN : Addr) : Sp := fun vs H Q E => ∃ (n : Nat) (z : Str), vs = [.int (n : Int), .str z] ∧ n ≤ 24 ∧ z.length ≤ 1000000 ∧ (∀ c ∈ cs z, c < 16 ^ 8) ∧
  (∀ t, IsTie n z t → ∀ r H', H r = none → H' r = some (.tup [.int (t.1 : Int), .int (t.2 : Int)]) → Same H H' → Q (.ref r) H') ∧ ((¬ ∃ t, IsTie n z t) → ∀ H', Same H H' → E (.ref cN) none H')
theorem two_of {l : List Str} (h : l.length = 2) : ∃ x y, l = [x, y] := by
  match l, h with
  | [x, y], _ => exact ⟨x, y, rfl⟩
theorem nums_of {bs : List Bool} {ps : List Str} (h : bs = ps.map (isNum 2)) : bs.all id = ps.all (isNum 2) := by rw [h, List.all_map]; rfl
theorem repr_le {z : Str} (hz : z.length ≤ 1000000) (hs : ∀ c ∈ cs z, c < 16 ^ 8) : (reprText z).length ≤ 10000002 := by
  have := StrLaws.reprText_len z hs
  omega
theorem Xread_tie (T : Txt K mg tMOST_PLACES tFIGURES tMOST_FIGURES cNoWeb cNoText cWebError cNoFit cNoName cNoPlace cNoRow cNotClosed cNotOne cTooMany) : CalleeX P w K mg base 2 "read_tie" (spTieX cNoText) := by
  have Cis_number := Cis_number (P := P) (w := w) (base := base) T
  refine mkCalleeX T.dread_tie scread_tie (fun _ _ _ _ _ _ us hl => match us, hl with | [_, _], _ => rfl) (fun vs H Q E h => ?_) (fun f cdv A outer s H vs Q E hr h => ?_)
  · obtain ⟨n, t, rfl, _⟩ := h; rfl
  · obtain ⟨n, z, rfl, h24, hz, hsg, kq, ke⟩ := h
    refine ⟨_, (pss_cons (ps_set (i := 2) scread_tie.nd rfl (by first | exact Or.inl rfl | exact Or.inr rfl) (bm (K := K) rfl PySem.F.plainAttrs_str PySem.F.slot_str_split PySem.F.type_str_split mt_split (pv 1) (pa_cons pe_str pa_nil sE_Constant))) (pss_cons (ps_if (PW.pt (pw_or (pt_cmpR op_ne (pe_callB (lenq (K := K) rfl) rfl T.z_len bt_len (pa_cons (pv 2) pa_nil sE_Name)) pe_int (nomark _)) (pw_or1 (pt_not (pt_val (pe_callB (allq (K := K) rfl) rfl T.z_all bt_all (pa_cons (pe_lc (NB := ["end"]) (nt := 1) (fr := []) rfl (by kernel_rfl) (pil (K := K) rfl (pv 2)) (fun _ _ _ _ _ => (pg_name (i := 0) (show List.Nodup (["end"] : List Str) by decide +kernel) rfl (by first | exact Or.inl rfl | exact Or.inr rfl))) (fun _ _ _ _ _ => pts_nil) (fun _ _ _ _ _ => (pe_fn Cis_number hr rfl (pa_cons (pv 0) (pa_cons (pe_glob (v := .int 2) rfl T.k_MOST_FIGURES ⟨_, rfl⟩) pa_nil sE_Name) sE_Name)))) pa_nil))))))) (pss_one (ps_raise T.q_NoText T.m_NoText rfl (pa_cons (pe_join (pj_cons (pe_fmtR (pv 1)) (pj_cons pe_str pj_nil))) pa_nil))) pss_nil) (pss_cons (ps_set (i := 3) scread_tie.nd rfl (by first | exact Or.inl rfl | exact Or.inr rfl) (pe_tup (pa_cons (pe_callTy (intTq (K := K) rfl) rfl T.z_int bt_int (pa_cons (pe_ix (ixl (K := K) rfl) (pv 2) pe_int (fun _ _ => rfl)) pa_nil sE_Subscript)) (pa_cons (pe_callTy (intTq (K := K) rfl) rfl T.z_int bt_int (pa_cons (pe_ix (ixl (K := K) rfl) (pv 2) pe_int (fun _ _ => rfl)) pa_nil sE_Subscript)) pa_nil sE_Call) sE_Call))) (pss_cons (ps_if (pt_not (pt_chain op_lt op_lt (pe_ix (ixt (K := K) rfl) (pv 3) pe_int (fun _ _ => rfl)) (pe_ix (ixt (K := K) rfl) (pv 3) pe_int (fun _ _ => rfl)) (pv 0))) (pss_one (ps_raise T.q_NoText T.m_NoText rfl (pa_cons (pe_join (pj_cons (pe_fmtR (pv 1)) (pj_cons pe_str pj_nil))) pa_nil))) pss_nil) (pss_one (ps_ret (pv 3))))))), ?_⟩
    have hrp := repr_le hz hsg
    refine ⟨_, rfl, rfl, _, _, rfl, rfl, by decide, by rw [sizeLine_eq]; omega, fun l hl0 => ?_⟩
    have s0 := Same.new (o := .lst ((Txt.split z (Str.ofString "-")).map V.str)) hl0
    have e0 : upd H l (.lst ((Txt.split z (Str.ofString "-")).map V.str)) l = some (.lst ((Txt.split z (Str.ofString "-")).map V.str)) := upd_same
    generalize upd H l (.lst ((Txt.split z (Str.ofString "-")).map V.str)) = H0 at s0 e0 ⊢
    have hpl : (Txt.split z (Str.ofString "-")).length ≤ 1000002 := Nat.le_trans (split_len z _) (by omega)
    have hps : ∀ p ∈ Txt.split z (Str.ofString "-"), p.length ≤ 1000000 := fun p hp => Nat.le_trans (PyProof.Rows.part_short hp) hz
    refine ⟨_, rfl, l, _, rfl, .inl (SqL.of e0), rfl, _, rfl, ?_⟩
    rw [List.length_map]
    by_cases h2 : (Txt.split z (Str.ofString "-")).length = 2
    · rw [decide_eq_true (show V.int (((Txt.split z (Str.ofString "-")).length : Nat) : Int) = V.int 2 by rw [h2]; rfl)]
      refine iteF ⟨_, rfl, l, rfl, ⟨_, SqL.of e0⟩, lc_list (xs := (Txt.split z (Str.ofString "-")).map V.str) (fun i σ ys H' => (∃ v, σ = [v]) ∧ ys = (((Txt.split z (Str.ofString "-")).take i).map (isNum 2)).map V.bl ∧ Same H0 H')
        ⟨⟨_, rfl⟩, rfl, Same.refl _⟩ (fun i σ ys H' _ q => SqL.of (q.2.2 _ _ e0)) (fun i σ ys H' q => ?_) ?_ ?_⟩
      · rw [q.2.1, List.length_map, List.length_map, List.length_take, sizeLine_eq]; omega
      · rintro i x σ ys H1 hi ⟨⟨v, rfl⟩, rfl, s1⟩
        rw [List.getElem?_map] at hi
        cases ep : (Txt.split z (Str.ofString "-"))[i]? with
        | none => rw [ep] at hi; cases hi
        | some p =>
          rw [ep] at hi
          cases hi
          refine lcN ⟨_, rfl, p, 2, rfl, hps p (List.mem_of_getElem? ep), fun H2 s2 => ⟨⟨_, rfl⟩, ?_, s1.trans s2⟩⟩
          rw [List.take_add_one, ep, List.map_append, List.map_append]; rfl
      · rintro σ ys H1 ⟨_, rfl, s1⟩ D hD
        rw [List.length_map, List.take_length]
        have sD := Same.new (o := .lst (((Txt.split z (Str.ofString "-")).map (isNum 2)).map V.bl)) hD
        refine ⟨D, (Txt.split z (Str.ofString "-")).map (isNum 2), rfl, SqL.of upd_same, _, rfl, ?_⟩
        have s2 := s1.trans sD
        have e2 := s2 _ _ e0
        have sH := s0.trans s2
        generalize upd H1 D (.lst (((Txt.split z (Str.ofString "-")).map (isNum 2)).map V.bl)) = H2 at s2 e2 sH ⊢
        rw [nums_of rfl]
        obtain ⟨x, y, exy⟩ : ∃ x y, Txt.split z (Str.ofString "-") = [x, y] := two_of h2
        cases hall : (Txt.split z (Str.ofString "-")).all (isNum 2) with
        | false =>
          refine iteT ⟨_, rfl, _, rfl, len_le hrp, _, rfl, len_le (app_le (m := 0) (Nat.le_refl 0) hrp), _, rfl, len_le (app_le (n := 10) (app_le (m := 0) (Nat.le_refl 0) hrp) (by decide +kernel)), len_le (app_le (n := 10) (app_le (m := 0) (Nat.le_refl 0) hrp) (by decide +kernel)), by show 1 ≤ sizeLine; decide, ke (fun ⟨t, a1, a2, e⟩ => ?_) H2 sH⟩
          rw [e, split_tie (by omega) (by omega)] at hall
          simp [(num_ok (show t.1 < 100 by omega)).1, (num_ok (show t.2 < 100 by omega)).1] at hall
        | true =>
          rw [exy] at hall e2
          simp at hall
          obtain ⟨a, b, ha, hb, rfl, rfl, rfl⟩ := tie_of exy hall.1 hall.2
          have na := num_ok ha
          have nb := num_ok hb
          refine iteF ⟨_, rfl, l, _, _, _, rfl, rfl, SqL.of e2, rfl, num a, _, rfl, num_int ha, Nat.le_trans na.2.2.1 (by decide), _, rfl, l, _, _, _, rfl, rfl, SqL.of e2, rfl, num b, _, rfl, num_int hb, Nat.le_trans nb.2.2.1 (by decide), by show 2 ≤ sizeLine; decide, fun r hr0 => ?_⟩
          have sr := Same.new (o := .tup [.int (a : Int), .int (b : Int)]) hr0
          have bad : ¬ (a < b ∧ b < n) → ∀ H', Same H H' → E (.ref cNoText) none H' := fun hno H' s' => ke (fun ⟨t, a1, a2, e⟩ => hno (by have := tie_inj ⟨ha, hb⟩ ⟨show t.1 < 100 by omega, show t.2 < 100 by omega⟩ e; rw [← this] at a1 a2; exact ⟨a1, a2⟩)) H' s'
          refine ⟨_, rfl, r, _, _, _, rfl, rfl, SqT.of upd_same, rfl, _, rfl, r, _, _, _, rfl, rfl, SqT.of upd_same, rfl, _, _, rfl, rfl, _, rfl, ?_⟩
          by_cases c1 : a < b
          · refine iteDT (by omega) ⟨_, rfl, _, _, rfl, rfl, _, rfl, ?_⟩
            by_cases c2 : b < n
            · rw [decide_eq_true (show (b : Int) < (n : Int) by omega)]
              exact ⟨_, rfl, kq (a, b) ⟨c1, c2, rfl⟩ r _ (sH.free hr0) upd_same (sH.trans sr)⟩
            · rw [decide_eq_false (show ¬ (b : Int) < (n : Int) by omega)]
              exact ⟨_, rfl, _, rfl, len_le hrp, _, rfl, len_le (app_le (m := 0) (Nat.le_refl 0) hrp), _, rfl, len_le (app_le (n := 100) (app_le (m := 0) (Nat.le_refl 0) hrp) (by decide +kernel)), len_le (app_le (n := 100) (app_le (m := 0) (Nat.le_refl 0) hrp) (by decide +kernel)), by show 1 ≤ sizeLine; decide, bad (fun q => c2 q.2) _ (sH.trans sr)⟩
          · refine iteDF (by omega) ?_
            exact ⟨_, rfl, _, rfl, _, rfl, len_le hrp, _, rfl, len_le (app_le (m := 0) (Nat.le_refl 0) hrp), _, rfl, len_le (app_le (n := 100) (app_le (m := 0) (Nat.le_refl 0) hrp) (by decide +kernel)), len_le (app_le (n := 100) (app_le (m := 0) (Nat.le_refl 0) hrp) (by decide +kernel)), by show 1 ≤ sizeLine; decide, bad (fun q => c1 q.1) _ (sH.trans sr)⟩
    · rw [decide_eq_false (show ¬ V.int (((Txt.split z (Str.ofString "-")).length : Nat) : Int) = V.int 2 from fun q => h2 (by injection q with q; omega))]
      refine iteT ⟨_, rfl, _, rfl, len_le hrp, _, rfl, len_le (app_le (m := 0) (Nat.le_refl 0) hrp), _, rfl, len_le (app_le (n := 10) (app_le (m := 0) (Nat.le_refl 0) hrp) (by decide +kernel)), len_le (app_le (n := 10) (app_le (m := 0) (Nat.le_refl 0) hrp) (by decide +kernel)), by show 1 ≤ sizeLine; decide, ke (fun ⟨t, a1, a2, e⟩ => h2 ?_) H0 s0⟩
      rw [e, split_tie (by omega) (by omega)]; rfl
end
section
variable {P : Program} {w : World} {K : PySem.W.Frag} {mg : Str → Option Value} {base : Heap} {tMOST_PLACES : Tok} {tFIGURES : Tok} {tMOST_FIGURES : Tok} {cNoWeb : Addr} {cNoText : Addr} {cWebError : Addr} {cNoFit : Addr} {cNoName : Addr} {cNoPlace : Addr} {cNoRow : Addr} {cNotClosed : Addr} {cNotOne : Addr} {cTooMany : Addr}
def NoStr (H : Hp) (v : V) : Prop := v = .non ∨ (∃ i, v = .int i) ∨ (∃ b, v = .bl b) ∨ (∃ a xs, v = .ref a ∧ H a = some (.lst xs)) ∨ ∃ a xs, v = .ref a ∧ H a = some (.tup xs)
theorem NoStr.mono {H H' : Hp} {v : V} (s : Same H H') (h : NoStr H v) : NoStr H' v := by
  rcases h with h | h | h | ⟨a, xs, e, h⟩ | ⟨a, xs, e, h⟩
  · exact .inl h
  · exact .inr (.inl h)
  · exact .inr (.inr (.inl h))
  · exact .inr (.inr (.inr (.inl ⟨a, xs, e, s _ _ h⟩)))
  · exact .inr (.inr (.inr (.inr ⟨a, xs, e, s _ _ h⟩)))
theorem kit_s0 : PySem.W.kitOne K (.type "NoneType") (.type "str") = some false := by kernel_rfl
theorem kit_s1 : PySem.W.kitOne K (.type "int") (.type "str") = some false := by kernel_rfl
theorem kit_s2 : PySem.W.kitOne K (.type "bool") (.type "str") = some false := by kernel_rfl
theorem kit_s3 : PySem.W.kitOne K (.type "list") (.type "str") = some false := by kernel_rfl
theorem kit_s4 : PySem.W.kitOne K (.type "tuple") (.type "str") = some false := by kernel_rfl
theorem NoStr.ty {H : Hp} {v : V} (h : NoStr H v) : ∃ t, TyOf K H v t ∧ PySem.W.kitOne K t (.type "str") = some false := by
  rcases h with rfl | ⟨b, rfl⟩ | ⟨y, rfl⟩ | ⟨a, xs, rfl, h⟩ | ⟨a, xs, rfl, h⟩
  · exact ⟨_, .non, kit_s0⟩
  · exact ⟨_, .int b, kit_s1⟩
  · exact ⟨_, .bl y, kit_s2⟩
  · exact ⟨_, .lst h, kit_s3⟩
  · exact ⟨_, .tup h, kit_s4⟩
theorem toI_back {ps : List (Int × Int)} {ts : List (Nat × Nat)} (h : ∀ p ∈ ps, p ∈ ts.map toI) : ps = (ps.map fun p => (p.1.toNat, p.2.toNat)).map toI := by
  rw [List.map_map]
  conv => lhs; rw [← List.map_id ps]
  refine List.map_congr_left fun p hp => ?_
  obtain ⟨t, _, rfl⟩ := List.mem_map.mp (h p hp)
  rfl
theorem toIs_inj : ∀ {us ts : List (Nat × Nat)}, us.map toI = ts.map toI → us = ts
  | [], [], _ => rfl
  | [], _ :: _, h => by simp at h
  | _ :: _, [], h => by simp at h
  | a :: us, b :: ts, h => by
    rw [List.map_cons, List.map_cons] at h
    obtain ⟨h1, h2⟩ := List.cons.inj h
    rw [toI_inj h1, toIs_inj h2]
def spReadX (cN : Addr) : Sp := fun vs H Q E => ∃ v : V, vs = [v] ∧ ((∃ z N, v = .str z ∧ Tx z N 60 ∧ N ≤ 1000000 ∧ (∀ n ts, Wr z n ts → ∀ a H', H a = none → WebAt H' a (webL n ts) → Same H H' → Q (.ref a) H') ∧ ((¬ ∃ n ts, Wr z n ts) → ∀ H', Same H H' → E (.ref cN) none H')) ∨
  (NoStr H v ∧ ∀ H', Same H H' → E (.ref cN) none H'))
theorem Xread_web (T : Txt K mg tMOST_PLACES tFIGURES tMOST_FIGURES cNoWeb cNoText cWebError cNoFit cNoName cNoPlace cNoRow cNotClosed cNotOne cTooMany) : CalleeX P w K mg base 6 "read_web" (spReadX cNoText) := by
  have Xread_many := Xread_many (P := P) (w := w) (base := base) T
  have Xread_tie := Xread_tie (P := P) (w := w) (base := base) T
  have Cweb_of := Cweb_of (P := P) (w := w) (base := base) T
  refine mkCalleeX T.dread_web scread_web (fun _ _ _ _ _ _ us hl => match us, hl with | [_], _ => rfl) (fun vs H Q E h => ?_) (fun f cdv A outer s H vs Q E hr h => ?_)
  · obtain ⟨v, rfl, _⟩ := h; rfl
  · obtain ⟨v, rfl, h⟩ := h
    refine ⟨_, (pss_cons (ps_if (pt_not (pt_val (pe_callB (isiq (K := K) rfl) rfl T.z_isinstance bt_isinstance (pa_cons (pv 0) (pa_cons (pe_bltn (v := .ty "str") rfl T.z_str bt_str rfl) pa_nil sE_Name) sE_Name)))) (pss_one (ps_raise T.q_NoText T.m_NoText rfl (pa_cons pe_str pa_nil sE_Constant))) pss_nil) (pss_cons (ps_set (i := 1) scread_web.nd rfl (by first | exact Or.inl rfl | exact Or.inr rfl) (bm (K := K) rfl PySem.F.plainAttrs_str PySem.F.slot_str_split PySem.F.type_str_split mt_split (pv 0) (pa_cons pe_str pa_nil sE_Constant))) (pss_cons (ps_set (i := 2) scread_web.nd rfl (by first | exact Or.inl rfl | exact Or.inr rfl) (pe_fnx Xread_many hr rfl (pa_cons (pe_ix (ixl (K := K) rfl) (pv 1) pe_int (fun _ _ => rfl)) pa_nil sE_Subscript))) (pss_cons (ps_setLCX rfl (NB := ["word", "many"]) (nt := 1) (fr := [2]) rfl (by kernel_rfl) (i := 3) scread_web.nd rfl rfl (pil (K := K) rfl (pe_slice sl_list (pv 1) (po_some pe_int) po_none)) (fun _ _ _ _ _ => (pg_name (i := 0) (show List.Nodup (["word", "many"] : List Str) by decide +kernel) rfl (by first | exact Or.inl rfl | exact Or.inr rfl))) (fun _ _ _ _ _ => pts_nil) (fun _ _ _ _ _ => (pe_fnxB Xread_tie hr rfl (pa_cons (pv 1) (pa_cons (pv 0) pa_nil sE_Name) sE_Name)))) (pss_cons (ps_if (pt_cmpR (neq (K := K) rfl hr) (pv 3) (pe_sortST (K := K) rfl hr rfl rfl T.z_sorted rfl T.z_set (pa_cons (pv 3) pa_nil sE_Name)) (nomark _)) (pss_one (ps_raise T.q_NoText T.m_NoText rfl (pa_cons pe_str pa_nil sE_Constant))) pss_nil) (pss_one (ps_ret (pe_fn Cweb_of hr rfl (pa_cons (pv 2) (pa_cons (pv 3) pa_nil sE_Name) sE_Name))))))))), ?_⟩
    rcases h with ⟨z, N, rfl, tx, hN, kq, ke⟩ | ⟨hv, ke⟩
    case inr =>
      obtain ⟨t, ty, e⟩ := hv.ty (K := K)
      exact ⟨_, rfl, _, "str", t, false, rfl, ty, e, false, rfl, iteT ⟨by show 1 ≤ sizeLine; decide, ke H (Same.refl H)⟩⟩
    have hz : z.length ≤ 1000000 := Nat.le_trans tx.len hN
    refine ⟨_, rfl, _, "str", .type "str", true, rfl, .str _, kit_str_str, true, rfl, iteF ?_⟩
    refine ⟨_, rfl, rfl, _, _, rfl, rfl, by decide, by rw [sizeLine_eq]; omega, fun l hl0 => ?_⟩
    have hwl := words_len z
    have hws : ∀ p ∈ Txt.split z (Str.ofString " "), p.length ≤ 1000000 := fun p hp => Nat.le_trans (PyProof.Rows.part_short hp) hz
    have hsg : ∀ p ∈ Txt.split z (Str.ofString " "), ∀ d ∈ cs p, d < 16 ^ 8 := fun p hp => word_sgn (y := z) tx.sgn (by rw [← sp_is]; exact hp)
    have hWr : ∀ n ts, Wr z n ts → Txt.split z (Str.ofString " ") = wordsT n ts := fun n ts h => h.words
    have few := tx.few
    have hof : ∀ {n ts}, 1 ≤ n → n ≤ 24 → (∀ t ∈ ts, t.1 < t.2 ∧ t.2 < n) → ts.Pairwise (fun a b => codeP a < codeP b) → Txt.split z (Str.ofString " ") = wordsT n ts → Wr z n ts := fun a b c d e => Wr.of a b c d e
    cases hw : Txt.split z (Str.ofString " ") with
    | nil => exact absurd hw (split_ne z _)
    | cons w0 ws =>
      rw [hw] at hwl hws hsg hWr
      have s0 := Same.new (o := .lst ((w0 :: ws).map V.str)) hl0
      have e0 : upd H l (.lst ((w0 :: ws).map V.str)) l = some (.lst ((w0 :: ws).map V.str)) := upd_same
      generalize upd H l (.lst ((w0 :: ws).map V.str)) = H0 at s0 e0 ⊢
      refine ⟨_, rfl, l, _, _, _, rfl, rfl, SqL.of e0, atI_nat (j := 0) rfl, w0, rfl, hws w0 List.mem_cons_self, fun n h1 h24 en H1 s1 => ?_, fun hno H1 s1 => ke (fun ⟨n, ts, h⟩ => hno ⟨n, h.h1, h.h24, (List.cons.inj (hWr n ts h)).1⟩) H1 (s0.trans s1)⟩
      have e1 := s1 _ _ e0
      refine ⟨_, rfl, _, rfl, l, _, rfl, SqL.of e1, fun p hp0 => ?_⟩
      rw [show (w0 :: ws).map V.str = V.str w0 :: ws.map V.str from rfl, cut1]
      have s2 := Same.new (o := .lst (ws.map V.str)) hp0
      have e2 : upd H1 p (.lst (ws.map V.str)) p = some (.lst (ws.map V.str)) := upd_same
      have s02 := s0.trans (s1.trans s2)
      generalize upd H1 p (.lst (ws.map V.str)) = H2 at s2 e2 s02 ⊢
      have hwn : ∀ m ts, Wr z m ts → m = n ∧ ws = ts.map tieT := fun m ts h => by
        obtain ⟨q1, q2⟩ := List.cons.inj (hWr m ts h)
        exact ⟨head_inj (by have := h.h24; omega) (by omega) (q1.symm.trans en), q2⟩
      rw [List.length_cons] at hwl
      refine ⟨p, rfl, ⟨_, SqL.of e2⟩, lc_list (xs := ws.map V.str) (fun i σ ys H' => (∃ v, σ = [v, some (.int (n : Int))]) ∧ (∃ ts, ws.take i = ts.map tieT ∧ (∀ t ∈ ts, t.1 < t.2 ∧ t.2 < n) ∧ Paired (TieV H') ys ts) ∧ Same H2 H')
        ⟨⟨_, rfl⟩, ⟨[], rfl, fun t ht => by simp at ht, .nil⟩, Same.refl _⟩ (fun i σ ys H' _ q => SqL.of (q.2.2 _ _ e2)) (fun i σ ys H' q => ?_) ?_ ?_⟩
      · obtain ⟨_, ⟨ts, q1, _, q2⟩, _⟩ := q
        have := congrArg List.length q1
        rw [List.length_take, List.length_map] at this
        rw [q2.length]; exact small1000 (by omega)
      · rintro i x σ ys H3 hi ⟨⟨v, rfl⟩, ⟨ts, q1, q2, hp3⟩, s3⟩
        rw [List.getElem?_map] at hi
        cases et : ws[i]? with
        | none => rw [et] at hi; cases hi
        | some y =>
          rw [et] at hi
          cases hi
          have hm := List.mem_cons_of_mem w0 (List.mem_of_getElem? et)
          refine lcN ⟨_, rfl, _, rfl, n, y, rfl, h24, hws y hm, hsg y hm, fun t ht r H4 nr hr4 s4 => ⟨⟨_, rfl⟩, ⟨ts ++ [t], ?_, fun u hu => ?_, ?_⟩, s3.trans s4⟩, fun hno H4 s4 => ke (fun ⟨m, us, h⟩ => ?_) H4 (s02.trans (s3.trans s4))⟩
          · rw [List.take_add_one, et, q1, List.map_append]
            show _ ++ [y] = _ ++ [tieT t]
            rw [ht.2.2]
          · rcases List.mem_append.mp hu with hu | hu
            · exact q2 u hu
            · have : u = t := by simpa using hu
              subst this
              exact ⟨ht.1, ht.2.1⟩
          · exact paired_append (paired_mono (fun _ _ => TieV.mono s4) hp3) (.cons ⟨r, rfl, hr4⟩ .nil)
          · obtain ⟨rfl, ew⟩ := hwn m us h
            rw [ew, List.getElem?_map] at et
            cases eu : us[i]? with
            | none => rw [eu] at et; cases et
            | some t =>
              rw [eu] at et
              have := h.lt t (List.mem_of_getElem? eu)
              exact hno ⟨t, this.1, this.2, (Option.some.inj et).symm⟩
      · rintro σ ys H3 ⟨_, ⟨ts, q1, q2, hp3⟩, s3⟩ D hD
        rw [List.length_map, List.take_length] at q1
        have sD := Same.new (o := .lst ys) hD
        have eD : upd H3 D (.lst ys) D = some (.lst ys) := upd_same
        have hpD := paired_mono (fun _ _ => TieV.mono sD) hp3
        have s03 := s02.trans (s3.trans sD)
        generalize upd H3 D (.lst ys) = H4 at sD eD hpD s03 ⊢
        obtain ⟨rs, rfl, hrs⟩ := refs_of hpD
        have h100 : ∀ t ∈ ts, t.1 < 100 ∧ t.2 < 100 := fun t ht => by have := q2 t ht; omega
        have hrl : rs.length = ts.length := by have := hrs.length; rw [List.length_map] at this; exact this
        have hlen : ts.length ≤ 60 := by have := congrArg List.length q1; rw [List.length_map] at this; omega
        refine ⟨_, rfl, _, rfl, D, rs, ts.map toI, 100, rfl, SqL.of eD, by omega, paired_mono (fun _ _ q => SqT.of q) hrs, fun t ht => ?_, fun l2 qs ps hq hpw hm hl2 => ?_⟩
        · obtain ⟨u, hu, rfl⟩ := List.mem_map.mp ht
          have := h100 u hu
          unfold toI
          dsimp only
          omega
        · have s5 := Same.new (o := .lst (qs.map V.ref)) hl2
          have t1 : TiesAt (upd H4 l2 (.lst (qs.map V.ref))) D ts := TiesAt.mono s5 ⟨_, eD, hpD⟩
          have eps := toI_back fun q hq => (hm q).mp hq
          generalize (ps.map fun p => (p.1.toNat, p.2.toNat)) = us at eps
          subst eps
          have t2 : TiesAt (upd H4 l2 (.lst (qs.map V.ref))) l2 us := by
            refine ⟨_, upd_same, paired_back (fun q t hqt => ?_) hq⟩
            obtain ⟨i, e1, e2⟩ := hqt
            obtain ⟨u, eu, hu⟩ := paired_of hrs i q e1
            rw [e2] at eu
            cases eu
            exact ⟨q, rfl, s5 _ _ hu⟩
          have s6 := s03.trans s5
          by_cases hasc : ts.Pairwise fun a b => codeP a < codeP b
          · have eus : us = ts := by
              have := sorted_same (fun t ht => (h100 t ht).2) hasc hpw hm
              exact toIs_inj this
            subst eus
            have W := hof h1 h24 q2 hasc (by rw [hw, en, q1]; rfl)
            exact ⟨true, topQ_ties t1 t2, false, rfl, iteF ⟨_, rfl, _, rfl, n, D, us, rfl, h1, h24, t1, W.ok, fun a H' na hwb s7 => kq n us W a H' (s6.free na) hwb (s6.trans s7)⟩⟩
          · refine ⟨false, topQ_tiesN t1 t2 (fun e => hasc ?_), true, rfl, iteT ⟨by show 1 ≤ sizeLine; decide, ke (fun ⟨m, vs, h⟩ => ?_) _ s6⟩⟩
            · rw [e]
              rw [List.pairwise_map] at hpw
              refine List.Pairwise.imp_of_mem ?_ hpw
              intro a b ha hb h
              have a2 := (hm (toI a)).mp (List.mem_map.mpr ⟨a, ha, rfl⟩)
              have b2 := (hm (toI b)).mp (List.mem_map.mpr ⟨b, hb, rfl⟩)
              obtain ⟨a', ha', ea⟩ := List.mem_map.mp a2
              obtain ⟨b', hb', eb⟩ := List.mem_map.mp b2
              rw [toI_inj ea] at ha'
              rw [toI_inj eb] at hb'
              have := h100 a ha'
              have := h100 b hb'
              unfold lexL toI at h
              unfold codeP
              dsimp only at h
              omega
            · obtain ⟨rfl, ew⟩ := hwn m vs h
              have := ties_inj h100 h.small (q1.symm.trans ew)
              subst this
              exact hasc h.asc
end
section
variable {P : Program} {w : World} {K : PySem.W.Frag} {mg : Str → Option Value} {base : Heap} {tMOST_PLACES : Tok} {tFIGURES : Tok} {tMOST_FIGURES : Tok} {cNoWeb : Addr} {cNoText : Addr} {cWebError : Addr} {cNoFit : Addr} {cNoName : Addr} {cNoPlace : Addr} {cNoRow : Addr} {cNotClosed : Addr} {cNotOne : Addr} {cTooMany : Addr}
def valN (z : Str) : Nat := ((PySem.intText? z).getD 0).toNat
def numV (z : Str) : V := if isNum 2 z = true then .int (valN z : Int) else .non
theorem valN_num {n : Nat} (h : n < 100) : valN (num n) = n := by unfold valN; rw [num_int h]; simp
theorem numV_num {n : Nat} (h : n < 100) : numV (num n) = .int (n : Int) := by unfold numV; rw [if_pos (num_ok h).1, valN_num h]
theorem numV_no {z : Str} (h : isNum 2 z = false) : numV z = .non := by unfold numV; rw [h]; rfl
theorem em_is : Str.ofString "" = ⟨#[]⟩ := by decide +kernel
def spNumL : Sp := fun vs H Q _ => ∃ z : Str, vs = [.str z] ∧ z.length ≤ 1000000 ∧ ∀ H', Same H H' → Q (numV z) H'
theorem C_law_number (T : Txt K mg tMOST_PLACES tFIGURES tMOST_FIGURES cNoWeb cNoText cWebError cNoFit cNoName cNoPlace cNoRow cNotClosed cNotOne cTooMany) : Callee P w K mg base 1 "_law_number" ["_law_word"] spNumL := by
  refine mkCallee T.d_law_number sc_law_number (fun _ _ _ _ _ _ us hl => match us, hl with | [_], _ => rfl) (fun vs H Q E h => ?_) (fun f cdv A outer s H vs Q E hr h => ?_)
  · obtain ⟨z, rfl, _⟩ := h; rfl
  · obtain ⟨z, rfl, hz, k⟩ := h
    refine ⟨_, (pss_cons (ps_if (PW.pt (pw_or (pt_cmpR op_eq (pv 0) pe_str (nomark _)) (pw_or (pt_cmpR op_gt (pe_callB (lenSq (K := K) rfl) rfl T.z_len bt_len (pa_cons (pv 0) pa_nil sE_Name)) pe_int (nomark _)) (pw_or1 (pt_cmpR (neq (K := K) rfl hr) (pe_lc (NB := ["_law_sign"]) (nt := 1) (fr := []) rfl (by kernel_rfl) (pis (K := K) rfl (pv 0)) (fun _ _ _ _ _ => (pg_name (i := 0) (show List.Nodup (["_law_sign"] : List Str) by decide +kernel) rfl (by first | exact Or.inl rfl | exact Or.inr rfl))) (fun _ _ _ _ _ => (pts_one (pt_cmpR op_notIn_str (pv 0) pe_str rfl))) (fun _ _ _ _ _ => (pv 0))) (pe_lst pa_nil) (nomark _)))))) (pss_one (ps_ret pe_non)) pss_nil) (pss_cons (ps_if (PW.pt (pw_and (pt_cmpR op_eq (pe_ix (ixs (K := K) rfl) (pv 0) pe_int (fun _ _ => rfl)) pe_str (nomark _)) (pw_and1 (pt_cmpR op_ne (pv 0) pe_str (nomark _))))) (pss_one (ps_ret pe_non)) pss_nil) (pss_one (ps_ret (pe_callTy (intTq (K := K) rfl) rfl T.z_int bt_int (pa_cons (pv 0) pa_nil sE_Name)))))), ?_⟩
    have kN : isNum 2 z = false → ∀ H', Same H H' → Q .non H' := fun e H' s' => by have := k H' s'; rw [numV_no e] at this; exact this
    refine ⟨_, rfl, rfl, _, rfl, ?_⟩
    rw [dec_cs, em_is]
    show if (cs z == []) = true then _ else _
    cases h0 : (cs z == []) with
    | true =>
      have e : cs z = [] := by simpa using h0
      exact iteT (kN (by unfold isNum; rw [← cs_len, e]; rfl) H (Same.refl H))
    | false =>
      have h1 : 1 ≤ z.length := by
        rw [← cs_len]
        cases e : cs z with
        | nil => rw [e] at h0; cases h0
        | cons a l => simp
      refine iteF ⟨_, rfl, _, rfl, len_le hz, _, _, rfl, rfl, _, rfl, ?_⟩
      by_cases h2 : z.length ≤ 2
      · refine iteDF (by omega) ?_
        refine ⟨_, rfl, z, rfl, lc_text (fun i σ ys H' => (∃ v, σ = [v]) ∧ H' = H ∧ i ≤ 2 ∧ ys = (((cs z).take i).filter fun c => !decide (c ∈ figs)).map fun c => V.str ⟨#[c]⟩) ⟨⟨_, rfl⟩, rfl, Nat.zero_le _, rfl⟩ (fun i σ ys H' q => ?_) ?_ ?_⟩
        · rw [q.2.2.2, List.length_map]
          refine small1000 (Nat.le_trans (List.length_filter_le _ _) ?_)
          rw [List.length_take]; have := q.2.2.1; omega
        · rintro i c σ ys H' hc ⟨⟨v, rfl⟩, rfl, _, rfl⟩
          have hlt : i < (cs z).length := (List.getElem?_eq_some_iff.mp hc).1
          rw [cs_len] at hlt
          refine ⟨_, rfl, _, _, rfl, rfl, _, rfl, ?_⟩
          rw [in_figs, filter_take_succ (show (cs z)[i]? = some c from hc)]
          cases hd : decide (c ∈ figs) with
          | true => exact iteF ⟨⟨_, rfl⟩, rfl, by omega, by simp⟩
          | false => exact iteT ⟨_, rfl, ⟨_, rfl⟩, rfl, by omega, by simp⟩
        · rintro σ ys H' ⟨_, rfl, _, rfl⟩ D hD
          rw [← cs_len, List.take_length]
          have sD := Same.new (o := .lst (((cs z).filter fun c => !decide (c ∈ figs)).map fun c => V.str ⟨#[c]⟩)) hD
          have eD : upd H' D (.lst (((cs z).filter fun c => !decide (c ∈ figs)).map fun c => V.str ⟨#[c]⟩)) D = _ := upd_same
          generalize upd H' D (.lst (((cs z).filter fun c => !decide (c ∈ figs)).map fun c => V.str ⟨#[c]⟩)) = H1 at sD eD ⊢
          refine ⟨by show 0 ≤ sizeLine; decide, fun l2 hl2 => ?_⟩
          have s2 := sD.trans (Same.new (o := .lst []) hl2)
          have eD2 := Same.new (o := .lst []) hl2 _ _ eD
          have e2 : upd H1 l2 (.lst []) l2 = some (.lst []) := upd_same
          generalize upd H1 l2 (.lst []) = H2 at s2 eD2 e2 ⊢
          cases hall : (cs z).all fun c => decide (c ∈ figs) with
          | false =>
            have hne : (((cs z).filter fun c => !decide (c ∈ figs)).map fun c => V.str ⟨#[c]⟩).length ≠ ([] : List V).length := by
              rw [List.length_map]
              intro q
              have q2 := List.eq_nil_of_length_eq_zero q
              have : (cs z).all (fun c => decide (c ∈ figs)) = true := by
                rw [List.all_eq_true]
                intro c hc
                have := List.filter_eq_nil_iff.mp q2 c hc
                simpa using this
              rw [this] at hall
              cases hall
            exact ⟨false, .lstsN (SqL.of eD2) (SqL.of e2) hne, true, rfl, iteT (kN (by unfold isNum; rw [hall]; simp) H2 s2)⟩
          | true =>
            have hnil : ((cs z).filter fun c => !decide (c ∈ figs)) = [] := by
              rw [List.filter_eq_nil_iff]
              intro c hc
              have := List.all_eq_true.mp hall c hc
              simp [this] at *
            rw [hnil] at eD2
            have tq : TopQ K H2 (.ref D) (.ref l2) true := TopQ.lsts (n := 0) (e := fun _ => true) (by decide) (SqL.of eD2) (SqL.of e2) rfl fun j x y hx => by simp at hx
            refine ⟨true, tq, false, rfl, iteF ?_⟩
            obtain ⟨c, hc, hd⟩ := head_at h1
            refine ⟨_, rfl, _, _, c, rfl, rfl, len_le hz, hc, rfl, _, rfl, ?_⟩
            rw [no_is, dec_one]
            have good : (((cs z).head? == some 48) && !(cs z == [48])) = false → Q (numV z) H2 ∧ ∃ n, n < 100 ∧ z = num n := fun e => ⟨k H2 s2, num_of (by unfold isNum; rw [hall, e]; simp [h1, h2])⟩
            by_cases h3 : c = 48
            · refine iteDT h3 ⟨_, rfl, rfl, _, rfl, ?_⟩
              rw [dec_cs]
              show if (!(cs z == [48])) = true then _ else _
              cases h4 : (cs z == [48]) with
              | true =>
                obtain ⟨g, n, hn, rfl⟩ := good (by rw [h4]; simp)
                rw [numV_num hn] at g
                exact iteF ⟨_, rfl, num n, _, rfl, num_int hn, by omega, g⟩
              | false => exact iteT (kN (by unfold isNum; rw [h4, hd, h3]; simp) H2 s2)
            · obtain ⟨g, n, hn, rfl⟩ := good (by rw [hd]; simp [h3])
              rw [numV_num hn] at g
              exact iteDF h3 (iteF ⟨_, rfl, num n, _, rfl, num_int hn, by omega, g⟩)
      · exact iteDT (by omega) (kN (by unfold isNum; simp [h2]) H (Same.refl H))
def spTieL : Sp := fun vs H Q _ => ∃ (n : Nat) (z : Str), vs = [.str z, .int (n : Int)] ∧ n ≤ 24 ∧ z.length ≤ 1000000 ∧
  (∀ t, IsTie n z t → ∀ r H', H r = none → H' r = some (.tup [.int (t.1 : Int), .int (t.2 : Int)]) → Same H H' → Q (.ref r) H') ∧ ((¬ ∃ t, IsTie n z t) → ∀ H', Same H H' → Q .non H')
theorem in_none (x y : Str) : inV V.non [numV x, numV y] = !(isNum 2 x && isNum 2 y) := by
  unfold numV
  cases isNum 2 x <;> cases isNum 2 y <;> rfl
theorem numV_flat (z : Str) : flatV (numV z) = true := by unfold numV; split <;> rfl
theorem C_law_tie (T : Txt K mg tMOST_PLACES tFIGURES tMOST_FIGURES cNoWeb cNoText cWebError cNoFit cNoName cNoPlace cNoRow cNotClosed cNotOne cTooMany) : Callee P w K mg base 2 "_law_tie" ["_law_word", "_law_many"] spTieL := by
  have C_law_number := C_law_number (P := P) (w := w) (base := base) T
  refine mkCallee T.d_law_tie sc_law_tie (fun _ _ _ _ _ _ us hl => match us, hl with | [_, _], _ => rfl) (fun vs H Q E h => ?_) (fun f cdv A outer s H vs Q E hr h => ?_)
  · obtain ⟨n, t, rfl, _⟩ := h; rfl
  · obtain ⟨n, z, rfl, h24, hz, kq, ke⟩ := h
    refine ⟨_, (pss_cons (ps_setLC (NB := ["_law_part"]) (nt := 1) (fr := []) rfl (by kernel_rfl) (i := 2) sc_law_tie.nd rfl rfl (pil (K := K) rfl (bm (K := K) rfl PySem.F.plainAttrs_str PySem.F.slot_str_split PySem.F.type_str_split mt_split (pv 0) (pa_cons pe_str pa_nil sE_Constant))) (fun _ _ _ _ _ => (pg_name (i := 0) (show List.Nodup (["_law_part"] : List Str) by decide +kernel) rfl (by first | exact Or.inl rfl | exact Or.inr rfl))) (fun _ _ _ _ _ => pts_nil) (fun _ _ _ _ _ => (pe_fn C_law_number hr rfl (pa_cons (pv 0) pa_nil sE_Name)))) (pss_cons (ps_if (PW.pt (pw_or (pt_cmpR op_ne (pe_callB (lenq (K := K) rfl) rfl T.z_len bt_len (pa_cons (pv 2) pa_nil sE_Name)) pe_int (nomark _)) (pw_or (pt_cmpR (inq (K := K) rfl) pe_non (pv 2) rfl) (pw_or1 (pt_not (pt_chain op_lt op_lt (pe_ix (ixl (K := K) rfl) (pv 2) pe_int (fun _ _ => rfl)) (pe_ix (ixl (K := K) rfl) (pv 2) pe_int (fun _ _ => rfl)) (pv 1))))))) (pss_one (ps_ret pe_non)) pss_nil) (pss_one (ps_ret (pe_tup (pa_cons (pe_ix (ixl (K := K) rfl) (pv 2) pe_int (fun _ _ => rfl)) (pa_cons (pe_ix (ixl (K := K) rfl) (pv 2) pe_int (fun _ _ => rfl)) pa_nil sE_Subscript) sE_Subscript)))))), ?_⟩
    refine ⟨_, rfl, rfl, _, _, rfl, rfl, by decide, by rw [sizeLine_eq]; omega, fun l hl0 => ?_⟩
    have s0 := Same.new (o := .lst ((Txt.split z (Str.ofString "-")).map V.str)) hl0
    have e0 : upd H l (.lst ((Txt.split z (Str.ofString "-")).map V.str)) l = some (.lst ((Txt.split z (Str.ofString "-")).map V.str)) := upd_same
    generalize upd H l (.lst ((Txt.split z (Str.ofString "-")).map V.str)) = H0 at s0 e0 ⊢
    have hpl : (Txt.split z (Str.ofString "-")).length ≤ 1000002 := Nat.le_trans (split_len z _) (by omega)
    have hps : ∀ p ∈ Txt.split z (Str.ofString "-"), p.length ≤ 1000000 := fun p hp => Nat.le_trans (PyProof.Rows.part_short hp) hz
    refine ⟨l, rfl, ⟨_, SqL.of e0⟩, lc_list (xs := (Txt.split z (Str.ofString "-")).map V.str) (fun i σ ys H' => (∃ v, σ = [v]) ∧ ys = ((Txt.split z (Str.ofString "-")).take i).map numV ∧ Same H0 H')
      ⟨⟨_, rfl⟩, rfl, Same.refl _⟩ (fun i σ ys H' _ q => SqL.of (q.2.2 _ _ e0)) (fun i σ ys H' q => ?_) ?_ ?_⟩
    · rw [q.2.1, List.length_map, List.length_take, sizeLine_eq]; omega
    · rintro i x σ ys H1 hi ⟨⟨v, rfl⟩, rfl, s1⟩
      rw [List.getElem?_map] at hi
      cases ep : (Txt.split z (Str.ofString "-"))[i]? with
      | none => rw [ep] at hi; cases hi
      | some p =>
        rw [ep] at hi
        cases hi
        refine lcN ⟨_, rfl, p, rfl, hps p (List.mem_of_getElem? ep), fun H2 s2 => ⟨⟨_, rfl⟩, ?_, s1.trans s2⟩⟩
        rw [List.take_add_one, ep, List.map_append]; rfl
    · rintro σ ys H1 ⟨_, rfl, s1⟩ D hD
      rw [List.length_map, List.take_length]
      have sD := Same.new (o := .lst ((Txt.split z (Str.ofString "-")).map numV)) hD
      have eD : upd H1 D (.lst ((Txt.split z (Str.ofString "-")).map numV)) D = _ := upd_same
      have sH := s0.trans (s1.trans sD)
      generalize upd H1 D (.lst ((Txt.split z (Str.ofString "-")).map numV)) = H2 at eD sH ⊢
      refine ⟨_, rfl, D, _, rfl, .inl (SqL.of eD), rfl, _, rfl, ?_⟩
      rw [List.length_map]
      by_cases h2 : (Txt.split z (Str.ofString "-")).length = 2
      · rw [decide_eq_true (show V.int (((Txt.split z (Str.ofString "-")).length : Nat) : Int) = V.int 2 by rw [h2]; rfl)]
        obtain ⟨x, y, exy⟩ := two_of h2
        rw [exy] at eD
        refine iteF ⟨_, rfl, D, _, rfl, .inl (SqL.of eD), rfl, ?_, _, rfl, ?_⟩
        · show (flatV (numV x) && (flatV (numV y) && true)) = true
          rw [numV_flat, numV_flat]; rfl
        have bad : (isNum 2 x && isNum 2 y) = false → ∀ H', Same H H' → Q .non H' := fun e => ke fun ⟨t, a1, a2, ez⟩ => by
          rw [ez, split_tie (by omega) (by omega)] at exy
          injection exy with q1 q2
          injection q2 with q2
          rw [← q1, ← q2, (num_ok (show t.1 < 100 by omega)).1, (num_ok (show t.2 < 100 by omega)).1] at e
          cases e
        show if inV V.non [numV x, numV y] = true then _ else _
        rw [in_none]
        cases hxy : (isNum 2 x && isNum 2 y) with
        | false => exact iteT (bad hxy H2 sH)
        | true =>
            rw [Bool.and_eq_true] at hxy
            obtain ⟨a, b, ha, hb, rfl, rfl, rfl⟩ := tie_of exy hxy.1 hxy.2
            refine iteF ?_
            rw [show [num a, num b].map numV = [V.int (a : Int), V.int (b : Int)] by rw [List.map_cons, List.map_cons, numV_num ha, numV_num hb]; rfl] at eD
            have bad2 : ¬ (a < b ∧ b < n) → ∀ H', Same H H' → Q .non H' := fun hno => ke fun ⟨t, a1, a2, e⟩ => hno (by have := tie_inj ⟨ha, hb⟩ ⟨show t.1 < 100 by omega, show t.2 < 100 by omega⟩ e; rw [← this] at a1 a2; exact ⟨a1, a2⟩)
            refine ⟨_, rfl, D, _, _, _, rfl, rfl, SqL.of eD, rfl, _, rfl, D, _, _, _, rfl, rfl, SqL.of eD, rfl, _, _, rfl, rfl, _, rfl, ?_⟩
            by_cases c1 : a < b
            · refine iteDT (by omega) ⟨_, rfl, _, _, rfl, rfl, _, rfl, ?_⟩
              by_cases c2 : b < n
              · rw [decide_eq_true (show (b : Int) < (n : Int) by omega)]
                refine ⟨_, rfl, D, _, _, _, rfl, rfl, SqL.of eD, rfl, _, rfl, D, _, _, _, rfl, rfl, SqL.of eD, rfl, by show 2 ≤ sizeLine; decide, fun r hr0 => ?_⟩
                exact kq (a, b) ⟨c1, c2, rfl⟩ r _ (sH.free hr0) upd_same (sH.trans (Same.new hr0))
              · rw [decide_eq_false (show ¬ (b : Int) < (n : Int) by omega)]
                exact bad2 (fun q => c2 q.2) H2 sH
            · refine iteDF (by omega) ⟨_, rfl, ?_⟩
              exact bad2 (fun q => c1 q.1) H2 sH
      · rw [decide_eq_false (show ¬ V.int (((Txt.split z (Str.ofString "-")).length : Nat) : Int) = V.int 2 from fun q => h2 (by injection q with q; omega))]
        refine iteT (ke (fun ⟨t, a1, a2, e⟩ => h2 ?_) H2 sH)
        rw [e, split_tie (by omega) (by omega)]; rfl
end
section
variable {P : Program} {w : World} {K : PySem.W.Frag} {mg : Str → Option Value} {base : Heap} {tMOST_PLACES : Tok} {tFIGURES : Tok} {tMOST_FIGURES : Tok} {cNoWeb : Addr} {cNoText : Addr} {cWebError : Addr} {cNoFit : Addr} {cNoName : Addr} {cNoPlace : Addr} {cNoRow : Addr} {cNotClosed : Addr} {cNotOne : Addr} {cTooMany : Addr}
theorem last_is (x : Str) : decide (V.str (Txt.slice x (some (-1)) none) = V.str (Str.ofString ":")) = Txt.endswith x (Str.ofString ":") := by
  rw [dec_cs, co_is, ends_of]
  by_cases h : x.length = 0
  · have e1 : cs x = [] := List.eq_nil_of_length_eq_zero (by rw [cs_len]; exact h)
    have e2 : cs (Txt.slice x (some (-1)) none) = [] := List.eq_nil_of_length_eq_zero (by rw [cs_len]; have := Txt.slice_le x (some (-1)) none; omega)
    rw [e1, e2]; rfl
  · have e := StrLaws.sliceText_from_neg (x := x) (i := -1) (by decide) (by omega)
    have e2 : cs (Txt.slice x (some (-1)) none) = ((cs x).drop (x.length - 1)).take 1 := by
      show cs (StrLaws.sliceText _ _ _) = _
      rw [e, cs_mk]
      show List.take _ (List.drop _ (cs x)) = _
      rw [show x.cps.toList.length = x.length from cs_len x, show ((-1 : Int) + (x.length : Int)).toNat = x.length - 1 by omega, show ((x.length : Int) - (-1 + (x.length : Int))).toNat = 1 by omega]
    have hl : x.length - 1 < (cs x).length := by rw [cs_len]; omega
    rw [e2, List.drop_eq_getElem_cons hl, List.take_succ_cons, List.take_zero, List.getLast?_eq_getElem?, cs_len, List.getElem?_eq_getElem hl]
    show ([(cs x)[x.length - 1]] == [58]) = _
    rw [Bool.eq_iff_iff, beq_iff_eq, decide_eq_true_eq]
    simp
def RelT (n : Nat) (H : Hp) (v : V) (y : Str) : Prop := (∃ t, IsTie n y t ∧ TieV H v t) ∨ ((¬ ∃ t, IsTie n y t) ∧ v = .non)
theorem RelT.mono {n : Nat} {H H' : Hp} (s : Same H H') {v : V} {y : Str} (h : RelT n H v y) : RelT n H' v y := by
  rcases h with ⟨t, a, b⟩ | h
  · exact .inl ⟨t, a, b.mono s⟩
  · exact .inr h
theorem rel_all {n : Nat} {H : Hp} {ys : List V} {ws : List Str} (h : Paired (RelT n H) ys ws) (hn : ys.any noneV = false) : ∃ ts, ws = ts.map tieT ∧ (∀ t ∈ ts, t.1 < t.2 ∧ t.2 < n) ∧ Paired (TieV H) ys ts := by
  induction h with
  | nil => exact ⟨[], rfl, fun t ht => by simp at ht, .nil⟩
  | cons r _ ih =>
    rw [List.any_cons, Bool.or_eq_false_iff] at hn
    obtain ⟨ts, e, l, q⟩ := ih hn.2
    rcases r with ⟨t, ⟨a1, a2, a3⟩, b⟩ | ⟨_, rfl⟩
    · refine ⟨t :: ts, by rw [List.map_cons, e, a3], fun u hu => ?_, .cons b q⟩
      rcases List.mem_cons.mp hu with rfl | hu
      · exact ⟨a1, a2⟩
      · exact l u hu
    · cases hn.1
theorem rel_bad {n : Nat} {H : Hp} {ys : List V} {ws : List Str} (h : Paired (RelT n H) ys ws) (hn : ys.any noneV = true) : ∃ y ∈ ws, ¬ ∃ t, IsTie n y t := by
  induction h with
  | nil => cases hn
  | cons r _ ih =>
    rw [List.any_cons, Bool.or_eq_true] at hn
    rcases hn with hn | hn
    · rcases r with ⟨t, _, a, rfl, _⟩ | ⟨b, _⟩
      · cases hn
      · exact ⟨_, List.mem_cons_self, b⟩
    · obtain ⟨y, hy, b⟩ := ih hn
      exact ⟨y, List.mem_cons_of_mem _ hy, b⟩
theorem rel_vs {n : Nat} {H : Hp} {ys : List V} {ws : List Str} (h : Paired (RelT n H) ys ws) : ∀ v ∈ ys, v = .non ∨ ∃ a zs, v = .ref a ∧ SqT K H a zs := by
  induction h with
  | nil => intro v hv; cases hv
  | cons r _ ih =>
    intro v hv
    rcases List.mem_cons.mp hv with rfl | hv
    · rcases r with ⟨t, _, a, rfl, ha⟩ | ⟨_, rfl⟩
      · exact .inr ⟨a, _, rfl, SqT.of ha⟩
      · exact .inl rfl
    · exact ih v hv
theorem asc_next {ts : List (Nat × Nat)} (h : ∀ i t u, ts[i]? = some t → ts[i + 1]? = some u → codeP t < codeP u) : ts.Pairwise fun a b => codeP a < codeP b := by
  rw [List.pairwise_iff_getElem]
  intro i j hi hj hij
  induction j with
  | zero => omega
  | succ j ih =>
    have q := h j ts[j] ts[j + 1] (List.getElem?_eq_getElem (by omega)) (List.getElem?_eq_getElem hj)
    by_cases e : i = j
    · subst e; exact q
    · exact Int.lt_trans (ih (by omega) (by omega)) q
theorem lex_code {t u : Nat × Nat} (ht : t.2 < 100) (hu : u.2 < 100) : HT.lexLt [(t.1 : Int), (t.2 : Int)] [(u.1 : Int), (u.2 : Int)] = decide (codeP t < codeP u) := by
  rw [HT.lexLt_cons, HT.lexLt_cons, HT.lexLt_nil_nil]
  unfold codeP
  by_cases a : (t.1 : Int) = (u.1 : Int)
  · rw [if_pos a]
    by_cases b : (t.2 : Int) = (u.2 : Int)
    · rw [if_pos b, decide_eq_false (by omega)]
    · rw [if_neg b]; by_cases c : (t.2 : Int) < (u.2 : Int)
      · rw [decide_eq_true c, decide_eq_true (by omega)]
      · rw [decide_eq_false c, decide_eq_false (by omega)]
  · rw [if_neg a]; by_cases c : (t.1 : Int) < (u.1 : Int)
    · rw [decide_eq_true c, decide_eq_true (by omega)]
    · rw [decide_eq_false c, decide_eq_false (by omega)]
def dips (ts : List (Nat × Nat)) (i : Nat) : List Int := ((List.range i).filter fun j => !decide (codeP (ts.getD j (0, 0)) < codeP (ts.getD (j + 1) (0, 0)))).map fun j : Nat => (1 : Int) + j
theorem dips_asc {ts : List (Nat × Nat)} : dips ts (ts.length - 1) = [] ↔ ts.Pairwise fun a b => codeP a < codeP b := by
  unfold dips
  rw [List.map_eq_nil_iff, List.filter_eq_nil_iff]
  constructor
  · intro h
    refine asc_next fun i t u e1 e2 => ?_
    have hi : i + 1 < ts.length := (List.getElem?_eq_some_iff.mp e2).1
    have := h i (List.mem_range.mpr (by omega))
    rw [List.getD_eq_getElem?_getD, List.getD_eq_getElem?_getD, e1, e2] at this
    simpa using this
  · intro h i hi
    have hi' := List.mem_range.mp hi
    have q := List.pairwise_iff_getElem.mp h i (i + 1) (by omega) (by omega) (by omega)
    rw [List.getD_eq_getElem?_getD, List.getD_eq_getElem?_getD, List.getElem?_eq_getElem (show i < ts.length by omega), List.getElem?_eq_getElem (show i + 1 < ts.length by omega)]
    simpa using q
def spWrites : Sp := fun vs H Q _ => ∃ v : V, vs = [v] ∧ ((∃ z N, v = .str z ∧ Tx z N 60 ∧ N ≤ 1000000 ∧ (∀ n ts, Wr z n ts → ∀ d l H', H d = none → H' d = some (.tup [.int (n : Int), .ref l]) → TiesAt H' l ts → Same H H' → Q (.ref d) H') ∧ ((¬ ∃ n ts, Wr z n ts) → ∀ H', Same H H' → Q .non H')) ∨
  (NoStr H v ∧ ∀ H', Same H H' → Q .non H'))
theorem C_law_writes (T : Txt K mg tMOST_PLACES tFIGURES tMOST_FIGURES cNoWeb cNoText cWebError cNoFit cNoName cNoPlace cNoRow cNotClosed cNotOne cTooMany) : Callee P w K mg base 3 "_law_writes" ["_law_text"] spWrites := by
  have C_law_number := C_law_number (P := P) (w := w) (base := base) T
  have C_law_tie := C_law_tie (P := P) (w := w) (base := base) T
  refine mkCallee T.d_law_writes sc_law_writes (fun _ _ _ _ _ _ us hl => match us, hl with | [_], _ => rfl) (fun vs H Q E h => ?_) (fun f cdv A outer s H vs Q E hr h => ?_)
  · obtain ⟨v, rfl, _⟩ := h; rfl
  · obtain ⟨v, rfl, h⟩ := h
    refine ⟨_, (pss_cons (ps_if (pt_not (pt_val (pe_callB (isiq (K := K) rfl) rfl T.z_isinstance bt_isinstance (pa_cons (pv 0) (pa_cons (pe_bltn (v := .ty "str") rfl T.z_str bt_str rfl) pa_nil sE_Name) sE_Name)))) (pss_one (ps_ret pe_non)) pss_nil) (pss_cons (ps_set (i := 1) sc_law_writes.nd rfl (by first | exact Or.inl rfl | exact Or.inr rfl) (bm (K := K) rfl PySem.F.plainAttrs_str PySem.F.slot_str_split PySem.F.type_str_split mt_split (pv 0) (pa_cons pe_str pa_nil sE_Constant))) (pss_cons (ps_if (pt_cmpR op_ne (pe_slice sl_str (pe_ix (ixl (K := K) rfl) (pv 1) pe_int (fun _ _ => rfl)) (po_some pe_neg) po_none) pe_str (nomark _)) (pss_one (ps_ret pe_non)) pss_nil) (pss_cons (ps_set (i := 2) sc_law_writes.nd rfl (by first | exact Or.inl rfl | exact Or.inr rfl) (pe_fn C_law_number hr rfl (pa_cons (pe_slice sl_str (pe_ix (ixl (K := K) rfl) (pv 1) pe_int (fun _ _ => rfl)) po_none (po_some pe_neg)) pa_nil sE_Subscript))) (pss_cons (ps_if (PW.pt (pw_or (pt_cmpR op_isN (pv 2) pe_non (nomark _)) (pw_or1 (pt_not (pt_chain op_le op_le pe_int (pv 2) pe_int))))) (pss_one (ps_ret pe_non)) pss_nil) (pss_cons (ps_set (i := 3) sc_law_writes.nd rfl (by first | exact Or.inl rfl | exact Or.inr rfl) (pe_lc (NB := ["_law_word", "_law_many"]) (nt := 1) (fr := [2]) rfl (by kernel_rfl) (pil (K := K) rfl (pe_slice sl_list (pv 1) (po_some pe_int) po_none)) (fun _ _ _ _ _ => (pg_name (i := 0) (show List.Nodup (["_law_word", "_law_many"] : List Str) by decide +kernel) rfl (by first | exact Or.inl rfl | exact Or.inr rfl))) (fun _ _ _ _ _ => pts_nil) (fun _ _ _ _ _ => (pe_fn C_law_tie hr rfl (pa_cons (pv 0) (pa_cons (pv 1) pa_nil sE_Name) sE_Name))))) (pss_cons (ps_if (PW.pt (pw_or (pt_cmpR (inN (K := K) rfl hr) pe_non (pv 3) rfl) (pw_or1 (pt_cmpR (neI (K := K) rfl hr) (pe_lc (NB := ["_law_k", "_law_ties"]) (nt := 1) (fr := [3]) rfl (by kernel_rfl) (pi_range2 rfl T.z_range (pa_cons pe_int (pa_cons (pe_callB (lenq (K := K) rfl) rfl T.z_len bt_len (pa_cons (pv 3) pa_nil sE_Name)) pa_nil sE_Call) sE_Constant)) (fun _ _ _ _ _ => (pg_name (i := 0) (show List.Nodup (["_law_k", "_law_ties"] : List Str) by decide +kernel) rfl (by first | exact Or.inl rfl | exact Or.inr rfl))) (fun _ _ _ _ _ => (pts_one (pt_cmpR (geT (K := K) rfl hr) (pe_ix (ixl (K := K) rfl) (pv 1) (pe_op op_sub (pv 0) pe_int) (fun _ _ => rfl)) (pe_ix (ixl (K := K) rfl) (pv 1) (pv 0) (fun _ _ => rfl)) (nomark _)))) (fun _ _ _ _ _ => (pv 0))) (pe_lst pa_nil) (nomark _))))) (pss_one (ps_ret pe_non)) pss_nil) (pss_one (ps_ret (pe_tup (pa_cons (pv 2) (pa_cons (pv 3) pa_nil sE_Name) sE_Name))))))))))), ?_⟩
    rcases h with ⟨z, N, rfl, tx, hN, kq, ke⟩ | ⟨hv, ke⟩
    case inr =>
      obtain ⟨t, ty, e⟩ := hv.ty (K := K)
      exact ⟨_, rfl, _, "str", t, false, rfl, ty, e, false, rfl, iteT (ke H (Same.refl H))⟩
    have hz : z.length ≤ 1000000 := Nat.le_trans tx.len hN
    refine ⟨_, rfl, _, "str", .type "str", true, rfl, .str _, kit_str_str, true, rfl, iteF ?_⟩
    refine ⟨_, rfl, rfl, _, _, rfl, rfl, by decide, by rw [sizeLine_eq]; omega, fun l hl0 => ?_⟩
    have hwl := words_len z
    have hws : ∀ p ∈ Txt.split z (Str.ofString " "), p.length ≤ 1000000 := fun p hp => Nat.le_trans (PyProof.Rows.part_short hp) hz
    have hWr : ∀ n ts, Wr z n ts → Txt.split z (Str.ofString " ") = wordsT n ts := fun n ts h => h.words
    have few := tx.few
    have hof : ∀ {n ts}, 1 ≤ n → n ≤ 24 → (∀ t ∈ ts, t.1 < t.2 ∧ t.2 < n) → ts.Pairwise (fun a b => codeP a < codeP b) → Txt.split z (Str.ofString " ") = wordsT n ts → Wr z n ts := fun a b c d e => Wr.of a b c d e
    cases hw : Txt.split z (Str.ofString " ") with
    | nil => exact absurd hw (split_ne z _)
    | cons w0 ws =>
      rw [hw] at hwl hws hWr
      rw [List.length_cons] at hwl
      have s0 := Same.new (o := .lst ((w0 :: ws).map V.str)) hl0
      have e0 : upd H l (.lst ((w0 :: ws).map V.str)) l = some (.lst ((w0 :: ws).map V.str)) := upd_same
      generalize upd H l (.lst ((w0 :: ws).map V.str)) = H0 at s0 e0 ⊢
      have h0 := hws w0 List.mem_cons_self
      refine ⟨_, rfl, l, _, _, _, rfl, rfl, SqL.of e0, atI_nat (j := 0) rfl, _, rfl, w0, rfl, len_le h0, rfl, _, rfl, ?_⟩
      rw [last_is]
      cases hc : Txt.endswith w0 (Str.ofString ":") with
      | false => exact iteT (ke (fun ⟨n, ts, h⟩ => by rw [(List.cons.inj (hWr n ts h)).1, ends_head] at hc; cases hc) H0 s0)
      | true =>
        refine iteF ⟨_, rfl, l, _, _, _, rfl, rfl, SqL.of e0, atI_nat (j := 0) rfl, _, rfl, w0, rfl, len_le h0, Txt.slice w0 none (some (-1)), rfl, Nat.le_trans (Txt.slice_le _ _ _) h0, fun H1 s1 => ?_⟩
        have s01 := s0.trans s1
        have e1 := s1 _ _ e0
        cases hn : isNum 2 (Txt.slice w0 none (some (-1))) with
        | false =>
          rw [numV_no hn]
          exact ⟨_, rfl, rfl, _, rfl, iteT (ke (fun ⟨n, ts, h⟩ => by rw [(List.cons.inj (hWr n ts h)).1, slice_head, (num_ok (by have := h.h24; omega)).1] at hn; cases hn) H1 s01)⟩
        | true =>
          obtain ⟨n, hn100, rfl⟩ := head_of hc hn
          rw [slice_head, numV_num hn100]
          refine ⟨_, rfl, rfl, _, rfl, iteF ⟨_, rfl, _, _, rfl, rfl, _, rfl, ?_⟩⟩
          have hwn : ∀ m ts, Wr z m ts → m = n ∧ ws = ts.map tieT := fun m ts h => by
            obtain ⟨q1, q2⟩ := List.cons.inj (hWr m ts h)
            exact ⟨head_inj (by have := h.h24; omega) hn100 q1.symm, q2⟩
          have bad : ¬ (1 ≤ n ∧ n ≤ 24) → ∀ H', Same H H' → Q .non H' := fun hno => ke fun ⟨m, ts, h⟩ => hno (by rw [← (hwn m ts h).1]; exact ⟨h.h1, h.h24⟩)
          by_cases a1 : 1 ≤ n
          case neg => exact iteDF (by omega) ⟨_, rfl, bad (fun q => a1 q.1) H1 s01⟩
          refine iteDT (by omega) ⟨_, _, rfl, rfl, _, rfl, ?_⟩
          by_cases a2 : n ≤ 24
          case neg =>
            rw [decide_eq_false (show ¬ (n : Int) ≤ 24 by omega)]
            exact bad (fun q => a2 q.2) H1 s01
          rw [decide_eq_true (show (n : Int) ≤ 24 by omega)]
          refine ⟨_, rfl, _, rfl, l, _, rfl, SqL.of e1, fun p hp0 => ?_⟩
          rw [show (headT n :: ws).map V.str = V.str (headT n) :: ws.map V.str from rfl, cut1]
          have s2 := Same.new (o := .lst (ws.map V.str)) hp0
          have e2 : upd H1 p (.lst (ws.map V.str)) p = some (.lst (ws.map V.str)) := upd_same
          have s02 := s01.trans s2
          generalize upd H1 p (.lst (ws.map V.str)) = H2 at s2 e2 s02 ⊢
          refine ⟨p, rfl, ⟨_, SqL.of e2⟩, lc_list (xs := ws.map V.str) (fun i σ ys H' => (∃ v, σ = [v, some (.int (n : Int))]) ∧ Paired (RelT n H') ys (ws.take i) ∧ Same H2 H')
            ⟨⟨_, rfl⟩, .nil, Same.refl _⟩ (fun i σ ys H' _ q => SqL.of (q.2.2 _ _ e2)) (fun i σ ys H' q => ?_) ?_ ?_⟩
          · rw [q.2.1.length, List.length_take]; exact small1000 (by omega)
          · rintro i x σ ys H3 hi ⟨⟨v, rfl⟩, hp3, s3⟩
            rw [List.getElem?_map] at hi
            cases et : ws[i]? with
            | none => rw [et] at hi; cases hi
            | some y =>
              rw [et] at hi
              cases hi
              have hm := List.mem_cons_of_mem (headT n) (List.mem_of_getElem? et)
              refine lcN ⟨_, rfl, _, rfl, n, y, rfl, a2, hws y hm, fun t ht r H4 nr hr4 s4 => ⟨⟨_, rfl⟩, ?_, s3.trans s4⟩, fun hno H4 s4 => ⟨⟨_, rfl⟩, ?_, s3.trans s4⟩⟩
              · rw [List.take_add_one, et]
                exact paired_append (paired_mono (fun _ _ => RelT.mono s4) hp3) (.cons (.inl ⟨t, ht, r, rfl, hr4⟩) .nil)
              · rw [List.take_add_one, et]
                exact paired_append (paired_mono (fun _ _ => RelT.mono s4) hp3) (.cons (.inr ⟨hno, rfl⟩) .nil)
          · rintro σ ys H3 ⟨_, hp3, s3⟩ D hD
            rw [List.length_map, List.take_length] at hp3
            have sD := Same.new (o := .lst ys) hD
            have eD : upd H3 D (.lst ys) D = some (.lst ys) := upd_same
            have hpD := paired_mono (fun _ _ => RelT.mono sD) hp3
            have s03 := s02.trans (s3.trans sD)
            generalize upd H3 D (.lst ys) = H4 at sD eD hpD s03 ⊢
            refine ⟨_, rfl, D, ys, rfl, rfl, SqL.of eD, rel_vs hpD, _, rfl, ?_⟩
            cases hany : ys.any noneV with
            | true =>
              obtain ⟨y, hy, hno⟩ := rel_bad hpD hany
              refine iteT (ke (fun ⟨m, us, h⟩ => ?_) H4 s03)
              obtain ⟨rfl, ew⟩ := hwn m us h
              rw [ew] at hy
              obtain ⟨t, ht, rfl⟩ := List.mem_map.mp hy
              have := h.lt t ht
              exact hno ⟨t, this.1, this.2, rfl⟩
            | false =>
              obtain ⟨ts, ew, hlt, hpt⟩ := rel_all hpD hany
              have hyl := hpt.length
              have h100 : ∀ t ∈ ts, t.1 < 100 ∧ t.2 < 100 := fun t ht => by have := hlt t ht; omega
              have htl : ts.length ≤ 60 := by have := congrArg List.length ew; rw [List.length_map] at this; omega
              refine iteF ⟨_, rfl, D, ys, rfl, .inl (SqL.of eD), 1, _, rfl, ⟨by decide, by decide, by omega, by omega⟩, lc_range (n := ((ys.length : Int) - 1).toNat) (fun i σ' zs H' => (∃ v, σ' = [v, some (.ref D)]) ∧ H' = H4 ∧ i ≤ 100 ∧ zs = (dips ts i).map V.int)
                ⟨⟨_, rfl⟩, rfl, Nat.zero_le _, rfl⟩ (fun i σ' zs H' q => ?_) ?_ ?_⟩
              · rw [q.2.2.2, List.length_map]
                unfold dips
                rw [List.length_map]
                refine small1000 (Nat.le_trans (List.length_filter_le _ _) ?_)
                rw [List.length_range]; have := q.2.2.1; omega
              · rintro i σ' zs H' hi ⟨⟨v, rfl⟩, rfl, hi2, rfl⟩
                have hi3 : i + 1 < ts.length := by omega
                obtain ⟨v1, ev1, r1, rfl, hr1⟩ : ∃ v, ys[i]? = some v ∧ TieV H' v (ts.getD i (0, 0)) := by
                  obtain ⟨t, et, q⟩ := paired_at hpt i ys[i] (List.getElem?_eq_getElem (by omega))
                  exact ⟨_, List.getElem?_eq_getElem (by omega), by rw [List.getD_eq_getElem?_getD, et]; exact q⟩
                obtain ⟨v2, ev2, r2, rfl, hr2⟩ : ∃ v, ys[i + 1]? = some v ∧ TieV H' v (ts.getD (i + 1) (0, 0)) := by
                  obtain ⟨t, et, q⟩ := paired_at hpt (i + 1) ys[i + 1] (List.getElem?_eq_getElem (by omega))
                  exact ⟨_, List.getElem?_eq_getElem (by omega), by rw [List.getD_eq_getElem?_getD, et]; exact q⟩
                have g1 : (ts.getD i (0, 0)).2 < 100 := by rw [List.getD_eq_getElem?_getD, List.getElem?_eq_getElem (show i < ts.length by omega)]; exact (h100 _ (List.getElem_mem _)).2
                have g2 : (ts.getD (i + 1) (0, 0)).2 < 100 := by rw [List.getD_eq_getElem?_getD, List.getElem?_eq_getElem hi3]; exact (h100 _ (List.getElem_mem _)).2
                have i1 : atI ys ((1 : Int) + (i : Int) - 1) = some (.ref r1) := by rw [show (1 : Int) + (i : Int) - 1 = ((i : Nat) : Int) by omega]; exact atI_nat ev1
                have i2 : atI ys ((1 : Int) + (i : Int)) = some (.ref r2) := by rw [show (1 : Int) + (i : Int) = ((i + 1 : Nat) : Int) by omega]; exact atI_nat ev2
                refine ⟨_, rfl, _, rfl, _, _, rfl, rfl, D, ys, _, _, rfl, rfl, SqL.of eD, i1, _, rfl, _, rfl, D, ys, _, _, rfl, rfl, SqL.of eD, i2, r1, r2, [_, _], [_, _], rfl, rfl, SqT.of hr1, SqT.of hr2, _, rfl, ?_⟩
                rw [lex_code g1 g2]
                have ed : dips ts (i + 1) = dips ts i ++ (if (!decide (codeP (ts.getD i (0, 0)) < codeP (ts.getD (i + 1) (0, 0)))) = true then [(1 : Int) + i] else []) := by
                  unfold dips
                  rw [List.range_succ, List.filter_append, List.map_append]
                  congr 1
                  rw [List.filter_cons, List.filter_nil]
                  split <;> rfl
                rw [ed]
                cases decide (codeP (ts.getD i (0, 0)) < codeP (ts.getD (i + 1) (0, 0))) with
                | true => exact iteF ⟨⟨_, rfl⟩, rfl, by omega, by simp⟩
                | false => exact iteT ⟨_, rfl, ⟨_, rfl⟩, rfl, by omega, by simp⟩
              · rintro σ' zs H' ⟨_, rfl, _, rfl⟩ L hL
                rw [show ((ys.length : Int) - 1).toNat = ts.length - 1 by omega]
                have sL := Same.new (o := .lst ((dips ts (ts.length - 1)).map V.int)) hL
                have eL : upd H' L (.lst ((dips ts (ts.length - 1)).map V.int)) L = _ := upd_same
                have hpL := paired_mono (fun _ _ => TieV.mono sL) hpt
                have eD1 := sL _ _ eD
                have s04 := s03.trans sL
                generalize upd H' L (.lst ((dips ts (ts.length - 1)).map V.int)) = H5 at eL hpL eD1 s04 ⊢
                refine ⟨by show 0 ≤ sizeLine; decide, fun l2 hl2 => ?_⟩
                have s5 := Same.new (o := .lst []) hl2
                refine ⟨L, l2, _, [], rfl, rfl, SqL.of (s5 _ _ eL), SqL.of upd_same, _, rfl, ?_⟩
                have hpF := paired_mono (fun _ _ => TieV.mono s5) hpL
                have eDF := s5 _ _ eD1
                have s6 := s04.trans s5
                generalize upd H5 l2 (.lst []) = H6 at hpF eDF s6 ⊢
                show if (!decide (dips ts (ts.length - 1) = [])) = true then _ else _
                by_cases hasc : ts.Pairwise fun a b => codeP a < codeP b
                · rw [decide_eq_true (dips_asc.mpr hasc)]
                  refine iteF ⟨_, rfl, _, rfl, by show 2 ≤ sizeLine; decide, fun d hd => ?_⟩
                  exact kq n ts (hof a1 a2 hlt hasc (by rw [hw, ew]; rfl)) d D _ (s6.free hd) upd_same (TiesAt.mono (Same.new hd) ⟨_, eDF, hpF⟩) (s6.trans (Same.new hd))
                · rw [decide_eq_false (fun q => hasc (dips_asc.mp q))]
                  refine iteT (ke (fun ⟨m, us, h⟩ => ?_) H6 s6)
                  obtain ⟨rfl, ew2⟩ := hwn m us h
                  have := ties_inj h100 h.small (ew.symm.trans ew2)
                  subst this
                  exact hasc h.asc
end
section
variable {P : Program} {w : World} {K : PySem.W.Frag} {mg : Str → Option Value} {base : Heap} {tMOST_PLACES : Tok} {tFIGURES : Tok} {tMOST_FIGURES : Tok} {cNoWeb : Addr} {cNoText : Addr} {cWebError : Addr} {cNoFit : Addr} {cNoName : Addr} {cNoPlace : Addr} {cNoRow : Addr} {cNotClosed : Addr} {cNotOne : Addr} {cTooMany : Addr}
theorem cut_to (xs : List V) {a : Nat} (h : a ≤ xs.length) : cutV xs none (some (a : Int)) = xs.take a := by
  unfold cutV
  rw [show HT.sIx xs.length 0 none = 0 from rfl, show HT.sIx xs.length xs.length (some (a : Int)) = a by unfold HT.sIx; dsimp only; split <;> omega]
  rfl
theorem cut_from (xs : List V) {a : Nat} (h : a ≤ xs.length) : cutV xs (some (a : Int)) none = xs.drop a := by
  unfold cutV
  rw [show HT.sIx xs.length 0 (some (a : Int)) = a by unfold HT.sIx; dsimp only; split <;> omega, show HT.sIx xs.length xs.length none = xs.length from rfl]
  exact List.take_of_length_le (by rw [List.length_drop]; omega)
theorem slice_to (z : Str) {a : Nat} (h : a ≤ z.length) : cs (Txt.slice z none (some (a : Int))) = (cs z).take a := by
  have e := StrLaws.sliceText_to (x := z) (j := (a : Int)) ⟨by omega, by rw [show z.cps.toList.length = z.length from cs_len z]; omega⟩
  show cs (StrLaws.sliceText _ _ _) = _
  rw [e, cs_mk, List.drop_zero]
  show List.take _ (cs z) = _
  congr 1
theorem slice_from (z : Str) (a : Nat) : cs (Txt.slice z (some (a : Int)) none) = (cs z).drop a := by
  have e0 : Txt.slice z (some (a : Int)) none = Txt.slice z (some ((min a z.length : Nat) : Int)) none := by
    have : Builtin.Str.strSliceIndices (some (a : Int)) none 1 z.length = Builtin.Str.strSliceIndices (some ((min a z.length : Nat) : Int)) none 1 z.length := by
      have n1 : ¬ ((a : Int) < 0) := by omega
      have n2 : ¬ (((min a z.length : Nat) : Int) < 0) := by omega
      simp only [Builtin.Str.strSliceIndices, n1, n2, if_false, show ((1 : Int) > 0) = True by simp, if_true]
      rw [show min (a : Int) (z.length : Int) = min ((min a z.length : Nat) : Int) (z.length : Int) by omega]
    unfold Txt.slice
    rw [this]
  rw [e0]
  have e := StrLaws.sliceText_from (x := z) (i := ((min a z.length : Nat) : Int)) ⟨by omega, by rw [show z.cps.toList.length = z.length from cs_len z]; omega⟩
  show cs (StrLaws.sliceText _ _ _) = _
  rw [e, cs_mk]
  show List.take _ (List.drop _ (cs z)) = _
  rw [show z.cps.toList.length = z.length from cs_len z]
  rw [List.take_of_length_le (by rw [List.length_drop, cs_len]; omega), Int.toNat_natCast]
  by_cases h : a ≤ z.length
  · rw [show min a z.length = a by omega]
  · rw [List.drop_of_length_le (by rw [cs_len]; omega), List.drop_of_length_le (by rw [cs_len]; omega)]
def cst (f : Str → Nat) (ws : List Str) : Nat := (ws.map fun y => f y + 1).sum
theorem cst_app (f : Str → Nat) (a b : List Str) : cst f (a ++ b) = cst f a + cst f b := by unfold cst; rw [List.map_append, List.sum_append]
theorem cst_one (f : Str → Nat) (x : Str) : cst f [x] = f x + 1 := by unfold cst; simp
theorem cst_cut (f : Str → Nat) (ws : List Str) (a : Nat) : cst f (ws.take a) + cst f (ws.drop a) = cst f ws := by rw [← cst_app, List.take_append_drop]
theorem cst_next (f : Str → Nat) (ws : List Str) (a : Nat) : cst f (ws.drop (a + 1)) ≤ cst f (ws.drop a) := by
  have := cst_cut f (ws.drop a) 1
  rw [List.drop_drop] at this
  omega
theorem cst_mem {f : Str → Nat} {ws : List Str} {y : Str} (h : y ∈ ws) : f y + 1 ≤ cst f ws := by
  obtain ⟨a, b, rfl⟩ := List.append_of_mem h
  rw [cst_app, show y :: b = [y] ++ b from rfl, cst_app, cst_one]
  omega
theorem cst_len (f : Str → Nat) : ∀ ws : List Str, ws.length ≤ cst f ws
  | [] => Nat.zero_le _
  | y :: ws => by
    have := cst_len f ws
    rw [show y :: ws = [y] ++ ws from rfl, cst_app, cst_one, List.length_append]
    show 1 + _ ≤ _
    omega
def Sg (z : Str) : Prop := ∀ c ∈ cs z, c < 16 ^ 8
structure Wk (ws : List Str) (N M : Nat) : Prop where
  ne : ws ≠ []
  len : cst Str.length ws ≤ N + 1
  few : cst spc ws ≤ M + 1
  sgn : ∀ y ∈ ws, Sg y
theorem len_joinL {c : Nat} : ∀ {Q : List (List Nat)}, Q ≠ [] → (joinL c Q).length + 1 = (Q.map fun q => q.length + 1).sum
  | [x], _ => by simp [joinL]
  | x :: y :: r, _ => by
    have ih := len_joinL (c := c) (Q := y :: r) (by simp)
    show (x ++ c :: joinL c (y :: r)).length + 1 = _
    rw [List.length_append, List.length_cons, List.map_cons, List.sum_cons]
    omega
theorem count_joinL2 {c : Nat} : ∀ {Q : List (List Nat)}, Q ≠ [] → (joinL c Q).count c + 1 = (Q.map fun q => q.count c + 1).sum
  | [x], _ => by simp [joinL]
  | x :: y :: r, _ => by
    have ih := count_joinL2 (c := c) (Q := y :: r) (by simp)
    show (x ++ c :: joinL c (y :: r)).count c + 1 = _
    rw [List.count_append, List.count_cons_self, List.map_cons, List.sum_cons]
    omega
theorem mem_joinL {c d : Nat} : ∀ {Q : List (List Nat)}, d ∈ joinL c Q → d = c ∨ ∃ q ∈ Q, d ∈ q
  | [x], h => .inr ⟨x, List.mem_cons_self, h⟩
  | x :: y :: r, h => by
    have h' : d ∈ x ++ c :: joinL c (y :: r) := h
    rcases List.mem_append.mp h' with h | h
    · exact .inr ⟨x, List.mem_cons_self, h⟩
    · rcases List.mem_cons.mp h with h | h
      · exact .inl h
      · rcases mem_joinL h with e | ⟨q, hq, hd⟩
        · exact .inl e
        · exact .inr ⟨q, List.mem_cons_of_mem _ hq, hd⟩
theorem cs_joinT (c : Nat) (ws : List Str) : cs (Txt.join ⟨#[c]⟩ ws) = joinL c (ws.map cs) := by
  rw [← cs_join]; exact congrArg cs (StrLaws.glued_eq_join _ _)
theorem Wk.tx {ws : List Str} {N M : Nat} (h : Wk ws N M) : Tx (Txt.join (Str.ofString " ") ws) N M := by
  have ne : ws.map cs ≠ [] := by simpa using h.ne
  have m1 : ((ws.map cs).map fun q => q.length + 1) = ws.map fun y => y.length + 1 := by rw [List.map_map]; exact List.map_congr_left fun y _ => by show (cs y).length + 1 = _; rw [cs_len]
  have m2 : ((ws.map cs).map fun q => q.count 32 + 1) = ws.map fun y => spc y + 1 := by rw [List.map_map]; rfl
  rw [sp_is]
  refine ⟨?_, ?_, fun d hd => ?_⟩
  · have := len_joinL (c := 32) ne
    rw [m1] at this
    have q : cst Str.length ws ≤ N + 1 := h.len
    unfold cst at q
    rw [← cs_len, cs_joinT]
    omega
  · have := count_joinL2 (c := 32) ne
    rw [m2] at this
    have q : cst spc ws ≤ M + 1 := h.few
    unfold cst at q
    unfold spc
    rw [cs_joinT]
    omega
  · rw [cs_joinT] at hd
    rcases mem_joinL hd with rfl | ⟨q, hq, hd⟩
    · decide
    · obtain ⟨y, hy, rfl⟩ := List.mem_map.mp hq
      exact h.sgn y hy d hd
theorem join_fit {c : Nat} {ws : List Str} (h : cst Str.length ws ≤ 16000000) : PySem.JoinOk ⟨#[c]⟩ ws = true := by
  unfold PySem.JoinOk
  rw [Bool.not_eq_true']
  unfold Builtin.Str.tooLong
  have e : ws.toArray.foldl (fun x1 x2 => x1 + x2.length + (⟨#[c]⟩ : Str).length) 0 = cst Str.length ws := by
    rw [StrLaws.joinTotal]
    unfold cst
    show _ + _ * 1 = _
    clear h
    induction ws with
    | nil => rfl
    | cons y ws ih => rw [List.map_cons, List.map_cons, List.sum_cons, List.sum_cons, List.length_cons]; omega
  rw [e]
  simp
  have := sizeLine_eq
  omega
theorem Wk.join {ws : List Str} {N M : Nat} (h : Wk ws N M) (hN : N ≤ 100000) : PySem.JoinOk (Str.ofString " ") ws = true := by
  rw [sp_is]
  exact join_fit (by have := h.len; omega)
theorem wk_split {z : Str} {N M : Nat} (h : Tx z N M) : Wk (Txt.split z (Str.ofString " ")) N M := by
  have ne : (Txt.split z (Str.ofString " ")).map cs ≠ [] := by simpa using split_ne z (Str.ofString " ")
  refine ⟨split_ne _ _, ?_, ?_, fun y hy => ?_⟩
  · have e := len_joinL (c := 32) ne
    rw [sp_is, ← split_join, List.map_map] at e
    have : ((Txt.split z ⟨#[32]⟩).map ((fun q : List Nat => q.length + 1) ∘ cs)) = (Txt.split z ⟨#[32]⟩).map fun y => y.length + 1 := List.map_congr_left fun y _ => by show (cs y).length + 1 = _; rw [cs_len]
    rw [this, cs_len] at e
    unfold cst
    rw [sp_is]
    have := h.len
    omega
  · have e := count_joinL2 (c := 32) ne
    rw [sp_is, ← split_join, List.map_map] at e
    have q := h.few
    unfold spc at q
    unfold cst
    rw [sp_is]
    show ((Txt.split z ⟨#[32]⟩).map ((fun q : List Nat => q.count 32 + 1) ∘ cs)).sum ≤ _
    omega
  · exact word_sgn (y := z) h.sgn (by rw [← sp_is]; exact hy)
theorem Wk.put {ws : List Str} {N M : Nat} (h : Wk ws N M) {a b : Nat} (hab : b = a ∨ b = a + 1) {x : Str} (hx : x.length ≤ N + 5) (hs : spc x ≤ 1) (hg : Sg x) : Wk (ws.take a ++ [x] ++ ws.drop b) (2 * N + 7) (M + 2) := by
  have le : ∀ f : Str → Nat, cst f (ws.take a ++ [x] ++ ws.drop b) ≤ cst f ws + (f x + 1) := fun f => by
    rw [cst_app, cst_app, cst_one]
    have c := cst_cut f ws a
    rcases hab with rfl | rfl
    · omega
    · have := cst_next f ws a
      omega
  refine ⟨by simp, ?_, ?_, fun y hy => ?_⟩
  · have := le Str.length; have := h.len; omega
  · have := le spc; have := h.few; omega
  · rcases List.mem_append.mp hy with hy | hy
    · rcases List.mem_append.mp hy with hy | hy
      · exact h.sgn y (List.mem_of_mem_take hy)
      · have : y = x := by simpa using hy
        rw [this]; exact hg
    · exact h.sgn y (List.mem_of_mem_drop hy)
theorem Wk.word {ws : List Str} {N M : Nat} (h : Wk ws N M) {y : Str} (hy : y ∈ ws) : y.length ≤ N := by have := cst_mem (f := Str.length) hy; have := h.len; omega
theorem spc_app (x y : Str) : spc (x ++ y) = spc x + spc y := by unfold spc; rw [cs_app, List.count_append]
theorem Sg.app {x y : Str} (h1 : Sg x) (h2 : Sg y) : Sg (x ++ y) := fun c hc => by
  rw [cs_app] at hc
  exact (List.mem_append.mp hc).elim (h1 c) (h2 c)
theorem map_take_str (ws : List Str) (a : Nat) : (ws.map V.str).take a = (ws.take a).map V.str := by rw [List.map_take]
theorem map_drop_str (ws : List Str) (a : Nat) : (ws.map V.str).drop a = (ws.drop a).map V.str := by rw [List.map_drop]
end
section
variable {P : Program} {w : World} {K : PySem.W.Frag} {mg : Str → Option Value} {base : Heap} {tMOST_PLACES : Tok} {tFIGURES : Tok} {tMOST_FIGURES : Tok} {cNoWeb : Addr} {cNoText : Addr} {cWebError : Addr} {cNoFit : Addr} {cNoName : Addr} {cNoPlace : Addr} {cNoRow : Addr} {cNotClosed : Addr} {cNotOne : Addr} {cTooMany : Addr}
theorem pew_op {X : Cx} {a b : Expr} {ta tb : TE} {pos : Pos} {op : Operator} {r : R2} (ho : OpR X (binaryOp op) r) (ha : PEw X a ta) (hb : PEw X b tb) : PEw X (.BinOp a op b pos) (tOp r ta tb) := ⟨pe_op ho ha.h hb.h⟩
theorem pss_consw {X : Cx} {st : Stmt} {rest : List Stmt} {t u : TS} (h1 : PS X st t) (h2 : PSw X rest u) : PSs X (st :: rest) (tSeq t u) := pss_cons h1 h2.h
theorem iteVt {i j : Int} {A B : Prop} (h : i = j) (a : A) : if decide (V.int i = V.int j) = true then A else B := by rw [h, decide_eq_true rfl]; exact a
theorem iteVf {i j : Int} {A B : Prop} (h : i ≠ j) (b : B) : if decide (V.int i = V.int j) = true then A else B := by rw [decide_eq_false (fun q => h (by injection q))]; exact b
theorem turned (y : Str) (hy : spc y = 0) (hg : Sg y) : cst Str.length (Txt.split y (Str.ofString "-")).reverse = y.length + 1 ∧ (Txt.join (Str.ofString "-") (Txt.split y (Str.ofString "-")).reverse).length ≤ y.length ∧ spc (Txt.join (Str.ofString "-") (Txt.split y (Str.ofString "-")).reverse) = 0 ∧ Sg (Txt.join (Str.ofString "-") (Txt.split y (Str.ofString "-")).reverse) := by
  have ne : (Txt.split y ⟨#[45]⟩).map cs ≠ [] := by simpa using split_ne y ⟨#[45]⟩
  have ne2 : ((Txt.split y ⟨#[45]⟩).reverse).map cs ≠ [] := by simpa using split_ne y ⟨#[45]⟩
  have e := len_joinL (c := 45) ne
  rw [← split_join, cs_len] at e
  have sm : cst Str.length (Txt.split y ⟨#[45]⟩).reverse = y.length + 1 := by
    rw [e, List.map_map]
    unfold cst
    rw [List.map_reverse, List.sum_reverse]
    rw [show (Txt.split y ⟨#[45]⟩).map ((fun q : List Nat => q.length + 1) ∘ cs) = (Txt.split y ⟨#[45]⟩).map fun x => x.length + 1 from List.map_congr_left fun x _ => by show (cs x).length + 1 = _; rw [cs_len]]
  have mm : ∀ d ∈ cs (Txt.join ⟨#[45]⟩ (Txt.split y ⟨#[45]⟩).reverse), d = 45 ∨ d ∈ cs y := fun d hd => by
    rw [cs_joinT] at hd
    rcases mem_joinL hd with h | ⟨q, hq, hd⟩
    · exact .inl h
    · obtain ⟨x, hx, rfl⟩ := List.mem_map.mp hq
      refine .inr ?_
      rw [split_join (x := y) (c := 45)]
      have hx' : cs x ∈ (Txt.split y ⟨#[45]⟩).map cs := List.mem_map.mpr ⟨x, List.mem_reverse.mp hx, rfl⟩
      clear sm e ne ne2 hq hx
      generalize (Txt.split y ⟨#[45]⟩).map cs = Q at hx'
      induction Q with
      | nil => cases hx'
      | cons u Q ih =>
        cases Q with
        | nil =>
          have : cs x = u := by simpa using hx'
          rw [this] at hd; exact hd
        | cons v r =>
          show d ∈ u ++ 45 :: joinL 45 (v :: r)
          rcases List.mem_cons.mp hx' with e | hm
          · rw [e] at hd; exact List.mem_append_left _ hd
          · exact List.mem_append_right _ (List.mem_cons_of_mem _ (ih hm))
  rw [mi_is]
  refine ⟨sm, ?_, ?_, fun d hd => ?_⟩
  · have q := len_joinL (c := 45) ne2
    rw [← cs_len, cs_joinT]
    have : ((((Txt.split y ⟨#[45]⟩).reverse).map cs).map fun q => q.length + 1).sum = cst Str.length (Txt.split y ⟨#[45]⟩).reverse := by
      unfold cst
      rw [List.map_map]
      rw [show (Txt.split y ⟨#[45]⟩).reverse.map ((fun q : List Nat => q.length + 1) ∘ cs) = (Txt.split y ⟨#[45]⟩).reverse.map fun x => x.length + 1 from List.map_congr_left fun x _ => by show (cs x).length + 1 = _; rw [cs_len]]
    rw [this, sm] at q
    omega
  · refine List.count_eq_zero.mpr fun h => ?_
    rcases mm 32 h with e | e
    · cases e
    · exact absurd hy (by unfold spc; exact Nat.pos_iff_ne_zero.mp (List.count_pos_iff.mpr e))
  · rcases mm d hd with rfl | e
    · decide
    · exact hg d e
def okC (x : Str) : Bool := decide (x.length ≤ 5) && decide (spc x ≤ 1) && (cs x).all fun c => decide (c < 16 ^ 8)
theorem okC_of {x : Str} (h : okC x = true) : x.length ≤ 5 ∧ spc x ≤ 1 ∧ Sg x := by
  unfold okC at h
  rw [Bool.and_eq_true, Bool.and_eq_true, decide_eq_true_eq, decide_eq_true_eq, List.all_eq_true] at h
  exact ⟨h.1.1, h.1.2, fun c hc => of_decide_eq_true (h.2 c hc)⟩
def con4 : List Str := ["0-99", "0-1", "1-1", "23-24", "-", "0", "0-1-2", ""]
def con5 : List Str := ["0:", "1:", "2:", "24:", "25:", "99:", "03:", ":", "3", "", "100:"]
theorem con4_ok : con4.all okC = true := by decide +kernel
theorem con5_ok : con5.all okC = true := by decide +kernel
theorem pick_str {ws : List Str} {r : Nat} (h : r < ws.length) : ∃ x ∈ ws, atI (ws.map V.str) (r : Int) = some (.str x) := ⟨ws[r], List.getElem_mem h, atI_nat (by rw [List.getElem?_map, List.getElem?_eq_getElem h]; rfl)⟩
def spBentW (K : PySem.W.Frag) : Sp := fun vs H Q _ => ∃ (p l a0 : Addr) (ns : List Int) (n : Nat) (ws : List Str) (N M : Nat), vs = [.ref p, .ref l] ∧ PenAt K a0 ns H p n ∧ n < 10000000 ∧ H l = some (.lst (ws.map V.str)) ∧ l ≠ p ∧ (∀ y ∈ ws, spc y = 0) ∧ Wk ws N M ∧ N ≤ 10000 ∧
  ∀ l2 ws2 H', Wk ws2 (2 * N + 7) (M + 2) → H' l2 = some (.lst (ws2.map V.str)) → PenAt K a0 ns H' p (n + 4) → SameB p H H' → Q (.ref l2) H'
theorem C_law_bent_words (T : Txt K mg tMOST_PLACES tFIGURES tMOST_FIGURES cNoWeb cNoText cWebError cNoFit cNoName cNoPlace cNoRow cNotClosed cNotOne cTooMany) : Callee P w K mg base 4 "_law_bent_words" ["_law_pen_here", "_law_words"] (spBentW K) := by
  have C_law_take := C_law_take (P := P) (w := w) (base := base) T
  refine mkCallee T.d_law_bent_words sc_law_bent_words (fun _ _ _ _ _ _ us hl => match us, hl with | [_, _], _ => rfl) (fun vs H Q E h => ?_) (fun f cdv A outer s H vs Q E hr h => ?_)
  · obtain ⟨p, l, a0, ns, n, ws, N, M, rfl, _⟩ := h; rfl
  · obtain ⟨p, l, a0, ns, n, ws, N, M, rfl, pen0, hn, el, lp, hsp, wk, hN, k⟩ := h
    have hl1 : 0 < ws.length := List.length_pos_iff.mpr wk.ne
    have hl2 : ws.length ≤ 10001 := by have := cst_len Str.length ws; have := wk.len; omega
    refine ⟨_, (pss_cons (ps_set (i := 2) sc_law_bent_words.nd rfl (by first | exact Or.inl rfl | exact Or.inr rfl) (pe_fn C_law_take hr rfl (pa_cons (pv 0) (pa_cons (pe_callB (lenq (K := K) rfl) rfl T.z_len bt_len (pa_cons (pv 1) pa_nil sE_Name)) pa_nil sE_Call) sE_Name))) (pss_cons (ps_set (i := 3) sc_law_bent_words.nd rfl (by first | exact Or.inl rfl | exact Or.inr rfl) (pe_fn C_law_take hr rfl (pa_cons (pv 0) (pa_cons (pe_callB (lenq (K := K) rfl) rfl T.z_len bt_len (pa_cons (pv 1) pa_nil sE_Name)) pa_nil sE_Call) sE_Name))) (pss_cons (ps_set (i := 4) sc_law_bent_words.nd rfl (by first | exact Or.inl rfl | exact Or.inr rfl) (pe_ix (ixl (K := K) rfl) (pv 1) (pv 2) (fun _ _ => rfl))) (pss_cons (ps_set (i := 5) sc_law_bent_words.nd rfl (by first | exact Or.inl rfl | exact Or.inr rfl) (pe_fn C_law_take hr rfl (pa_cons (pv 0) (pa_cons pe_int pa_nil sE_Constant) sE_Name))) (pss_cons (ps_ifw (pt_cmpR op_eq (pv 5) pe_int (nomark _)) (psw_ret1 (pew_op op_cat (pew_op op_cat ⟨(pe_slice sl_list (pv 1) po_none (po_some (pv 2)))⟩ (pew_lst (paw_cons (pew_ix (ixl (K := K) rfl) ⟨(pv 1)⟩ ⟨(pv 3)⟩ (fun _ _ => rfl)) paw_nil sE_Subscript))) ⟨(pe_slice sl_list (pv 1) (po_some (pe_op op_add (pv 2) pe_int)) po_none)⟩)) ⟨pss_nil⟩) (pss_cons (ps_ifw (pt_cmpR op_eq (pv 5) pe_int (nomark _)) (psw_ret1 (pew_op op_cat (pew_op op_cat ⟨(pe_slice sl_list (pv 1) po_none (po_some (pv 2)))⟩ (pew_lst (paw_cons ⟨(pv 4)⟩ paw_nil sE_Name))) ⟨(pe_slice sl_list (pv 1) (po_some (pv 2)) po_none)⟩)) ⟨pss_nil⟩) (pss_cons (ps_ifw (pt_cmpR op_eq (pv 5) pe_int (nomark _)) (psw_ret1 (pew_op op_cat (pew_op op_cat ⟨(pe_slice sl_list (pv 1) po_none (po_some (pv 2)))⟩ (pew_lst (paw_cons ⟨(bm (K := K) rfl PySem.F.plainAttrs_str PySem.F.slot_str_join PySem.F.type_str_join (mt_joinS (K := K) rfl) pe_str (pa_cons (pe_rev (K := K) rfl (bm (K := K) rfl PySem.F.plainAttrs_str PySem.F.slot_str_split PySem.F.type_str_split mt_split (pv 4) (pa_cons pe_str pa_nil sE_Constant))) pa_nil sE_Subscript))⟩ paw_nil sE_Call))) ⟨(pe_slice sl_list (pv 1) (po_some (pe_op op_add (pv 2) pe_int)) po_none)⟩)) ⟨pss_nil⟩) (pss_cons (ps_ifw (pt_cmpR op_eq (pv 5) pe_int (nomark _)) (psw_ret1 (pew_op op_cat (pew_op op_cat ⟨(pe_slice sl_list (pv 1) po_none (po_some (pv 2)))⟩ (pew_lst (paw_cons (pew_ix (ixl (K := K) rfl) (pew_lst (paw_cons (pew_op op_add_str ⟨pe_str⟩ ⟨(pv 4)⟩) (paw_cons (pew_op op_add_str ⟨(pv 4)⟩ ⟨pe_str⟩) (paw_cons (pew_op op_add_str ⟨pe_str⟩ ⟨(pv 4)⟩) (paw_cons (pew_op op_add_str ⟨(pv 4)⟩ ⟨pe_str⟩) paw_nil sE_BinOp) sE_BinOp) sE_BinOp) sE_BinOp)) ⟨(pe_fn C_law_take hr rfl (pa_cons (pv 0) (pa_cons pe_int pa_nil sE_Constant) sE_Name))⟩ (fun _ _ => rfl)) paw_nil sE_Subscript))) ⟨(pe_slice sl_list (pv 1) (po_some (pe_op op_add (pv 2) pe_int)) po_none)⟩)) ⟨pss_nil⟩) (pss_consw (ps_ifw (pt_cmpR op_eq (pv 5) pe_int (nomark _)) (psw_ret1 (pew_op op_cat (pew_op op_cat ⟨(pe_slice sl_list (pv 1) po_none (po_some (pv 2)))⟩ (pew_lst (paw_cons (pew_ix (ixl (K := K) rfl) (pew_lst (paw_cons ⟨pe_str⟩ (paw_cons ⟨pe_str⟩ (paw_cons ⟨pe_str⟩ (paw_cons ⟨pe_str⟩ (paw_cons ⟨pe_str⟩ (paw_cons ⟨pe_str⟩ (paw_cons ⟨pe_str⟩ (paw_cons ⟨pe_str⟩ paw_nil sE_Constant) sE_Constant) sE_Constant) sE_Constant) sE_Constant) sE_Constant) sE_Constant) sE_Constant)) ⟨(pe_fn C_law_take hr rfl (pa_cons (pv 0) (pa_cons pe_int pa_nil sE_Constant) sE_Name))⟩ (fun _ _ => rfl)) paw_nil sE_Subscript))) ⟨(pe_slice sl_list (pv 1) (po_some (pv 2)) po_none)⟩)) ⟨pss_nil⟩) (psw_ret1 (pew_op op_cat (pew_lst (paw_cons (pew_ix (ixl (K := K) rfl) (pew_lst (paw_cons ⟨pe_str⟩ (paw_cons ⟨pe_str⟩ (paw_cons ⟨pe_str⟩ (paw_cons ⟨pe_str⟩ (paw_cons ⟨pe_str⟩ (paw_cons ⟨pe_str⟩ (paw_cons ⟨pe_str⟩ (paw_cons ⟨pe_str⟩ (paw_cons ⟨pe_str⟩ (paw_cons ⟨pe_str⟩ (paw_cons ⟨pe_str⟩ paw_nil sE_Constant) sE_Constant) sE_Constant) sE_Constant) sE_Constant) sE_Constant) sE_Constant) sE_Constant) sE_Constant) sE_Constant) sE_Constant)) ⟨(pe_fn C_law_take hr rfl (pa_cons (pv 0) (pa_cons pe_int pa_nil sE_Constant) sE_Name))⟩ (fun _ _ => rfl)) paw_nil sE_Subscript)) ⟨(pe_slice sl_list (pv 1) (po_some pe_int) po_none)⟩))))))))))), ?_⟩
    refine ⟨_, rfl, _, rfl, l, _, rfl, .inl (SqL.of el), p, _, n, a0, ns, rfl, pen0, by omega, by rw [List.length_map]; omega, by rw [List.length_map]; omega, fun at_ H1 ha pen1 s1 => ?_⟩
    rw [List.length_map] at ha
    have el1 := s1 _ _ el lp
    refine ⟨_, rfl, _, rfl, l, _, rfl, .inl (SqL.of el1), p, _, n + 1, a0, ns, rfl, pen1, by omega, by rw [List.length_map]; omega, by rw [List.length_map]; omega, fun ot H2 ho pen2 s2 => ?_⟩
    rw [List.length_map] at ho
    have el2 := s2 _ _ el1 lp
    obtain ⟨y, hy, iy⟩ := pick_str ha
    obtain ⟨u, hu, iu⟩ := pick_str ho
    refine ⟨_, rfl, _, rfl, l, _, _, _, rfl, rfl, SqL.of el2, iy, ?_⟩
    refine ⟨_, rfl, p, 6, n + 2, a0, ns, rfl, pen2, by omega, by decide, by decide, fun wy H3 hw pen3 s3 => ?_⟩
    have el3 := s3 _ _ el2 lp
    have s03 : SameB p H H3 := fun b o e hb => s3 b o (s2 b o (s1 b o e hb) hb) hb
    clear s1 s2 s3 el1 el2 pen1 pen2
    have yl := wk.word hy
    have ul := wk.word hu
    have tk := cut_to (ws.map V.str) (a := at_) (by rw [List.length_map]; omega)
    have dr := cut_from (ws.map V.str) (a := at_) (by rw [List.length_map]; omega)
    have dr1 := cut_from (ws.map V.str) (a := at_ + 1) (by rw [List.length_map]; omega)
    rw [map_take_str] at tk
    rw [map_drop_str] at dr dr1
    -- what is put together at the end
    have fin : ∀ {Hm : Hp} {q : Nat} {x : Str} {b : Nat} {p1 : Addr}, q ≤ n + 4 → PenAt K a0 ns Hm p q → SameB p H Hm → (b = at_ ∨ b = at_ + 1) → x.length ≤ N + 5 → spc x ≤ 1 → Sg x → Hm p1 = none → Q (.ref p1) (upd Hm p1 (.lst ((ws.take at_).map V.str ++ [V.str x] ++ (ws.drop b).map V.str))) := by
      intro Hm q x b p1 hq pen sb hb h1 h2 h3 hp1
      refine k p1 (ws.take at_ ++ [x] ++ ws.drop b) _ (wk.put hb h1 h2 h3) ?_ ((pen.mono (Same.new hp1) (Nat.le_refl _)).mono (Same.refl _) hq) fun c o e hc => Same.new hp1 _ _ (sb c o e hc)
      rw [upd_same, List.map_append, List.map_append]; rfl
    have szT : ∀ {a b : Nat} {x : Str}, ((ws.take a).map V.str).length + [V.str x].length ≤ sizeLine := fun {a b x} => by rw [List.length_map, List.length_take, sizeLine_eq]; show _ + 1 ≤ _; omega
    have szD : ∀ {a b : Nat} {x : Str}, ((ws.take a).map V.str ++ [V.str x]).length + ((ws.drop b).map V.str).length ≤ sizeLine := fun {a b x} => by rw [List.length_append, List.length_map, List.length_take, List.length_map, List.length_drop, sizeLine_eq]; show _ + 1 + _ ≤ _; omega
    refine ⟨_, rfl, rfl, _, rfl, ?_⟩
    by_cases w0 : wy = 0
    · refine iteVt (by omega) ⟨_, rfl, _, rfl, _, rfl, l, _, rfl, SqL.of el3, fun p1 hp1 => ?_⟩
      rw [tk]
      have t1 := Same.new (o := .lst ((ws.take at_).map V.str)) hp1
      refine ⟨_, rfl, _, rfl, l, _, _, _, rfl, rfl, SqL.of (t1 _ _ el3), iu, by show 1 ≤ sizeLine; decide, fun p2 hp2 => ?_⟩
      have t2 := Same.new (o := .lst [V.str u]) hp2
      refine ⟨p1, p2, _, _, rfl, rfl, t2 _ _ upd_same, upd_same, szT (b := 0), fun p3 hp3 => ?_⟩
      have t3 := Same.new (o := .lst ((ws.take at_).map V.str ++ [V.str u])) hp3
      have t13 := t1.trans (t2.trans t3)
      refine ⟨_, rfl, _, rfl, _, _, rfl, rfl, _, rfl, l, _, rfl, SqL.of (t13 _ _ el3), fun p4 hp4 => ?_⟩
      rw [show cutV (ws.map V.str) (some ((at_ : Int) + 1)) none = (ws.drop (at_ + 1)).map V.str from dr1]
      have t4 := Same.new (o := .lst ((ws.drop (at_ + 1)).map V.str)) hp4
      refine ⟨p3, p4, _, _, rfl, rfl, t4 _ _ upd_same, upd_same, szD, fun p5 hp5 => ?_⟩
      have t14 := t13.trans t4
      exact fin (q := n + 3) (by omega) (pen3.mono t14 (Nat.le_refl _)) (fun c o e hc => t14 _ _ (s03 c o e hc)) (.inr rfl) (by omega) (by rw [hsp u hu]; omega) (wk.sgn u hu) hp5
    refine iteVf (by omega) ⟨_, rfl, rfl, _, rfl, ?_⟩
    by_cases w1 : wy = 1
    · refine iteVt (by omega) ⟨_, rfl, _, rfl, _, rfl, l, _, rfl, SqL.of el3, fun p1 hp1 => ?_⟩
      rw [tk]
      have t1 := Same.new (o := .lst ((ws.take at_).map V.str)) hp1
      refine ⟨_, rfl, by show 1 ≤ sizeLine; decide, fun p2 hp2 => ?_⟩
      have t2 := Same.new (o := .lst [V.str y]) hp2
      refine ⟨p1, p2, _, _, rfl, rfl, t2 _ _ upd_same, upd_same, szT (b := 0), fun p3 hp3 => ?_⟩
      have t3 := Same.new (o := .lst ((ws.take at_).map V.str ++ [V.str y])) hp3
      have t13 := t1.trans (t2.trans t3)
      refine ⟨_, rfl, _, rfl, _, rfl, l, _, rfl, SqL.of (t13 _ _ el3), fun p4 hp4 => ?_⟩
      rw [dr]
      have t4 := Same.new (o := .lst ((ws.drop at_).map V.str)) hp4
      refine ⟨p3, p4, _, _, rfl, rfl, t4 _ _ upd_same, upd_same, szD, fun p5 hp5 => ?_⟩
      have t14 := t13.trans t4
      exact fin (q := n + 3) (by omega) (pen3.mono t14 (Nat.le_refl _)) (fun c o e hc => t14 _ _ (s03 c o e hc)) (.inl rfl) (by omega) (by rw [hsp y hy]; omega) (wk.sgn y hy) hp5
    refine iteVf (by omega) ⟨_, rfl, rfl, _, rfl, ?_⟩
    by_cases w2 : wy = 2
    · refine iteVt (by omega) ⟨_, rfl, _, rfl, _, rfl, l, _, rfl, SqL.of el3, fun p1 hp1 => ?_⟩
      rw [tk]
      have t1 := Same.new (o := .lst ((ws.take at_).map V.str)) hp1
      obtain ⟨c1, c2, c3, c4⟩ := turned y (hsp y hy) (wk.sgn y hy)
      refine ⟨rfl, _, rfl, rfl, y, _, rfl, rfl, by decide, by rw [sizeLine_eq]; omega, fun q1 hq1 => ?_⟩
      have u1 := Same.new (o := .lst ((Txt.split y (Str.ofString "-")).map V.str)) hq1
      refine ⟨q1, _, rfl, SqL.of upd_same, fun q2 hq2 => ?_⟩
      rw [← List.map_reverse]
      have u2 := Same.new (o := .lst ((Txt.split y (Str.ofString "-")).reverse.map V.str)) hq2
      refine ⟨_, q2, (Txt.split y (Str.ofString "-")).reverse, rfl, rfl, SqL.of upd_same, by rw [mi_is] at c1 ⊢; exact join_fit (by omega), by show 1 ≤ sizeLine; decide, fun p2 hp2 => ?_⟩
      have t2 := Same.new (o := .lst [V.str (Txt.join (Str.ofString "-") (Txt.split y (Str.ofString "-")).reverse)]) hp2
      have t12 := t1.trans (u1.trans (u2.trans t2))
      refine ⟨p1, p2, _, _, rfl, rfl, (u1.trans (u2.trans t2)) _ _ upd_same, upd_same, szT (b := 0), fun p3 hp3 => ?_⟩
      have t3 := Same.new (o := .lst ((ws.take at_).map V.str ++ [V.str (Txt.join (Str.ofString "-") (Txt.split y (Str.ofString "-")).reverse)])) hp3
      have t13 := t12.trans t3
      refine ⟨_, rfl, _, rfl, _, _, rfl, rfl, _, rfl, l, _, rfl, SqL.of (t13 _ _ el3), fun p4 hp4 => ?_⟩
      rw [show cutV (ws.map V.str) (some ((at_ : Int) + 1)) none = (ws.drop (at_ + 1)).map V.str from dr1]
      have t4 := Same.new (o := .lst ((ws.drop (at_ + 1)).map V.str)) hp4
      refine ⟨p3, p4, _, _, rfl, rfl, t4 _ _ upd_same, upd_same, szD, fun p5 hp5 => ?_⟩
      have t14 := t13.trans t4
      exact fin (q := n + 3) (by omega) (pen3.mono t14 (Nat.le_refl _)) (fun c o e hc => t14 _ _ (s03 c o e hc)) (.inr rfl) (by omega) (by omega) c4 hp5
    refine iteVf (by omega) ⟨_, rfl, rfl, _, rfl, ?_⟩
    by_cases w3 : wy = 3
    · refine iteVt (by omega) ⟨_, rfl, _, rfl, _, rfl, l, _, rfl, SqL.of el3, fun p1 hp1 => ?_⟩
      rw [tk]
      have t1 := Same.new (o := .lst ((ws.take at_).map V.str)) hp1
      have o0 := okC_of (x := Str.ofString "0") (by decide +kernel)
      have o1 := okC_of (x := Str.ofString " ") (by decide +kernel)
      have z0 : spc (Str.ofString "0") = 0 := by decide +kernel
      have g : ∀ x ∈ [Str.ofString "0" ++ y, y ++ Str.ofString "0", Str.ofString " " ++ y, y ++ Str.ofString " "], x.length ≤ N + 5 ∧ spc x ≤ 1 ∧ Sg x := by
        intro x hx
        have sy := hsp y hy
        have gy := wk.sgn y hy
        simp only [List.mem_cons, List.not_mem_nil, or_false] at hx
        rcases hx with rfl | rfl | rfl | rfl
        · exact ⟨by rw [Str.length_append]; omega, by rw [spc_app]; omega, o0.2.2.app gy⟩
        · exact ⟨by rw [Str.length_append]; omega, by rw [spc_app]; omega, gy.app o0.2.2⟩
        · exact ⟨by rw [Str.length_append]; omega, by rw [spc_app]; omega, o1.2.2.app gy⟩
        · exact ⟨by rw [Str.length_append]; omega, by rw [spc_app]; omega, gy.app o1.2.2⟩
      refine ⟨_, rfl, _, _, rfl, rfl, by rw [sizeLine_eq]; omega, _, rfl, _, _, rfl, rfl, by rw [sizeLine_eq]; omega, _, rfl, _, _, rfl, rfl, by rw [sizeLine_eq]; omega, _, rfl, _, _, rfl, rfl, by rw [sizeLine_eq]; omega, by show 4 ≤ sizeLine; decide, fun q1 hq1 => ?_⟩
      have u1 := Same.new (o := .lst ([Str.ofString "0" ++ y, y ++ Str.ofString "0", Str.ofString " " ++ y, y ++ Str.ofString " "].map V.str)) hq1
      have nq : q1 ≠ p := (pen3.mono t1 (Nat.le_refl _)).ne hq1
      have np1 : p1 ≠ p := pen3.ne hp1
      refine ⟨_, rfl, p, 4, n + 3, a0, ns, rfl, (pen3.mono t1 (Nat.le_refl _)).mono u1 (Nat.le_refl _), by omega, by decide, by decide, fun r H4 hr4 pen4 s4 => ?_⟩
      obtain ⟨x, hx, ix⟩ := pick_str (ws := [Str.ofString "0" ++ y, y ++ Str.ofString "0", Str.ofString " " ++ y, y ++ Str.ofString " "]) hr4
      refine ⟨q1, _, _, _, rfl, rfl, SqL.of (s4 _ _ upd_same nq), ix, by show 1 ≤ sizeLine; decide, fun p2 hp2 => ?_⟩
      have t2 := Same.new (o := .lst [V.str x]) hp2
      have e1 := s4 _ _ (u1 _ _ (upd_same (H := H3))) np1
      have el4 := s4 _ _ (u1 _ _ (t1 _ _ el3)) lp
      refine ⟨p1, p2, _, _, rfl, rfl, t2 _ _ e1, upd_same, szT (b := 0), fun p3 hp3 => ?_⟩
      have t3 := Same.new (o := .lst ((ws.take at_).map V.str ++ [V.str x])) hp3
      have t23 := t2.trans t3
      refine ⟨_, rfl, _, rfl, _, _, rfl, rfl, _, rfl, l, _, rfl, SqL.of (t23 _ _ el4), fun p4 hp4 => ?_⟩
      rw [show cutV (ws.map V.str) (some ((at_ : Int) + 1)) none = (ws.drop (at_ + 1)).map V.str from dr1]
      have t4 := Same.new (o := .lst ((ws.drop (at_ + 1)).map V.str)) hp4
      refine ⟨p3, p4, _, _, rfl, rfl, t4 _ _ upd_same, upd_same, szD, fun p5 hp5 => ?_⟩
      have t24 := t23.trans t4
      obtain ⟨g1, g2, g3⟩ := g x hx
      exact fin (q := n + 4) (by omega) (pen4.mono t24 (Nat.le_refl _)) (fun c o e hc => t24 _ _ (s4 _ _ (u1 _ _ (t1 _ _ (s03 c o e hc))) hc)) (.inr rfl) g1 g2 g3 hp5
    refine iteVf (by omega) ⟨_, rfl, rfl, _, rfl, ?_⟩
    by_cases w4 : wy = 4
    · refine iteVt (by omega) ⟨_, rfl, _, rfl, _, rfl, l, _, rfl, SqL.of el3, fun p1 hp1 => ?_⟩
      rw [tk]
      have t1 := Same.new (o := .lst ((ws.take at_).map V.str)) hp1
      refine ⟨by show 8 ≤ sizeLine; decide, fun q1 hq1 => ?_⟩
      have u1 := Same.new (o := .lst (con4.map V.str)) hq1
      have nq : q1 ≠ p := (pen3.mono t1 (Nat.le_refl _)).ne hq1
      have np1 : p1 ≠ p := pen3.ne hp1
      refine ⟨_, rfl, p, 8, n + 3, a0, ns, rfl, (pen3.mono t1 (Nat.le_refl _)).mono u1 (Nat.le_refl _), by omega, by decide, by decide, fun r H4 hr4 pen4 s4 => ?_⟩
      obtain ⟨x, hx, ix⟩ := pick_str (ws := con4) hr4
      refine ⟨q1, _, _, _, rfl, rfl, SqL.of (s4 _ _ upd_same nq), ix, by show 1 ≤ sizeLine; decide, fun p2 hp2 => ?_⟩
      have t2 := Same.new (o := .lst [V.str x]) hp2
      have e1 := s4 _ _ (u1 _ _ (upd_same (H := H3))) np1
      have el4 := s4 _ _ (u1 _ _ (t1 _ _ el3)) lp
      refine ⟨p1, p2, _, _, rfl, rfl, t2 _ _ e1, upd_same, szT (b := 0), fun p3 hp3 => ?_⟩
      have t3 := Same.new (o := .lst ((ws.take at_).map V.str ++ [V.str x])) hp3
      have t23 := t2.trans t3
      refine ⟨_, rfl, _, rfl, _, rfl, l, _, rfl, SqL.of (t23 _ _ el4), fun p4 hp4 => ?_⟩
      rw [dr]
      have t4 := Same.new (o := .lst ((ws.drop at_).map V.str)) hp4
      refine ⟨p3, p4, _, _, rfl, rfl, t4 _ _ upd_same, upd_same, szD, fun p5 hp5 => ?_⟩
      have t24 := t23.trans t4
      obtain ⟨g1, g2, g3⟩ := okC_of (List.all_eq_true.mp con4_ok x hx)
      exact fin (q := n + 4) (by omega) (pen4.mono t24 (Nat.le_refl _)) (fun c o e hc => t24 _ _ (s4 _ _ (u1 _ _ (t1 _ _ (s03 c o e hc))) hc)) (.inl rfl) (by omega) g2 g3 hp5
    refine iteVf (by omega) ?_
    refine ⟨by show 11 ≤ sizeLine; decide, fun q1 hq1 => ?_⟩
    have u1 := Same.new (o := .lst (con5.map V.str)) hq1
    have nq : q1 ≠ p := pen3.ne hq1
    refine ⟨_, rfl, p, 11, n + 3, a0, ns, rfl, pen3.mono u1 (Nat.le_refl _), by omega, by decide, by decide, fun r H4 hr4 pen4 s4 => ?_⟩
    obtain ⟨x, hx, ix⟩ := pick_str (ws := con5) hr4
    refine ⟨q1, _, _, _, rfl, rfl, SqL.of (s4 _ _ upd_same nq), ix, by show 1 ≤ sizeLine; decide, fun p2 hp2 => ?_⟩
    have t2 := Same.new (o := .lst [V.str x]) hp2
    have el4 := s4 _ _ (u1 _ _ el3) lp
    refine ⟨_, rfl, _, rfl, l, _, rfl, SqL.of (t2 _ _ el4), fun p4 hp4 => ?_⟩
    have dr0 := cut_from (ws.map V.str) (a := 1) (by rw [List.length_map]; omega)
    rw [map_drop_str] at dr0
    rw [show cutV (ws.map V.str) (some (1 : Int)) none = (ws.drop 1).map V.str from dr0]
    have t4 := Same.new (o := .lst ((ws.drop 1).map V.str)) hp4
    refine ⟨p2, p4, _, _, rfl, rfl, t4 _ _ upd_same, upd_same, by rw [List.length_map, List.length_drop, sizeLine_eq]; show 1 + _ ≤ _; omega, fun p5 hp5 => ?_⟩
    obtain ⟨g1, g2, g3⟩ := okC_of (List.all_eq_true.mp con5_ok x hx)
    have t24 := t2.trans t4
    have W := wk.put (a := 0) (b := 1) (x := x) (.inr rfl) (by omega) g2 g3
    refine k p5 _ _ W ?_ ((pen4.mono t24 (Nat.le_refl _)).mono (Same.new hp5) (Nat.le_refl _)) fun c o e hc => Same.new hp5 _ _ (t24 _ _ (s4 _ _ (u1 _ _ (s03 c o e hc)) hc))
    rw [upd_same]; rfl
end
section
variable {P : Program} {w : World} {K : PySem.W.Frag} {mg : Str → Option Value} {base : Heap} {tMOST_PLACES : Tok} {tFIGURES : Tok} {tMOST_FIGURES : Tok} {cNoWeb : Addr} {cNoText : Addr} {cWebError : Addr} {cNoFit : Addr} {cNoName : Addr} {cNoPlace : Addr} {cNoRow : Addr} {cNotClosed : Addr} {cNotOne : Addr} {cTooMany : Addr}
theorem tx_cut {z z' : Str} {N M a b : Nat} {mid : List Nat} (h : Tx z N M) (hb : b = a ∨ b = a + 1) (hm : mid.length ≤ 1) (hs : ∀ c ∈ mid, c < 16 ^ 8) (e : cs z' = (cs z).take a ++ mid ++ (cs z).drop b) : Tx z' (2 * N + 7) (M + 2) := by
  have key : ∀ f : List Nat → Nat, (∀ x y, f (x ++ y) = f x + f y) → f (cs z') ≤ f (cs z) + f mid := fun f hf => by
    have c : f ((cs z).take a) + f ((cs z).drop a) = f (cs z) := by rw [← hf, List.take_append_drop]
    rw [e, hf, hf]
    rcases hb with rfl | rfl
    · omega
    · have d : f (((cs z).drop a).take 1) + f (((cs z).drop a).drop 1) = f ((cs z).drop a) := by rw [← hf, List.take_append_drop]
      rw [List.drop_drop] at d
      omega
  have k1 := key List.length fun x y => List.length_append
  have k2 := key (List.count 32) fun x y => List.count_append
  have c1 : mid.count 32 ≤ mid.length := List.count_le_length
  rw [cs_len, cs_len] at k1
  refine ⟨by have := h.len; omega, by have := h.few; unfold spc at this ⊢; omega, fun c hc => ?_⟩
  rw [e] at hc
  rcases List.mem_append.mp hc with hc | hc
  · rcases List.mem_append.mp hc with hc | hc
    · exact h.sgn c (List.mem_of_mem_take hc)
    · exact hs c hc
  · exact h.sgn c (List.mem_of_mem_drop hc)
theorem signs_ok : (cs (Str.ofString "0123456789 -:,a")).length = 15 ∧ ((cs (Str.ofString "0123456789 -:,a")).all fun c => decide (c < 16 ^ 8)) = true := by decide +kernel
def spBent (K : PySem.W.Frag) : Sp := fun vs H Q _ => ∃ (p a0 : Addr) (ns : List Int) (n : Nat) (z : Str) (N M : Nat), vs = [.ref p, .str z] ∧ PenAt K a0 ns H p n ∧ n < 1000000 ∧ Tx z N M ∧ N ≤ 10000 ∧
  ∀ z' H', Tx z' (2 * N + 7) (M + 2) → PenAt K a0 ns H' p (n + 6) → SameB p H H' → Q (.str z') H'
theorem C_law_bent (T : Txt K mg tMOST_PLACES tFIGURES tMOST_FIGURES cNoWeb cNoText cWebError cNoFit cNoName cNoPlace cNoRow cNotClosed cNotOne cTooMany) : Callee P w K mg base 5 "_law_bent" ["_law_pen_here", "_law_text"] (spBent K) := by
  have C_law_take := C_law_take (P := P) (w := w) (base := base) T
  have C_law_bent_words := C_law_bent_words (P := P) (w := w) (base := base) T
  refine mkCallee T.d_law_bent sc_law_bent (fun _ _ _ _ _ _ us hl => match us, hl with | [_, _], _ => rfl) (fun vs H Q E h => ?_) (fun f cdv A outer s H vs Q E hr h => ?_)
  · obtain ⟨p, a0, ns, n, z, N, M, rfl, _⟩ := h; rfl
  · obtain ⟨p, a0, ns, n, z, N, M, rfl, pen0, hn, tx, hN, k⟩ := h
    have zl := tx.len
    refine ⟨_, (pss_cons (ps_if (pt_cmpR op_eq (pe_fn C_law_take hr rfl (pa_cons (pv 0) (pa_cons pe_int pa_nil sE_Constant) sE_Name)) pe_int (nomark _)) (pss_one (ps_ret (bm (K := K) rfl PySem.F.plainAttrs_str PySem.F.slot_str_join PySem.F.type_str_join (mt_joinS (K := K) rfl) pe_str (pa_cons (pe_fn C_law_bent_words hr rfl (pa_cons (pv 0) (pa_cons (bm (K := K) rfl PySem.F.plainAttrs_str PySem.F.slot_str_split PySem.F.type_str_split mt_split (pv 1) (pa_cons pe_str pa_nil sE_Constant)) pa_nil sE_Call) sE_Name)) pa_nil sE_Call)))) pss_nil) (pss_cons (ps_set (i := 2) sc_law_bent.nd rfl (by first | exact Or.inl rfl | exact Or.inr rfl) (pe_fn C_law_take hr rfl (pa_cons (pv 0) (pa_cons (pe_op op_add (pe_callB (lenSq (K := K) rfl) rfl T.z_len bt_len (pa_cons (pv 1) pa_nil sE_Name)) pe_int) pa_nil sE_BinOp) sE_Name))) (pss_cons (ps_set (i := 3) sc_law_bent.nd rfl (by first | exact Or.inl rfl | exact Or.inr rfl) (pe_ix (ixs (K := K) rfl) pe_str (pe_fn C_law_take hr rfl (pa_cons (pv 0) (pa_cons pe_int pa_nil sE_Constant) sE_Name)) (fun _ _ => rfl))) (pss_cons (ps_set (i := 4) sc_law_bent.nd rfl (by first | exact Or.inl rfl | exact Or.inr rfl) (pe_lst (pa_cons (pe_op op_add_str (pe_slice sl_str (pv 1) po_none (po_some (pv 2))) (pe_slice sl_str (pv 1) (po_some (pe_op op_add (pv 2) pe_int)) po_none)) (pa_cons (pe_op op_add_str (pe_op op_add_str (pe_slice sl_str (pv 1) po_none (po_some (pv 2))) (pv 3)) (pe_slice sl_str (pv 1) (po_some (pv 2)) po_none)) (pa_cons (pe_op op_add_str (pe_op op_add_str (pe_slice sl_str (pv 1) po_none (po_some (pv 2))) (pv 3)) (pe_slice sl_str (pv 1) (po_some (pe_op op_add (pv 2) pe_int)) po_none)) pa_nil sE_BinOp) sE_BinOp) sE_BinOp))) (pss_one (ps_ret (pe_ix (ixl (K := K) rfl) (pv 4) (pe_fn C_law_take hr rfl (pa_cons (pv 0) (pa_cons pe_int pa_nil sE_Constant) sE_Name)) (fun _ _ => rfl)))))))), ?_⟩
    refine ⟨_, rfl, p, 2, n, a0, ns, rfl, pen0, by omega, by decide, by decide, fun r H1 hr1 pen1 s1 => ⟨rfl, _, rfl, ?_⟩⟩
    by_cases r0 : r = 0
    · refine iteVt (by omega) ⟨rfl, _, rfl, _, rfl, rfl, z, _, rfl, rfl, by decide, by rw [sizeLine_eq]; omega, fun l hl => ?_⟩
      have t1 := Same.new (o := .lst ((Txt.split z (Str.ofString " ")).map V.str)) hl
      refine ⟨p, l, a0, ns, n + 1, Txt.split z (Str.ofString " "), N, M, rfl, pen1.mono t1 (Nat.le_refl _), by omega, upd_same, pen1.ne hl, fun y hy => List.count_eq_zero.mpr (StrLaws.split_free z 32 y (by rw [← sp_is]; exact hy)), wk_split tx, hN, fun l2 ws2 H2 W e2 pen2 s2 => ?_⟩
      exact ⟨_, l2, ws2, rfl, rfl, SqL.of e2, W.join (by omega), k _ H2 W.tx (pen2.mono (Same.refl _) (by omega)) fun b o e hb => s2 _ _ (t1 _ _ (s1 b o e hb)) hb⟩
    · refine iteVf (by omega) ⟨_, rfl, _, rfl, z, rfl, len_le zl, _, _, rfl, rfl, p, z.length + 1, n + 1, a0, ns, rfl, pen1, by omega, by omega, by omega, fun at_ H2 ha pen2 s2 => ?_⟩
      refine ⟨_, rfl, p, 15, n + 2, a0, ns, rfl, pen2, by omega, by decide, by decide, fun sg H3 hs pen3 s3 => ?_⟩
      have hsl : sg < (cs (Str.ofString "0123456789 -:,a")).length := by rw [signs_ok.1]; exact hs
      refine ⟨_, _, (cs (Str.ofString "0123456789 -:,a"))[sg], rfl, rfl, by decide, atI_nat (List.getElem?_eq_getElem hsl), ?_⟩
      have hc := of_decide_eq_true (List.all_eq_true.mp signs_ok.2 _ (List.getElem_mem hsl))
      generalize (cs (Str.ofString "0123456789 -:,a"))[sg] = c at hc ⊢
      have l1 : (Txt.slice z none (some (at_ : Int))).length ≤ N := Nat.le_trans (Txt.slice_le _ _ _) zl
      have l2 : (Txt.slice z (some ((at_ : Int) + 1)) none).length ≤ N := Nat.le_trans (Txt.slice_le _ _ _) zl
      have l3 : (Txt.slice z (some (at_ : Int)) none).length ≤ N := Nat.le_trans (Txt.slice_le _ _ _) zl
      have l4 : (⟨#[c]⟩ : Str).length = 1 := rfl
      have c1 := slice_to z (a := at_) (by omega)
      have c2 : cs (Txt.slice z (some ((at_ : Int) + 1)) none) = (cs z).drop (at_ + 1) := slice_from z (at_ + 1)
      have c3 := slice_from z at_
      have hc1 : ∀ d ∈ [c], d < 16 ^ 8 := fun d hd => by
        have e : d = c := by simpa using hd
        rw [e]; exact hc
      have g : ∀ x ∈ [Txt.slice z none (some (at_ : Int)) ++ Txt.slice z (some ((at_ : Int) + 1)) none, Txt.slice z none (some (at_ : Int)) ++ ⟨#[c]⟩ ++ Txt.slice z (some (at_ : Int)) none, Txt.slice z none (some (at_ : Int)) ++ ⟨#[c]⟩ ++ Txt.slice z (some ((at_ : Int) + 1)) none], Tx x (2 * N + 7) (M + 2) := by
        intro x hx
        simp only [List.mem_cons, List.not_mem_nil, or_false] at hx
        rcases hx with rfl | rfl | rfl
        · exact tx_cut (a := at_) (b := at_ + 1) (mid := []) tx (.inr rfl) (by simp) (fun c hc => by cases hc) (by rw [cs_app, c1, c2]; simp)
        · exact tx_cut (a := at_) (b := at_) (mid := [c]) tx (.inl rfl) (by simp) hc1 (by rw [cs_app, cs_app, c1, c3]; rfl)
        · exact tx_cut (a := at_) (b := at_ + 1) (mid := [c]) tx (.inr rfl) (by simp) hc1 (by rw [cs_app, cs_app, c1, c2]; rfl)
      refine ⟨_, rfl, _, rfl, _, rfl, z, rfl, len_le zl, _, rfl, _, rfl, _, _, rfl, rfl, _, rfl, z, rfl, len_le zl, _, _, rfl, rfl, by rw [sizeLine_eq]; omega, ?_⟩
      refine ⟨_, rfl, _, rfl, _, rfl, z, rfl, len_le zl, _, rfl, _, _, rfl, rfl, by rw [sizeLine_eq]; omega, _, rfl, _, rfl, _, rfl, z, rfl, len_le zl, _, _, rfl, rfl, by rw [Str.length_append, sizeLine_eq]; omega, ?_⟩
      refine ⟨_, rfl, _, rfl, _, rfl, z, rfl, len_le zl, _, rfl, _, _, rfl, rfl, by rw [sizeLine_eq]; omega, _, rfl, _, rfl, _, _, rfl, rfl, _, rfl, z, rfl, len_le zl, _, _, rfl, rfl, by rw [Str.length_append, sizeLine_eq]; omega, ?_⟩
      refine ⟨by show 3 ≤ sizeLine; decide, fun q hq => ?_⟩
      have u1 := Same.new (o := .lst ([Txt.slice z none (some (at_ : Int)) ++ Txt.slice z (some ((at_ : Int) + 1)) none, Txt.slice z none (some (at_ : Int)) ++ ⟨#[c]⟩ ++ Txt.slice z (some (at_ : Int)) none, Txt.slice z none (some (at_ : Int)) ++ ⟨#[c]⟩ ++ Txt.slice z (some ((at_ : Int) + 1)) none].map V.str)) hq
      refine ⟨_, rfl, _, rfl, p, 3, n + 3, a0, ns, rfl, pen3.mono u1 (Nat.le_refl _), by omega, by decide, by decide, fun r4 H4 hr4 pen4 s4 => ?_⟩
      obtain ⟨x, hx, ix⟩ := pick_str (ws := [Txt.slice z none (some (at_ : Int)) ++ Txt.slice z (some ((at_ : Int) + 1)) none, Txt.slice z none (some (at_ : Int)) ++ ⟨#[c]⟩ ++ Txt.slice z (some (at_ : Int)) none, Txt.slice z none (some (at_ : Int)) ++ ⟨#[c]⟩ ++ Txt.slice z (some ((at_ : Int) + 1)) none]) hr4
      exact ⟨q, _, _, _, rfl, rfl, SqL.of (s4 _ _ upd_same (pen3.ne hq)), ix, k x H4 (g x hx) (pen4.mono (Same.refl _) (by omega)) fun b o e hb => s4 _ _ (u1 _ _ (s3 _ _ (s2 _ _ (s1 b o e hb) hb) hb)) hb⟩
theorem Wr.norm {z : Str} {n : Nat} {ts : List (Nat × Nat)} (h : Wr z n ts) : ts.map normT = ts := by
  conv => rhs; rw [← List.map_id ts]
  refine List.map_congr_left fun t ht => ?_
  have := (h.lt t ht).1
  unfold normT
  show (min t.1 t.2, max t.1 t.2) = t
  rw [show min t.1 t.2 = t.1 by omega, show max t.1 t.2 = t.2 by omega]
theorem Wr.ties {z : Str} {n : Nat} {ts : List (Nat × Nat)} (h : Wr z n ts) : tiesG (webL n ts) n = ts := by
  refine asc_ext codeP (tiesG_asc h.h24 n (Nat.le_refl _)) h.asc fun t => ?_
  rw [norm_mem h.ok, h.norm]
theorem Wr.good {z : Str} {n : Nat} {ts : List (Nat × Nat)} (h : Wr z n ts) : Mw.Good n ts := by
  refine ⟨fun t ht => by have := h.lt t ht; omega, ?_⟩
  have e : ts.map Mw.norm = ts := by
    conv => rhs; rw [← List.map_id ts]
    refine List.map_congr_left fun t ht => ?_
    have := (h.lt t ht).1
    unfold Mw.norm
    rw [if_pos (by omega)]; rfl
  rw [e, List.nodup_iff_pairwise_ne]
  exact h.asc.imp fun {a b} q e => by rw [e] at q; exact absurd q (Int.lt_irrefl _)
def spRightT : Sp := fun vs H Q _ => ∃ v : V, vs = [v] ∧ ((∃ z N, v = .str z ∧ Tx z N 60 ∧ N ≤ 1000000) ∨ NoStr H v) ∧ ∀ H', Same H H' → Q (.bl true) H'
theorem C_law_right (T : Txt K mg tMOST_PLACES tFIGURES tMOST_FIGURES cNoWeb cNoText cWebError cNoFit cNoName cNoPlace cNoRow cNotClosed cNotOne cTooMany) : Callee P w K mg base 7 "_law_right" ["_law_text"] spRightT := by
  have C_law_writes := C_law_writes (P := P) (w := w) (base := base) T
  have C_law_near := C_law_near (P := P) (w := w) (base := base) T
  have Cshow_web := Cshow_web (P := P) (w := w) (base := base) T
  have Xread_web := Xread_web (P := P) (w := w) (base := base) T
  refine mkCallee T.d_law_right sc_law_right (fun _ _ _ _ _ _ us hl => match us, hl with | [_], _ => rfl) (fun vs H Q E h => ?_) (fun f cdv A outer s H vs Q E hr h => ?_)
  · obtain ⟨v, rfl, _⟩ := h; rfl
  · obtain ⟨v, rfl, hv, k⟩ := h
    refine ⟨_, (pss_cons (ps_set (i := 1) sc_law_right.nd rfl (by first | exact Or.inl rfl | exact Or.inr rfl) (pe_fn C_law_writes hr rfl (pa_cons (pv 0) pa_nil sE_Name))) (pss_cons (ps_set (i := 2) sc_law_right.nd rfl (by first | exact Or.inl rfl | exact Or.inr rfl) pe_non) (pss_cons (ps_set (i := 3) sc_law_right.nd rfl (by first | exact Or.inl rfl | exact Or.inr rfl) pe_non) (pss_cons (ps_tryA (i := 4) (jv := 3) Xread_web hr rfl rfl rfl rfl rfl T.m_WebError T.q_WebError sc_law_right.nd rfl rfl rfl rfl (pa_cons (pv 0) pa_nil sE_Name) (fun _ => (pss_one (ps_set (i := 2) sc_law_right.nd rfl (by first | exact Or.inl rfl | exact Or.inr rfl) (pv 4))))) (pss_cons (ps_if (pt_cmpR op_isN (pv 1) pe_non (nomark _)) (pss_cons (ps_if (pt_val (pe_callB (isixtq (K := K) rfl) rfl T.z_isinstance bt_isinstance (pa_cons (pv 2) (pa_cons (pe_tup (pa_cons (pe_glob (v := .ref cNoFit) rfl T.m_NoFit rfl) (pa_cons (pe_glob (v := .ref cNoName) rfl T.m_NoName rfl) (pa_cons (pe_glob (v := .ref cNoPlace) rfl T.m_NoPlace rfl) (pa_cons (pe_glob (v := .ref cNoRow) rfl T.m_NoRow rfl) (pa_cons (pe_glob (v := .ref cNotClosed) rfl T.m_NotClosed rfl) (pa_cons (pe_glob (v := .ref cNotOne) rfl T.m_NotOne rfl) (pa_cons (pe_glob (v := .ref cNoWeb) rfl T.m_NoWeb rfl) (pa_cons (pe_glob (v := .ref cTooMany) rfl T.m_TooMany rfl) pa_nil sE_Name) sE_Name) sE_Name) sE_Name) sE_Name) sE_Name) sE_Name) sE_Name)) pa_nil sE_Tuple) sE_Name))) (pss_one (ps_ret pe_bl)) pss_nil) (pss_one (ps_ret (pe_and (pe_callB (isixq (K := K) rfl) rfl T.z_isinstance bt_isinstance (pa_cons (pv 2) (pa_cons (pe_glob (v := .ref cNoText) rfl T.m_NoText rfl) pa_nil sE_Name) sE_Name)) (pe_one (pe_callB (isixq (K := K) rfl) rfl T.z_isinstance bt_isinstance (pa_cons (pv 2) (pa_cons (pe_bltn (v := .ty "ValueError") rfl T.z_ValueError bt_ValueError rfl) pa_nil sE_Name) sE_Name))))))) pss_nil) (pss_cons (ps_asg (pv 1) (pgt (K := K) (n := 2) rfl rfl (pgs_cons (pg_name (i := 5) sc_law_right.nd rfl (by first | exact Or.inl rfl | exact Or.inr rfl)) (pgs_cons (pg_name (i := 6) sc_law_right.nd rfl (by first | exact Or.inl rfl | exact Or.inr rfl)) pgs_nil)))) (pss_cons (ps_set (i := 7) sc_law_right.nd rfl (by first | exact Or.inl rfl | exact Or.inr rfl) (pe_fn C_law_near hr rfl (pa_cons (pv 5) (pa_cons (pv 6) pa_nil sE_Name) sE_Name))) (pss_one (ps_ret (pe_and (pe_cmpR op_isN (pv 2) pe_non (nomark _)) (pe_and (pe_cmpR (eqq (K := K) rfl hr) (pv 3) (pe_callTy (tupq (K := K) rfl) rfl T.z_tuple bt_tuple (pa_cons (pe_lc (NB := ["_law_some"]) (nt := 1) (fr := []) rfl (by kernel_rfl) (pil (K := K) rfl (pv 7)) (fun _ _ _ _ _ => (pg_name (i := 0) (show List.Nodup (["_law_some"] : List Str) by decide +kernel) rfl (by first | exact Or.inl rfl | exact Or.inr rfl))) (fun _ _ _ _ _ => pts_nil) (fun _ _ _ _ _ => (pe_callTy (tupq (K := K) rfl) rfl T.z_tuple bt_tuple (pa_cons (pv 0) pa_nil sE_Name)))) pa_nil)) (nomark _)) (pe_one (pe_cmpR op_eq (pe_fn Cshow_web hr rfl (pa_cons (pv 3) pa_nil sE_Name)) (pv 0) (nomark _)))))))))))))), ?_⟩
    by_cases hW : ∃ z n ts, v = .str z ∧ Wr z n ts
    · obtain ⟨z, n, ts, rfl, W⟩ := hW
      obtain ⟨N, tx, hN⟩ : ∃ N, Tx z N 60 ∧ N ≤ 1000000 := by
        rcases hv with ⟨z', N, e, tx, hN⟩ | h
        · cases e; exact ⟨N, tx, hN⟩
        · rcases h with h | ⟨_, h⟩ | ⟨_, h⟩ | ⟨_, _, h, _⟩ | ⟨_, _, h, _⟩ <;> cases h
      refine ⟨_, rfl, _, rfl, .inl ⟨z, N, rfl, tx, hN, fun n' ts' W' d l H1 nd ed tl s1 => ?_, fun hno => absurd ⟨n, ts, W⟩ hno⟩⟩
      obtain ⟨rfl, rfl⟩ := W.uniq W'
      refine ⟨_, rfl, _, rfl, .inl ⟨z, N, rfl, tx, hN, fun n' ts' W2 a H2 na hw s2 => ?_, fun hno => absurd ⟨n, ts, W⟩ hno⟩⟩
      obtain ⟨rfl, rfl⟩ := W.uniq W2
      have s12 := s1.trans s2
      refine ⟨_, rfl, rfl, _, rfl, iteF ⟨_, rfl, d, _, rfl, SqT.of (s2 _ _ ed), rfl, _, _, rfl, _, _, rfl, rfl, ?_⟩⟩
      refine ⟨_, rfl, _, rfl, n, l, ts, rfl, W.h24, tl.mono s2, W.good, fun l2 rs2 H3 nl2 nrs2 tab s3 => ?_⟩
      refine ⟨_, rfl, rfl, true, rfl, iteT ?_⟩
      refine ⟨_, rfl, _, rfl, l2, rfl, ⟨_, SqL.of tab.ls⟩, lc_list (xs := rs2.map V.ref) (fun i σ ys H' => (∃ v, σ = [v]) ∧ i ≤ n ∧ Paired (RowV H') ys ((webL n ts).take i) ∧ Same H3 H')
        ⟨⟨_, rfl⟩, Nat.zero_le _, .nil, Same.refl _⟩ (fun i σ ys H' _ q => SqL.of (q.2.2.2 _ _ tab.ls)) (fun i σ ys H' q => ?_) ?_ ?_⟩
      · rw [q.2.2.1.length, List.length_take]
        have := W.h24
        exact small1000 (by have := q.2.1; omega)
      · rintro i x σ ys H4 hi ⟨⟨v, rfl⟩, _, hp4, s4⟩
        rw [List.getElem?_map] at hi
        cases er : rs2[i]? with
        | none => rw [er] at hi; cases hi
        | some r =>
          rw [er] at hi
          cases hi
          have hin : i < n := by rw [← tab.len]; exact (List.getElem?_eq_some_iff.mp er).1
          refine lcN ⟨_, rfl, r, _, rfl, .inl ⟨SqL.of (s4 _ _ (tab.row i r er)), fun u hu => ⟨⟨_, rfl⟩, hin, ?_, s4.updr hu⟩⟩⟩
          have : (webL n ts)[i]? = some (nbr n ts i) := by unfold webL; rw [List.getElem?_map, List.getElem?_range hin]; rfl
          rw [List.take_add_one, this]
          exact paired_append (paired_mono (fun _ _ => RowV.mono (Same.new hu)) hp4) (.cons ⟨u, rfl, upd_same⟩ .nil)
      · rintro σ ys H4 ⟨_, _, hp4, s4⟩ D hD
        rw [List.length_map, tab.len, show (webL n ts).take n = webL n ts from List.take_of_length_le (Nat.le_of_eq (webL_length n ts))] at hp4
        have sD := Same.new (o := .lst ys) hD
        refine ⟨D, _, rfl, .inl ⟨SqL.of upd_same, fun u hu => ?_⟩⟩
        have su := Same.new (o := .tup ys) hu
        have s3u := s3.trans (s4.trans (sD.trans su))
        have w2 : WebAt (upd (upd H4 D (.lst ys)) u (.tup ys)) u (webL n ts) := ⟨_, upd_same, paired_mono (fun _ _ => RowV.mono (sD.trans su)) hp4⟩
        refine ⟨true, topQ_web (hw.mono s3u) w2, true, rfl, iteT ?_⟩
        have gt : tiesG (webL n ts) (webL n ts).length = ts := by rw [webL_length]; exact W.ties
        have h24 := W.h24
        refine ⟨_, rfl, a, webL n ts, rfl, hw.mono s3u, by rw [webL_length]; exact h24, webL_rows n ts h24, by rw [gt]; exact fun t ht => by have := W.lt t ht; omega, by rw [gt, W.len]; have := tx.few; omega, fun H5 s5 => ?_⟩
        rw [gt, webL_length, ← W.eq]
        refine ⟨_, rfl, rfl, ?_⟩
        rw [decide_eq_true rfl]
        exact k _ (s12.trans (s3u.trans s5))
    · -- refused
      rcases hv with ⟨z, N, rfl, tx, hN⟩ | hno
      · have nW : ¬ ∃ n ts, Wr z n ts := fun ⟨n, ts, W⟩ => hW ⟨z, n, ts, rfl, W⟩
        refine ⟨_, rfl, _, rfl, .inl ⟨z, N, rfl, tx, hN, fun n ts W => absurd ⟨n, ts, W⟩ nW, fun _ H1 s1 => ?_⟩⟩
        refine ⟨_, rfl, _, rfl, .inl ⟨z, N, rfl, tx, hN, fun n ts W => absurd ⟨n, ts, W⟩ nW, fun _ H2 s2 => ?_⟩⟩
        refine ⟨cNoText, rfl, T.r_NoText_WebError, fun x hx => ⟨_, rfl, _, rfl, rfl, _, rfl, iteT ⟨_, rfl, by show 8 ≤ sizeLine; decide, fun t ht => ?_⟩⟩⟩
        have ex : upd (upd H2 x (ExcO x cNoText)) t (.tup ([cNoFit, cNoName, cNoPlace, cNoRow, cNotClosed, cNotOne, cNoWeb, cTooMany].map V.ref)) x = some (ExcO x cNoText) := Same.new ht _ _ upd_same
        refine ⟨x, cNoText, t, [cNoFit, cNoName, cNoPlace, cNoRow, cNotClosed, cNotOne, cNoWeb, cTooMany], false, rfl, ex, T.e_NoText, upd_same, T.i_NoText_t0, false, rfl, iteF ?_⟩
        refine ⟨_, rfl, x, cNoText, .ref cNoText, true, rfl, ex, T.e_NoText, ⟨cNoText, .inl ⟨rfl, T.i_NoText_NoText⟩⟩, true, rfl, iteT ?_⟩
        exact ⟨_, rfl, x, cNoText, .ty "ValueError", true, rfl, ex, T.e_NoText, ⟨0, .inr ⟨"ValueError", rfl, T.i_NoText_ValueError⟩⟩, k _ (((s1.trans s2).updr hx).updr ht)⟩
      · refine ⟨_, rfl, _, rfl, .inr ⟨hno, fun H1 s1 => ?_⟩⟩
        refine ⟨_, rfl, _, rfl, .inr ⟨hno.mono s1, fun H2 s2 => ?_⟩⟩
        refine ⟨cNoText, rfl, T.r_NoText_WebError, fun x hx => ⟨_, rfl, _, rfl, rfl, _, rfl, iteT ⟨_, rfl, by show 8 ≤ sizeLine; decide, fun t ht => ?_⟩⟩⟩
        have ex : upd (upd H2 x (ExcO x cNoText)) t (.tup ([cNoFit, cNoName, cNoPlace, cNoRow, cNotClosed, cNotOne, cNoWeb, cTooMany].map V.ref)) x = some (ExcO x cNoText) := Same.new ht _ _ upd_same
        refine ⟨x, cNoText, t, [cNoFit, cNoName, cNoPlace, cNoRow, cNotClosed, cNotOne, cNoWeb, cTooMany], false, rfl, ex, T.e_NoText, upd_same, T.i_NoText_t0, false, rfl, iteF ?_⟩
        refine ⟨_, rfl, x, cNoText, .ref cNoText, true, rfl, ex, T.e_NoText, ⟨cNoText, .inl ⟨rfl, T.i_NoText_NoText⟩⟩, true, rfl, iteT ?_⟩
        exact ⟨_, rfl, x, cNoText, .ty "ValueError", true, rfl, ex, T.e_NoText, ⟨0, .inr ⟨"ValueError", rfl, T.i_NoText_ValueError⟩⟩, k _ (((s1.trans s2).updr hx).updr ht)⟩
end
section
variable {P : Program} {w : World} {K : PySem.W.Frag} {mg : Str → Option Value} {base : Heap} {tMOST_PLACES : Tok} {tFIGURES : Tok} {tMOST_FIGURES : Tok} {cNoWeb : Addr} {cNoText : Addr} {cWebError : Addr} {cNoFit : Addr} {cNoName : Addr} {cNoPlace : Addr} {cNoRow : Addr} {cNotClosed : Addr} {cNotOne : Addr} {cTooMany : Addr}
theorem least2 {a b : Nat} {M : Int} (h : M ∈ [(a : Int), (b : Int)]) (hl : ∀ x, x ∈ [(a : Int), (b : Int)] → M ≤ x) : M = ((min a b : Nat) : Int) := by
  have h1 := hl a (by simp)
  have h2 := hl b (by simp)
  simp only [List.mem_cons, List.not_mem_nil, or_false] at h
  omega
theorem great2 {a b : Nat} {M : Int} (h : M ∈ [(a : Int), (b : Int)]) (hl : ∀ x, x ∈ [(a : Int), (b : Int)] → x ≤ M) : M = ((max a b : Nat) : Int) := by
  have h1 := hl a (by simp)
  have h2 := hl b (by simp)
  simp only [List.mem_cons, List.not_mem_nil, or_false] at h
  omega
theorem Tx.weak {z : Str} {N M N' M' : Nat} (h : Tx z N M) (h1 : N ≤ N') (h2 : M ≤ M') : Tx z N' M' := ⟨Nat.le_trans h.len h1, Nat.le_trans h.few h2, h.sgn⟩
theorem due_tx {n : Nat} {ts : List (Nat × Nat)} (hn : n < 100) (h : ∀ t ∈ ts, t.1 < 100 ∧ t.2 < 100) (hl : ts.length ≤ 36) : Tx (dueT n ts) 219 36 := by
  have sn : ∀ m, m < 100 → ∀ c ∈ cs (num m), c < 16 ^ 8 := fun m hm c hc => by
    have := (num_ok hm).2.1 c hc
    exact Nat.lt_of_le_of_lt this.2 (by decide)
  refine ⟨by have := due_len hn h; omega, ?_, fun d hd => ?_⟩
  · have e := words_len (dueT n ts)
    rw [split_due hn h] at e
    unfold wordsT at e
    rw [List.length_cons, List.length_map] at e
    omega
  · rw [cs_due] at hd
    rcases mem_joinL hd with rfl | ⟨q, hq, hd⟩
    · decide
    · obtain ⟨y, hy, rfl⟩ := List.mem_map.mp hq
      rcases List.mem_cons.mp hy with rfl | hy
      · rw [cs_head] at hd
        rcases List.mem_append.mp hd with hd | hd
        · exact sn n hn d hd
        · have : d = 58 := by simpa using hd
          rw [this]; decide
      · obtain ⟨t, ht, rfl⟩ := List.mem_map.mp hy
        rw [cs_tie] at hd
        rcases List.mem_append.mp hd with hd | hd
        · exact sn _ (h t ht).1 d hd
        · rcases List.mem_cons.mp hd with rfl | hd
          · decide
          · exact sn _ (h t ht).2 d hd
def spLaw (K : PySem.W.Frag) : Sp := fun vs H Q _ => ∃ (a : Addr) (ns : List Int), vs = [.ref a] ∧ SqL K H a (ns.map V.int) ∧ ns.length ≤ 63 ∧ ∀ H', Q (.bl true) H'
theorem ok_law (T : Txt K mg tMOST_PLACES tFIGURES tMOST_FIGURES cNoWeb cNoText cWebError cNoFit cNoName cNoPlace cNoRow cNotClosed cNotOne cTooMany) {fa : Addr} {fd : FuncData} (F : Fun K "law" "law" slaw fa fd) : FnOk P w K mg base CX0 9 fa fd ["_law_script"] (spLaw K) := by
  have C_law_pen := C_law_pen (P := P) (w := w) (base := base) T
  have C_law_any := C_law_any (P := P) (w := w) (base := base) T
  have C_law_take := C_law_take (P := P) (w := w) (base := base) T
  have C_law_bent := C_law_bent (P := P) (w := w) (base := base) T
  have C_law_right := C_law_right (P := P) (w := w) (base := base) T
  refine F.ok sclaw (fun vs H Q E h => ?_) (fun cdv A outer s H vs Q E hr h => ?_)
  · obtain ⟨a, ns, rfl, _⟩ := h; rfl
  · obtain ⟨a0, ns, rfl, hS, hlen, k⟩ := h
    refine ⟨_, (pss_cons (ps_set (i := 1) sclaw.nd rfl (by first | exact Or.inl rfl | exact Or.inr rfl) (pe_fn C_law_pen hr rfl (pa_cons (pv 0) pa_nil sE_Name))) (pss_cons (ps_asg (pe_fn C_law_any hr rfl (pa_cons (pv 1) (pa_cons pe_int pa_nil sE_Constant) sE_Name)) (pgt (K := K) (n := 2) rfl rfl (pgs_cons (pg_name (i := 2) sclaw.nd rfl (by first | exact Or.inl rfl | exact Or.inr rfl)) (pgs_cons (pg_name (i := 3) sclaw.nd rfl (by first | exact Or.inl rfl | exact Or.inr rfl)) pgs_nil)))) (pss_cons (ps_set (i := 4) sclaw.nd rfl (by first | exact Or.inl rfl | exact Or.inr rfl) (pe_op op_add_str (pe_callTy call_str_int rfl T.z_str bt_str (pa_cons (pv 2) pa_nil sE_Name)) pe_str)) (pss_cons (ps_for PassesOwn.never rfl (pil (K := K) rfl (pe_callB (sortUq (K := K) rfl) rfl T.z_sorted bt_sorted (pa_cons (pe_lc (NB := ["_law_tie_here"]) (nt := 1) (fr := []) rfl (by kernel_rfl) (pil (K := K) rfl (pv 3)) (fun _ _ _ _ _ => (pg_name (i := 0) (show List.Nodup (["_law_tie_here"] : List Str) by decide +kernel) rfl (by first | exact Or.inl rfl | exact Or.inr rfl))) (fun _ _ _ _ _ => pts_nil) (fun _ _ _ _ _ => (pe_tup (pa_cons (pe_callB (mintq (K := K) rfl) rfl T.z_min bt_min (pa_cons (pv 0) pa_nil sE_Name)) (pa_cons (pe_callB (maxtq (K := K) rfl) rfl T.z_max bt_max (pa_cons (pv 0) pa_nil sE_Name)) pa_nil sE_Call) sE_Call)))) pa_nil))) (pgt (K := K) (n := 2) rfl rfl (pgs_cons (pg_name (i := 5) sclaw.nd rfl (by first | exact Or.inl rfl | exact Or.inr rfl)) (pgs_cons (pg_name (i := 6) sclaw.nd rfl (by first | exact Or.inl rfl | exact Or.inr rfl)) pgs_nil))) (pss_one (ps_set (i := 4) sclaw.nd rfl (by first | exact Or.inl rfl | exact Or.inr rfl) (pe_op op_add_str (pe_op op_add_str (pe_op op_add_str (pe_op op_add_str (pv 4) pe_str) (pe_callTy call_str_int rfl T.z_str bt_str (pa_cons (pv 5) pa_nil sE_Name))) pe_str) (pe_callTy call_str_int rfl T.z_str bt_str (pa_cons (pv 6) pa_nil sE_Name)))))) (pss_cons (ps_for PassesOwn.never rfl (pi_range1 rfl T.z_range (pa_cons pe_int pa_nil sE_Constant)) (pg_name (i := 7) sclaw.nd rfl (by first | exact Or.inl rfl | exact Or.inr rfl)) (pss_cons (ps_set (i := 8) sclaw.nd rfl (by first | exact Or.inl rfl | exact Or.inr rfl) (pe_fn C_law_bent hr rfl (pa_cons (pv 1) (pa_cons (pv 4) pa_nil sE_Name) sE_Name))) (pss_cons (ps_join (ps_if (pt_cmpR op_eq (pe_fn C_law_take hr rfl (pa_cons (pv 1) (pa_cons pe_int pa_nil sE_Constant) sE_Name)) pe_int (nomark _)) (pss_one (ps_set (i := 8) sclaw.nd rfl (by first | exact Or.inl rfl | exact Or.inr rfl) (pe_fn C_law_bent hr rfl (pa_cons (pv 1) (pa_cons (pv 8) pa_nil sE_Name) sE_Name)))) pss_nil)) (pss_one (ps_if (pt_not (pt_val (pe_fn C_law_right hr rfl (pa_cons (pv 8) pa_nil sE_Name)))) (pss_one (ps_ret pe_bl)) pss_nil))))) (pss_cons (ps_set (i := 9) sclaw.nd rfl (by first | exact Or.inl rfl | exact Or.inr rfl) (pe_ix (ixl (K := K) rfl) (pe_lst (pa_cons pe_non (pa_cons pe_int (pa_cons pe_bl (pa_cons (pe_lst (pa_cons (pv 4) pa_nil sE_Name)) (pa_cons (pe_tup (pa_cons (pv 4) pa_nil sE_Name)) (pa_cons (pe_tup (pa_cons (pe_tup pa_nil) pa_nil sE_Tuple)) pa_nil sE_Tuple) sE_Tuple) sE_List) sE_Constant) sE_Constant) sE_Constant)) (pe_fn C_law_take hr rfl (pa_cons (pv 1) (pa_cons pe_int pa_nil sE_Constant) sE_Name)) (fun _ _ => rfl))) (pss_one (ps_ret (pe_and (pe_fn C_law_right hr rfl (pa_cons (pv 9) pa_nil sE_Name)) (pe_one (pe_fn C_law_right hr rfl (pa_cons (pv 4) pa_nil sE_Name)))))))))))), ?_⟩
    refine ⟨_, rfl, a0, ns, rfl, hS, hlen, fun p H1 np pen1 s1 => ?_⟩
    refine ⟨_, rfl, p, 9, 1, a0, ns, rfl, pen1, by decide, by decide, by decide, fun t l n ts H2 h1 h9 nl nlp off ht hti good htl pen2 s2 => ?_⟩
    have hok := good.seq
    have few := few_ties hok h9
    have h24 : n ≤ 24 := by omega
    refine ⟨t, _, rfl, SqT.of ht, rfl, _, _, rfl, _, _, rfl, rfl, ?_⟩
    clear s2 pen1 s1 ht
    obtain ⟨xs, hxs, hpx⟩ := hti
    have hxl := hpx.length
    have n100 : n < 100 := by omega
    have hnl := (num_ok n100).2.2.1
    refine ⟨_, rfl, _, rfl, log_small (by omega), num n, Str.ofString ":", rfl, rfl, by rw [co_len, sizeLine_eq]; omega, ?_⟩
    refine ⟨_, rfl, l, rfl, ⟨_, SqL.of hxs⟩, lc_list (xs := xs) (fun i σ ys H' => (∃ v1, σ = [v1]) ∧ i ≤ xs.length ∧ ∃ rs : List Addr, ys = rs.map V.ref ∧ rs.length = i ∧ (∀ (j : Nat) (r : Addr), rs[j]? = some r → H' r = some (.tup [.int ((normT (ts.getD j (0, 0))).1 : Int), .int ((normT (ts.getD j (0, 0))).2 : Int)])) ∧ Same H2 H')
      ⟨⟨_, rfl⟩, Nat.zero_le _, [], rfl, rfl, fun j r e => by simp at e, Same.refl _⟩ (fun i σ ys H' _ q => by obtain ⟨_, _, _, _, _, _, q⟩ := q; exact SqL.of (q _ _ hxs)) (fun i σ ys H' q => ?_) ?_ ?_⟩
    · obtain ⟨_, hil, rs, rfl, e, _⟩ := q
      rw [List.length_map, e]
      exact small1000 (by omega)
    · rintro i x σ ys H4 hi ⟨⟨v1, rfl⟩, hil, rs, rfl, hrl, hrow, s4⟩
      have hi' : i < xs.length := (List.getElem?_eq_some_iff.mp hi).1
      obtain ⟨⟨a, b⟩, et, rt, rfl, hrt⟩ := paired_at hpx i x hi
      have hrt3 := s4 _ _ hrt
      dsimp only at hrt3
      have hsq : SqT K H4 rt ([(a : Int), (b : Int)].map V.int) := SqT.of hrt3
      refine lcN ⟨_, rfl, rt, [(a : Int), (b : Int)], rfl, hsq, by simp, fun M hM hle => ⟨_, rfl, rt, [(a : Int), (b : Int)], rfl, hsq, by simp, fun M2 hM2 hle2 => ⟨by show 2 ≤ sizeLine; decide, fun u hu => ?_⟩⟩⟩
      have eM := least2 hM hle
      have eM2 := great2 hM2 hle2
      subst eM eM2
      refine ⟨⟨_, rfl⟩, by omega, rs ++ [u], by simp, by simp [hrl], fun j r e => ?_, s4.updr hu⟩
      by_cases hlt : j < rs.length
      · rw [List.getElem?_append_left hlt] at e
        exact Same.new hu _ _ (hrow j r e)
      · have ej : j = rs.length := by
          have := (List.getElem?_eq_some_iff.mp e).1
          simp at this
          omega
        subst ej
        simp at e
        subst e
        have eg : ts.getD rs.length (0, 0) = (a, b) := by rw [hrl, List.getD_eq_getElem?_getD, et]; rfl
        rw [upd_same, eg]
        rfl
    · rintro σ ys H4 ⟨_, _, rs, rfl, hrl, hrow, s4⟩ D hD
      have bnd : ∀ i, i < rs.length → (normT (ts.getD i (0, 0))).2 < 24 := fun i hi => by
        have hi2 : i < ts.length := by omega
        obtain ⟨q1, q2, _⟩ := hok i ts[i] (List.getElem?_eq_getElem hi2)
        rw [List.getD_eq_getElem?_getD, List.getElem?_eq_getElem hi2, Option.getD_some]
        unfold normT
        dsimp only
        omega
      refine ⟨D, rs, fun i => ((normT (ts.getD i (0, 0))).1 : Int), fun i => ((normT (ts.getD i (0, 0))).2 : Int), 100, rfl, SqL.of upd_same, by omega, fun i hi => SqT.of (Same.new hD _ _ (hrow i _ (List.getElem?_eq_getElem hi))), fun i hi => ?_, fun i j hij hj => ?_, fun D2 ps hp hs hD2 => ?_⟩
      · have := bnd i hi
        dsimp only
        omega
      · have ne := norm_ne hok hij (show j < ts.length by omega)
        by_cases z : (normT (ts.getD i (0, 0))).1 = (normT (ts.getD j (0, 0))).1
        · refine .inr fun y => ne (Prod.ext z ?_)
          dsimp only at y
          omega
        · refine .inl fun y => z ?_
          dsimp only at y
          omega
      have sD := Same.new (o := .lst (rs.map V.ref)) hD
      have sD2 := Same.new (o := .lst (ps.map fun i => V.ref (rs.getD i 0))) hD2
      have s5 := s4.trans (sD.trans sD2)
      have esi := sorted_is h24 hok (by rw [← hxl, ← hrl]; exact hp) hs
      have due5 : TiesAt (upd (upd H4 D (.lst (rs.map V.ref))) D2 (.lst (ps.map fun i => V.ref (rs.getD i 0)))) D2 (tiesG (webL n ts) n) := by
        refine ⟨_, upd_same, ?_⟩
        rw [← esi]
        refine paired_maps fun i hi => ?_
        have hi2 : i < rs.length := List.mem_range.mp (hp.mem_iff.mp hi)
        refine ⟨rs.getD i 0, rfl, sD2 _ _ (sD _ _ (hrow i _ ?_))⟩
        rw [List.getD_eq_getElem?_getD, List.getElem?_eq_getElem hi2]
        rfl
      have glen : (tiesG (webL n ts) n).length ≤ 36 := by
        rw [← esi, List.length_map, hp.length_eq, List.length_range]
        omega
      have pen5 := pen2.mono s5 (Nat.le_refl _)
      clear s5 sD sD2 hrow s4 hD esi
      obtain ⟨zs, hzs, hpz⟩ := due5
      have ez : zs = ps.map fun i => V.ref (rs.getD i 0) := by rw [upd_same] at hzs; cases hzs; rfl
      rw [ez] at hzs hpz
      generalize upd (upd H4 D (.lst (rs.map V.ref))) D2 (.lst (ps.map fun i => V.ref (rs.getD i 0))) = H5 at *
      have glt := tiesG_lt (n := n) (ts := ts)
      have g100 : ∀ t ∈ tiesG (webL n ts) n, t.1 < 100 ∧ t.2 < 100 := fun t ht => by have := glt t ht; omega
      generalize hg : tiesG (webL n ts) n = gs at *
      have hzl := hpz.length
      have tx := due_tx n100 g100 glen
      refine ⟨D2, rfl, ⟨_, SqL.of hzs⟩, for_list (xs := ps.map fun i => V.ref (rs.getD i 0)) (fun i σ H' => (∃ v5 v6 v7 v8 v9, σ = [some (.ref a0), some (.ref p), some (.int (n : Int)), some (.ref l), some (.str (dueT n (gs.take i))), v5, v6, v7, v8, v9]) ∧ H' = H5)
        ⟨⟨_, _, _, _, _, rfl⟩, rfl⟩ (fun i σ H' _ q => by rw [q.2]; exact SqL.of hzs) ?_ ?_⟩
      · rintro i x σ H6 hi ⟨⟨v5, v6, v7, v8, v9, rfl⟩, rfl⟩
        obtain ⟨⟨a, b⟩, et, rt, rfl, hrt⟩ := paired_at hpz i x hi
        have hm := List.mem_of_getElem? et
        obtain ⟨ha, hb⟩ := g100 _ hm
        dsimp only at hrt ha hb
        have hil : i < gs.length := (List.getElem?_eq_some_iff.mp et).1
        have hd := due_len (n := n) (ts := gs.take i) n100 (fun t ht => g100 t (List.mem_of_mem_take ht))
        rw [List.length_take] at hd
        have na := (num_ok ha).2.2.1
        have nb := (num_ok hb).2.2.1
        refine ⟨rt, _, rfl, SqT.of hrt, rfl, _, _, rfl, _, _, rfl, rfl, ?_⟩
        refine ⟨_, rfl, _, _, rfl, rfl, ?_, _, rfl, _, rfl, log_small (by omega), _, num a, rfl, rfl, ?_, _, _, rfl, rfl, ?_, _, rfl, _, rfl, log_small (by omega), _, num b, rfl, rfl, ?_, ?_⟩
        · rw [sp_len, sizeLine_eq]; omega
        · rw [Str.length_append, sp_len, sizeLine_eq]; omega
        · rw [Str.length_append, Str.length_append, sp_len, mi_len, sizeLine_eq]; omega
        · rw [Str.length_append, Str.length_append, Str.length_append, sp_len, mi_len, sizeLine_eq]; omega
        · have ed : dueT n (gs.take (i + 1)) = dueT n (gs.take i) ++ Str.ofString " " ++ num a ++ Str.ofString "-" ++ num b := by
            rw [List.take_add_one, et]
            exact dueT_snoc n (gs.take i) (a, b)
          rw [ed]
          exact ⟨⟨_, _, _, _, _, rfl⟩, rfl⟩
      · rintro σ H6 ⟨⟨v5, v6, v7, v8, v9, rfl⟩, rfl⟩
        rw [show gs.take (ps.map fun i => V.ref (rs.getD i 0)).length = gs by rw [hzl, List.take_length]]
        generalize dueT n gs = z at tx ⊢
        refine ⟨6, rfl, by decide, by decide, for_range0 (n := 6) (fun i σ H' => (∃ v5 v6 v7 v8 v9, σ = [some (.ref a0), some (.ref p), some (.int (n : Int)), some (.ref l), some (.str z), v5, v6, v7, v8, v9]) ∧ PenAt K a0 ns H' p (2001 + 20 * i))
          ⟨⟨_, _, _, _, _, rfl⟩, pen5⟩ ?_ ?_⟩
        · rintro i σ H7 hi ⟨⟨v5, v6, v7, v8, v9, rfl⟩, pen7⟩
          refine ⟨_, rfl, _, rfl, p, a0, ns, 2001 + 20 * i, z, 219, 36, rfl, pen7, by omega, tx, by decide, fun z1 H8 t1 pen8 s8 => ?_⟩
          refine ⟨fun σ' H' => ∃ z2, σ' = [some (.ref a0), some (.ref p), some (.int (n : Int)), some (.ref l), some (.str z), v5, v6, some (.int (i : Int)), some (.str z2), v9] ∧ Tx z2 1000 60 ∧ PenAt K a0 ns H' p (2001 + 20 * i + 13), ?_, ?_⟩
          · refine ⟨_, rfl, p, 3, 2001 + 20 * i + 6, a0, ns, rfl, pen8, by omega, by decide, by decide, fun r H9 hr9 pen9 s9 => ⟨rfl, _, rfl, ?_⟩⟩
            by_cases r0 : r = 0
            · refine iteVt (by omega) ⟨_, rfl, _, rfl, p, a0, ns, 2001 + 20 * i + 7, z1, _, _, rfl, pen9, by omega, t1, by decide, fun z2 H10 t2 pen10 s10 => ⟨z2, rfl, t2.weak (by decide) (by decide), pen10⟩⟩
            · exact iteVf (by omega) ⟨z1, rfl, t1.weak (by decide) (by decide), pen9.mono (Same.refl _) (by omega)⟩
          · rintro σ' H' ⟨z2, rfl, t2, pen'⟩
            exact ⟨_, rfl, .str z2, rfl, .inl ⟨z2, 1000, rfl, t2, by decide⟩, fun H11 s11 => ⟨true, rfl, iteF ⟨⟨_, _, _, _, _, rfl⟩, pen'.mono s11 (by omega)⟩⟩⟩
        · rintro σ H7 ⟨⟨v5, v6, v7, v8, v9, rfl⟩, pen7⟩
          refine ⟨_, rfl, by show 1 ≤ sizeLine; decide, fun l1 hl1 => ?_⟩
          have y1 := Same.new (o := .lst [.str z]) hl1
          refine ⟨_, rfl, by show 1 ≤ sizeLine; decide, fun l2 hl2 => ?_⟩
          have y2 := Same.new (o := .tup [.str z]) hl2
          refine ⟨by show 0 ≤ sizeLine; decide, fun l3 hl3 => ⟨by show 1 ≤ sizeLine; decide, fun l4 hl4 => ?_⟩⟩
          have y3 := Same.new (o := .tup []) hl3
          have y4 := Same.new (o := .tup [.ref l3]) hl4
          refine ⟨by show 6 ≤ sizeLine; decide, fun L hL => ?_⟩
          have y5 := Same.new (o := .lst [.non, .int 3, .bl true, .ref l1, .ref l2, .ref l4]) hL
          have e1 := (y2.trans (y3.trans (y4.trans y5))) _ _ (upd_same (H := H7) (o := .lst [.str z]) (a := l1))
          have e2 := (y3.trans (y4.trans y5)) _ _ (upd_same (o := .tup [.str z]) (a := l2))
          have e4 := y5 _ _ (upd_same (o := .tup [.ref l3]) (a := l4))
          have penL := pen7.mono (y1.trans (y2.trans (y3.trans (y4.trans y5)))) (Nat.le_refl _)
          have eL : upd (upd (upd (upd (upd H7 l1 (.lst [.str z])) l2 (.tup [.str z])) l3 (.tup [])) l4 (.tup [.ref l3])) L (.lst [.non, .int 3, .bl true, .ref l1, .ref l2, .ref l4]) L = _ := upd_same
          have n1 : l1 ≠ p := pen7.ne hl1
          have n2 : l2 ≠ p := (pen7.mono y1 (Nat.le_refl _)).ne hl2
          have n4 : l4 ≠ p := (pen7.mono (y1.trans (y2.trans y3)) (Nat.le_refl _)).ne hl4
          have nL : L ≠ p := (pen7.mono (y1.trans (y2.trans (y3.trans y4))) (Nat.le_refl _)).ne hL
          generalize upd (upd (upd (upd (upd H7 l1 (.lst [.str z])) l2 (.tup [.str z])) l3 (.tup [])) l4 (.tup [.ref l3])) L (.lst [.non, .int 3, .bl true, .ref l1, .ref l2, .ref l4]) = H8 at e1 e2 e4 penL eL ⊢
          refine ⟨_, rfl, p, 6, 2001 + 20 * 6, a0, ns, rfl, penL, by omega, by decide, by decide, fun r H9 hr9 pen9 s9 => ?_⟩
          obtain ⟨v, ev, hv⟩ : ∃ v, atI [V.non, .int 3, .bl true, .ref l1, .ref l2, .ref l4] (r : Int) = some v ∧ NoStr H9 v := by
            match r, hr9 with
            | 0, _ => exact ⟨_, rfl, .inl rfl⟩
            | 1, _ => exact ⟨_, rfl, .inr (.inl ⟨3, rfl⟩)⟩
            | 2, _ => exact ⟨_, rfl, .inr (.inr (.inl ⟨true, rfl⟩))⟩
            | 3, _ => exact ⟨_, rfl, .inr (.inr (.inr (.inl ⟨l1, _, rfl, s9 _ _ e1 n1⟩)))⟩
            | 4, _ => exact ⟨_, rfl, .inr (.inr (.inr (.inr ⟨l2, _, rfl, s9 _ _ e2 n2⟩)))⟩
            | 5, _ => exact ⟨_, rfl, .inr (.inr (.inr (.inr ⟨l4, _, rfl, s9 _ _ e4 n4⟩)))⟩
          refine ⟨L, _, _, v, rfl, rfl, SqL.of (s9 _ _ eL nL), ev, ?_⟩
          exact ⟨_, rfl, v, rfl, .inr hv, fun H10 s10 => ⟨true, rfl, iteT ⟨_, rfl, .str z, rfl, .inl ⟨z, 219, rfl, tx.weak (by decide) (by decide), by decide⟩, fun H11 s11 => k _⟩⟩⟩
end
theorem all_mk {l : PySem.W.OpenLaw} {w : World} {K : PySem.W.Frag} {h : Heap} {mg : Str → Option Value} {fa : Addr} (X : K.In h) (G : h.Ns mainGlobals mg) (hfa : mg "law" = some (.ref fa)) {f0 : Addr} {od0 an0 : Option Addr} {sl0 : Array (Option Value)} {oc0 kV0 dc0 pm0 cd0 ct0 : Value} {f1 : Addr} {od1 an1 : Option Addr} {sl1 : Array (Option Value)} {oc1 kV1 dc1 pm1 cd1 ct1 : Value} {f2 : Addr} {od2 an2 : Option Addr} {sl2 : Array (Option Value)} {oc2 kV2 dc2 pm2 cd2 ct2 : Value} {f3 : Addr} {od3 an3 : Option Addr} {sl3 : Array (Option Value)} {oc3 kV3 dc3 pm3 cd3 ct3 : Value} {f4 : Addr} {od4 an4 : Option Addr} {sl4 : Array (Option Value)} {oc4 kV4 dc4 pm4 cd4 ct4 : Value} {f5 : Addr} {od5 an5 : Option Addr} {sl5 : Array (Option Value)} {oc5 kV5 dc5 pm5 cd5 ct5 : Value} {f6 : Addr} {od6 an6 : Option Addr} {sl6 : Array (Option Value)} {oc6 kV6 dc6 pm6 cd6 ct6 : Value} {f7 : Addr} {od7 an7 : Option Addr} {sl7 : Array (Option Value)} {oc7 kV7 dc7 pm7 cd7 ct7 : Value} {f8 : Addr} {od8 an8 : Option Addr} {sl8 : Array (Option Value)} {oc8 kV8 dc8 pm8 cd8 ct8 : Value} {f9 : Addr} {od9 an9 : Option Addr} {sl9 : Array (Option Value)} {oc9 kV9 dc9 pm9 cd9 ct9 : Value} {f10 : Addr} {od10 an10 : Option Addr} {sl10 : Array (Option Value)} {oc10 kV10 dc10 pm10 cd10 ct10 : Value} {f11 : Addr} {od11 an11 : Option Addr} {sl11 : Array (Option Value)} {oc11 kV11 dc11 pm11 cd11 ct11 : Value} {f12 : Addr} {od12 an12 : Option Addr} {sl12 : Array (Option Value)} {oc12 kV12 dc12 pm12 cd12 ct12 : Value} {f13 : Addr} {od13 an13 : Option Addr} {sl13 : Array (Option Value)} {oc13 kV13 dc13 pm13 cd13 ct13 : Value} {f14 : Addr} {od14 an14 : Option Addr} {sl14 : Array (Option Value)} {oc14 kV14 dc14 pm14 cd14 ct14 : Value} {f15 : Addr} {od15 an15 : Option Addr} {sl15 : Array (Option Value)} {oc15 kV15 dc15 pm15 cd15 ct15 : Value} {f16 : Addr} {od16 an16 : Option Addr} {sl16 : Array (Option Value)} {oc16 kV16 dc16 pm16 cd16 ct16 : Value} {f17 : Addr} {od17 an17 : Option Addr} {sl17 : Array (Option Value)} {oc17 kV17 dc17 pm17 cd17 ct17 : Value} {f18 : Addr} {od18 an18 : Option Addr} {sl18 : Array (Option Value)} {oc18 kV18 dc18 pm18 cd18 ct18 : Value} {f19 : Addr} {od19 an19 : Option Addr} {sl19 : Array (Option Value)} {oc19 kV19 dc19 pm19 cd19 ct19 : Value} {f20 : Addr} {od20 an20 : Option Addr} {sl20 : Array (Option Value)} {oc20 kV20 dc20 pm20 cd20 ct20 : Value} {f21 : Addr} {od21 an21 : Option Addr} {sl21 : Array (Option Value)} {oc21 kV21 dc21 pm21 cd21 ct21 : Value} {f22 : Addr} {od22 an22 : Option Addr} {sl22 : Array (Option Value)} {oc22 kV22 dc22 pm22 cd22 ct22 : Value} {f23 : Addr} {od23 an23 : Option Addr} {sl23 : Array (Option Value)} {oc23 kV23 dc23 pm23 cd23 ct23 : Value} {f24 : Addr} {od24 an24 : Option Addr} {sl24 : Array (Option Value)} {oc24 kV24 dc24 pm24 cd24 ct24 : Value} {tMOST_PLACES : Tok} {tFIGURES : Tok} {tMOST_FIGURES : Tok} {cNoWeb : Addr} {cNoText : Addr} {cWebError : Addr} {cNoFit : Addr} {cNoName : Addr} {cNoPlace : Addr} {cNoRow : Addr} {cNotClosed : Addr} {cNotOne : Addr} {cTooMany : Addr}
    (a0 : PySem.W.nsIn K mainGlobals "is_whole" = some (some (.ref f0))) (l0 : K.lookup f0 = some ⟨oc0, od0, .func (PySem.W.fnOf "is_whole" "is_whole" (defArgs sis_whole) (defBody sis_whole) (defScope sis_whole) .none kV0 dc0 pm0 an0 cd0 ct0), sl0⟩) (c0 : PySem.W.codeIn K cd0 "is_whole" = true) (k0 : PySem.W.keepIn K (.ref f0) = true)
    (a1 : PySem.W.nsIn K mainGlobals "is_whole_within" = some (some (.ref f1))) (l1 : K.lookup f1 = some ⟨oc1, od1, .func (PySem.W.fnOf "is_whole_within" "is_whole_within" (defArgs sis_whole_within) (defBody sis_whole_within) (defScope sis_whole_within) .none kV1 dc1 pm1 an1 cd1 ct1), sl1⟩) (c1 : PySem.W.codeIn K cd1 "is_whole_within" = true) (k1 : PySem.W.keepIn K (.ref f1) = true)
    (a2 : PySem.W.nsIn K mainGlobals "check_number" = some (some (.ref f2))) (l2 : K.lookup f2 = some ⟨oc2, od2, .func (PySem.W.fnOf "check_number" "check_number" (defArgs scheck_number) (defBody scheck_number) (defScope scheck_number) .none kV2 dc2 pm2 an2 cd2 ct2), sl2⟩) (c2 : PySem.W.codeIn K cd2 "check_number" = true) (k2 : PySem.W.keepIn K (.ref f2) = true)
    (a3 : PySem.W.nsIn K mainGlobals "check_tie" = some (some (.ref f3))) (l3 : K.lookup f3 = some ⟨oc3, od3, .func (PySem.W.fnOf "check_tie" "check_tie" (defArgs scheck_tie) (defBody scheck_tie) (defScope scheck_tie) .none kV3 dc3 pm3 an3 cd3 ct3), sl3⟩) (c3 : PySem.W.codeIn K cd3 "check_tie" = true) (k3 : PySem.W.keepIn K (.ref f3) = true)
    (a4 : PySem.W.nsIn K mainGlobals "tied_places" = some (some (.ref f4))) (l4 : K.lookup f4 = some ⟨oc4, od4, .func (PySem.W.fnOf "tied_places" "tied_places" (defArgs stied_places) (defBody stied_places) (defScope stied_places) .none kV4 dc4 pm4 an4 cd4 ct4), sl4⟩) (c4 : PySem.W.codeIn K cd4 "tied_places" = true) (k4 : PySem.W.keepIn K (.ref f4) = true)
    (a5 : PySem.W.nsIn K mainGlobals "web_of" = some (some (.ref f5))) (l5 : K.lookup f5 = some ⟨oc5, od5, .func (PySem.W.fnOf "web_of" "web_of" (defArgs sweb_of) (defBody sweb_of) (defScope sweb_of) .none kV5 dc5 pm5 an5 cd5 ct5), sl5⟩) (c5 : PySem.W.codeIn K cd5 "web_of" = true) (k5 : PySem.W.keepIn K (.ref f5) = true)
    (a6 : PySem.W.nsIn K mainGlobals "ties_of" = some (some (.ref f6))) (l6 : K.lookup f6 = some ⟨oc6, od6, .func (PySem.W.fnOf "ties_of" "ties_of" (defArgs sties_of) (defBody sties_of) (defScope sties_of) .none kV6 dc6 pm6 an6 cd6 ct6), sl6⟩) (c6 : PySem.W.codeIn K cd6 "ties_of" = true) (k6 : PySem.W.keepIn K (.ref f6) = true)
    (a7 : PySem.W.nsIn K mainGlobals "is_number" = some (some (.ref f7))) (l7 : K.lookup f7 = some ⟨oc7, od7, .func (PySem.W.fnOf "is_number" "is_number" (defArgs sis_number) (defBody sis_number) (defScope sis_number) .none kV7 dc7 pm7 an7 cd7 ct7), sl7⟩) (c7 : PySem.W.codeIn K cd7 "is_number" = true) (k7 : PySem.W.keepIn K (.ref f7) = true)
    (a8 : PySem.W.nsIn K mainGlobals "show_web" = some (some (.ref f8))) (l8 : K.lookup f8 = some ⟨oc8, od8, .func (PySem.W.fnOf "show_web" "show_web" (defArgs sshow_web) (defBody sshow_web) (defScope sshow_web) .none kV8 dc8 pm8 an8 cd8 ct8), sl8⟩) (c8 : PySem.W.codeIn K cd8 "show_web" = true) (k8 : PySem.W.keepIn K (.ref f8) = true)
    (a9 : PySem.W.nsIn K mainGlobals "read_many" = some (some (.ref f9))) (l9 : K.lookup f9 = some ⟨oc9, od9, .func (PySem.W.fnOf "read_many" "read_many" (defArgs sread_many) (defBody sread_many) (defScope sread_many) .none kV9 dc9 pm9 an9 cd9 ct9), sl9⟩) (c9 : PySem.W.codeIn K cd9 "read_many" = true) (k9 : PySem.W.keepIn K (.ref f9) = true)
    (a10 : PySem.W.nsIn K mainGlobals "read_tie" = some (some (.ref f10))) (l10 : K.lookup f10 = some ⟨oc10, od10, .func (PySem.W.fnOf "read_tie" "read_tie" (defArgs sread_tie) (defBody sread_tie) (defScope sread_tie) .none kV10 dc10 pm10 an10 cd10 ct10), sl10⟩) (c10 : PySem.W.codeIn K cd10 "read_tie" = true) (k10 : PySem.W.keepIn K (.ref f10) = true)
    (a11 : PySem.W.nsIn K mainGlobals "read_web" = some (some (.ref f11))) (l11 : K.lookup f11 = some ⟨oc11, od11, .func (PySem.W.fnOf "read_web" "read_web" (defArgs sread_web) (defBody sread_web) (defScope sread_web) .none kV11 dc11 pm11 an11 cd11 ct11), sl11⟩) (c11 : PySem.W.codeIn K cd11 "read_web" = true) (k11 : PySem.W.keepIn K (.ref f11) = true)
    (a12 : PySem.W.nsIn K mainGlobals "_law_mixed" = some (some (.ref f12))) (l12 : K.lookup f12 = some ⟨oc12, od12, .func (PySem.W.fnOf "_law_mixed" "_law_mixed" (defArgs s_law_mixed) (defBody s_law_mixed) (defScope s_law_mixed) .none kV12 dc12 pm12 an12 cd12 ct12), sl12⟩) (c12 : PySem.W.codeIn K cd12 "_law_mixed" = true) (k12 : PySem.W.keepIn K (.ref f12) = true)
    (a13 : PySem.W.nsIn K mainGlobals "_law_cell" = some (some (.ref f13))) (l13 : K.lookup f13 = some ⟨oc13, od13, .func (PySem.W.fnOf "_law_cell" "_law_cell" (defArgs s_law_cell) (defBody s_law_cell) (defScope s_law_cell) .none kV13 dc13 pm13 an13 cd13 ct13), sl13⟩) (c13 : PySem.W.codeIn K cd13 "_law_cell" = true) (k13 : PySem.W.keepIn K (.ref f13) = true)
    (a14 : PySem.W.nsIn K mainGlobals "_law_pen" = some (some (.ref f14))) (l14 : K.lookup f14 = some ⟨oc14, od14, .func (PySem.W.fnOf "_law_pen" "_law_pen" (defArgs s_law_pen) (defBody s_law_pen) (defScope s_law_pen) .none kV14 dc14 pm14 an14 cd14 ct14), sl14⟩) (c14 : PySem.W.codeIn K cd14 "_law_pen" = true) (k14 : PySem.W.keepIn K (.ref f14) = true)
    (a15 : PySem.W.nsIn K mainGlobals "_law_take" = some (some (.ref f15))) (l15 : K.lookup f15 = some ⟨oc15, od15, .func (PySem.W.fnOf "_law_take" "_law_take" (defArgs s_law_take) (defBody s_law_take) (defScope s_law_take) .none kV15 dc15 pm15 an15 cd15 ct15), sl15⟩) (c15 : PySem.W.codeIn K cd15 "_law_take" = true) (k15 : PySem.W.keepIn K (.ref f15) = true)
    (a16 : PySem.W.nsIn K mainGlobals "_law_any" = some (some (.ref f16))) (l16 : K.lookup f16 = some ⟨oc16, od16, .func (PySem.W.fnOf "_law_any" "_law_any" (defArgs s_law_any) (defBody s_law_any) (defScope s_law_any) .none kV16 dc16 pm16 an16 cd16 ct16), sl16⟩) (c16 : PySem.W.codeIn K cd16 "_law_any" = true) (k16 : PySem.W.keepIn K (.ref f16) = true)
    (a17 : PySem.W.nsIn K mainGlobals "_law_near" = some (some (.ref f17))) (l17 : K.lookup f17 = some ⟨oc17, od17, .func (PySem.W.fnOf "_law_near" "_law_near" (defArgs s_law_near) (defBody s_law_near) (defScope s_law_near) .none kV17 dc17 pm17 an17 cd17 ct17), sl17⟩) (c17 : PySem.W.codeIn K cd17 "_law_near" = true) (k17 : PySem.W.keepIn K (.ref f17) = true)
    (a18 : PySem.W.nsIn K mainGlobals "_law_number" = some (some (.ref f18))) (l18 : K.lookup f18 = some ⟨oc18, od18, .func (PySem.W.fnOf "_law_number" "_law_number" (defArgs s_law_number) (defBody s_law_number) (defScope s_law_number) .none kV18 dc18 pm18 an18 cd18 ct18), sl18⟩) (c18 : PySem.W.codeIn K cd18 "_law_number" = true) (k18 : PySem.W.keepIn K (.ref f18) = true)
    (a19 : PySem.W.nsIn K mainGlobals "_law_tie" = some (some (.ref f19))) (l19 : K.lookup f19 = some ⟨oc19, od19, .func (PySem.W.fnOf "_law_tie" "_law_tie" (defArgs s_law_tie) (defBody s_law_tie) (defScope s_law_tie) .none kV19 dc19 pm19 an19 cd19 ct19), sl19⟩) (c19 : PySem.W.codeIn K cd19 "_law_tie" = true) (k19 : PySem.W.keepIn K (.ref f19) = true)
    (a20 : PySem.W.nsIn K mainGlobals "_law_writes" = some (some (.ref f20))) (l20 : K.lookup f20 = some ⟨oc20, od20, .func (PySem.W.fnOf "_law_writes" "_law_writes" (defArgs s_law_writes) (defBody s_law_writes) (defScope s_law_writes) .none kV20 dc20 pm20 an20 cd20 ct20), sl20⟩) (c20 : PySem.W.codeIn K cd20 "_law_writes" = true) (k20 : PySem.W.keepIn K (.ref f20) = true)
    (a21 : PySem.W.nsIn K mainGlobals "_law_bent_words" = some (some (.ref f21))) (l21 : K.lookup f21 = some ⟨oc21, od21, .func (PySem.W.fnOf "_law_bent_words" "_law_bent_words" (defArgs s_law_bent_words) (defBody s_law_bent_words) (defScope s_law_bent_words) .none kV21 dc21 pm21 an21 cd21 ct21), sl21⟩) (c21 : PySem.W.codeIn K cd21 "_law_bent_words" = true) (k21 : PySem.W.keepIn K (.ref f21) = true)
    (a22 : PySem.W.nsIn K mainGlobals "_law_bent" = some (some (.ref f22))) (l22 : K.lookup f22 = some ⟨oc22, od22, .func (PySem.W.fnOf "_law_bent" "_law_bent" (defArgs s_law_bent) (defBody s_law_bent) (defScope s_law_bent) .none kV22 dc22 pm22 an22 cd22 ct22), sl22⟩) (c22 : PySem.W.codeIn K cd22 "_law_bent" = true) (k22 : PySem.W.keepIn K (.ref f22) = true)
    (a23 : PySem.W.nsIn K mainGlobals "_law_right" = some (some (.ref f23))) (l23 : K.lookup f23 = some ⟨oc23, od23, .func (PySem.W.fnOf "_law_right" "_law_right" (defArgs s_law_right) (defBody s_law_right) (defScope s_law_right) .none kV23 dc23 pm23 an23 cd23 ct23), sl23⟩) (c23 : PySem.W.codeIn K cd23 "_law_right" = true) (k23 : PySem.W.keepIn K (.ref f23) = true)
    (a24 : PySem.W.nsIn K mainGlobals "law" = some (some (.ref f24))) (l24 : K.lookup f24 = some ⟨oc24, od24, .func (PySem.W.fnOf "law" "law" (defArgs slaw) (defBody slaw) (defScope slaw) .none kV24 dc24 pm24 an24 cd24 ct24), sl24⟩) (c24 : PySem.W.codeIn K cd24 "law" = true) (k24 : PySem.W.keepIn K (.ref f24) = true)
    (zlen : PySem.W.nsIn K mainGlobals "len" = some none)
    (zisinstance : PySem.W.nsIn K mainGlobals "isinstance" = some none)
    (zint : PySem.W.nsIn K mainGlobals "int" = some none)
    (zbool : PySem.W.nsIn K mainGlobals "bool" = some none)
    (zlist : PySem.W.nsIn K mainGlobals "list" = some none)
    (ztuple : PySem.W.nsIn K mainGlobals "tuple" = some none)
    (zrange : PySem.W.nsIn K mainGlobals "range" = some none)
    (zenumerate : PySem.W.nsIn K mainGlobals "enumerate" = some none)
    (zsorted : PySem.W.nsIn K mainGlobals "sorted" = some none)
    (zmin : PySem.W.nsIn K mainGlobals "min" = some none)
    (zmax : PySem.W.nsIn K mainGlobals "max" = some none)
    (zall : PySem.W.nsIn K mainGlobals "all" = some none)
    (zset : PySem.W.nsIn K mainGlobals "set" = some none)
    (zstr : PySem.W.nsIn K mainGlobals "str" = some none)
    (zValueError : PySem.W.nsIn K mainGlobals "ValueError" = some none)
    (gMOST_PLACES : PySem.W.nsIn K mainGlobals "MOST_PLACES" = some (some (.int 24 tMOST_PLACES)))
    (gFIGURES : PySem.W.nsIn K mainGlobals "FIGURES" = some (some (.str "0123456789" tFIGURES)))
    (gMOST_FIGURES : PySem.W.nsIn K mainGlobals "MOST_FIGURES" = some (some (.int 2 tMOST_FIGURES)))
    (hm_NoWeb : PySem.W.nsIn K mainGlobals "NoWeb" = some (some (.ref cNoWeb)))
    (hm_NoText : PySem.W.nsIn K mainGlobals "NoText" = some (some (.ref cNoText)))
    (hm_WebError : PySem.W.nsIn K mainGlobals "WebError" = some (some (.ref cWebError)))
    (hm_NoFit : PySem.W.nsIn K mainGlobals "NoFit" = some (some (.ref cNoFit)))
    (hm_NoName : PySem.W.nsIn K mainGlobals "NoName" = some (some (.ref cNoName)))
    (hm_NoPlace : PySem.W.nsIn K mainGlobals "NoPlace" = some (some (.ref cNoPlace)))
    (hm_NoRow : PySem.W.nsIn K mainGlobals "NoRow" = some (some (.ref cNoRow)))
    (hm_NotClosed : PySem.W.nsIn K mainGlobals "NotClosed" = some (some (.ref cNotClosed)))
    (hm_NotOne : PySem.W.nsIn K mainGlobals "NotOne" = some (some (.ref cNotOne)))
    (hm_TooMany : PySem.W.nsIn K mainGlobals "TooMany" = some (some (.ref cTooMany)))
    (hq_NoWeb : PySem.W.excIn K cNoWeb bmVE "ValueError.__new__" = true)
    (hq_NoText : PySem.W.excIn K cNoText bmVE "ValueError.__new__" = true)
    (hq_WebError : PySem.W.excIn K cWebError bmVE "ValueError.__new__" = true)
    (he_NoWeb : excK K cNoWeb = true)
    (hr_NoWeb_WebError : PySem.W.mroIn K cNoWeb (.ref cWebError) = some true)
    (hi_NoWeb_t0 : PySem.W.kitAny K (.ref cNoWeb) [.ref cNoFit, .ref cNoName, .ref cNoPlace, .ref cNoRow, .ref cNotClosed, .ref cNotOne, .ref cNoWeb, .ref cTooMany] = some true)
    (hi_NoWeb_NoText : PySem.W.kitOne K (.ref cNoWeb) (.ref cNoText) = some false)
    (hi_NoWeb_ValueError : PySem.W.kitOne K (.ref cNoWeb) (.type "ValueError") = some true)
    (he_NoText : excK K cNoText = true)
    (hr_NoText_WebError : PySem.W.mroIn K cNoText (.ref cWebError) = some true)
    (hi_NoText_t0 : PySem.W.kitAny K (.ref cNoText) [.ref cNoFit, .ref cNoName, .ref cNoPlace, .ref cNoRow, .ref cNotClosed, .ref cNotOne, .ref cNoWeb, .ref cTooMany] = some false)
    (hi_NoText_NoText : PySem.W.kitOne K (.ref cNoText) (.ref cNoText) = some true)
    (hi_NoText_ValueError : PySem.W.kitOne K (.ref cNoText) (.type "ValueError") = some true) :
    ∃ fd : FuncData, (∀ (s : Shared) (v : Value), BindsTo s fd ⟨[v], []⟩ [("_law_script", v)]) ∧ ∀ base : Heap, K.In base → base.Ns mainGlobals mg → FnOk l.prog w K mg base CX0 9 fa fd ["_law_script"] (spLaw K) := by
  have T : Txt K mg tMOST_PLACES tFIGURES tMOST_FIGURES cNoWeb cNoText cWebError cNoFit cNoName cNoPlace cNoRow cNotClosed cNotOne cTooMany := ⟨⟨f0, _, fun_mk (st := sis_whole) l0 c0 k0, PySem.W.mg_of X G a0⟩, ⟨f1, _, fun_mk (st := sis_whole_within) l1 c1 k1, PySem.W.mg_of X G a1⟩, ⟨f2, _, fun_mk (st := scheck_number) l2 c2 k2, PySem.W.mg_of X G a2⟩, ⟨f3, _, fun_mk (st := scheck_tie) l3 c3 k3, PySem.W.mg_of X G a3⟩, ⟨f4, _, fun_mk (st := stied_places) l4 c4 k4, PySem.W.mg_of X G a4⟩, ⟨f5, _, fun_mk (st := sweb_of) l5 c5 k5, PySem.W.mg_of X G a5⟩, ⟨f6, _, fun_mk (st := sties_of) l6 c6 k6, PySem.W.mg_of X G a6⟩, ⟨f7, _, fun_mk (st := sis_number) l7 c7 k7, PySem.W.mg_of X G a7⟩, ⟨f8, _, fun_mk (st := sshow_web) l8 c8 k8, PySem.W.mg_of X G a8⟩, ⟨f9, _, fun_mk (st := sread_many) l9 c9 k9, PySem.W.mg_of X G a9⟩, ⟨f10, _, fun_mk (st := sread_tie) l10 c10 k10, PySem.W.mg_of X G a10⟩, ⟨f11, _, fun_mk (st := sread_web) l11 c11 k11, PySem.W.mg_of X G a11⟩, ⟨f12, _, fun_mk (st := s_law_mixed) l12 c12 k12, PySem.W.mg_of X G a12⟩, ⟨f13, _, fun_mk (st := s_law_cell) l13 c13 k13, PySem.W.mg_of X G a13⟩, ⟨f14, _, fun_mk (st := s_law_pen) l14 c14 k14, PySem.W.mg_of X G a14⟩, ⟨f15, _, fun_mk (st := s_law_take) l15 c15 k15, PySem.W.mg_of X G a15⟩, ⟨f16, _, fun_mk (st := s_law_any) l16 c16 k16, PySem.W.mg_of X G a16⟩, ⟨f17, _, fun_mk (st := s_law_near) l17 c17 k17, PySem.W.mg_of X G a17⟩, ⟨f18, _, fun_mk (st := s_law_number) l18 c18 k18, PySem.W.mg_of X G a18⟩, ⟨f19, _, fun_mk (st := s_law_tie) l19 c19 k19, PySem.W.mg_of X G a19⟩, ⟨f20, _, fun_mk (st := s_law_writes) l20 c20 k20, PySem.W.mg_of X G a20⟩, ⟨f21, _, fun_mk (st := s_law_bent_words) l21 c21 k21, PySem.W.mg_of X G a21⟩, ⟨f22, _, fun_mk (st := s_law_bent) l22 c22 k22, PySem.W.mg_of X G a22⟩, ⟨f23, _, fun_mk (st := s_law_right) l23 c23 k23, PySem.W.mg_of X G a23⟩, ⟨f24, _, fun_mk (st := slaw) l24 c24 k24, PySem.W.mg_of X G a24⟩, PySem.W.mg_none_of X G zlen, PySem.W.mg_none_of X G zisinstance, PySem.W.mg_none_of X G zint, PySem.W.mg_none_of X G zbool, PySem.W.mg_none_of X G zlist, PySem.W.mg_none_of X G ztuple, PySem.W.mg_none_of X G zrange, PySem.W.mg_none_of X G zenumerate, PySem.W.mg_none_of X G zsorted, PySem.W.mg_none_of X G zmin, PySem.W.mg_none_of X G zmax, PySem.W.mg_none_of X G zall, PySem.W.mg_none_of X G zset, PySem.W.mg_none_of X G zstr, PySem.W.mg_none_of X G zValueError, PySem.W.mg_of X G gMOST_PLACES, PySem.W.mg_of X G gFIGURES, PySem.W.mg_of X G gMOST_FIGURES, PySem.W.mg_of X G hm_NoWeb, PySem.W.mg_of X G hm_NoText, PySem.W.mg_of X G hm_WebError, PySem.W.mg_of X G hm_NoFit, PySem.W.mg_of X G hm_NoName, PySem.W.mg_of X G hm_NoPlace, PySem.W.mg_of X G hm_NoRow, PySem.W.mg_of X G hm_NotClosed, PySem.W.mg_of X G hm_NotOne, PySem.W.mg_of X G hm_TooMany, hq_NoWeb, hq_NoText, hq_WebError, he_NoWeb, hr_NoWeb_WebError, hi_NoWeb_t0, hi_NoWeb_NoText, hi_NoWeb_ValueError, he_NoText, hr_NoText_WebError, hi_NoText_t0, hi_NoText_NoText, hi_NoText_ValueError⟩
  have e := hfa.symm.trans (PySem.W.mg_of X G a24)
  cases e
  exact ⟨_, fun s v => .of_eq rfl, fun base _ _ => ok_law T (fun_mk (st := slaw) l24 c24 k24)⟩
theorem walk {l : PySem.W.OpenLaw} {q : Program} {loose : List Str} {XP : (Str → Option Value) → Heap → Prop} {YP : World → Heap → Prop} {d : DefRec} {K : Params → PySem.W.Frag} (hn : l.most = some 63) (hdf : d.params.defaults = [])
    (hY : ∀ (w : World) (h : Heap), YP w h → (K w.params).In h)
    (F : ∀ (w : World) (mg : Str → Option Value) (fa : Addr) (h : Heap), (K w.params).In h → h.Ns mainGlobals mg → mg d.name = some (.ref fa) →
      ∃ fd : FuncData, (∀ (s : Shared) (u : Value), BindsTo s fd ⟨[u], []⟩ [("_law_script", u)]) ∧ ∀ base : Heap, (K w.params).In base → base.Ns mainGlobals mg → FnOk l.prog w (K w.params) mg base CX0 9 fa fd ["_law_script"] (spLaw (K w.params))) :
    PySem.W.WalkO q loose XP YP l.row.toRowW d [] (fun f vs => PySem.call f vs) :=
  L2.walk_of (n := 63) (k := 9) (x := "_law_script") (CX := fun _ => CX0) (sp := fun w => spLaw (K w.params)) hn (by decide) hdf ⟨rfl, by decide, by decide⟩ hY F (fun _ _ a ns hl _ hS => ⟨a, ns, rfl, hS, hl, fun _ => rfl⟩) fun _ _ _ _ _ z => z
end K44
def PySem.W.Fast.tw4541006482691582031 : Nat := 0
def PySem.W.Fast.tw7953450044316284157 : Nat := 0
def PySem.W.Fast.tw6688880213786176746 : Nat := 0
def PySem.W.Fast.tw3297334219939803716 : Nat := 0
def PySem.W.Fast.tw16676599155620318296 : Nat := 0
def PySem.W.Fast.tw8542667474708066399 : Nat := 0
def PySem.W.Fast.tw2352471547254367753 : Nat := 0
def PySem.W.Fast.tw6490201306070222361 : Nat := 0
def PySem.W.Fast.tw11715111737154704316 : Nat := 0
def PySem.W.Fast.tw17384360664605235409 : Nat := 0
def PySem.W.Fast.tw5892913431213023592 : Nat := 0
def PySem.W.Fast.tw17104791663511271199 : Nat := 0
def PySem.W.Fast.tw13473975419541618400 : Nat := 0
def PySem.W.Fast.tw4229119996714831389 : Nat := 0
def PySem.W.Fast.tw4654082775381719153 : Nat := 0
def PySem.W.Fast.tw10603797576200791034 : Nat := 0
def PySem.W.Fast.tw3912807862374077604 : Nat := 0
def PySem.W.Fast.tw1180241057664543585 : Nat := 0
def PySem.W.Fast.tw14474327808596928649 : Nat := 0
def PySem.W.Fast.tw4757422236094511521 : Nat := 0
def PySem.W.Fast.tw8902153484687340936 : Nat := 0
open PySem PySem.W PyProof.Rows
set_option maxRecDepth 100000 in
set_option maxHeartbeats 0 in
theorem PySem.Challenge.cw_middleweb_k44_texts_of_no_webs_holds : PySem.Challenge.rw_middleweb_k44_texts_of_no_webs.Holds := by
  w_on; o_law; k_head; (case hw => w_witness2)
  k_fill
  refine K44.walk (l := PySem.Challenge.rw_middleweb_k44_texts_of_no_webs) rfl rfl (fun w h Y => PySem.W.kIn_of Y) ?F
  case F =>
    intro w mg fa h KX G hmg
    refine' K44.all_mk KX G hmg ?a0 ?l0 ?c0 ?k0 ?a1 ?l1 ?c1 ?k1 ?a2 ?l2 ?c2 ?k2 ?a3 ?l3 ?c3 ?k3 ?a4 ?l4 ?c4 ?k4 ?a5 ?l5 ?c5 ?k5 ?a6 ?l6 ?c6 ?k6 ?a7 ?l7 ?c7 ?k7 ?a8 ?l8 ?c8 ?k8 ?a9 ?l9 ?c9 ?k9 ?a10 ?l10 ?c10 ?k10 ?a11 ?l11 ?c11 ?k11 ?a12 ?l12 ?c12 ?k12 ?a13 ?l13 ?c13 ?k13 ?a14 ?l14 ?c14 ?k14 ?a15 ?l15 ?c15 ?k15 ?a16 ?l16 ?c16 ?k16 ?a17 ?l17 ?c17 ?k17 ?a18 ?l18 ?c18 ?k18 ?a19 ?l19 ?c19 ?k19 ?a20 ?l20 ?c20 ?k20 ?a21 ?l21 ?c21 ?k21 ?a22 ?l22 ?c22 ?k22 ?a23 ?l23 ?c23 ?k23 ?a24 ?l24 ?c24 ?k24 ?zlen ?zisinstance ?zint ?zbool ?zlist ?ztuple ?zrange ?zenumerate ?zsorted ?zmin ?zmax ?zall ?zset ?zstr ?zValueError ?gMOST_PLACES ?gFIGURES ?gMOST_FIGURES ?hm_NoWeb ?hm_NoText ?hm_WebError ?hm_NoFit ?hm_NoName ?hm_NoPlace ?hm_NoRow ?hm_NotClosed ?hm_NotOne ?hm_TooMany ?hq_NoWeb ?hq_NoText ?hq_WebError ?he_NoWeb ?hr_NoWeb_WebError ?hi_NoWeb_t0 ?hi_NoWeb_NoText ?hi_NoWeb_ValueError ?he_NoText ?hr_NoText_WebError ?hi_NoText_t0 ?hi_NoText_NoText ?hi_NoText_ValueError
    (case a0 => k_is); (case l0 => k_is); (case c0 => k_is); (case k0 => k_is); (case a1 => k_is); (case l1 => k_is)
    (case c1 => k_is); (case k1 => k_is); (case a2 => k_is); (case l2 => k_is); (case c2 => k_is); (case k2 => k_is)
    (case a3 => k_is); (case l3 => k_is); (case c3 => k_is); (case k3 => k_is); (case a4 => k_is); (case l4 => k_is)
    (case c4 => k_is); (case k4 => k_is); (case a5 => k_is); (case l5 => k_is); (case c5 => k_is); (case k5 => k_is)
    (case a6 => k_is); (case l6 => k_is); (case c6 => k_is); (case k6 => k_is); (case a7 => k_is); (case l7 => k_is)
    (case c7 => k_is); (case k7 => k_is); (case a8 => k_is); (case l8 => k_is); (case c8 => k_is); (case k8 => k_is)
    (case a9 => k_is); (case l9 => k_is); (case c9 => k_is); (case k9 => k_is); (case a10 => k_is); (case l10 => k_is)
    (case c10 => k_is); (case k10 => k_is); (case a11 => k_is); (case l11 => k_is); (case c11 => k_is); (case k11 => k_is)
    (case a12 => k_is); (case l12 => k_is); (case c12 => k_is); (case k12 => k_is); (case a13 => k_is); (case l13 => k_is)
    (case c13 => k_is); (case k13 => k_is); (case a14 => k_is); (case l14 => k_is); (case c14 => k_is); (case k14 => k_is)
    (case a15 => k_is); (case l15 => k_is); (case c15 => k_is); (case k15 => k_is); (case a16 => k_is); (case l16 => k_is)
    (case c16 => k_is); (case k16 => k_is); (case a17 => k_is); (case l17 => k_is); (case c17 => k_is); (case k17 => k_is)
    (case a18 => k_is); (case l18 => k_is); (case c18 => k_is); (case k18 => k_is); (case a19 => k_is); (case l19 => k_is)
    (case c19 => k_is); (case k19 => k_is); (case a20 => k_is); (case l20 => k_is); (case c20 => k_is); (case k20 => k_is)
    (case a21 => k_is); (case l21 => k_is); (case c21 => k_is); (case k21 => k_is); (case a22 => k_is); (case l22 => k_is)
    (case c22 => k_is); (case k22 => k_is); (case a23 => k_is); (case l23 => k_is); (case c23 => k_is); (case k23 => k_is)
    (case a24 => k_is); (case l24 => k_is); (case c24 => k_is); (case k24 => k_is); (case zlen => k_is); (case zisinstance => k_is)
    (case zint => k_is); (case zbool => k_is); (case zlist => k_is); (case ztuple => k_is); (case zrange => k_is); (case zenumerate => k_is)
    (case zsorted => k_is); (case zmin => k_is); (case zmax => k_is); (case zall => k_is); (case zset => k_is); (case zstr => k_is)
    (case zValueError => k_is); (case gMOST_PLACES => k_is); (case gFIGURES => k_is); (case gMOST_FIGURES => k_is); (case hm_NoWeb => k_is); (case hm_NoText => k_is)
    (case hm_WebError => k_is); (case hm_NoFit => k_is); (case hm_NoName => k_is); (case hm_NoPlace => k_is); (case hm_NoRow => k_is); (case hm_NotClosed => k_is)
    (case hm_NotOne => k_is); (case hm_TooMany => k_is); (case hq_NoWeb => k_exc); (case hq_NoText => k_exc); (case hq_WebError => k_exc); (case he_NoWeb => kernel_rfl)
    (case hr_NoWeb_WebError => k_is); (case hi_NoWeb_t0 => kernel_rfl); (case hi_NoWeb_NoText => kernel_rfl); (case hi_NoWeb_ValueError => kernel_rfl); (case he_NoText => kernel_rfl); (case hr_NoText_WebError => k_is)
    (case hi_NoText_t0 => kernel_rfl); (case hi_NoText_NoText => kernel_rfl); (case hi_NoText_ValueError => kernel_rfl)
