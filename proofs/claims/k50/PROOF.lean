import PyProof.Rows.All
import Wide.All
import OpenK.AllK
import Wide.FinOn
import Lean
import PyProof.EqAt
import PyProof.EqKinds
import PyProof.TupleCall
import PyProof.CompFree
import KE.KLam
import KE.KMinKey
import PyProof.Rows.SumAny
import KE.KTupSum
import KE.KSortTup
import PyProof.FactsAll.list_2
import PyProof.NeKinds
import PyProof.EqAt
import PyProof.CollectWalk
import PySem.Challenge.RW_middleweb_k50_whole_by_other_numbers
set_option Elab.async false
set_option linter.all false
set_option maxRecDepth 100000
namespace L2
open PySem PySem.Spec PyProof.Rows
abbrev Key := Sum Int Str
def keyIs : Key -> Value -> Bool
  | .inl k, v => Value.isInt k v
  | .inr x, v => Value.isStrOf x v
def keyH (w : World) : Key -> Int
  | .inl k => hashInt k
  | .inr x => hashStr w x
theorem keyIs_shape : ∀ {k : Key} {v : Value}, keyIs k v = true -> (∃ i t, k = Sum.inl i /\ v = Value.int i t) \/ (∃ x t, k = Sum.inr x /\ v = Value.str x t)
  | .inl i, v, h => by
    obtain ⟨t, e⟩ := Value.isInt_shape (k := i) (v := v) h
    exact .inl ⟨i, t, rfl, e⟩
  | .inr x, v, h => by
    obtain ⟨t, e⟩ := Value.isStrOf_shape (x := x) (v := v) h
    exact .inr ⟨x, t, rfl, e⟩
theorem key_ll (a b : Int) : decide ((Sum.inl a : Key) = Sum.inl b) = (a == b) := by
  by_cases e : a = b
  · subst e; simp
  · have h : ¬ (Sum.inl a : Key) = Sum.inl b := fun q => e (Sum.inl.inj q)
    rw [decide_eq_false h]
    exact (beq_eq_false_iff_ne.mpr e).symm
theorem key_rr (a b : Str) : decide ((Sum.inr a : Key) = Sum.inr b) = decide (a = b) := by
  by_cases e : a = b
  · subst e; simp
  · have h : ¬ (Sum.inr a : Key) = Sum.inr b := fun q => e (Sum.inr.inj q)
    rw [decide_eq_false h, decide_eq_false e]
theorem key_lr (a : Int) (b : Str) : decide ((Sum.inl a : Key) = Sum.inr b) = false := decide_eq_false (fun q => nomatch q)
theorem key_rl (a : Str) (b : Int) : decide ((Sum.inr a : Key) = Sum.inl b) = false := decide_eq_false (fun q => nomatch q)
def mixKind (prog : Program) (w : World) : PySem.KeyKind prog w Key where
  is := keyIs
  hash := keyH w
  inj := fun v a b ha hb => by
    rcases keyIs_shape ha with ⟨i, t, rfl, rfl⟩ | ⟨x, t, rfl, rfl⟩
    · rcases keyIs_shape hb with ⟨j, u, rfl, e⟩ | ⟨y, u, rfl, e⟩
      · injection e with e1 _; rw [e1]
      · exact nomatch e
    · rcases keyIs_shape hb with ⟨j, u, rfl, e⟩ | ⟨y, u, rfl, e⟩
      · exact nomatch e
      · injection e with e1 _; rw [e1]
  byValue := fun k v h => by
    rcases keyIs_shape h with ⟨i, t, rfl, rfl⟩ | ⟨x, t, rfl, rfl⟩ <;> rfl
  pyHash := fun hv h => by
    rcases keyIs_shape hv with ⟨i, t, rfl, rfl⟩ | ⟨x, t, rfl, rfl⟩
    · exact wpAny_pyHash_int h
    · exact wpAny_pyHash_str h
  eqBool := fun hu hv h => by
    rcases keyIs_shape hu with ⟨i, t, rfl, rfl⟩ | ⟨x, t, rfl, rfl⟩
    · rcases keyIs_shape hv with ⟨j, u, rfl, rfl⟩ | ⟨y, u, rfl, rfl⟩
      · rw [key_ll] at h; exact wpAny_eqBool_int h
      · rw [key_lr] at h; exact SeqAt.EqAt.int_str i t y u _ _ _ _ h
    · rcases keyIs_shape hv with ⟨j, u, rfl, rfl⟩ | ⟨y, u, rfl, rfl⟩
      · rw [key_rl] at h; exact SeqAt.EqAt.str_int x t j u _ _ _ _ h
      · rw [key_rr] at h; exact wpAny_eqBool_str h
  «strs» := fun k x t v h => by
    rcases keyIs_shape h with ⟨i, u, rfl, e⟩ | ⟨y, u, rfl, e⟩
    · exact nomatch e
    · injection e with e1 _
      subst e1
      cases v <;> rfl
end L2
namespace L2
open PySem PySem.Spec PyProof.Rows
inductive V where
  | non | bl (b : Bool) | int (i : Int) | str (x : Str) | byt (b : Array UInt8) | flt (b : UInt64) | ref (a : Addr) | ty (n : String)
  deriving DecidableEq
def RelV : V -> Value -> Prop
  | .non, u => u = Value.none
  | .bl b, u => u = Value.bool b
  | .int i, u => ∃ t, u = Value.int i t
  | .str x, u => ∃ t, u = Value.str x t
  | .byt b, u => ∃ t, u = Value.bytes b t
  | .flt b, u => ∃ t, u = Value.float b t
  | .ref a, u => u = Value.ref a
  | .ty n, u => u = Value.type n
abbrev Vals : List V -> List Value -> Prop := Paired RelV
theorem Vals.length {xs : List V} {us : List Value} (r : Vals xs us) : xs.length = us.length := Paired.length r
theorem Vals.get : ∀ {xs : List V} {us : List Value} {i : Nat} {x : V}, Vals xs us -> xs[i]? = some x -> ∃ u, us[i]? = some u /\ RelV x u
  | _, _, _, _, .nil, e => by simp at e
  | _, _, 0, _, .cons r _, e => by simp at e; subst e; exact ⟨_, rfl, r⟩
  | _, _, i + 1, x, .cons _ t, e => by
    obtain ⟨u, h1, h2⟩ := Vals.get (i := i) (x := x) t (by simpa using e)
    exact ⟨u, by simpa using h1, h2⟩
theorem Vals.set {x : V} {u : Value} (r : RelV x u) : ∀ {xs : List V} {us : List Value} (i : Nat), Vals xs us -> Vals (xs.set i x) (us.set i u)
  | _, _, _, .nil => .nil
  | _, _, 0, .cons _ t => .cons r t
  | _, _, i + 1, .cons q t => .cons q (Vals.set r i t)
theorem Vals.append : ∀ {xs ys : List V} {us ws : List Value}, Vals xs us -> Vals ys ws -> Vals (xs ++ ys) (us ++ ws)
  | _, _, _, _, .nil, s => s
  | _, _, _, _, .cons r t, s => .cons r (Vals.append t s)
theorem Vals.take : ∀ {xs : List V} {us : List Value} (n : Nat), Vals xs us -> Vals (xs.take n) (us.take n)
  | _, _, 0, _ => .nil
  | _, _, _ + 1, .nil => .nil
  | _, _, n + 1, .cons r t => .cons r (Vals.take n t)
theorem Vals.drop : ∀ {xs : List V} {us : List Value} (n : Nat), Vals xs us -> Vals (xs.drop n) (us.drop n)
  | _, _, 0, r => r
  | _, _, _ + 1, .nil => .nil
  | _, _, n + 1, .cons _ t => Vals.drop n t
def RelO : Option V -> Option Value -> Prop
  | some v, some u => RelV v u
  | none, none => True
  | _, _ => False
def KV {κ : Type} : List (κ × V) -> List (κ × Value) -> Prop := Paired fun (p : κ × V) (q : κ × Value) => p.1 = q.1 /\ RelV p.2 q.2
def kV : Key -> V
  | .inl i => .int i
  | .inr x => .str x
inductive HO where
    | lst (xs : List V)
    | tup (xs : List V)
    | dK (kvs : List (Key × V)) | dT (kvs : List (List Key × V))
    | set (S : Int -> Bool) (n : Nat)
    | ins (C dx : Addr) (fs : List (Str × V))
    | own (x : Addr)
    | xd (fs : List (Str × V))
    | met (f x : Addr)
    | rng (lo hi : Int)
    | frz (o : Obj) (u : HO)
    | tbl (ps : Array Value)
    | ext (φ : Heap -> Prop)
    | tab (p : Pos) (q : Str)
abbrev Hp := Addr -> Option HO
def upd (H : Hp) (a : Addr) (o : HO) : Hp := fun b => if b = a then some o else H b
theorem upd_same {H : Hp} {a : Addr} {o : HO} : upd H a o a = some o := by unfold upd; rw [if_pos rfl]
theorem upd_ne {H : Hp} {a b : Addr} {o : HO} (h : b ≠ a) : upd H a o b = H b := by unfold upd; rw [if_neg h]
theorem ne_of_none {H : Hp} {a b : Addr} {o : HO} (h : H a = some o) (h' : H b = none) : a ≠ b := by
  intro e; subst e; rw [h] at h'; cases h'
section
variable (P : Program) (w : World)
def ObjOk (H : Hp) (h : Heap) (a : Addr) : HO -> Prop
  | .lst xs => xs.length <= sizeLine /\ ∃ (its : List Value) (n : Nat), Vals xs its /\ h.get? a = some { cls := .type "list", data := .seq its.toArray n }
  | .tup xs => xs.length <= sizeLine /\ ∃ its : List Value, Vals xs its /\ IsTup h a its.toArray
  | .dK kvs => kvs.length <= sizeLine /\ (a == sysModules) = false /\ ∃ vs, KV kvs vs /\ h.DictOf (mixKind P w) a vs
  | .dT kvs => kvs.length <= sizeLine /\ (a == sysModules) = false /\ ∃ xs : List (List Key × Addr × Value),
      Paired (fun (p : List Key × V) (q : List Key × Addr × Value) => p.1 = q.1 /\ H q.2.1 = some (.tup (p.1.map kV)) /\ RelV p.2 q.2.2) kvs xs /\
      ∃ o es ep, h.get? a = some o /\ o.ExactDict /\ o.data = .dict es ep /\ es.toList = xs.map (entryOfKey (tupleKind (mixKind P w))) /\ (xs.map (·.1)).Nodup
  | .set S n => h.SetOf (intKind P w) a S n
  | .ins C dx fs => H dx = some (.own a) /\ fs.length <= 1000 /\ dx ≠ a /\ h.get? a = some (PySem.W.instObj C dx) /\
      ∃ mA, h.Ns1 dx mA /\ (∀ f, RelO (fs.lookup f) (mA f)) /\ PySem.Within mA (fs.map (·.1))
  | .own _ => ∃ o, h.get? a = some o
  | .xd fs => ∃ mA, h.Ns1 a mA /\ ∀ f, RelO (fs.lookup f) (mA f)
  | .rng lo hi => ∃ t u v, h.get? a = some { cls := .type "range", data := .fields #[.int lo t, .int hi u, .int 1 v] }
  | .frz o u => h.get? a = some o /\ ObjOk H h a u
  | .tbl ps => h.get? a = some { cls := .none, data := .fields ps }
  | .met f x => h.get? a = some (PySem.W.methodObj (.ref f) (.ref x))
  | .ext φ => φ h /\ (∃ o, h.get? a = some o) /\ ∀ h1 h2 : Heap, φ h1 -> (∀ o, h1.get? a = some o -> h2.get? a = some o) -> φ h2
  | .tab p q => ∃ ps : Array Value, h.get? a = some { cls := .none, data := .fields ps } /\ TriplesOk ps.toList /\ ∀ cv, codeAmong p ps.toList = some cv ->
      ∃ (c : Addr) (o : Obj) (vs : Array Value) (t : Tok), cv = .ref c /\ H c = some (.own a) /\ h.get? c = some o /\ o.data = .fields vs /\ vs[1]? = some (.str q t)
def HOk (H : Hp) (h : Heap) : Prop := ∀ a o, H a = some o -> ObjOk P w H h a o
end
section
variable {P : Program} {w : World} {H H' : Hp} {h h' : Heap} {a : Addr} {o : HO}
theorem ObjOk.lt (x : ObjOk P w H h a o) : a < h.objs.size := by
  cases o with
  | lst xs => obtain ⟨_, _, _, _, e⟩ := x; exact Heap.lt_size e
  | tup xs => obtain ⟨_, _, _, p⟩ := x; exact p.lt
  | dK kvs => obtain ⟨_, _, _, _, o, _, _, e, _⟩ := x; exact Heap.lt_size e
  | dT kvs => obtain ⟨_, _, _, _, o, _, _, e, _⟩ := x; exact Heap.lt_size e
  | set S n => obtain ⟨o, _, _, _, e, _⟩ := x; exact Heap.lt_size e
  | ins C dx fs => obtain ⟨_, _, _, e, _⟩ := x; exact Heap.lt_size e
  | own y => obtain ⟨_, e⟩ := x; exact Heap.lt_size e
  | xd fs => obtain ⟨_, ⟨_, _, _, e, _⟩, _⟩ := x; exact Heap.lt_size e
  | rng lo hi => obtain ⟨_, _, _, e⟩ := x; exact Heap.lt_size e
  | frz ob u => obtain ⟨e, _⟩ := x; exact Heap.lt_size e
  | tbl ps => exact Heap.lt_size (show h.get? a = some _ from x)
  | met f y => exact Heap.lt_size (show h.get? a = some _ from x)
  | ext φ => obtain ⟨_, ⟨_, e⟩, _⟩ := x; exact Heap.lt_size e
  | tab p q => obtain ⟨_, e, _⟩ := x; exact Heap.lt_size e
theorem Paired.mapP {α β : Type} {F G : α -> β -> Prop} : ∀ {l₁ : List α} {l₂ : List β}, Paired F l₁ l₂ -> (∀ a b, F a b -> G a b) -> Paired G l₁ l₂
  | _, _, .nil, _ => .nil
  | _, _, .cons r t, f => .cons (f _ _ r) (Paired.mapP t f)
theorem ObjOk.stay (x : ObjOk P w H h a o) (k : ∀ b u, (b = a \/ H b = some (.own a)) -> h.get? b = some u -> h'.get? b = some u)
    (ho : ∀ b, H b = some (.own a) -> H' b = some (.own a)) (ht : ∀ b xs, H b = some (.tup xs) -> H' b = some (.tup xs)) : ObjOk P w H' h' a o := by
  induction o with
  | lst xs => obtain ⟨z, its, n, r, e⟩ := x; exact ⟨z, its, n, r, k _ _ (.inl rfl) e⟩
  | tup xs => obtain ⟨z, its, r, ob, e, c⟩ := x; exact ⟨z, its, r, ob, k _ _ (.inl rfl) e, c⟩
  | dK kvs => obtain ⟨z, y, vs, r, ob, es, ep, e, c⟩ := x; exact ⟨z, y, vs, r, ob, es, ep, k _ _ (.inl rfl) e, c⟩
  | dT kvs =>
    obtain ⟨z, y, xs, r, ob, es, ep, e, c⟩ := x
    exact ⟨z, y, xs, Paired.mapP r fun p q z => ⟨z.1, ht _ _ z.2.1, z.2.2⟩, ob, es, ep, k _ _ (.inl rfl) e, c⟩
  | set S n => obtain ⟨ob, es, ep, t, e, c⟩ := x; exact ⟨ob, es, ep, t, k _ _ (.inl rfl) e, c⟩
  | ins C dx fs =>
    obtain ⟨d, z, ne, e, mA, ⟨od, es, ep, e2, c⟩, r⟩ := x
    exact ⟨ho _ d, z, ne, k _ _ (.inl rfl) e, mA, ⟨od, es, ep, k _ _ (.inr d) e2, c⟩, r⟩
  | own y => obtain ⟨ob, e⟩ := x; exact ⟨ob, k _ _ (.inl rfl) e⟩
  | xd fs => obtain ⟨mA, ⟨od, es, ep, e, c⟩, r⟩ := x; exact ⟨mA, ⟨od, es, ep, k _ _ (.inl rfl) e, c⟩, r⟩
  | rng lo hi => obtain ⟨t, u, v, e⟩ := x; exact ⟨t, u, v, k _ _ (.inl rfl) e⟩
  | frz ob u ih => obtain ⟨e, q⟩ := x; exact ⟨k _ _ (.inl rfl) e, ih q⟩
  | tbl ps =>
    have e : h.get? a = some { cls := .none, data := .fields ps } := x
    show h'.get? a = some { cls := .none, data := .fields ps }
    exact k a _ (.inl rfl) e
  | met f y =>
    have e : h.get? a = some (PySem.W.methodObj (.ref f) (.ref y)) := x
    show h'.get? a = some (PySem.W.methodObj (.ref f) (.ref y))
    exact k a _ (.inl rfl) e
  | ext φ => obtain ⟨p, ⟨o, e⟩, st⟩ := x; exact ⟨st _ _ p fun o q => k _ _ (.inl rfl) q, ⟨o, k _ _ (.inl rfl) e⟩, st⟩
  | tab p q =>
    obtain ⟨ps, e, h2, f⟩ := x
    refine ⟨ps, k _ _ (.inl rfl) e, h2, fun cv hcv => ?_⟩
    obtain ⟨c, o, vs, t, rfl, h3, h4, r⟩ := f cv hcv
    exact ⟨c, o, vs, t, rfl, ho _ h3, k _ _ (.inr h3) h4, r⟩
theorem HOk.lt (x : HOk P w H h) (e : H a = some o) : a < h.objs.size := (x a o e).lt
theorem HOk.fresh (x : HOk P w H h) (e : h.objs.size <= a) : H a = none := by
  cases q : H a with
  | none => rfl
  | some u => exact absurd (Nat.lt_of_lt_of_le (x.lt q) e) (Nat.lt_irrefl _)
theorem HOk.kept (x : HOk P w H h) (k : ∀ b u, h.get? b = some u -> h'.get? b = some u) : HOk P w H h' := fun a o e =>
  (x a o e).stay (fun b u _ q => k b u q) (fun _ q => q) fun _ _ q => q
theorem HOk.laid (x : HOk P w H h) (k : ∀ b u, h.get? b = some u -> h'.get? b = some u) (hp : h.objs.size <= a) (new : ObjOk P w (upd H a o) h' a o) : HOk P w (upd H a o) h' := fun b u e => by
  have hn := x.fresh hp
  by_cases hb : b = a
  · subst hb; rw [upd_same] at e; cases e; exact new
  · rw [upd_ne hb] at e
    exact (x b u e).stay (fun c v _ q => k c v q) (fun c q => by rw [upd_ne (ne_of_none q hn)]; exact q) fun c xs q => by rw [upd_ne (ne_of_none q hn)]; exact q
end
def Rd (H : Hp) (a : Addr) (u : HO) : Prop := H a = some u \/ ∃ o, H a = some (.frz o u)
theorem Rd.ok {P : Program} {w : World} {H : Hp} {h : Heap} {a : Addr} {u : HO} (r : Rd H a u) (x : HOk P w H h) : ObjOk P w H h a u := by
  rcases r with r | ⟨o, r⟩
  · exact x a u r
  · obtain ⟨_, q⟩ := x a _ r
    exact q
def Mut : Option HO -> Prop
  | some (.lst _) => True
  | some (.dK _) => True
  | some (.dT _) => True
  | some (.set _ _) => True
  | some (.ins _ _ _) => True
  | some (.ext _) => True
  | _ => False
section
variable {P : Program} {w : World} {H : Hp} {h h' : Heap} {x e : Addr} {o' : HO}
theorem HOk.write (ok : HOk P w H h) (mu : Mut (H x)) (he : e = x \/ H e = some (.own x)) (k : ∀ b u, b ≠ e -> h.get? b = some u -> h'.get? b = some u) (heo : ∃ u, h'.get? e = some u)
    (new : ObjOk P w (upd H x o') h' x o') : HOk P w (upd H x o') h' := fun b u q => by
  have nown : ∀ c y, H c = some (.own y) -> c ≠ x := fun c y r z => by subst z; rw [r] at mu; exact mu
  have ntup : ∀ c xs, H c = some (.tup xs) -> c ≠ x := fun c xs r z => by subst z; rw [r] at mu; exact mu
  by_cases hb : b = x
  · subst hb; rw [upd_same] at q; cases q; exact new
  · rw [upd_ne hb] at q
    by_cases hbe : b = e
    · have q' : H b = some (.own x) := by
        rcases he with z | z
        · exact absurd (hbe.trans z) hb
        · rw [hbe]; exact z
      rw [q] at q'; cases q'
      obtain ⟨v, hv⟩ := heo
      exact ⟨v, by rw [hbe]; exact hv⟩
    · refine (ok b u q).stay (fun c v hc r => k c v ?_ r) (fun c r => by rw [upd_ne (nown c b r)]; exact r) fun c xs r => by rw [upd_ne (ntup c xs r)]; exact r
      rcases hc with rfl | hc
      · exact hbe
      · rintro rfl
        rcases he with z | z
        · exact nown c b hc z
        · rw [hc] at z; cases z; exact hb rfl
end
structure Un (fs ex : List Addr) (H H' : Hp) (h h' : Heap) : Prop where
  keep : ∀ b o, h.get? b = some o -> H b = none -> b ∉ fs -> b ∉ ex -> h'.get? b = some o
  slot : ∀ b o, h.get? b = some o -> H b = none -> b ∈ fs -> b ∉ ex -> ∃ sl, h'.get? b = some { o with slots := sl }
  free : ∀ b o, h.get? b = some o -> H b = none -> b ∉ ex -> H' b = none
  there : ∀ b o, h.get? b = some o -> b ∉ ex -> ∃ o', h'.get? b = some o'
  tups : ∀ b xs, H b = some (.tup xs) -> H' b = some (.tup xs)
  frzs : ∀ b o u, H b = some (.frz o u) -> H' b = some (.frz o u)
  tbls : ∀ b ps, H b = some (.tbl ps) -> ∃ more, H' b = some (.tbl (ps ++ more))
section
variable {fs fs' ex ex' : List Addr} {H H1 H2 : Hp} {h h1 h2 h' : Heap} {a x e : Addr} {o : HO}
theorem Un.any (u : Un fs ex H H1 h h1) {b : Addr} {ob : Obj} (q : h.get? b = some ob) (n : H b = none) (hx : b ∉ ex) : ∃ sl, h1.get? b = some { ob with slots := sl } := by
  by_cases hb : b ∈ fs
  · exact u.slot b ob q n hb hx
  · exact ⟨ob.slots, u.keep b ob q n hb hx⟩
theorem Un.kept (k : ∀ b u, h.get? b = some u -> h'.get? b = some u) : Un fs ex H H h h' :=
  ⟨fun b ob q _ _ _ => k b ob q, fun b ob q _ _ _ => ⟨ob.slots, k b ob q⟩, fun _ _ _ n _ => n, fun b ob q _ => ⟨ob, k b ob q⟩, fun _ _ q => q, fun _ _ _ q => q, fun _ ps q => ⟨#[], by rw [q]; simp⟩⟩
theorem Un.refl : Un fs ex H H h h := Un.kept fun _ _ q => q
theorem Un.laid (k : ∀ b u, h.get? b = some u -> h'.get? b = some u) (hp : h.objs.size <= a) (hn : H a = none) : Un fs ex H (upd H a o) h h' where
  keep := fun b u q _ _ _ => k b u q
  slot := fun b u q _ _ _ => ⟨u.slots, k b u q⟩
  free := fun b u q n _ => by rw [upd_ne (Nat.ne_of_lt (Nat.lt_of_lt_of_le (Heap.lt_size q) hp))]; exact n
  there := fun b u q _ => ⟨u, k b u q⟩
  tups := fun b xs q => by rw [upd_ne (ne_of_none q hn)]; exact q
  frzs := fun b u xs q => by rw [upd_ne (ne_of_none q hn)]; exact q
  tbls := fun b ps q => ⟨#[], by rw [upd_ne (ne_of_none q hn), q]; simp⟩
theorem Un.write (mu : Mut (H x)) (he : e = x \/ H e = some (.own x)) (k : ∀ b u, b ≠ e -> h.get? b = some u -> h'.get? b = some u) (heo : ∃ u, h'.get? e = some u) : Un fs ex H (upd H x o) h h' := by
  have hx : ∀ b, H b = none -> b ≠ x := fun b n z => by subst z; rw [n] at mu; exact mu
  have hb : ∀ b, H b = none -> b ≠ e := fun b n z => by
    subst z
    rcases he with r | r
    · exact hx b n r
    · rw [n] at r; cases r
  have hm : ∀ b u, H b = some u -> ¬ Mut (some u) -> b ≠ x := fun b u q nm z => by subst z; rw [q] at mu; exact nm mu
  refine ⟨fun b u q n _ _ => k b u (hb b n) q, fun b u q n _ _ => ⟨u.slots, k b u (hb b n) q⟩, fun b u q n _ => by rw [upd_ne (hx b n)]; exact n, fun b u q _ => ?_,
    fun b xs q => by rw [upd_ne (hm b _ q fun z => z)]; exact q, fun b u xs q => by rw [upd_ne (hm b _ q fun z => z)]; exact q, fun b ps q => ⟨#[], by rw [upd_ne (hm b _ q fun z => z), q]; simp⟩⟩
  by_cases hbe : b = e
  · subst hbe; exact heo
  · exact ⟨u, k b u hbe q⟩
end
def trk (h : Heap) (H : Hp) : List Addr := (List.range h.objs.size).filter fun a => (H a).isSome
def hidT (h : Heap) (H : Hp) : Heap := PySem.W.hideAll h (trk h H)
theorem hidT_size (h : Heap) (H : Hp) : (hidT h H).objs.size = h.objs.size := PySem.W.hideAll_size _ _
theorem hidT_get {h : Heap} {H : Hp} {b : Addr} {o : Obj} (e : h.get? b = some o) (n : H b = none) : (hidT h H).get? b = some o :=
  PySem.W.hideAll_get _ e fun hm => by
    have q : (H b).isSome = true := (List.mem_filter.mp hm).2
    rw [n] at q; simp at q
theorem of_hidT {h : Heap} {H : Hp} {b : Addr} {o : Obj} (e : (hidT h H).get? b = some o) : h.get? b = some o /\ H b = none := by
  have e' : h.get? b = some o := PySem.W.of_hideAll (trk h H) e
  refine ⟨e', ?_⟩
  cases q : H b with
  | none => rfl
  | some x =>
    have hm : b ∈ trk h H := List.mem_filter.mpr ⟨List.mem_range.mpr (Heap.lt_size e'), by simp [q]⟩
    have z : (hidT h H).get? b = none := PySem.W.hideAll_none (trk h H) hm
    rw [z] at e; cases e
def allNews (g h : Heap) (L : Addr) : List (Addr × Obj) := (List.range h.objs.size).filterMap fun a => if a = L \/ (g.get? a).isSome = true then none else (h.get? a).map fun o => (a, o)
theorem mem_allNews {g h : Heap} {L a : Addr} {o : Obj} (h1 : a ≠ L) (h2 : g.get? a = none) (h3 : h.get? a = some o) : (a, o) ∈ allNews g h L :=
  List.mem_filterMap.mpr ⟨a, List.mem_range.mpr (Heap.lt_size h3), by simp [h1, h2, h3]⟩
theorem of_mem_allNews {g h : Heap} {L : Addr} {p : Addr × Obj} (hp : p ∈ allNews g h L) : p.1 ≠ L /\ g.get? p.1 = none /\ h.get? p.1 = some p.2 := by
  obtain ⟨b, _, e⟩ := List.mem_filterMap.mp hp
  split at e
  · cases e
  · rename_i hn
    cases q : h.get? b with
    | none => rw [q] at e; simp at e
    | some u =>
      rw [q] at e
      simp only [Option.map_some, Option.some.injEq] at e
      subst e
      refine ⟨fun z => hn (.inl z), ?_, q⟩
      show g.get? b = none
      cases r : g.get? b with
      | none => rfl
      | some v => exact (hn (.inr (by simp [r]))).elim
def rest (g h : Heap) (L d : Addr) : List (Addr × Obj) := (allNews g h L).filter fun p => decide (p.1 ≠ d)
theorem news_all {g h : Heap} {L : Addr} : News g L h (allNews g h L) := fun p hp => let ⟨a, b, c⟩ := of_mem_allNews hp; ⟨c, a, b⟩
end L2
namespace L2
open PySem PySem.Spec PyProof.Rows
structure Mod (K : PySem.W.Frag) (mg : Str -> Option Value) (base : Heap) : Prop where
  kin : K.In base
  glob : base.Ns mainGlobals mg
  blt : ∃ mb, base.Ns builtinsNs mb /\ ∀ x : Str, x ≠ "__name__" -> mb x = bootBuiltins x
  nolimit : base.NoLimit
structure Cx where
  prog : Program
  w : World
  K : PySem.W.Frag
  mg : Str -> Option Value
  base : Heap
  A : Around
  N : List Str
  s₀ : Shared
  H₀ : Hp
  env : Env
  outer : List Env
  stack : List Env
  ex : List Addr
  fn : Str -> Bool
  calm : Bool
  pn : List (Addr × Obj)
  xe : Value -> Shared -> Prop
def frs (l : List Env) : List Addr := l.filterMap (·.frame)
abbrev Cx.fs (X : Cx) : List Addr := frs X.outer
def Vis (sc : Scope) (x : Str) : Prop := sc.names.lookup x = some .local \/ sc.names.lookup x = some .cell \/ sc.names.lookup x = some .free
def Loc (sc : Scope) (x : Str) : Prop := sc.names.lookup x = some .local \/ sc.names.lookup x = some .cell
def Look (env : Env) (h : Heap) (m : Str -> Option Value) (x : Str) (u : Value) : Prop :=
  (env.kindOf x = some .local /\ m x = some u) \/ ((env.kindOf x = some .cell \/ env.kindOf x = some .free) /\ ∃ c, env.cells.lookup x = some c /\ h.IsCell c (some u))
structure Cx.Ok (X : Cx) : Prop where
  mod : Mod X.K X.mg X.base
  kind : X.env.scope.kind = .function
  glob : X.env.globals = mainGlobals
  blt : X.env.builtins = builtinsNs
  above : X.s₀.heap.objs.size <= X.env.locals
  inj : ∀ x y c, X.env.cells.lookup x = some c -> X.env.cells.lookup y = some c -> x = y
  has : ∀ x, (X.env.kindOf x = some .cell \/ X.env.kindOf x = some .free) -> ∃ c, X.env.cells.lookup x = some c
  cab : ∀ x c, X.fn x = true -> X.env.cells.lookup x = some c -> X.s₀.heap.objs.size <= c
  hd : X.calm = true -> X.A.handled = none
  frames : X.A.frames = some X.stack
  stk : X.stack = X.outer \/ (X.stack = X.env :: X.outer /\ X.env.frame = some X.env.locals)
  exf : ∀ b ∈ X.ex, b ≠ X.env.locals /\ ∀ x c, X.env.cells.lookup x = some c -> c ≠ b
  bs : ∀ b o, X.base.get? b = some o -> X.s₀.heap.get? b = some o /\ X.H₀ b = none
  bsz : X.base.objs.size <= X.s₀.heap.objs.size
  noex : ∀ b o, X.base.get? b = some o -> b ∉ X.ex
  exfs : ∀ b ∈ X.ex, b ∉ X.fs
  funs : X.s₀.heap.FunFrames X.base X.outer
  frf : ∀ b ∈ X.fs, X.H₀ b = none
structure Inv (X : Cx) (pins : List (Addr × Obj)) (σ : List (Option V)) (H : Hp) (s : Shared) : Prop where
  ok : X.Ok
  os : s.os = X.s₀.os
  bare : AllBare s.gens
  base : Un X.fs X.ex X.H₀ H X.s₀.heap s.heap
  loc : ∃ m, s.heap.Ns X.env.locals m /\ ∀ (i : Nat) (x : Str) (v : V), X.N[i]? = some x -> σ[i]? = some (some v) -> Vis X.env.scope x -> ∃ u, RelV v u /\ Look X.env s.heap m x u
  cell : ∀ x c, X.env.cells.lookup x = some c -> ∃ v, s.heap.IsCell c v
  free : H X.env.locals = none
  freeC : ∀ x c, X.env.cells.lookup x = some c -> H c = none
  pin : ∀ p ∈ X.pn ++ pins, s.heap.get? p.1 = some p.2 /\ H p.1 = none /\ p.1 ≠ X.env.locals /\ p.1 ∉ X.fs /\ ∀ v, p.2.data ≠ .cell v
  hok : HOk X.prog X.w H s.heap
  len : σ.length = X.N.length
section
variable {X : Cx} {pins : List (Addr × Obj)} {σ : List (Option V)} {H H' : Hp} {s : Shared} {h' : Heap}
theorem Cx.Ok.nofr (ok : X.Ok) {b : Addr} {o : Obj} (e : X.base.get? b = some o) : b ∉ X.fs := fun hb => by
  have := (ok.funs.mem hb).1
  rw [e] at this; cases this
theorem Inv.bs (I : Inv X pins σ H s) : ∀ b o, X.base.get? b = some o -> s.heap.get? b = some o /\ H b = none := fun b o e =>
  ⟨I.base.keep b o (I.ok.bs b o e).1 (I.ok.bs b o e).2 (I.ok.nofr e) (I.ok.noex b o e), I.base.free b o (I.ok.bs b o e).1 (I.ok.bs b o e).2 (I.ok.noex b o e)⟩
theorem Inv.bk (I : Inv X pins σ H s) : ∀ b o, X.base.get? b = some o -> s.heap.get? b = some o := fun b o e => (I.bs b o e).1
theorem Inv.mod (I : Inv X pins σ H s) : Mod X.K X.mg X.base := I.ok.mod
theorem Inv.kIn (I : Inv X pins σ H s) : X.K.In s.heap := I.ok.mod.kin.keeps I.bk
theorem Inv.lt (I : Inv X pins σ H s) : X.env.locals < s.heap.objs.size := let ⟨_, hn, _⟩ := I.loc; hn.lt
theorem Inv.sz (I : Inv X pins σ H s) : X.s₀.heap.objs.size <= s.heap.objs.size := Nat.le_trans I.ok.above (Nat.le_of_lt I.lt)
theorem Inv.nofs (I : Inv X pins σ H s) {a : Addr} (h : s.heap.objs.size <= a) : a ∉ X.fs := fun hb => by
  obtain ⟨_, o, ho, _⟩ := I.ok.funs.mem hb
  exact absurd (Nat.lt_of_lt_of_le (Heap.lt_size ho) (Nat.le_trans I.sz h)) (Nat.lt_irrefl _)
theorem Inv.cne (I : Inv X pins σ H s) : ∀ x c, X.env.cells.lookup x = some c -> c ≠ X.env.locals := fun x c e z => by
  obtain ⟨v, o, ho, hd⟩ := I.cell x c e
  obtain ⟨m, ⟨o', es, ep, ho', hd', _⟩, _⟩ := I.loc
  rw [z, ho'] at ho; cases ho; rw [hd'] at hd; cases hd
theorem Inv.funs (I : Inv X pins σ H s) : s.heap.FunFrames X.base X.outer := by
  have all : ∀ (l : List Env), (∀ b ∈ frs l, b ∈ X.fs) -> X.s₀.heap.FunFrames X.base l -> s.heap.FunFrames X.base l := by
    intro l
    induction l with
    | nil => intro _ _; trivial
    | cons env r ih =>
      intro hs hl
      obtain ⟨hk, ⟨L, o, hf, hn, ho, hd⟩, hr⟩ := hl
      have hL : L ∈ X.fs := hs L (by unfold frs; rw [List.filterMap_cons, hf]; exact List.mem_cons_self)
      obtain ⟨sl, e⟩ := I.base.slot L o ho (I.ok.frf L hL) hL fun z => I.ok.exfs L z hL
      exact ⟨hk, ⟨L, _, hf, hn, e, hd⟩, ih (fun b hb => hs b (by unfold frs; rw [List.filterMap_cons, hf]; exact List.mem_cons_of_mem _ hb)) hr⟩
  exact all X.outer (fun _ hb => hb) I.ok.funs
theorem Inv.stack (I : Inv X pins σ H s) : s.heap.FunFrames X.base X.stack := by
  rcases I.ok.stk with e | ⟨e, hf⟩
  · rw [e]; exact I.funs
  · rw [e]
    obtain ⟨m, hn, _⟩ := I.loc
    refine .cons (by rw [I.ok.kind]; decide) hf hn ?_ I.funs
    exact Heap.get?_none_of_le (Nat.le_trans I.ok.bsz I.ok.above)
theorem Inv.stkSub (I : Inv X pins σ H s) : ∀ b ∈ frs X.stack, b ∈ X.env.locals :: X.fs := fun b hb => by
  rcases I.ok.stk with e | ⟨e, hf⟩
  · rw [e] at hb; exact List.mem_cons_of_mem _ hb
  · rw [e] at hb
    unfold frs at hb
    rw [List.filterMap_cons, hf] at hb
    exact hb
theorem Inv.stkFree (I : Inv X pins σ H s) : ∀ b ∈ frs X.stack, H b = none := fun b hb => by
  rcases List.mem_cons.mp (I.stkSub b hb) with e | hb
  · rw [e]; exact I.free
  · obtain ⟨_, o, ho, _⟩ := I.ok.funs.mem hb
    exact I.base.free b o ho (I.ok.frf b hb) fun z => I.ok.exfs b z hb
theorem Inv.step {g' : Array GenState} {t' : Nat} {d' : Drawn} {ch : List Addr} (I : Inv X pins σ H s)
    (hch : ∀ b ∈ ch, (b ∈ X.ex \/ X.s₀.heap.objs.size <= b) /\ b ≠ X.env.locals /\ (∀ x c, X.env.cells.lookup x = some c -> c ≠ b) /\ ∀ p ∈ X.pn ++ pins, p.1 ≠ b)
    (keep : ∀ b o, b ≠ X.env.locals -> b ∉ X.fs -> b ∉ ch -> s.heap.get? b = some o -> H b = none -> h'.get? b = some o)
    (slot : ∀ b o, b ≠ X.env.locals -> b ∈ X.fs -> b ∉ ch -> s.heap.get? b = some o -> H b = none -> ∃ sl, h'.get? b = some { o with slots := sl }) (free : ∀ b o, b ∉ ch -> s.heap.get? b = some o -> H b = none -> H' b = none)
    (there : ∀ b o, b ∉ ch -> s.heap.get? b = some o -> ∃ o', h'.get? b = some o')
    (tups : ∀ b xs, H b = some (.tup xs) -> H' b = some (.tup xs)) (frzs : ∀ b o u, H b = some (.frz o u) -> H' b = some (.frz o u)) (tbls : ∀ b ps, H b = some (.tbl ps) -> ∃ more, H' b = some (.tbl (ps ++ more)))
    (ns : ∀ m, s.heap.Ns X.env.locals m -> h'.Ns X.env.locals m) (hok : HOk X.prog X.w H' h') (hg : AllBare g') :
    Inv X pins σ H' { s with heap := h', gens := g', drawn := d', toks := t' } := by
  have neL : ∀ b o, X.s₀.heap.get? b = some o -> b ≠ X.env.locals := fun b o e => Nat.ne_of_lt (Nat.lt_of_lt_of_le (Heap.lt_size e) I.ok.above)
  have neC : ∀ b o, X.s₀.heap.get? b = some o -> b ∉ X.ex -> b ∉ ch := fun b o e hx hb => by
    rcases (hch b hb).1 with z | z
    · exact hx z
    · exact absurd (Nat.lt_of_lt_of_le (Heap.lt_size e) z) (Nat.lt_irrefl _)
  have cellK : ∀ x c, X.env.cells.lookup x = some c -> ∀ v, s.heap.IsCell c v -> h'.IsCell c v := fun x c e v ⟨o, ho, hd⟩ => by
    have nch : c ∉ ch := fun z => (hch c z).2.2.1 x c e rfl
    by_cases hc : c ∈ X.fs
    · obtain ⟨sl, q⟩ := slot c o (I.cne x c e) hc nch ho (I.freeC x c e)
      exact ⟨_, q, hd⟩
    · exact ⟨o, keep c o (I.cne x c e) hc nch ho (I.freeC x c e), hd⟩
  refine ⟨I.ok, I.os, hg, ⟨fun b o e n hb hx => ?_, fun b o e n hb hx => ?_, fun b o e n hx => ?_, fun b o e hx => ?_, fun b xs e => tups b xs (I.base.tups b xs e), fun b o xs e => frzs b o xs (I.base.frzs b o xs e), fun b ps e => ?_⟩, ?_, fun x c e => ?_, ?_, fun x c e => ?_, fun p hp => ?_, hok, I.len⟩
  · exact keep b o (neL b o e) hb (neC b o e hx) (I.base.keep b o e n hb hx) (I.base.free b o e n hx)
  · obtain ⟨sl, e1⟩ := I.base.slot b o e n hb hx
    obtain ⟨sl', e2⟩ := slot b _ (neL b o e) hb (neC b o e hx) e1 (I.base.free b o e n hx)
    exact ⟨sl', e2⟩
  · obtain ⟨o', e1⟩ := I.base.there b o e hx
    exact free b o' (neC b o e hx) e1 (I.base.free b o e n hx)
  · obtain ⟨o', e1⟩ := I.base.there b o e hx
    exact there b o' (neC b o e hx) e1
  · obtain ⟨m1, e1⟩ := I.base.tbls b ps e
    obtain ⟨m2, e2⟩ := tbls b _ e1
    exact ⟨m1 ++ m2, by rw [e2, Array.append_assoc]⟩
  · obtain ⟨m, hn, hl⟩ := I.loc
    refine ⟨m, ns m hn, fun i x v e1 e2 e3 => ?_⟩
    obtain ⟨u, r, l⟩ := hl i x v e1 e2 e3
    refine ⟨u, r, ?_⟩
    rcases l with l | ⟨k, c, e, z⟩
    · exact .inl l
    · exact .inr ⟨k, c, e, cellK x c e _ z⟩
  · obtain ⟨v, z⟩ := I.cell x c e
    exact ⟨v, cellK x c e v z⟩
  · obtain ⟨m, ⟨o, _, _, ho, _⟩, _⟩ := I.loc
    exact free _ o (fun z => (hch _ z).2.1 rfl) ho I.free
  · obtain ⟨v, o, ho, hd⟩ := I.cell x c e
    exact free c o (fun z => (hch c z).2.2.1 x c e rfl) ho (I.freeC x c e)
  · obtain ⟨e, n, ne, nf, d⟩ := I.pin p hp
    have nch : p.1 ∉ ch := fun z => (hch p.1 z).2.2.2 p hp rfl
    exact ⟨keep p.1 p.2 ne nf nch e n, free p.1 p.2 nch e n, ne, nf, d⟩
theorem Inv.un {t' : Nat} (I : Inv X pins σ H s) (u : Un X.fs [] H H' s.heap h') (hok : HOk X.prog X.w H' h') : Inv X pins σ H' { s with heap := h', toks := t' } := by
  obtain ⟨m, ⟨o, es, ep, ho, r⟩, _⟩ := id I.loc
  obtain ⟨sl, hL⟩ := u.any ho I.free (by simp)
  exact I.step (g' := s.gens) (d' := s.drawn) (ch := []) (fun _ z => nomatch z) (fun b o _ hb _ e n => u.keep b o e n hb (by simp)) (fun b o _ hb _ e n => u.slot b o e n hb (by simp)) (fun b o _ e n => u.free b o e n (by simp)) (fun b o _ e => u.there b o e (by simp)) u.tups u.frzs u.tbls (fun m' hm => by
    obtain ⟨o', es', ep', ho', r'⟩ := hm
    rw [ho] at ho'; cases ho'
    exact ⟨_, es', ep', hL, r'⟩) hok I.bare
theorem Inv.call {g' : Array GenState} {t' : Nat} {d' : Drawn} {ch : List Addr} (I : Inv X pins σ H s) (u : Un (frs X.stack) ch H H' s.heap h') (hok : HOk X.prog X.w H' h') (hg : AllBare g')
    (hch : ∀ b ∈ ch, (b ∈ X.ex \/ X.s₀.heap.objs.size <= b) /\ b ≠ X.env.locals /\ (∀ x c, X.env.cells.lookup x = some c -> c ≠ b) /\ ∀ p ∈ X.pn ++ pins, p.1 ≠ b) :
    Inv X pins σ H' { s with heap := h', gens := g', drawn := d', toks := t' } := by
  obtain ⟨m, ⟨o, es, ep, ho, r⟩, _⟩ := id I.loc
  obtain ⟨sl, hL⟩ := u.any ho I.free fun z => (hch _ z).2.1 rfl
  exact I.step (ch := ch) hch (fun b o hL hb hc e n => u.keep b o e n (fun z => (List.mem_cons.mp (I.stkSub b z)).elim hL hb) hc) (fun b o _ _ hc e n => u.any e n hc) (fun b o hc e n => u.free b o e n hc) (fun b o hc e => u.there b o e hc) u.tups u.frzs u.tbls (fun m' hm => by
    obtain ⟨o', es', ep', ho', r'⟩ := hm
    rw [ho] at ho'; cases ho'
    exact ⟨_, es', ep', hL, r'⟩) hok hg
theorem Inv.turned {t' : Nat} {it : Addr} (I : Inv X pins σ H s) (k : ∀ b o, b ≠ it -> s.heap.get? b = some o -> h'.get? b = some o) (hn : H it = none) (hL : it ≠ X.env.locals)
    (h1 : it ∈ X.ex \/ X.s₀.heap.objs.size <= it) (h2 : ∀ x c, X.env.cells.lookup x = some c -> c ≠ it) (h3 : ∀ p ∈ X.pn ++ pins, p.1 ≠ it) : Inv X pins σ H { s with heap := h', toks := t' } := by
  have nit : ∀ b u, H b = some u -> b ≠ it := fun b u e z => by rw [z, hn] at e; cases e
  refine I.step (g' := s.gens) (d' := s.drawn) (ch := [it]) (fun b hb => ?_) (fun b o _ _ hc e _ => k b o (fun z => hc (by simp [z])) e) (fun b o _ _ hc e _ => ⟨o.slots, k b o (fun z => hc (by simp [z])) e⟩) (fun _ _ _ _ n => n)
    (fun b o hc e => ⟨o, k b o (fun z => hc (by simp [z])) e⟩) (fun _ _ e => e) (fun _ _ _ e => e) (fun b ps e => ⟨#[], by rw [e]; simp⟩) (fun m hm => ?_) (fun b u e => ?_) I.bare
  · have e : b = it := by simpa using hb
    subst e
    exact ⟨h1, hL, h2, h3⟩
  · obtain ⟨o, es, ep, ho, r⟩ := hm
    exact ⟨o, es, ep, k _ o (Ne.symm hL) ho, r⟩
  · refine (I.hok b u e).stay (fun c v hc q => k c v ?_ q) (fun _ q => q) fun _ _ q => q
    rcases hc with z | z
    · rw [z]; exact nit b u e
    · exact nit c _ z
theorem Inv.tok (I : Inv X pins σ H s) (t : Nat) : Inv X pins σ H { s with toks := t } := I.un (h' := s.heap) (t' := t) Un.refl I.hok
theorem Inv.kept {t' : Nat} (I : Inv X pins σ H s) (k : ∀ b u, s.heap.get? b = some u -> h'.get? b = some u) : Inv X pins σ H { s with heap := h', toks := t' } := I.un (Un.kept k) (I.hok.kept k)
theorem Inv.laid {a : Addr} {o : HO} {t' : Nat} (I : Inv X pins σ H s) (k : ∀ b u, s.heap.get? b = some u -> h'.get? b = some u) (hp : s.heap.objs.size <= a) (new : ObjOk X.prog X.w (upd H a o) h' a o) :
    Inv X pins σ (upd H a o) { s with heap := h', toks := t' } := I.un (Un.laid k hp (I.hok.fresh hp)) (I.hok.laid k hp new)
theorem Inv.write {x e : Addr} {o : HO} {t' : Nat} (I : Inv X pins σ H s) (mu : Mut (H x)) (he : e = x \/ H e = some (.own x)) (k : ∀ b u, b ≠ e -> s.heap.get? b = some u -> h'.get? b = some u) (heo : ∃ u, h'.get? e = some u)
    (new : ObjOk X.prog X.w (upd H x o) h' x o) : Inv X pins σ (upd H x o) { s with heap := h', toks := t' } := I.un (Un.write mu he k heo) (I.hok.write mu he k heo new)
theorem Inv.pins_of {pins' : List (Addr × Obj)} (I : Inv X pins σ H s) (h : ∀ p ∈ pins', s.heap.get? p.1 = some p.2 /\ H p.1 = none /\ p.1 ≠ X.env.locals /\ p.1 ∉ X.fs /\ ∀ v, p.2.data ≠ .cell v) : Inv X pins' σ H s :=
  ⟨I.ok, I.os, I.bare, I.base, I.loc, I.cell, I.free, I.freeC, fun p hp => (List.mem_append.mp hp).elim (fun z => I.pin p (List.mem_append_left _ z)) (h p), I.hok, I.len⟩
theorem nodup_ix {N : List Str} (hN : N.Nodup) {i j : Nat} {x : Str} (a : N[i]? = some x) (b : N[j]? = some x) : i = j := by
  obtain ⟨h1, e1⟩ := List.getElem?_eq_some_iff.mp a
  obtain ⟨h2, e2⟩ := List.getElem?_eq_some_iff.mp b
  exact (List.getElem_inj hN).mp (e1.trans e2.symm)
theorem store_ok2 {M : Model} {A : Around} {E : Value -> Shared -> Prop} {i : Nat} {x : Str} {v : V} {u : Value} {Q : Unit -> Shared -> Prop} (I : Inv X pins σ H s) (hN : X.N.Nodup) (hi : X.N[i]? = some x) (hx : Loc X.env.scope x) (r : RelV v u)
    (h : ∀ s', Inv X pins (σ.set i (some v)) H s' -> (∃ a, Heap.SameBut a s.heap s'.heap /\ (a = X.env.locals \/ X.env.cells.lookup x = some a)) -> Q () s') (hf : X.fn x = true \/ X.env.scope.names.lookup x = some .local := by first | exact .inl rfl | exact .inr rfl | assumption) : wpAny M A (storeName X.env x u) Q E s := by
  obtain ⟨m, hn, hl⟩ := id I.loc
  have hcls : (X.env.scope.kind == .class || (X.env.scope.kind == .module && X.env.locals != X.env.globals)) = false := by rw [I.ok.kind]; rfl
  have hiσ : i < σ.length := by rw [I.len]; exact (List.getElem?_eq_some_iff.mp hi).1
  have cne := I.cne
  have tracked : ∀ {a : Addr} {h' : Heap}, (∃ o, s.heap.get? a = some o /\ H a = none) -> Heap.SameBut a s.heap h' -> HOk X.prog X.w H h' := fun {a h'} ha hs b ob e => by
    obtain ⟨_, _, hfree⟩ := ha
    refine (I.hok b ob e).stay (fun c w' hc q => (hs.2 c ?_).trans q) (fun _ q => q) fun _ _ q => q
    rintro rfl
    rcases hc with rfl | hc
    · rw [hfree] at e; cases e
    · rw [hfree] at hc; cases hc
  rcases hx with hk | hk
  · refine wpAny_storeName_local hk hn (fun h' hn' hs => ?_) hcls
    obtain ⟨oL, _, _, hoL, _⟩ := id hn
    refine h _ ⟨I.ok, I.os, I.bare, ⟨fun b o e n hb hx => ?_, fun b o e n hb hx => ?_, I.base.free, fun b o e hx => ?_, I.base.tups, I.base.frzs, I.base.tbls⟩, ⟨_, hn', fun j y v' e1 e2 e3 => ?_⟩, fun y c e => ?_, I.free, I.freeC, fun p hp => ?_, tracked ⟨oL, hoL, I.free⟩ hs, by simpa using I.len⟩ ⟨_, hs, .inl rfl⟩
    · exact (hs.2 b (Nat.ne_of_lt (Nat.lt_of_lt_of_le (Heap.lt_size e) I.ok.above))).trans (I.base.keep b o e n hb hx)
    · obtain ⟨sl, e1⟩ := I.base.slot b o e n hb hx
      exact ⟨sl, (hs.2 b (Nat.ne_of_lt (Nat.lt_of_lt_of_le (Heap.lt_size e) I.ok.above))).trans e1⟩
    · obtain ⟨o', e1⟩ := I.base.there b o e hx
      exact ⟨o', (hs.2 b (Nat.ne_of_lt (Nat.lt_of_lt_of_le (Heap.lt_size e) I.ok.above))).trans e1⟩
    · by_cases hj : j = i
      · subst hj
        rw [hi] at e1; cases e1
        rw [List.getElem?_set_self hiσ] at e2
        cases e2
        exact ⟨u, r, .inl ⟨hk, by simp⟩⟩
      · rw [List.getElem?_set_ne (Ne.symm hj)] at e2
        obtain ⟨u', r', q⟩ := hl j y v' e1 e2 e3
        refine ⟨u', r', ?_⟩
        rcases q with ⟨k, e⟩ | ⟨k, c, e, z⟩
        · refine .inl ⟨k, ?_⟩
          have : y ≠ x := fun e => hj (nodup_ix hN e1 (e ▸ hi))
          simp [this, e]
        · exact .inr ⟨k, c, e, z.sameBut hs (cne y c e)⟩
    · obtain ⟨w', z⟩ := I.cell y c e
      exact ⟨w', z.sameBut hs (cne y c e)⟩
    · obtain ⟨e, n, ne, nf, d⟩ := I.pin p hp
      exact ⟨(hs.2 p.1 ne).trans e, n, ne, nf, d⟩
  · have hfn : X.fn x = true := by
      rcases hf with z | z
      · exact z
      · rw [z] at hk; cases hk
    obtain ⟨c, hc⟩ := I.ok.has x (.inl hk)
    obtain ⟨w', z⟩ := I.cell x c hc
    refine wpAny_storeName_cell I.ok.kind hk hc z (fun h' hc' hs => ?_)
    obtain ⟨oc, hoc, hocd⟩ := id z
    refine h { s with heap := h' } ⟨I.ok, I.os, I.bare, ⟨fun b o e n hb hx => ?_, fun b o e n hb hx => ?_, I.base.free, fun b o e hx => ?_, I.base.tups, I.base.frzs, I.base.tbls⟩, ⟨m, hn.sameBut hs (Ne.symm (cne x c hc)), fun j y v' e1 e2 e3 => ?_⟩, fun y c' e => ?_, I.free, I.freeC, fun p hp => ?_, tracked ⟨oc, hoc, I.freeC x c hc⟩ hs, by simpa using I.len⟩ ⟨c, hs, .inr hc⟩
    · exact (hs.2 b (Nat.ne_of_lt (Nat.lt_of_lt_of_le (Heap.lt_size e) (I.ok.cab x c hfn hc)))).trans (I.base.keep b o e n hb hx)
    · obtain ⟨sl, e1⟩ := I.base.slot b o e n hb hx
      exact ⟨sl, (hs.2 b (Nat.ne_of_lt (Nat.lt_of_lt_of_le (Heap.lt_size e) (I.ok.cab x c hfn hc)))).trans e1⟩
    · obtain ⟨o', e1⟩ := I.base.there b o e hx
      exact ⟨o', (hs.2 b (Nat.ne_of_lt (Nat.lt_of_lt_of_le (Heap.lt_size e) (I.ok.cab x c hfn hc)))).trans e1⟩
    · by_cases hj : j = i
      · subst hj
        rw [hi] at e1; cases e1
        rw [List.getElem?_set_self hiσ] at e2
        cases e2
        exact ⟨u, r, .inr ⟨.inl hk, c, hc, hc'⟩⟩
      · rw [List.getElem?_set_ne (Ne.symm hj)] at e2
        obtain ⟨u', r', q⟩ := hl j y v' e1 e2 e3
        refine ⟨u', r', ?_⟩
        rcases q with q | ⟨k, c', e, z'⟩
        · exact .inl q
        · refine .inr ⟨k, c', e, z'.sameBut hs ?_⟩
          rintro rfl
          exact hj (nodup_ix hN e1 (I.ok.inj _ _ _ e hc ▸ hi))
    · by_cases hcc : c' = c
      · subst hcc; exact ⟨_, hc'⟩
      · obtain ⟨w2, z2⟩ := I.cell y c' e
        exact ⟨w2, z2.sameBut hs hcc⟩
    · obtain ⟨e, n, ne, nf, d⟩ := I.pin p hp
      refine ⟨(hs.2 p.1 ?_).trans e, n, ne, nf, d⟩
      intro q
      rw [q, hoc] at e
      have q' : oc = p.2 := Option.some.inj e
      exact d w' (by rw [<- q']; exact hocd)
theorem store_ok {M : Model} {A : Around} {E : Value -> Shared -> Prop} {i : Nat} {x : Str} {v : V} {u : Value} {Q : Unit -> Shared -> Prop} (I : Inv X pins σ H s) (hN : X.N.Nodup) (hi : X.N[i]? = some x) (hx : Loc X.env.scope x) (r : RelV v u)
    (h : ∀ s', Inv X pins (σ.set i (some v)) H s' -> Q () s') (hf : X.fn x = true \/ X.env.scope.names.lookup x = some .local := by first | exact .inl rfl | exact .inr rfl | assumption) : wpAny M A (storeName X.env x u) Q E s :=
  store_ok2 I hN hi hx r (fun s' I' _ => h s' I') hf
theorem Inv.call' {s' : Shared} {ch : List Addr} (I : Inv X pins σ H s) (ho : s'.os = s.os) (u : Un (frs X.stack) ch H H' s.heap s'.heap) (hok : HOk X.prog X.w H' s'.heap) (hg : AllBare s'.gens)
    (hch : ∀ b ∈ ch, (b ∈ X.ex \/ X.s₀.heap.objs.size <= b) /\ b ≠ X.env.locals /\ (∀ x c, X.env.cells.lookup x = some c -> c ≠ b) /\ ∀ p ∈ X.pn ++ pins, p.1 ≠ b) : Inv X pins σ H' s' := by
  obtain ⟨h', g', d', t', o'⟩ := s'
  have e : o' = s.os := ho
  subst e
  exact I.call (g' := g') (t' := t') (d' := d') u hok hg hch
end
abbrev XK := Value -> Option Addr -> Hp -> Prop
abbrev St := List (Option V)
abbrev VK := V -> Hp -> Prop
abbrev TE := St -> Hp -> VK -> Prop
abbrev TT := St -> Hp -> (Bool -> Hp -> Prop) -> Prop
abbrev TA := St -> Hp -> (List V -> Hp -> Prop) -> Prop
structure Ends where
  nx : St -> Hp -> Prop
  rt : VK
  bk : St -> Hp -> Prop := fun _ _ => False
  ct : St -> Hp -> Prop := fun _ _ => False
abbrev TS := Ends -> St -> Hp -> Prop
def EP (X : Cx) (pins : List (Addr × Obj)) (σ : St) (Q : VK) (u : Value) (s' : Shared) : Prop := ∃ v H', Inv X pins σ H' s' /\ RelV v u /\ Q v H'
def TP (X : Cx) (pins : List (Addr × Obj)) (σ : St) (Q : Bool -> Hp -> Prop) (b : Bool) (s' : Shared) : Prop := ∃ H', Inv X pins σ H' s' /\ Q b H'
def AP (X : Cx) (pins : List (Addr × Obj)) (σ : St) (Q : List V -> Hp -> Prop) (us : List Value) (s' : Shared) : Prop := ∃ vs H', Inv X pins σ H' s' /\ Vals vs us /\ Q vs H'
def SP (X : Cx) (pins : List (Addr × Obj)) (D : Ends) (f : Flow) (s' : Shared) : Prop :=
  match f with
  | .next => ∃ σ' H', Inv X pins σ' H' s' /\ D.nx σ' H'
  | .brk => ∃ σ' H', Inv X pins σ' H' s' /\ D.bk σ' H'
  | .cont => ∃ σ' H', Inv X pins σ' H' s' /\ D.ct σ' H'
  | .ret u => ∃ v σ' H', Inv X pins σ' H' s' /\ RelV v u /\ D.rt v H'
def PE (X : Cx) (e : Expr) (t : TE) : Prop :=
  ∀ (pins : List (Addr × Obj)) (s : Shared) (σ : St) (H : Hp) (Q : VK), Inv X pins σ H s -> t σ H Q -> wpAny (model X.prog X.w) X.A (eval e X.env) (EP X pins σ Q) X.xe s
def PT (X : Cx) (e : Expr) (t : TT) : Prop :=
  ∀ (pins : List (Addr × Obj)) (s : Shared) (σ : St) (H : Hp) (Q : Bool -> Hp -> Prop), Inv X pins σ H s -> t σ H Q -> wpAny (model X.prog X.w) X.A (isTrue e X.env (eval e X.env)) (TP X pins σ Q) X.xe s
def PW (X : Cx) (e : Expr) (t : TT) : Prop :=
  ∀ (whole : Sem Value) (pins : List (Addr × Obj)) (s : Shared) (σ : St) (H : Hp) (Q : Bool -> Hp -> Prop), Inv X pins σ H s -> t σ H Q -> wpAny (model X.prog X.w) X.A (isTrue e X.env whole) (TP X pins σ Q) X.xe s
theorem PW.pt {X : Cx} {e : Expr} {t : TT} (h : PW X e t) : PT X e t := h _
def PA (X : Cx) (es : List Expr) (t : TA) : Prop :=
  ∀ (pos : Pos) (pins : List (Addr × Obj)) (s : Shared) (σ : St) (H : Hp) (Q : List V -> Hp -> Prop), Inv X pins σ H s -> t σ H Q -> wpAny (model X.prog X.w) X.A (spliced (backTo pos (starEach es X.env))) (AP X pins σ Q) X.xe s
def PS (X : Cx) (st : Stmt) (t : TS) : Prop :=
  ∀ (pins : List (Addr × Obj)) (s : Shared) (σ : St) (H : Hp) (D : Ends), Inv X pins σ H s -> t D σ H -> wpAny (model X.prog X.w) X.A (exec st X.env) (SP X pins D) X.xe s
def PSs (X : Cx) (st : List Stmt) (t : TS) : Prop :=
  ∀ (pins : List (Addr × Obj)) (s : Shared) (σ : St) (H : Hp) (D : Ends), Inv X pins σ H s -> t D σ H -> wpAny (model X.prog X.w) X.A (execs st X.env) (SP X pins D) X.xe s
theorem thn {α : Type} {t : Sem α} {Q Q' : α -> Shared -> Prop} {M : Model} {A : Around} {E : Value -> Shared -> Prop} {s : Shared} (h : wpAny M A t Q E s) (hQ : ∀ a s, Q a s -> Q' a s) : wpAny M A t Q' E s := wpAny_mono h hQ fun _ _ x => x
end L2
namespace L2
open PySem PySem.Spec PyProof.Rows
section
variable {X : Cx}
def tVar (i : Nat) : TE := fun σ H Q => ∃ v, σ[i]? = some (some v) /\ Q v H
def tC (v : V) : TE := fun _ H Q => Q v H
theorem pe_var {i : Nat} {x : Str} {pos : Pos} (hN : X.N[i]? = some x) (hv : Vis X.env.scope x) (hd : (x == ("__debug__" : Str)) = false := by decide) (hcd : (x == ("__classdict__" : Str)) = false := by decide) : PE X (.Name x pos) (tVar i) := by
  intro pins s σ H Q I h
  obtain ⟨v, e, h⟩ := h
  obtain ⟨m, hn, hl⟩ := I.loc
  obtain ⟨u, r, l⟩ := hl i x v hN e hv
  have fin : EP X pins σ Q u s := ⟨v, H, I, r, h⟩
  rcases l with ⟨hk, hm⟩ | ⟨hk, c, hc, hcell⟩
  · exact wpAny_Name (wpAny_loadName_local I.ok.kind hk hn hm fin) hd
  · rcases hk with hk | hk
    · exact wpAny_Name (wpAny_loadName_cell I.ok.kind hk hc hcell fin) hd
    · exact wpAny_Name (wpAny_loadName_free I.ok.kind hk hc hcell fin hcd) hd
theorem pe_int {i j pos} : PE X (.Constant (.int i) j pos) (tC (.int i)) := fun _ _ _ H _ I h => wpAny_Constant_int ⟨.int i, H, I.tok _, ⟨_, rfl⟩, h⟩
theorem pe_bl {b j pos} : PE X (.Constant (.bool b) j pos) (tC (.bl b)) := fun _ _ _ H _ I h => Constant_bool ⟨.bl b, H, I, rfl, h⟩
theorem pe_non {j pos} : PE X (.Constant .none j pos) (tC .non) := fun _ _ _ H _ I h => Constant_none ⟨.non, H, I, rfl, h⟩
theorem pe_str {x j pos} : PE X (.Constant (.str x) j pos) (tC (.str x)) := fun _ _ _ H _ I h => Calls.Constant_str ⟨.str x, H, I.tok _, ⟨_, rfl⟩, h⟩
def Gl (X : Cx) (x : Str) : Prop := X.env.kindOf x = some .globalImplicit
theorem ld_glob {E : Value -> Shared -> Prop} {pins : List (Addr × Obj)} {s : Shared} {σ : St} {H : Hp} {x : Str} {u : Value} {pos : Pos} {Q : Value -> Shared -> Prop} (I : Inv X pins σ H s) (hg : Gl X x) (hm : X.mg x = some u) (h : Q u s)
    (hd : (x == ("__debug__" : Str)) = false := by decide) : wpAny (model X.prog X.w) X.A (eval (.Name x pos) X.env) Q E s :=
  Calls.Name_function_global I.ok.kind hg (Calls.loadGlobal_global (by rw [I.ok.glob]; exact I.mod.glob.keeps I.bk) hm h) hd
theorem ld_blt {E : Value -> Shared -> Prop} {pins : List (Addr × Obj)} {s : Shared} {σ : St} {H : Hp} {x : Str} {u : Value} {pos : Pos} {Q : Value -> Shared -> Prop} (I : Inv X pins σ H s) (hg : Gl X x) (hm : X.mg x = none) (hv : bootBuiltins x = some u) (h : Q u s)
    (hn : x ≠ "__name__" := by decide) (hd : (x == ("__debug__" : Str)) = false := by decide) : wpAny (model X.prog X.w) X.A (eval (.Name x pos) X.env) Q E s := by
  obtain ⟨mb, h1, h2⟩ := I.mod.blt
  exact Calls.Name_function_global I.ok.kind hg (Calls.loadGlobal_builtin (by rw [I.ok.glob]; exact I.mod.glob.keeps I.bk) hm (by rw [I.ok.blt]; exact h1.keeps I.bk) ((h2 x hn).trans hv) h) hd
theorem pe_glob {x : Str} {v : V} {u : Value} {pos : Pos} (hg : Gl X x) (hm : X.mg x = some u) (r : RelV v u) (hd : (x == ("__debug__" : Str)) = false := by decide) : PE X (.Name x pos) (tC v) :=
  fun _ _ _ H _ I h => ld_glob I hg hm ⟨v, H, I, r, h⟩ hd
theorem pe_bltn {x : Str} {v : V} {u : Value} {pos : Pos} (hg : Gl X x) (hm : X.mg x = none) (hv : bootBuiltins x = some u) (r : RelV v u) (hn : x ≠ "__name__" := by decide) (hd : (x == ("__debug__" : Str)) = false := by decide) : PE X (.Name x pos) (tC v) :=
  fun _ _ _ H _ I h => ld_blt I hg hm hv ⟨v, H, I, r, h⟩ hn hd
variable {a b : Expr} {ta tb : TE} {pos : Pos}
def tB (t : TE) : TT := fun σ H Q => t σ H fun x H1 => ∃ c, x = .bl c /\ Q c H1
theorem pt_val {e : Expr} {t : TE} (h : PE X e t) (he : ∀ whole, isTrue e X.env whole = (do let v <- whole; standAt e.pos; holding [v] (truthy v)) := by intro _; rfl) : PT X e (tB t) := by
  intro pins s σ H Q I hw
  refine isTrue_plain (thn (h pins s σ H _ I hw) fun v s1 ⟨x, H1, I1, r1, q1⟩ => ?_) (he _)
  obtain ⟨d, rfl, q⟩ := q1
  cases r1
  exact wpAny_truthy_bool ⟨H1, I1, q⟩
variable {tA tB' : TT} {rest : List Expr}
def tAnd (t u : TT) : TT := fun σ H Q => t σ H fun c H1 => if c = true then u σ H1 Q else Q false H1
def tOr (t u : TT) : TT := fun σ H Q => t σ H fun c H1 => if c = true then Q true H1 else u σ H1 Q
def tNot (t : TT) : TT := fun σ H Q => t σ H fun c H1 => Q (!c) H1
theorem pw_and1 (ha : PT X a tA) : PW X (.BoolOp .And [a] pos) tA := by
  intro wh pins s σ H Q I h
  refine isTrue_and (thn (ha pins s σ H Q I h) fun c s1 e => ?_)
  cases c with
  | true => exact isTrue_and_nil e
  | false => exact e
theorem pw_or1 (ha : PT X a tA) : PW X (.BoolOp .Or [a] pos) tA := by
  intro wh pins s σ H Q I h
  refine isTrue_or (thn (ha pins s σ H Q I h) fun c s1 e => ?_)
  cases c with
  | false => exact isTrue_or_nil e
  | true => exact e
theorem pw_and (ha : PT X a tA) (hb : PW X (.BoolOp .And (b :: rest) pos) tB') : PW X (.BoolOp .And (a :: b :: rest) pos) (tAnd tA tB') := by
  intro wh pins s σ H Q I h
  refine isTrue_and (thn (ha pins s σ H _ I h) fun c s1 ⟨H1, I1, q1⟩ => ?_)
  cases c with
  | true => exact hb wh pins s1 σ H1 Q I1 q1
  | false => exact ⟨H1, I1, q1⟩
theorem pw_or (ha : PT X a tA) (hb : PW X (.BoolOp .Or (b :: rest) pos) tB') : PW X (.BoolOp .Or (a :: b :: rest) pos) (tOr tA tB') := by
  intro wh pins s σ H Q I h
  refine isTrue_or (thn (ha pins s σ H _ I h) fun c s1 ⟨H1, I1, q1⟩ => ?_)
  cases c with
  | true => exact ⟨H1, I1, q1⟩
  | false => exact hb wh pins s1 σ H1 Q I1 q1
theorem pt_not (ha : PT X a tA) : PT X (.UnaryOp .Not a pos) (tNot tA) := by
  intro pins s σ H Q I h
  exact isTrue_not (ha pins s σ H (fun c H1 => Q (!c) H1) I h)
def tAndV (ta tb : TE) : TE := fun σ H Q => ta σ H fun x H1 => ∃ c, x = .bl c /\ if c = true then tb σ H1 Q else Q (.bl false) H1
def tNotV (ta : TE) : TE := fun σ H Q => ta σ H fun x H1 => ∃ c, x = .bl c /\ Q (.bl (!c)) H1
theorem pe_one {op} {t : TE} (h : PE X a t) : PE X (.BoolOp op [a] pos) t := fun pins s σ H Q I hw => BoolOp_one (h pins s σ H Q I hw)
theorem pe_and (ha : PE X a ta) (hb : PE X (.BoolOp .And (b :: rest) pos) tb) : PE X (.BoolOp .And (a :: b :: rest) pos) (tAndV ta tb) := by
  intro pins s σ H Q I h
  refine BoolOp_and (thn (ha pins s σ H _ I h) fun v s1 ⟨x, H1, I1, r1, q1⟩ => ?_)
  obtain ⟨c, rfl, q1⟩ := q1
  cases r1
  refine wpAny_truthy_bool ?_
  cases c with
  | true => exact hb pins s1 σ H1 Q I1 q1
  | false => exact ⟨.bl false, H1, I1, rfl, q1⟩
theorem pe_not (ha : PE X a ta) : PE X (.UnaryOp .Not a pos) (tNotV ta) := by
  intro pins s σ H Q I h
  refine UnaryOp_ (thn (ha pins s σ H _ I h) fun v s1 ⟨x, H1, I1, r1, q1⟩ => ?_)
  obtain ⟨c, rfl, q1⟩ := q1
  cases r1
  exact not_of (wpAny_truthy_bool ⟨.bl (!c), H1, I1, rfl, q1⟩)
def tIf (t : TT) (ta tb : TE) : TE := fun σ H Q => t σ H fun c H1 => if c = true then ta σ H1 Q else tb σ H1 Q
theorem pe_ifExp {c : Expr} (hc : PT X c tA) (ha : PE X a ta) (hb : PE X b tb) : PE X (.IfExp c a b pos) (tIf tA ta tb) := by
  intro pins s σ H Q I h
  refine wpAny_IfExp (thn (hc pins s σ H _ I h) fun d s1 ⟨H1, I1, q1⟩ => ?_)
  cases d with
  | true => exact ha pins s1 σ H1 Q I1 q1
  | false => exact hb pins s1 σ H1 Q I1 q1
end
end L2
namespace L2
open PySem PySem.Spec PyProof.Rows
def SqL (K : PySem.W.Frag) (H : Hp) (a : Addr) (xs : List V) : Prop :=
  Rd H a (.lst xs) \/
    ∃ (o : Obj) (its : Array Value) (n : Nat), K.lookup a = some o /\ o.cls = .type "list" /\ o.dict = none /\ o.data = .seq its n /\ its.size <= sizeLine /\ Vals xs its.toList
def SqT (K : PySem.W.Frag) (H : Hp) (a : Addr) (xs : List V) : Prop :=
  Rd H a (.tup xs) \/
    ∃ (o : Obj) (its : Array Value) (n : Nat), K.lookup a = some o /\ o.cls = .type "tuple" /\ o.data = .seq its n /\ its.size <= sizeLine /\ Vals xs its.toList
def absV : Value -> Option V
  | .none => some .non
  | .bool b => some (.bl b)
  | .int i _ => some (.int i)
  | .str x _ => some (.str x)
  | .bytes b _ => some (.byt b)
  | .float b _ => some (.flt b)
  | .ref a => some (.ref a)
  | .type n => some (.ty n)
  | _ => none
theorem RelV.abs {x : V} {u : Value} (r : RelV x u) : absV u = some x := by
  cases x with
  | non => cases r; rfl
  | bl _ => cases r; rfl
  | int _ => obtain ⟨t, rfl⟩ := r; rfl
  | str _ => obtain ⟨t, rfl⟩ := r; rfl
  | byt _ => obtain ⟨t, rfl⟩ := r; rfl
  | flt _ => obtain ⟨t, rfl⟩ := r; rfl
  | ref _ => cases r; rfl
  | ty _ => cases r; rfl
theorem RelV.inj {x y : V} {u : Value} (r : RelV x u) (q : RelV y u) : x = y := Option.some.inj (r.abs.symm.trans q.abs)
theorem Vals.inj : ∀ {xs ys : List V} {us : List Value}, Vals xs us -> Vals ys us -> xs = ys
  | _, _, _, .nil, .nil => rfl
  | _, _, _, .cons r t, .cons r' t' => by rw [r.inj r', Vals.inj t t']
section
variable {X : Cx} {pins : List (Addr × Obj)} {σ : St} {H : Hp} {s : Shared} {a : Addr} {xs ys : List V}
theorem SqL.of {K : PySem.W.Frag} (h : H a = some (.lst xs)) : SqL K H a xs := .inl (.inl h)
theorem SqT.of {K : PySem.W.Frag} (h : H a = some (.tup xs)) : SqT K H a xs := .inl (.inl h)
theorem Inv.list (I : Inv X pins σ H s) (h : SqL X.K H a xs) : ∃ its : List Value, Vals xs its /\ PlainL s.heap a its.toArray /\ xs.length <= sizeLine := by
  rcases h with h | ⟨o, its, n, hk, hc, hd, hs, hz, r⟩
  · obtain ⟨z, its, n, r, e⟩ := h.ok I.hok
    exact ⟨its, r, ⟨_, n, e, rfl, rfl, rfl⟩, z⟩
  · refine ⟨its.toList, r, ⟨o, n, I.kIn a o hk, hc, hd, by simpa using hs⟩, ?_⟩
    have e := r.length
    simp only [Array.length_toList] at e
    omega
theorem Inv.tuple (I : Inv X pins σ H s) (h : SqT X.K H a xs) : ∃ its : List Value, Vals xs its /\ IsTup s.heap a its.toArray /\ xs.length <= sizeLine := by
  rcases h with h | ⟨o, its, n, hk, hc, hs, hz, r⟩
  · obtain ⟨z, its, r, p⟩ := h.ok I.hok
    exact ⟨its, r, p, z⟩
  · refine ⟨its.toList, r, ⟨o, I.kIn a o hk, hc, n, by simpa using hs⟩, ?_⟩
    have e := r.length
    simp only [Array.length_toList] at e
    omega
theorem Inv.list_inj (I : Inv X pins σ H s) (h : SqL X.K H a xs) (h' : SqL X.K H a ys) : xs = ys := by
  obtain ⟨its, r, ⟨o, n, e, _, _, d⟩, _⟩ := I.list h
  obtain ⟨its', r', ⟨o', n', e', _, _, d'⟩, _⟩ := I.list h'
  rw [e] at e'; cases e'
  rw [d] at d'
  injection d' with d1 _
  have : its = its' := by simpa using congrArg Array.toList d1
  subst this
  exact r.inj r'
theorem Inv.tuple_inj (I : Inv X pins σ H s) (h : SqT X.K H a xs) (h' : SqT X.K H a ys) : xs = ys := by
  obtain ⟨its, r, ⟨o, e, _, n, d⟩, _⟩ := I.tuple h
  obtain ⟨its', r', ⟨o', e', _, n', d'⟩, _⟩ := I.tuple h'
  rw [e] at e'; cases e'
  rw [d] at d'
  injection d' with d1 _
  have : its = its' := by simpa using congrArg Array.toList d1
  subst this
  exact r.inj r'
end
abbrev Cx.wish (X : Cx) (E : Value -> Shared -> Prop) : Cx := { X with xe := E }
abbrev Cx.nox (X : Cx) : Cx := X.wish fun _ _ => False
theorem Cx.Ok.wish {X : Cx} (ok : X.Ok) (E : Value -> Shared -> Prop) : (X.wish E).Ok :=
  ⟨ok.mod, ok.kind, ok.glob, ok.blt, ok.above, ok.inj, ok.has, ok.cab, ok.hd, ok.frames, ok.stk, ok.exf, ok.bs, ok.bsz, ok.noex, ok.exfs, ok.funs, ok.frf⟩
theorem Cx.Ok.unwish {X : Cx} {E : Value -> Shared -> Prop} (ok : (X.wish E).Ok) : X.Ok :=
  ⟨ok.mod, ok.kind, ok.glob, ok.blt, ok.above, ok.inj, ok.has, ok.cab, ok.hd, ok.frames, ok.stk, ok.exf, ok.bs, ok.bsz, ok.noex, ok.exfs, ok.funs, ok.frf⟩
section
variable {X : Cx} {pins : List (Addr × Obj)} {σ : St} {H : Hp} {s : Shared} {E : Value -> Shared -> Prop}
theorem Inv.wish (I : Inv X pins σ H s) (E : Value -> Shared -> Prop) : Inv (X.wish E) pins σ H s := ⟨I.ok.wish E, I.os, I.bare, I.base, I.loc, I.cell, I.free, I.freeC, I.pin, I.hok, I.len⟩
theorem Inv.unwish (I : Inv (X.wish E) pins σ H s) : Inv X pins σ H s := ⟨I.ok.unwish, I.os, I.bare, I.base, I.loc, I.cell, I.free, I.freeC, I.pin, I.hok, I.len⟩
theorem SP.unwish {D : Ends} {f : Flow} {s' : Shared} (h : SP (X.wish E) pins D f s') : SP X pins D f s' := by
  cases f with
  | next => obtain ⟨σ', H', I, q⟩ := h; exact ⟨σ', H', I.unwish, q⟩
  | brk => obtain ⟨σ', H', I, q⟩ := h; exact ⟨σ', H', I.unwish, q⟩
  | cont => obtain ⟨σ', H', I, q⟩ := h; exact ⟨σ', H', I.unwish, q⟩
  | ret u => obtain ⟨v, σ', H', I, r, q⟩ := h; exact ⟨v, σ', H', I.unwish, r, q⟩
theorem PSs.nox {st : List Stmt} {t : TS} (h : PSs X.nox st t) : PSs X st t := fun pins s σ H D I hw =>
  wpAny_mono (h pins s σ H D (I.wish _) hw) (fun _ _ q => q.unwish) fun _ _ z => False.elim z
end
section
variable {X : Cx} {st : Stmt} {rest : List Stmt} {t u : TS} {e : Expr} {te : TE} {pos : Pos}
def tNext : TS := fun D σ H => D.nx σ H
def tSeq (t u : TS) : TS := fun D σ H => t { D with nx := u D } σ H
theorem pss_nil : PSs X [] tNext := fun _ _ σ H _ I h => wpAny_execs_nil ⟨σ, H, I, h⟩
theorem pss_cons (h1 : PS X st t) (h2 : PSs X rest u) : PSs X (st :: rest) (tSeq t u) := by
  intro pins s σ H D I h
  refine wpAny_execs_cons (thn (h1 pins s σ H { D with nx := u D } I h) fun f s1 q => ?_)
  cases f with
  | next =>
    obtain ⟨σ', H', I', q⟩ := q
    exact h2 pins s1 σ' H' D I' q
  | ret v => exact q
  | brk => exact q
  | cont => exact q
theorem pss_one (h1 : PS X st t) : PSs X [st] t := by
  intro pins s σ H D I h
  refine wpAny_execs_cons (thn (h1 pins s σ H D I h) fun f s1 q => ?_)
  cases f with
  | next => exact wpAny_execs_nil q
  | ret v => exact q
  | brk => exact q
  | cont => exact q
theorem Inv.quiet {pins : List (Addr × Obj)} {σ : St} {H : Hp} {s : Shared} (I : Inv X pins σ H s) : interactive X.env = false := by simp [interactive, I.ok.kind]
def tDrop (te : TE) : TS := fun D σ H => te σ H fun _ H1 => D.nx σ H1
theorem ps_expr (he : PE X e te) (hs : swapsWith e none pos.line X.env = pure false := by rfl) : PS X (.Expr e pos) (tDrop te) := by
  intro pins s σ H D I h
  exact wpAny_Expr_any (thn (he pins s σ H _ I h) fun v s1 ⟨x, H1, I1, r1, q1⟩ => ⟨σ, H1, I1, q1⟩) I.quiet hs
def tRet (te : TE) : TS := fun D σ H => te σ H D.rt
theorem ps_ret (he : PE X e te) : PS X (.Return (some e) pos) (tRet te) := by
  intro pins s σ H D I h
  exact wpAny_Return_some (thn (he pins s σ H _ I h) fun v s1 ⟨x, H1, I1, r1, q1⟩ => ⟨x, σ, H1, I1, r1, q1⟩)
def tIfS (c : TT) (t u : TS) : TS := fun D σ H => c σ H fun b H1 => if b = true then t D σ H1 else u D σ H1
theorem ps_if {c : Expr} {a b : List Stmt} {tc : TT} (hc : PT X c tc) (ha : PSs X a t) (hb : PSs X b u) : PS X (.If c a b pos) (tIfS tc t u) := by
  intro pins s σ H D I h
  refine wpAny_If (thn (hc pins s σ H _ I h) fun d s1 ⟨H1, I1, q1⟩ => ?_)
  cases d with
  | true => exact ha pins s1 σ H1 D I1 q1
  | false => exact hb pins s1 σ H1 D I1 q1
def tNever : TS := fun _ _ _ => False
theorem pss_never {sts : List Stmt} : PSs X sts tNever := fun _ _ _ _ _ _ h => h.elim
end
abbrev TG := V -> St -> Hp -> (St -> Hp -> Prop) -> Prop
abbrev TGs := List V -> St -> Hp -> (St -> Hp -> Prop) -> Prop
def PG (X : Cx) (target : Expr) (t : TG) : Prop :=
  ∀ (pins : List (Addr × Obj)) (s : Shared) (σ : St) (H : Hp) (v : V) (u : Value) (Q : St -> Hp -> Prop), Inv X pins σ H s -> RelV v u -> t v σ H Q ->
    wpAny (model X.prog X.w) X.A (assign target X.env u) (fun _ s' => ∃ σ' H', Inv X pins σ' H' s' /\ Q σ' H') X.xe s
def PGs (X : Cx) (ts : List Expr) (t : TGs) : Prop :=
  ∀ (pins : List (Addr × Obj)) (s : Shared) (σ : St) (H : Hp) (vs : List V) (us : List Value) (Q : St -> Hp -> Prop), Inv X pins σ H s -> Vals vs us -> t vs σ H Q ->
    wpAny (model X.prog X.w) X.A (assignInOrder ((assignEach ts X.env).map (·.2)) us) (fun _ s' => ∃ σ' H', Inv X pins σ' H' s' /\ Q σ' H') X.xe s
abbrev TSet := V -> V -> V -> Hp -> (Hp -> Prop) -> Prop
def PSet (X : Cx) (t : TSet) : Prop :=
  ∀ (pins : List (Addr × Obj)) (s : Shared) (σ : St) (H : Hp) (o i v : V) (ov iv u : Value) (Q : Hp -> Prop), Inv X pins σ H s -> RelV o ov -> RelV i iv -> RelV v u -> t o i v H Q ->
    wpAny (model X.prog X.w) X.A (setItem ov iv u) (fun _ s' => ∃ H', Inv X pins σ H' s' /\ Q H') X.xe s
section
variable {X : Cx} {pos : Pos}
def gName (i : Nat) : TG := fun v σ H Q => Q (σ.set i (some v)) H
theorem pg_name {i : Nat} {x : Str} (hN : X.N.Nodup) (hi : X.N[i]? = some x) (hx : Loc X.env.scope x) (hf : X.fn x = true \/ X.env.scope.names.lookup x = some .local := by first | exact .inl rfl | exact .inr rfl | assumption) : PG X (.Name x pos) (gName i) := by
  intro pins s σ H v u Q I r h
  exact wpAny_assign_Name (store_ok I hN hi hx r (fun s' I' => ⟨_, H, I', h⟩) hf)
def gNil : TGs := fun vs σ H Q => vs = [] /\ Q σ H
def gCons (t : TG) (u : TGs) : TGs := fun vs σ H Q => ∃ v r, vs = v :: r /\ t v σ H fun σ' H' => u r σ' H' Q
theorem pgs_nil : PGs X [] gNil := by
  intro pins s σ H vs us Q I r h
  obtain ⟨e, h⟩ := h
  subst e
  cases r
  exact assignInOrder_nil ⟨σ, H, I, h⟩
theorem pgs_cons {e : Expr} {es : List Expr} {t : TG} {u : TGs} (h1 : PG X e t) (h2 : PGs X es u)
    (hs : (assignEach (e :: es) X.env).map (·.2) = assign e X.env :: (assignEach es X.env).map (·.2) := by rfl) : PGs X (e :: es) (gCons t u) := by
  intro pins s σ H vs us Q I r h
  obtain ⟨v, vr, e1, h⟩ := h
  subst e1
  cases r with
  | cons r rr =>
    rw [hs]
    refine assignInOrder_cons (thn (h1 pins s σ H _ _ _ I r h) fun _ s1 ⟨σ1, H1, I1, q1⟩ => ?_)
    exact h2 pins s1 σ1 H1 _ _ Q I1 rr q1
def gTup (K : PySem.W.Frag) (n : Nat) (t : TGs) : TG := fun v σ H Q => ∃ a xs, v = .ref a /\ SqT K H a xs /\ xs.length = n /\ t xs σ H Q
theorem pg_tup {es : List Expr} {k : Nat} {t : TGs} {n : Nat} (hc : X.calm = true) (h : PGs X es t)
    (hn : (assignEach es X.env).length = n := by rfl) (hst : (assignEach es X.env).findIdx? (·.1) = none := by rfl) : PG X (.Tuple es k pos) (gTup X.K n t) := by
  intro pins s σ H v u Q I r hw
  obtain ⟨a, xs, e1, hq, hl, hw⟩ := hw
  subst e1
  cases r
  obtain ⟨its, rv, ht, hz⟩ := I.tuple hq
  refine assign_Tuple_tuple (I.ok.hd hc) ht (by simp [hn, <- hl, rv.length]) hst fun h' hx => ?_
  have I1 : Inv X pins σ H { s with heap := h' } := I.kept (t' := s.toks) fun b o e => hx b o (Nat.ne_of_lt (Heap.lt_size e)) e
  exact h pins _ σ H xs _ Q I1 (by simpa using rv) hw
def gSub (to ti : TE) (t : TSet) : TG := fun v σ H Q => to σ H fun o H1 => ti σ H1 fun i H2 => t o i v H2 fun H3 => Q σ H3
theorem pg_sub {o i : Expr} {to ti : TE} {t : TSet} (ho : PE X o to) (hi : PE X i ti) (hs : PSet X t)
    (ha : ∀ v, assign (.Subscript o i pos) X.env v = (do
      let ov <- holding [v] (eval o X.env)
      let iv <- holding [v, ov] (eval i X.env)
      standAt pos
      holding [v, ov, iv] (setItem ov iv v)
      release [v, ov, iv] []) := by intro _; rfl) : PG X (.Subscript o i pos) (gSub to ti t) := by
  intro pins s σ H v u Q I r h
  rw [ha]
  refine wpAny_bind (wpAny_holding (thn (ho pins s σ H _ I h) fun ov s1 ⟨x, H1, I1, r1, q1⟩ => ?_))
  refine wpAny_bind (wpAny_holding (thn (hi pins s1 σ H1 _ I1 q1) fun iv s2 ⟨y, H2, I2, r2, q2⟩ => ?_))
  refine wpAny_bind (wpAny_standAt (wpAny_bind (wpAny_holding (thn (hs pins s2 σ H2 x y v ov iv u _ I2 r1 r2 r q2) fun _ s3 ⟨H3, I3, q3⟩ => ?_))))
  exact wpAny_release ⟨σ, H3, I3, q3⟩
def tAsg (te : TE) (g : TG) : TS := fun D σ H => te σ H fun x H1 => g x σ H1 D.nx
theorem ps_asg {tg e : Expr} {te : TE} {g : TG} (he : PE X e te) (hg : PG X tg g) (hs : swapsWithSole [tg] e pos.line X.env = pure false := by rfl) (hw : swappedStores [tg] e X.env = pure none := by rfl)
    (h1 : (assignEach [tg] X.env).map (·.2) = [assign tg X.env] := by rfl) : PS X (.Assign [tg] e pos) (tAsg te g) := by
  intro pins s σ H D I h
  refine wpAny_Assign_stores (thn (he pins s σ H _ I h) fun v s1 ⟨x, H1, I1, r1, q1⟩ => ?_) hs hw
  rw [h1]
  exact thn (hg pins s1 σ H1 x v _ I1 r1 q1) fun _ s2 q => q
theorem ps_set {i : Nat} {x : Str} {e : Expr} {te : TE} {pos' : Pos} (hN : X.N.Nodup) (hi : X.N[i]? = some x) (hx : Loc X.env.scope x) (he : PE X e te) (hs : swapsWith e (some (.Name x pos')) pos.line X.env = pure false := by rfl) (hf : X.fn x = true \/ X.env.scope.names.lookup x = some .local := by first | exact .inl rfl | exact .inr rfl | assumption) :
    PS X (.Assign [.Name x pos'] e pos) (tAsg te (gName i)) := by
  intro pins s σ H D I h
  refine wpAny_Assign_Name (thn (he pins s σ H _ I h) fun v s1 ⟨y, H1, I1, r1, q1⟩ => ?_) hs
  exact store_ok I1 hN hi hx r1 (fun s2 I2 => ⟨_, H1, I2, q1⟩) hf
end
section
variable {X : Cx} {pos : Pos}
def tWhile (c : TT) (tb : TS) : TS := fun D σ H => ∃ W : Nat -> St -> Hp -> Prop, (∃ m, W m σ H) /\ ∀ m σ H, W m σ H ->
  c σ H fun b H1 => if b = true then ∃ N : St -> Hp -> Prop, (∀ σ' H', N σ' H' -> ∃ m', m' < m /\ W m' σ' H') /\ tb { D with nx := N, ct := N, bk := D.nx } σ H1 else D.nx σ H1
theorem ps_while {c : Expr} {body : List Stmt} {tc : TT} {tb : TS} (hp : PassesOwn (model X.prog X.w) X.A X.env X.xe) (hc : PT X c tc) (hb : PSs X body tb) : PS X (.While c body [] pos) (tWhile tc tb) := by
  intro pins s σ H D I h
  obtain ⟨W, ⟨m0, w0⟩, turn⟩ := h
  refine wpAny_While (codeAny_whileLoop (fun n s' => ∃ σ' H', Inv X pins σ' H' s' /\ W n σ' H') ?_ m0 ⟨σ, H, I, w0⟩)
  rintro n s1 ⟨σ1, H1, I1, w1⟩
  refine wpAny_passesOwn hp (thn (hc pins s1 σ1 H1 _ I1 (turn n σ1 H1 w1)) fun b s2 ⟨H2, I2, q2⟩ => ?_)
  cases b with
  | true =>
    obtain ⟨N, hN, q2⟩ := q2
    rw [if_pos rfl]
    refine wpAny_passesOwn hp (thn (hb pins s2 σ1 H2 _ I2 q2) fun f s3 q3 => ?_)
    cases f with
    | next =>
      obtain ⟨σ3, H3, I3, n3⟩ := q3
      obtain ⟨m', hm, w3⟩ := hN σ3 H3 n3
      exact ⟨m', hm, σ3, H3, I3, w3⟩
    | cont =>
      obtain ⟨σ3, H3, I3, n3⟩ := q3
      obtain ⟨m', hm, w3⟩ := hN σ3 H3 n3
      exact ⟨m', hm, σ3, H3, I3, w3⟩
    | brk => exact q3
    | ret v => exact q3
  | false =>
    rw [if_neg Bool.false_ne_true]
    exact wpAny_execs_nil ⟨σ1, H2, I2, q2⟩
end
structure It where
  go : Nat -> Hp -> Prop
  yld : Nat -> Hp -> V -> Hp -> Prop
  stop : Nat -> Hp -> Prop
def FpOk (X : Cx) (pins : List (Addr × Obj)) (H : Hp) (b : Addr) : Prop :=
  H b = none /\ b ≠ X.env.locals /\ b ∉ X.fs /\ (b ∈ X.ex \/ X.s₀.heap.objs.size <= b) /\ (∀ x c, X.env.cells.lookup x = some c -> c ≠ b) /\ ∀ p ∈ X.pn ++ pins, p.1 ≠ b
theorem Inv.fpOk {X : Cx} {pins : List (Addr × Obj)} {σ : St} {H H' : Hp} {s : Shared} {b : Addr} (I : Inv X pins σ H s) (hb : s.heap.objs.size <= b) (hn : H' b = none) : FpOk X pins H' b := by
  refine ⟨hn, Nat.ne_of_gt (Nat.lt_of_lt_of_le I.lt hb), I.nofs hb, .inr (Nat.le_trans I.sz hb), fun x c e z => ?_, fun p hp z => ?_⟩
  · obtain ⟨v, q⟩ := I.cell x c e
    exact absurd (Nat.lt_of_lt_of_le q.lt (by rw [z]; exact hb)) (Nat.lt_irrefl _)
  · exact absurd (Nat.lt_of_lt_of_le (Heap.lt_size (I.pin p hp).1) (by rw [z]; exact hb)) (Nat.lt_irrefl _)
structure Turn (P : Program) (w : World) (K : PySem.W.Frag) (tg : Expr) (J : It) (fp : List Addr) (it : Addr) (tn : Nat -> Heap -> Prop) : Prop where
  mem : it ∈ fp
  obj : ∀ i h, tn i h -> ∀ b ∈ fp, ∃ o, h.get? b = some o /\ ∀ v, o.data ≠ .cell v
  keep : ∀ i h h', tn i h -> (∀ b ∈ fp, ∀ o, h.get? b = some o -> h'.get? b = some o) -> tn i h'
  item : ∀ (X : Cx), X.prog = P -> X.w = w -> X.K = K -> X.calm = true -> ∀ (i : Nat) (pins : List (Addr × Obj)) (s : Shared) (σ : St) (H : Hp) (E : Value -> Shared -> Prop), Inv X pins σ H s -> (∀ b ∈ fp, FpOk X pins H b) -> tn i s.heap -> J.go i H ->
    wpAny (model P w) X.A (pyNext (.ref it)) (fun r s1 => ∃ u, r = some u /\
      wpAny (model P w) X.A (letOwnedTupleGo tg (.ref it) u) (fun _ s2 => ∃ x H', Inv X pins σ H' s2 /\ RelV x u /\ J.yld i H x H' /\ tn (i + 1) s2.heap /\ ∀ b ∈ fp, H' b = none) E s1) E s
  done : ∀ (X : Cx), X.prog = P -> X.w = w -> X.K = K -> X.calm = true -> ∀ (i : Nat) (pins : List (Addr × Obj)) (s : Shared) (σ : St) (H : Hp) (E : Value -> Shared -> Prop), Inv X pins σ H s -> (∀ b ∈ fp, FpOk X pins H b) -> tn i s.heap -> J.stop i H ->
    wpAny (model P w) X.A (pyNext (.ref it)) (fun r s1 => r = none /\ Inv X pins σ H s1) E s
  self : ∀ (A : Around) (i : Nat) (s : Shared) (Q : Value -> Shared -> Prop) (E : Value -> Shared -> Prop), tn i s.heap -> Q (.ref it) s -> wpAny (model P w) A (pyIter (.ref it)) Q E s
abbrev TI := St -> Hp -> (It -> Hp -> Prop) -> Prop
def PIE (X : Cx) (pins : List (Addr × Obj)) (σ : St) (tg : Expr) (R : It -> Hp -> Prop) (itv : Value) (s2 : Shared) : Prop :=
  ∃ (it : Addr) (fp : List Addr) (tn : Nat -> Heap -> Prop) (J : It) (H' : Hp), itv = .ref it /\ Inv X pins σ H' s2 /\ Turn X.prog X.w X.K tg J fp it tn /\ tn 0 s2.heap /\ (∀ b ∈ fp, FpOk X pins H' b) /\ R J H'
def PI (X : Cx) (tg iter : Expr) (wi : TI) : Prop :=
  ∀ (pins : List (Addr × Obj)) (s : Shared) (σ : St) (H : Hp) (R : It -> Hp -> Prop), Inv X pins σ H s -> wi σ H R ->
    wpAny (model X.prog X.w) X.A (eval iter X.env) (fun v s1 => wpAny (model X.prog X.w) X.A (pyIter v) (PIE X pins σ tg R) X.xe s1) X.xe s
theorem go_of {M : Model} {A : Around} {E : Value -> Shared -> Prop} {s : Shared} {tg : Expr} {it : Addr} {u : Value} {o : Obj} {n : String} {vs : Array Value} {Q : Unit -> Shared -> Prop} (ho : s.heap.get? it = some o) (hc : o.cls = .type n) (hd : o.data = .fields vs)
    (hn : ["enumerate", "zip", "dict_itemiterator", "dict_reverseitemiterator", "odict_iterator", "itertools.zip_longest", "itertools.pairwise"].contains n = false) (hQ : Q () s) : wpAny M A (letOwnedTupleGo tg (.ref it) u) Q E s := by
  unfold letOwnedTupleGo
  cases tg <;> first
    | exact wpAny_pure hQ
    | (cases u <;> first
        | exact wpAny_pure hQ
        | (refine wpAny_bind (wpAny_load ho ?_)
           rw [hc, hd]
           show wpAny M A (if (["enumerate", "zip", "dict_itemiterator", "dict_reverseitemiterator", "odict_iterator", "itertools.zip_longest", "itertools.pairwise"].contains n && vs[0]? == some (rawInt _)) = true then _ else _) Q E s
           rw [if_neg (by intro h; rw [hn, Bool.false_and] at h; cases h)]
           exact wpAny_pure hQ))
def Itl (K : PySem.W.Frag) (a : Addr) : It :=
  ⟨fun i H => ∃ xs x, SqL K H a xs /\ xs[i]? = some x, fun i H x H' => H' = H /\ ∀ xs, SqL K H a xs -> xs[i]? = some x, fun i H => ∃ xs, SqL K H a xs /\ xs.length <= i⟩
def Itt (K : PySem.W.Frag) (a : Addr) : It :=
  ⟨fun i H => ∃ xs x, SqT K H a xs /\ xs[i]? = some x, fun i H x H' => H' = H /\ ∀ xs, SqT K H a xs -> xs[i]? = some x, fun i H => ∃ xs, SqT K H a xs /\ xs.length <= i⟩
def Itr (lo : Int) (n : Nat) : It := ⟨fun i _ => i < n, fun i H x H' => H' = H /\ x = .int (lo + i), fun i _ => n <= i⟩
theorem turn_list {P : Program} {w : World} {K : PySem.W.Frag} {tg : Expr} (a it : Addr) : Turn P w K tg (Itl K a) [it] it (fun i h => h.IsListIter it a i) where
  mem := by simp
  obj := fun i h st b hb => by
    have e : b = it := by simpa using hb
    subst e
    obtain ⟨o, e, c, d⟩ := st
    exact ⟨o, e, fun v z => by rw [d] at z; cases z⟩
  keep := fun i h h' st k => st.at fun o e => k it (by simp) o e
  item := by
    intro X hP hw hK hc i pins s σ H E I hf st hg
    subst hP hw hK
    obtain ⟨xs, x, hq, hx⟩ := hg
    obtain ⟨its, rv, p, hz⟩ := I.list hq
    obtain ⟨u, hu, ru⟩ := rv.get hx
    obtain ⟨f0, f1, f2, f3, f4, f5⟩ := hf it (by simp)
    refine wpAny_pyNext_list_item st p.isList (x := u) (by simpa using hu) fun h' st' sb => ?_
    have I1 : Inv X pins σ H { s with heap := h' } := I.turned (t' := s.toks) (fun b o hb e => (sb.2 b hb).trans e) f0 f1 f3 f4 f5
    obtain ⟨o, e, c, d⟩ := id st'
    exact ⟨u, rfl, go_of (s := { s with heap := h' }) e c d (by decide) ⟨x, H, I1, ru, ⟨rfl, fun ys hy => by rw [I.list_inj hy hq]; exact hx⟩, st', fun b hb => (hf b hb).1⟩⟩
  done := by
    intro X hP hw hK hc i pins s σ H E I hf st hg
    subst hP hw hK
    obtain ⟨xs, hq, hx⟩ := hg
    obtain ⟨its, rv, p, hz⟩ := I.list hq
    obtain ⟨f0, f1, f2, f3, f4, f5⟩ := hf it (by simp)
    have hl := rv.length
    exact wpAny_pyNext_list_end (I.ok.hd hc) st p.isList (by simp; omega) fun h' eb => ⟨rfl, I.turned (t' := s.toks) (fun b o hb e => eb b o hb e) f0 f1 f3 f4 f5⟩
  self := fun _ _ _ _ _ st h => wpAny_pyIter_listiter st h
theorem turn_tuple {P : Program} {w : World} {K : PySem.W.Frag} {tg : Expr} (a it : Addr) : Turn P w K tg (Itt K a) [it] it (fun i h => h.IsTupleIter it a i) where
  mem := by simp
  obj := fun i h st b hb => by
    have e : b = it := by simpa using hb
    subst e
    obtain ⟨o, e, c, d⟩ := st
    exact ⟨o, e, fun v z => by rw [d] at z; cases z⟩
  keep := fun i h h' st k => st.at fun o e => k it (by simp) o e
  item := by
    intro X hP hw hK hc i pins s σ H E I hf st hg
    subst hP hw hK
    obtain ⟨xs, x, hq, hx⟩ := hg
    obtain ⟨its, rv, p, hz⟩ := I.tuple hq
    obtain ⟨u, hu, ru⟩ := rv.get hx
    obtain ⟨f0, f1, f2, f3, f4, f5⟩ := hf it (by simp)
    refine wpAny_pyNext_tuple_item st (show s.heap.IsTuple a its.toArray from p) (x := u) (by simpa using hu) fun h' st' sb => ?_
    have I1 : Inv X pins σ H { s with heap := h' } := I.turned (t' := s.toks) (fun b o hb e => (sb.2 b hb).trans e) f0 f1 f3 f4 f5
    obtain ⟨o, e, c, d⟩ := id st'
    exact ⟨u, rfl, go_of (s := { s with heap := h' }) e c d (by decide) ⟨x, H, I1, ru, ⟨rfl, fun ys hy => by rw [I.tuple_inj hy hq]; exact hx⟩, st', fun b hb => (hf b hb).1⟩⟩
  done := by
    intro X hP hw hK hc i pins s σ H E I hf st hg
    subst hP hw hK
    obtain ⟨xs, hq, hx⟩ := hg
    obtain ⟨its, rv, p, hz⟩ := I.tuple hq
    obtain ⟨f0, f1, f2, f3, f4, f5⟩ := hf it (by simp)
    have hl := rv.length
    exact wpAny_pyNext_tuple_end (I.ok.hd hc) st (show s.heap.IsTuple a its.toArray from p) (by simp; omega) fun h' eb => ⟨rfl, I.turned (t' := s.toks) (fun b o hb e => eb b o hb e) f0 f1 f3 f4 f5⟩
  self := fun _ _ _ _ _ st h => wpAny_pyIter_tupleiter st h
theorem turn_range {P : Program} {w : World} {K : PySem.W.Frag} {tg : Expr} (it : Addr) (lo : Int) (n : Nat) : Turn P w K tg (Itr lo n) [it] it (fun i h => IsRangeIter h it (lo + (i : Nat) * 1) ((n : Int) - (i : Nat)) 1) where
  mem := by simp
  obj := fun i h st b hb => by
    have e : b = it := by simpa using hb
    subst e
    exact ⟨_, st, fun v z => by
      have z' : Data.fields _ = Data.cell v := z
      cases z'⟩
  keep := fun i h h' st k => k it (by simp) _ st
  item := by
    intro X hP hw hK hc i pins s σ H E I hf st hg
    subst hP hw hK
    obtain ⟨f0, f1, f2, f3, f4, f5⟩ := hf it (by simp)
    have W := Walks.range (prog := X.prog) (w := X.w) (I.ok.hd hc) it lo 1 n
    refine W.item i s _ _ hg st fun v h' tk hv st' kk => ?_
    obtain ⟨t, rfl⟩ := hv
    have I1 : Inv X pins σ H { s with heap := h', toks := tk } := I.turned (fun b o hb e => kk b o (by simpa using hb) e) f0 f1 f3 f4 f5
    refine ⟨_, rfl, go_of (s := { s with heap := h', toks := tk }) (n := "range_iterator") st' rfl rfl (by decide) ⟨.int (lo + i), H, I1, ⟨t, ?_⟩, ⟨rfl, rfl⟩, st', fun b hb => (hf b hb).1⟩⟩
    rw [Int.mul_one]
  done := by
    intro X hP hw hK hc i pins s σ H E I hf st hg
    subst hP hw hK
    obtain ⟨f0, f1, f2, f3, f4, f5⟩ := hf it (by simp)
    exact wpAny_pyNext_range_end (I.ok.hd hc) st (by have : n <= i := hg; omega) fun h' eb => ⟨rfl, I.turned (t' := s.toks) (fun b o hb e => eb b o hb e) f0 f1 f3 f4 f5⟩
  self := fun _ _ _ _ _ st h => wpAny_pyIter_rangeiter st h
end L2
namespace L2
open PySem PySem.Spec PyProof.Rows
section
variable {X : Cx} {tg : Expr}
def iList (K : PySem.W.Frag) (tl : TE) : TI := fun σ H R => tl σ H fun x H1 => ∃ a, x = .ref a /\ (∃ xs, SqL K H1 a xs) /\ R (Itl K a) H1
def iTup (K : PySem.W.Frag) (tl : TE) : TI := fun σ H R => tl σ H fun x H1 => ∃ a, x = .ref a /\ (∃ xs, SqT K H1 a xs) /\ R (Itt K a) H1
theorem pi_list {l : Expr} {tl : TE} (hl : PE X l tl) : PI X tg l (iList X.K tl) := by
  intro pins s σ H R I h
  refine thn (hl pins s σ H _ I h) fun v s1 ⟨x, H1, I1, r1, q1⟩ => ?_
  obtain ⟨a, e, ⟨xs, hq⟩, q⟩ := q1
  subst e
  cases r1
  obtain ⟨its, rv, p, hz⟩ := I1.list hq
  refine wpAny_pyIter_list p.isList ?_
  refine ⟨s1.heap.objs.size, [s1.heap.objs.size], _, _, H1, rfl, I1.kept (t' := s1.toks) fun b o e => Heap.get?_push_of_some _ e, turn_list a _, ⟨_, Heap.get?_push_size _ rfl, rfl, rfl⟩, fun b hb => ?_, q⟩
  have e : b = s1.heap.objs.size := by simpa using hb
  subst e
  exact I1.fpOk (Nat.le_refl _) (I1.hok.fresh (Nat.le_refl _))
theorem pi_tup {l : Expr} {tl : TE} (hl : PE X l tl) : PI X tg l (iTup X.K tl) := by
  intro pins s σ H R I h
  refine thn (hl pins s σ H _ I h) fun v s1 ⟨x, H1, I1, r1, q1⟩ => ?_
  obtain ⟨a, e, ⟨xs, hq⟩, q⟩ := q1
  subst e
  cases r1
  obtain ⟨its, rv, p, hz⟩ := I1.tuple hq
  refine wpAny_pyIter_tuple (show s1.heap.IsTuple a its.toArray from p) ?_
  refine ⟨s1.heap.objs.size, [s1.heap.objs.size], _, _, H1, rfl, I1.kept (t' := s1.toks) fun b o e => Heap.get?_push_of_some _ e, turn_tuple a _, ⟨_, Heap.get?_push_size _ rfl, rfl, rfl⟩, fun b hb => ?_, q⟩
  have e : b = s1.heap.objs.size := by simpa using hb
  subst e
  exact I1.fpOk (Nat.le_refl _) (I1.hok.fresh (Nat.le_refl _))
theorem range_it {pins : List (Addr × Obj)} {σ : St} {H : Hp} {s : Shared} {R : It -> Hp -> Prop} {E : Value -> Shared -> Prop} {lo hi : Int} {t u v : Tok} {tk : Nat} (I : Inv X pins σ H s) (h1 : -(2 ^ 62) <= lo) (h2 : lo < 2 ^ 62) (h3 : -(2 ^ 62) <= hi) (h4 : hi < 2 ^ 62)
    (q : R (Itr lo (hi - lo).toNat) H) : wpAny (model X.prog X.w) X.A (pyIter (.ref s.heap.objs.size)) (PIE X pins σ tg R) E { s with heap := s.heap.push { cls := .type "range", data := .fields #[.int lo t, .int hi u, .int 1 v] }, toks := tk } := by
  refine wpAny_pyIter_range (IsRange.new ..) (small_one h1 h2 h3 h4) ?_
  have I1 : Inv X pins σ H { s with heap := s.heap.push { cls := .type "range", data := .fields #[.int lo t, .int hi u, .int 1 v] }, toks := tk } := I.kept fun b o e => Heap.get?_push_of_some _ e
  refine ⟨(s.heap.push { cls := .type "range", data := .fields #[.int lo t, .int hi u, .int 1 v] }).objs.size, [(s.heap.push { cls := .type "range", data := .fields #[.int lo t, .int hi u, .int 1 v] }).objs.size], _, _, H, rfl,
    I1.kept (t' := tk) fun b o e => Heap.get?_push_of_some _ e, turn_range _ lo (hi - lo).toNat, ?_, fun b hb => ?_, q⟩
  · have e1 : lo + ((0 : Nat) : Int) * 1 = lo := by simp
    have e2 : (((hi - lo).toNat : Nat) : Int) - ((0 : Nat) : Int) = Builtin.Range.rangeSize lo hi 1 := by rw [rangeSize_one]; split <;> omega
    show IsRangeIter _ _ (lo + ((0 : Nat) : Int) * 1) ((((hi - lo).toNat : Nat) : Int) - ((0 : Nat) : Int)) 1
    rw [e1, e2]
    exact Heap.get?_push_size _ rfl
  · have e : b = (s.heap.push { cls := .type "range", data := .fields #[.int lo t, .int hi u, .int 1 v] }).objs.size := by simpa using hb
    subst e
    exact I1.fpOk (Nat.le_refl _) (I1.hok.fresh (Nat.le_refl _))
def iRng1 (ta : TA) : TI := fun σ H R => ta σ H fun vs H1 => ∃ j : Int, vs = [.int j] /\ -(2 ^ 62) <= j /\ j < 2 ^ 62 /\ R (Itr 0 j.toNat) H1
def iRng2 (ta : TA) : TI := fun σ H R => ta σ H fun vs H1 => ∃ i j : Int, vs = [.int i, .int j] /\ (-(2 ^ 62) <= i /\ i < 2 ^ 62 /\ -(2 ^ 62) <= j /\ j < 2 ^ 62) /\ R (Itr i (j - i).toNat) H1
theorem pi_range1 {a : Expr} {ta : TA} {p pos : Pos} (hg : Gl X "range") (hm : X.mg "range" = none) (ha : PA X [a] ta) (hs : starEach [a] X.env = [(false, eval a X.env)] := by rfl) : PI X tg (.Call (.Name "range" p) [a] [] pos) (iRng1 ta) := by
  intro pins s σ H R I h
  refine Call_ (ld_blt I hg hm boot_range (PyProof.Rows.callWith_type1 (thn (ha pos pins s σ H _ I h) fun us s1 ⟨vs, H1, I1, r1, q1⟩ => ?_) hs rfl))
  obtain ⟨j, e, q1, q2, q⟩ := q1
  subst e
  cases r1 with
  | cons r rr =>
    cases rr
    obtain ⟨t, rfl⟩ := r
    exact call_range_1 (range_it I1 (by omega) (by omega) q1 q2 (by simpa using q))
theorem pi_range2 {a b : Expr} {ta : TA} {p pos : Pos} (hg : Gl X "range") (hm : X.mg "range" = none) (ha : PA X [a, b] ta) (hs : starEach [a, b] X.env = [(false, eval a X.env), (false, eval b X.env)] := by rfl) (hs2 : starEach [b] X.env = [(false, eval b X.env)] := by rfl) :
    PI X tg (.Call (.Name "range" p) [a, b] [] pos) (iRng2 ta) := by
  intro pins s σ H R I h
  refine Call_ (ld_blt I hg hm boot_range (PyProof.Rows.callWith_type1 (thn (ha pos pins s σ H _ I h) fun us s1 ⟨vs, H1, I1, r1, q1⟩ => ?_) (by rw [hs, hs2]) (by rw [hs2]; rfl)))
  obtain ⟨i, j, e, ⟨q1, q2, q3, q4⟩, q⟩ := q1
  subst e
  cases r1 with
  | cons r rr =>
    cases rr with
    | cons r' rr =>
      cases rr
      obtain ⟨t, rfl⟩ := r
      obtain ⟨t', rfl⟩ := r'
      exact call_range_2 (range_it I1 q1 q2 q3 q4 q)
def tFor (wi : TI) (g : TG) (tb : TS) : TS := fun D σ H => wi σ H fun J H1 => ∃ W : Nat -> Nat -> St -> Hp -> Prop, (∃ m, W 0 m σ H1) /\ ∀ i m σ H, W i m σ H ->
  (J.stop i H /\ D.nx σ H) \/ (J.go i H /\ ∃ N : St -> Hp -> Prop, (∀ σ' H', N σ' H' -> ∃ m', m' < m /\ W (i + 1) m' σ' H') /\ ∀ x H', J.yld i H x H' -> g x σ H' fun σ2 H2 => tb { D with nx := N, ct := N, bk := D.nx } σ2 H2)
def pinsAt (fp : List Addr) (h : Heap) : List (Addr × Obj) := fp.filterMap fun b => (h.get? b).map fun o => (b, o)
theorem mem_pinsAt {fp : List Addr} {h : Heap} {b : Addr} {o : Obj} (hb : b ∈ fp) (e : h.get? b = some o) : (b, o) ∈ pinsAt fp h := List.mem_filterMap.mpr ⟨b, hb, by rw [e]; rfl⟩
theorem of_pinsAt {fp : List Addr} {h : Heap} {p : Addr × Obj} (hp : p ∈ pinsAt fp h) : p.1 ∈ fp /\ h.get? p.1 = some p.2 := by
  obtain ⟨b, hb, e⟩ := List.mem_filterMap.mp hp
  cases q : h.get? b with
  | none => rw [q] at e; cases e
  | some o =>
    rw [q] at e
    have e' : (b, o) = p := Option.some.inj e
    subst e'
    exact ⟨hb, q⟩
theorem Inv.pinned {pins : List (Addr × Obj)} {σ : St} {H : Hp} {s : Shared} {fp : List Addr} (I : Inv X pins σ H s) (hf : ∀ b ∈ fp, FpOk X pins H b) (ho : ∀ b ∈ fp, ∃ o, s.heap.get? b = some o /\ ∀ v, o.data ≠ .cell v) : Inv X (pins ++ pinsAt fp s.heap) σ H s :=
  I.pins_of fun p hp => (List.mem_append.mp hp).elim (fun z => I.pin p (List.mem_append_right _ z)) fun z => by
    obtain ⟨hb, e⟩ := of_pinsAt z
    obtain ⟨f0, f1, f2, _⟩ := hf p.1 hb
    obtain ⟨o, e', d⟩ := ho p.1 hb
    rw [e] at e'; cases e'
    exact ⟨e, f0, f1, f2, d⟩
theorem Inv.unpinned {pins pl : List (Addr × Obj)} {σ : St} {H : Hp} {s : Shared} (I : Inv X (pins ++ pl) σ H s) : Inv X pins σ H s := I.pins_of fun p hp => I.pin p (List.mem_append_right _ (List.mem_append_left _ hp))
theorem ps_for {iter : Expr} {body : List Stmt} {wi : TI} {g : TG} {tb : TS} {pos : Pos} (hp : PassesOwn (model X.prog X.w) X.A X.env X.xe) (hc : X.calm = true) (hi : PI X tg iter wi) (hg : PG X tg g) (hb : PSs X body tb)
    (hs : ∀ x, foldedSetIterable iter X.env x = pure x := by intro _; rfl) : PS X (.For tg iter body [] pos) (tFor wi g tb) := by
  intro pins s σ H D I h
  refine wpAny_For (thn (hi pins s σ H _ I h) fun v s1 h1 => thn h1 fun itv s2 h2 => ?_) hs
  obtain ⟨it, fp, tn, J, H2, e, I2, T, st2, f2, W, ⟨m0, w0⟩, turn⟩ := h2
  subst e
  have stat : ∀ {H' : Hp}, (∀ b ∈ fp, H' b = none) -> ∀ b ∈ fp, FpOk X pins H' b := fun hn b hb => ⟨hn b hb, (f2 b hb).2⟩
  refine codeAny_forLoop_any (fun n s' => ∃ i σ' H', Inv X pins σ' H' s' /\ tn i s'.heap /\ (∀ b ∈ fp, H' b = none) /\ W i n σ' H') ?_ m0 ⟨0, σ, H2, I2, st2, fun b hb => (f2 b hb).1, w0⟩
  rintro n s3 ⟨i, σ3, H3, I3, st3, fr3, w3⟩
  rcases turn i n σ3 H3 w3 with ⟨stop, qn⟩ | ⟨go, N, hN, step⟩
  · refine wpAny_passesOwn hp (thn (T.done X rfl rfl rfl hc i pins s3 σ3 H3 X.xe I3 (stat fr3) st3 stop) fun r s4 ⟨hr, I4⟩ => ?_)
    subst hr
    exact wpAny_execs_nil ⟨σ3, H3, I4, qn⟩
  · refine wpAny_passesOwn hp (thn (T.item X rfl rfl rfl hc i pins s3 σ3 H3 X.xe I3 (stat fr3) st3 go) fun r s4 ⟨u, hr, h4⟩ => ?_)
    subst hr
    refine wpAny_passesOwn hp (thn h4 fun _ s5 ⟨x, H5, I5, r5, y5, st5, fr5⟩ => ?_)
    have I5' := I5.pinned (stat fr5) (T.obj _ _ st5)
    refine wpAny_passesOwn hp (thn (hg _ s5 σ3 H5 x u _ I5' r5 (step x H5 y5)) fun _ s6 ⟨σ6, H6, I6, q6⟩ => ?_)
    refine wpAny_passesOwn hp (thn (hb _ s6 σ6 H6 _ I6 q6) fun f s7 q7 => ?_)
    have again : ∀ {σ7 : St} {H7 : Hp}, Inv X (pins ++ pinsAt fp s5.heap) σ7 H7 s7 -> N σ7 H7 -> ∃ m, m < n /\ ∃ i σ' H', Inv X pins σ' H' s7 /\ tn i s7.heap /\ (∀ b ∈ fp, H' b = none) /\ W i m σ' H' := fun {σ7 H7} I7 n7 => by
      obtain ⟨m', hm, w7⟩ := hN σ7 H7 n7
      refine ⟨m', hm, i + 1, σ7, H7, I7.unpinned, T.keep _ _ _ st5 fun b hb o e => (I7.pin (b, o) (List.mem_append_right _ (List.mem_append_right _ (mem_pinsAt hb e)))).1, fun b hb => ?_, w7⟩
      obtain ⟨o, e, d⟩ := T.obj _ _ st5 b hb
      exact (I7.pin (b, o) (List.mem_append_right _ (List.mem_append_right _ (mem_pinsAt hb e)))).2.1
    cases f with
    | next => obtain ⟨σ7, H7, I7, n7⟩ := q7; exact again I7 n7
    | cont => obtain ⟨σ7, H7, I7, n7⟩ := q7; exact again I7 n7
    | brk => obtain ⟨σ7, H7, I7, q7⟩ := q7; exact ⟨σ7, H7, I7.unpinned, q7⟩
    | ret v => obtain ⟨x7, σ7, H7, I7, r7, q7⟩ := q7; exact ⟨x7, σ7, H7, I7.unpinned, r7, q7⟩
end
theorem for_list {K : PySem.W.Frag} {a : Addr} {xs : List V} {g : TG} {tb : TS} {D : Ends} {σ : St} {H : Hp} (Pv : Nat -> St -> Hp -> Prop) (h0 : Pv 0 σ H) (hl : ∀ i σ H, i <= xs.length -> Pv i σ H -> SqL K H a xs)
    (hs : ∀ i x σ H, xs[i]? = some x -> Pv i σ H -> g x σ H fun σ2 H2 => tb { D with nx := Pv (i + 1), ct := Pv (i + 1), bk := D.nx } σ2 H2) (hd : ∀ σ H, Pv xs.length σ H -> D.nx σ H) :
    ∃ W : Nat -> Nat -> St -> Hp -> Prop, (∃ m, W 0 m σ H) /\ ∀ i m σ H, W i m σ H ->
      ((Itl K a).stop i H /\ D.nx σ H) \/ ((Itl K a).go i H /\ ∃ N : St -> Hp -> Prop, (∀ σ' H', N σ' H' -> ∃ m', m' < m /\ W (i + 1) m' σ' H') /\ ∀ x H', (Itl K a).yld i H x H' -> g x σ H' fun σ2 H2 => tb { D with nx := N, ct := N, bk := D.nx } σ2 H2) := by
  refine ⟨fun i m σ H => m = xs.length - i /\ i <= xs.length /\ Pv i σ H, ⟨xs.length, by simp, Nat.zero_le _, h0⟩, ?_⟩
  rintro i m σ H ⟨rfl, hi, p⟩
  have q := hl i σ H hi p
  by_cases hlt : i < xs.length
  · refine .inr ⟨⟨xs, xs[i], q, by simp [hlt]⟩, Pv (i + 1), fun σ' H' p' => ⟨xs.length - (i + 1), by omega, rfl, hlt, p'⟩, fun x H' y => ?_⟩
    obtain ⟨e, y⟩ := y
    subst e
    exact hs i x σ _ (y xs q) p
  · have e : i = xs.length := by omega
    subst e
    exact .inl ⟨⟨xs, q, Nat.le_refl _⟩, hd σ H p⟩
theorem for_tup {K : PySem.W.Frag} {a : Addr} {xs : List V} {g : TG} {tb : TS} {D : Ends} {σ : St} {H : Hp} (Pv : Nat -> St -> Hp -> Prop) (h0 : Pv 0 σ H) (hl : ∀ i σ H, i <= xs.length -> Pv i σ H -> SqT K H a xs)
    (hs : ∀ i x σ H, xs[i]? = some x -> Pv i σ H -> g x σ H fun σ2 H2 => tb { D with nx := Pv (i + 1), ct := Pv (i + 1), bk := D.nx } σ2 H2) (hd : ∀ σ H, Pv xs.length σ H -> D.nx σ H) :
    ∃ W : Nat -> Nat -> St -> Hp -> Prop, (∃ m, W 0 m σ H) /\ ∀ i m σ H, W i m σ H ->
      ((Itt K a).stop i H /\ D.nx σ H) \/ ((Itt K a).go i H /\ ∃ N : St -> Hp -> Prop, (∀ σ' H', N σ' H' -> ∃ m', m' < m /\ W (i + 1) m' σ' H') /\ ∀ x H', (Itt K a).yld i H x H' -> g x σ H' fun σ2 H2 => tb { D with nx := N, ct := N, bk := D.nx } σ2 H2) := by
  refine ⟨fun i m σ H => m = xs.length - i /\ i <= xs.length /\ Pv i σ H, ⟨xs.length, by simp, Nat.zero_le _, h0⟩, ?_⟩
  rintro i m σ H ⟨rfl, hi, p⟩
  have q := hl i σ H hi p
  by_cases hlt : i < xs.length
  · refine .inr ⟨⟨xs, xs[i], q, by simp [hlt]⟩, Pv (i + 1), fun σ' H' p' => ⟨xs.length - (i + 1), by omega, rfl, hlt, p'⟩, fun x H' y => ?_⟩
    obtain ⟨e, y⟩ := y
    subst e
    exact hs i x σ _ (y xs q) p
  · have e : i = xs.length := by omega
    subst e
    exact .inl ⟨⟨xs, q, Nat.le_refl _⟩, hd σ H p⟩
theorem for_range {lo : Int} {n : Nat} {g : TG} {tb : TS} {D : Ends} {σ : St} {H : Hp} (Pv : Nat -> St -> Hp -> Prop) (h0 : Pv 0 σ H)
    (hs : ∀ i σ H, i < n -> Pv i σ H -> g (.int (lo + i)) σ H fun σ2 H2 => tb { D with nx := Pv (i + 1), ct := Pv (i + 1), bk := D.nx } σ2 H2) (hd : ∀ σ H, Pv n σ H -> D.nx σ H) :
    ∃ W : Nat -> Nat -> St -> Hp -> Prop, (∃ m, W 0 m σ H) /\ ∀ i m σ H, W i m σ H ->
      ((Itr lo n).stop i H /\ D.nx σ H) \/ ((Itr lo n).go i H /\ ∃ N : St -> Hp -> Prop, (∀ σ' H', N σ' H' -> ∃ m', m' < m /\ W (i + 1) m' σ' H') /\ ∀ x H', (Itr lo n).yld i H x H' -> g x σ H' fun σ2 H2 => tb { D with nx := N, ct := N, bk := D.nx } σ2 H2) := by
  refine ⟨fun i m σ H => m = n - i /\ i <= n /\ Pv i σ H, ⟨n, by simp, Nat.zero_le _, h0⟩, ?_⟩
  rintro i m σ H ⟨rfl, hi, p⟩
  by_cases hlt : i < n
  · refine .inr ⟨hlt, Pv (i + 1), fun σ' H' p' => ⟨n - (i + 1), by omega, rfl, hlt, p'⟩, fun x H' y => ?_⟩
    obtain ⟨e, y⟩ := y
    subst e y
    exact hs i σ _ hlt p
  · have e : i = n := by omega
    subst e
    exact .inl ⟨Nat.le_refl _, hd σ H p⟩
end L2
namespace L2
open PySem PySem.Spec PyProof.Rows
abbrev R2 := V -> V -> Hp -> VK -> Prop
def OpR (X : Cx) (f : Value -> Value -> Sem Value) (r : R2) : Prop :=
  ∀ (pins : List (Addr × Obj)) (s : Shared) (σ : St) (H : Hp) (x y : V) (v u : Value) (Q : VK), Inv X pins σ H s -> RelV x v -> RelV y u -> r x y H Q ->
    wpAny (model X.prog X.w) X.A (f v u) (EP X pins σ Q) X.xe s
def UnR (X : Cx) (f : Value -> Sem Value) (r : V -> Hp -> VK -> Prop) : Prop :=
  ∀ (pins : List (Addr × Obj)) (s : Shared) (σ : St) (H : Hp) (x : V) (v : Value) (Q : VK), Inv X pins σ H s -> RelV x v -> r x H Q ->
    wpAny (model X.prog X.w) X.A (f v) (EP X pins σ Q) X.xe s
def CallR (X : Cx) (f : Value) (r : List V -> Hp -> VK -> Prop) : Prop :=
  ∀ (pins : List (Addr × Obj)) (s : Shared) (σ : St) (H : Hp) (xs : List V) (us : List Value) (Q : VK), Inv X pins σ H s -> Vals xs us -> r xs H Q ->
    wpAny (model X.prog X.w) X.A (call f us) (EP X pins σ Q) X.xe s
def TruR (X : Cx) (r : V -> Hp -> (Bool -> Hp -> Prop) -> Prop) : Prop :=
  ∀ (pins : List (Addr × Obj)) (s : Shared) (σ : St) (H : Hp) (x : V) (v : Value) (Q : Bool -> Hp -> Prop), Inv X pins σ H s -> RelV x v -> r x H Q ->
    wpAny (model X.prog X.w) X.A (truthy v) (TP X pins σ Q) X.xe s
def tOp (r : R2) (ta tb : TE) : TE := fun σ H Q => ta σ H fun x H1 => tb σ H1 fun y H2 => r x y H2 Q
def tUn (r : V -> Hp -> VK -> Prop) (ta : TE) : TE := fun σ H Q => ta σ H fun x H1 => r x H1 Q
def rI (C : Int -> Int -> Prop) (g : Int -> Int -> V) : R2 := fun x y H Q => ∃ i j, x = .int i /\ y = .int j /\ C i j /\ Q (g i j) H
def rI0 (g : Int -> Int -> V) : R2 := fun x y H Q => ∃ i j, x = .int i /\ y = .int j /\ Q (g i j) H
def rU (g : Int -> V) : V -> Hp -> VK -> Prop := fun x H Q => ∃ i, x = .int i /\ Q (g i) H
section
variable {X : Cx} {a b c : Expr} {ta tb tc : TE} {pos : Pos}
theorem binT (ha : PE X a ta) (hb : PE X b tb) {pins : List (Addr × Obj)} {s : Shared} {σ : St} {H : Hp} {R : V -> V -> Hp -> Prop} (I : Inv X pins σ H s)
    (h : ta σ H fun x H1 => tb σ H1 fun y H2 => R x y H2) {Q : Value -> Shared -> Prop} {f : Value -> Value -> Sem Value}
    (hf : ∀ v u s2 x y H2, Inv X pins σ H2 s2 -> RelV x v -> RelV y u -> R x y H2 -> wpAny (model X.prog X.w) X.A (f v u) Q X.xe s2) :
    wpAny (model X.prog X.w) X.A (eval a X.env) (fun v s₁ => wpAny (model X.prog X.w) X.A (eval b X.env) (fun u s₂ => wpAny (model X.prog X.w) X.A (f v u) Q X.xe s₂) X.xe s₁) X.xe s := by
  refine thn (ha pins s σ H _ I h) fun v s1 ⟨x, H1, I1, r1, q1⟩ => ?_
  refine thn (hb pins s1 σ H1 _ I1 q1) fun u s2 ⟨y, H2, I2, r2, q2⟩ => ?_
  exact hf v u s2 x y H2 I2 r1 r2 q2
theorem pe_op {op : Operator} {r : R2} (ho : OpR X (binaryOp op) r) (ha : PE X a ta) (hb : PE X b tb) : PE X (.BinOp a op b pos) (tOp r ta tb) := by
  intro pins s σ H Q I h
  exact wpAny_BinOp (binT ha hb I h fun v u s2 x y H2 I2 rx ry q => ho pins s2 σ H2 x y v u Q I2 rx ry q)
theorem pe_un {op : UnaryOp} {r : V -> Hp -> VK -> Prop} (ho : UnR X (unaryOp op) r) (ha : PE X a ta) : PE X (.UnaryOp op a pos) (tUn r ta) := by
  intro pins s σ H Q I h
  exact UnaryOp_ (thn (ha pins s σ H _ I h) fun v s1 ⟨x, H1, I1, r1, q1⟩ => ho pins s1 σ H1 x v Q I1 r1 q1)
theorem opI {f : Value -> Value -> Sem Value} {C : Int -> Int -> Prop} {g : Int -> Int -> Int}
    (rule : ∀ (i j : Int) (t u : Tok) (s : Shared) (Q : Value -> Shared -> Prop) (E : Value -> Shared -> Prop), C i j -> Q (.int (g i j) s.toks) { s with toks := s.toks + 1 } -> wpAny (model X.prog X.w) X.A (f (.int i t) (.int j u)) Q E s) :
    OpR X f (rI C fun i j => .int (g i j)) := by
  intro pins s σ H x y v u Q I rx ry h
  obtain ⟨i, j, rfl, rfl, hc, q⟩ := h
  obtain ⟨t, rfl⟩ := rx
  obtain ⟨t', rfl⟩ := ry
  exact rule i j t t' s _ _ hc ⟨.int (g i j), H, I.tok _, ⟨_, rfl⟩, q⟩
theorem opI0 {f : Value -> Value -> Sem Value} {g : Int -> Int -> Int}
    (rule : ∀ (i j : Int) (t u : Tok) (s : Shared) (Q : Value -> Shared -> Prop) (E : Value -> Shared -> Prop), Q (.int (g i j) s.toks) { s with toks := s.toks + 1 } -> wpAny (model X.prog X.w) X.A (f (.int i t) (.int j u)) Q E s) :
    OpR X f (rI0 fun i j => .int (g i j)) := by
  intro pins s σ H x y v u Q I rx ry h
  obtain ⟨i, j, rfl, rfl, q⟩ := h
  obtain ⟨t, rfl⟩ := rx
  obtain ⟨t', rfl⟩ := ry
  exact rule i j t t' s _ _ ⟨.int (g i j), H, I.tok _, ⟨_, rfl⟩, q⟩
theorem opB0 {f : Value -> Value -> Sem Value} {g : Int -> Int -> Bool}
    (rule : ∀ (i j : Int) (t u : Tok) (s : Shared) (Q : Value -> Shared -> Prop) (E : Value -> Shared -> Prop), Q (.bool (g i j)) s -> wpAny (model X.prog X.w) X.A (f (.int i t) (.int j u)) Q E s) :
    OpR X f (rI0 fun i j => .bl (g i j)) := by
  intro pins s σ H x y v u Q I rx ry h
  obtain ⟨i, j, rfl, rfl, q⟩ := h
  obtain ⟨t, rfl⟩ := rx
  obtain ⟨t', rfl⟩ := ry
  exact rule i j t t' s _ _ ⟨.bl (g i j), H, I, rfl, q⟩
def CDiv (i j : Int) : Prop := 0 < j /\ j < 1073741824
def CPow (i j : Int) : Prop := 0 <= j /\ j <= 1000000 /\ i.natAbs < 2 ^ 64
def CMul (i j : Int) : Prop := (-(2 ^ 64) < i /\ i < 2 ^ 64) \/ (-(2 ^ 64) < j /\ j < 2 ^ 64)
theorem CMul.ok {i j : Int} (h : CMul i j) : IntMulOk i j := by
  rcases h with ⟨h1, h2⟩ | ⟨h1, h2⟩
  · exact .of_left (intBits_le_64 h1 h2)
  · exact .of_right (intBits_le_64 h1 h2)
theorem two_pow_nn (k : Nat) : (0 : Int) <= 2 ^ k := by
  rw [two_pow_cast]
  exact Int.natCast_nonneg _
theorem op_add : OpR X (binaryOp .Add) (rI0 fun i j => .int (i + j)) := opI0 fun _ _ _ _ _ _ _ q => add_int q
theorem op_sub : OpR X (binaryOp .Sub) (rI0 fun i j => .int (i - j)) := opI0 fun _ _ _ _ _ _ _ q => sub_int q
theorem op_mul : OpR X (binaryOp .Mult) (rI CMul fun i j => .int (i * j)) := opI fun _ _ _ _ _ _ _ hc q => mul_int q hc.ok
theorem op_fdiv : OpR X (binaryOp .FloorDiv) (rI CDiv fun i j => .int (i / j)) := opI fun i j _ _ _ _ _ hc q => by
  have h1 : (0 : Int) < j := hc.1
  have h2 : j < 1073741824 := hc.2
  exact floordiv_int (by omega) (by rw [Int.fdiv_eq_ediv_of_nonneg i (by omega)]; exact q) (.inl (PyProof.noPylong_small (by omega)))
theorem op_mod : OpR X (binaryOp .Mod) (rI (fun _ j => 0 < j) fun i j => .int (i % j)) := opI fun i j _ _ _ _ _ hc q => by
  have h1 : (0 : Int) < j := hc
  exact mod_int' (by omega) (by rw [Int.fmod_eq_emod_of_nonneg i (by omega)]; exact q)
theorem op_pow : OpR X (binaryOp .Pow) (rI CPow fun i j => .int (i ^ j.toNat)) := opI fun _ _ _ _ _ _ _ hc q => pow_int_small hc.1 hc.2.1 hc.2.2 q
theorem op_shl : OpR X (binaryOp .LShift) (rI CPow fun i j => .int (i * 2 ^ j.toNat)) := opI fun _ _ _ _ _ _ _ hc q => lshift_int_small hc.1 hc.2.1 hc.2.2 q
theorem op_shr : OpR X (binaryOp .RShift) (rI (fun _ j => 0 <= j) fun i j => .int (i / 2 ^ j.toNat)) := opI fun i j _ _ _ _ _ hc q =>
  rshift_int hc (by rw [Int.fdiv_eq_ediv_of_nonneg i (two_pow_nn _)]; exact q)
theorem op_and : OpR X (binaryOp .BitAnd) (rI0 fun i j => .int (Builtin.bitAnd i j)) := opI0 fun _ _ _ _ _ _ _ q => and_int q
theorem op_or : OpR X (binaryOp .BitOr) (rI0 fun i j => .int (Builtin.bitOr i j)) := opI0 fun _ _ _ _ _ _ _ q => or_int q
theorem op_xor : OpR X (binaryOp .BitXor) (rI0 fun i j => .int (Builtin.bitXor i j)) := opI0 fun _ _ _ _ _ _ _ q => xor_int q
theorem unI {f : Value -> Sem Value} {g : Int -> Int}
    (rule : ∀ (i : Int) (t : Tok) (s : Shared) (Q : Value -> Shared -> Prop) (E : Value -> Shared -> Prop), Q (.int (g i) s.toks) { s with toks := s.toks + 1 } -> wpAny (model X.prog X.w) X.A (f (.int i t)) Q E s) :
    UnR X f (rU fun i => .int (g i)) := by
  intro pins s σ H x v Q I rx h
  obtain ⟨i, rfl, q⟩ := h
  obtain ⟨t, rfl⟩ := rx
  exact rule i t s _ _ ⟨.int (g i), H, I.tok _, ⟨_, rfl⟩, q⟩
theorem un_neg : UnR X (unaryOp .USub) (rU fun i => .int (-i)) := unI fun _ _ _ _ _ q => neg_int q
end
def scal : V -> V -> Bool
  | .non, .non => true | .non, .int _ => true | .int _, .non => true | .non, .bl _ => true | .bl _, .non => true | .non, .str _ => true | .str _, .non => true
  | .int _, .int _ => true | .bl _, .bl _ => true | .str _, .str _ => true | .byt _, .byt _ => true
  | .int _, .str _ => true | .str _, .int _ => true | .bl _, .str _ => true | .str _, .bl _ => true
  | _, _ => false
def rEq : R2 := fun x y H Q => scal x y = true /\ Q (.bl (decide (x = y))) H
def rNe : R2 := fun x y H Q => scal x y = true /\ Q (.bl (!decide (x = y))) H
theorem dec_int {i j : Int} : decide (V.int i = V.int j) = (i == j) := by
  rw [Bool.eq_iff_iff]
  simp
theorem dec_bl {i j : Bool} : decide (V.bl i = V.bl j) = (i == j) := by
  rw [Bool.eq_iff_iff]
  simp
theorem dec_str {i j : Str} : decide (V.str i = V.str j) = (i == j) := by
  rw [Bool.eq_iff_iff]
  simp
theorem dec_byt {i j : Array UInt8} : decide (V.byt i = V.byt j) = (i.toList == j.toList) := by
  rw [Bool.eq_iff_iff]
  cases i
  cases j
  simp
section
variable {X : Cx} {a b c : Expr} {ta tb tc : TE} {pos : Pos}
theorem fin_bl {pins : List (Addr × Obj)} {σ : St} {H : Hp} {s : Shared} {Q : VK} {k k' : Bool} (I : Inv X pins σ H s) (q : Q (.bl k) H) (e : k = k') : EP X pins σ Q (.bool k') s := by
  subst e
  exact ⟨.bl k, H, I, rfl, q⟩
theorem op_eq : OpR X (compareOp .Eq) rEq := by
  intro pins s σ H x y v u Q I rx ry h
  obtain ⟨hs, q⟩ := h
  cases x with
  | non =>
    cases rx
    cases y with
    | non => cases ry; exact PySem.EqNone.eq_none_none (fin_bl I q (by simp))
    | bl j => cases ry; exact PySem.EqNone.eq_none_bool (fin_bl I q (by simp))
    | int j => obtain ⟨t', rfl⟩ := ry; exact PySem.EqNone.eq_none_int (fin_bl I q (by simp))
    | str j => obtain ⟨t', rfl⟩ := ry; exact PySem.EqNone.eq_none_str (fin_bl I q (by simp))
    | _ => exact absurd (show false = true from hs) Bool.false_ne_true
  | bl i =>
    cases rx
    cases y with
    | non => cases ry; exact PySem.EqNone.eq_bool_none (fin_bl I q (by simp))
    | bl j => cases ry; exact eq_bool (fin_bl I q dec_bl)
    | str j => obtain ⟨t', rfl⟩ := ry; exact PySem.EqMixed.eq_bool_str (fin_bl I q (by simp))
    | _ => exact absurd (show false = true from hs) Bool.false_ne_true
  | int i =>
    obtain ⟨t, rfl⟩ := rx
    cases y with
    | non => cases ry; exact PySem.EqNone.eq_int_none (fin_bl I q (by simp))
    | int j => obtain ⟨t', rfl⟩ := ry; exact eq_int (fin_bl I q dec_int)
    | str j => obtain ⟨t', rfl⟩ := ry; exact PySem.EqMixed.eq_int_str (fin_bl I q (by simp))
    | _ => exact absurd (show false = true from hs) Bool.false_ne_true
  | str i =>
    obtain ⟨t, rfl⟩ := rx
    cases y with
    | non => cases ry; exact PySem.EqNone.eq_str_none (fin_bl I q (by simp))
    | bl j => cases ry; exact PySem.EqMixed.eq_str_bool (fin_bl I q (by simp))
    | int j => obtain ⟨t', rfl⟩ := ry; exact PySem.EqMixed.eq_str_int (fin_bl I q (by simp))
    | str j => obtain ⟨t', rfl⟩ := ry; exact eq_str (fin_bl I q dec_str)
    | _ => exact absurd (show false = true from hs) Bool.false_ne_true
  | byt i =>
    obtain ⟨t, rfl⟩ := rx
    cases y with
    | byt j => obtain ⟨t', rfl⟩ := ry; exact PySem.W.eq_bytes (fin_bl I q dec_byt)
    | _ => exact absurd (show false = true from hs) Bool.false_ne_true
  | _ => cases y <;> exact absurd (show false = true from hs) Bool.false_ne_true
theorem op_ne : OpR X (compareOp .NotEq) rNe := by
  intro pins s σ H x y v u Q I rx ry h
  obtain ⟨hs, q⟩ := h
  cases x with
  | non =>
    cases rx
    cases y with
    | non => cases ry; exact PySem.EqNone.ne_none_none (fin_bl I q (by simp))
    | bl j => cases ry; exact PySem.EqNone.ne_none_bool (fin_bl I q (by simp))
    | int j => obtain ⟨t', rfl⟩ := ry; exact PySem.EqNone.ne_none_int (fin_bl I q (by simp))
    | str j => obtain ⟨t', rfl⟩ := ry; exact PySem.EqNone.ne_none_str (fin_bl I q (by simp))
    | _ => exact absurd (show false = true from hs) Bool.false_ne_true
  | bl i =>
    cases rx
    cases y with
    | non => cases ry; exact PySem.EqNone.ne_bool_none (fin_bl I q (by simp))
    | bl j => cases ry; exact ne_bool (fin_bl I q (congrArg not dec_bl))
    | str j => obtain ⟨t', rfl⟩ := ry; exact PySem.EqMixed.ne_bool_str (fin_bl I q (by simp))
    | _ => exact absurd (show false = true from hs) Bool.false_ne_true
  | int i =>
    obtain ⟨t, rfl⟩ := rx
    cases y with
    | non => cases ry; exact PySem.EqNone.ne_int_none (fin_bl I q (by simp))
    | int j => obtain ⟨t', rfl⟩ := ry; exact ne_int (fin_bl I q (congrArg not dec_int))
    | str j => obtain ⟨t', rfl⟩ := ry; exact PySem.EqMixed.ne_int_str (fin_bl I q (by simp))
    | _ => exact absurd (show false = true from hs) Bool.false_ne_true
  | str i =>
    obtain ⟨t, rfl⟩ := rx
    cases y with
    | non => cases ry; exact PySem.EqNone.ne_str_none (fin_bl I q (by simp))
    | bl j => cases ry; exact PySem.EqMixed.ne_str_bool (fin_bl I q (by simp))
    | int j => obtain ⟨t', rfl⟩ := ry; exact PySem.EqMixed.ne_str_int (fin_bl I q (by simp))
    | str j => obtain ⟨t', rfl⟩ := ry; exact ne_str (fin_bl I q (congrArg not dec_str))
    | _ => exact absurd (show false = true from hs) Bool.false_ne_true
  | byt i =>
    obtain ⟨t, rfl⟩ := rx
    cases y with
    | byt j => obtain ⟨t', rfl⟩ := ry; exact PySem.W.ne_bytes (fin_bl I q (congrArg not dec_byt))
    | _ => exact absurd (show false = true from hs) Bool.false_ne_true
  | _ => cases y <;> exact absurd (show false = true from hs) Bool.false_ne_true
theorem op_lt : OpR X (compareOp .Lt) (rI0 fun i j => .bl (decide (i < j))) := opB0 fun _ _ _ _ _ _ _ q => lt_int q
theorem op_le : OpR X (compareOp .LtE) (rI0 fun i j => .bl (decide (i <= j))) := opB0 fun _ _ _ _ _ _ _ q => le_int q
theorem op_gt : OpR X (compareOp .Gt) (rI0 fun i j => .bl (decide (j < i))) := opB0 fun _ _ _ _ _ _ _ q => gt_int q
theorem op_isN : OpR X (compareOp .Is) (fun x y H Q => y = .non /\ Q (.bl (decide (x = .non))) H) := by
  intro pins s σ H x y v u Q I rx ry h
  obtain ⟨rfl, q⟩ := h
  cases ry
  refine is_none_gen (fin_bl I q ?_)
  cases x <;> first
    | (cases rx; rfl)
    | (obtain ⟨t, rfl⟩ := rx; rfl)
theorem op_notN : OpR X (compareOp .IsNot) (fun x y H Q => y = .non /\ Q (.bl (!decide (x = .non))) H) := by
  intro pins s σ H x y v u Q I rx ry h
  obtain ⟨rfl, q⟩ := h
  cases ry
  refine isnot_none_gen (fin_bl I q ?_)
  cases x <;> first
    | (cases rx; rfl)
    | (obtain ⟨t, rfl⟩ := rx; rfl)
theorem nomark (b : Expr) {op : CmpOp} (h : op ≠ .In := by decide) (h2 : op ≠ .NotIn := by decide) : behindInMarks op b = false := by
  have e1 : (op == CmpOp.In) = false := by cases op <;> first | rfl | exact absurd rfl h
  have e2 : (op == CmpOp.NotIn) = false := by cases op <;> first | rfl | exact absurd rfl h2
  cases b <;> simp [behindInMarks, e1, e2]
theorem pe_cmpR {op : CmpOp} {r : R2} (ho : OpR X (compareOp op) r) (ha : PE X a ta) (hb : PE X b tb) (hm : behindInMarks op b = false) : PE X (.Compare a [op] [b] pos) (tOp r ta tb) := by
  intro pins s σ H Q I h
  exact wpAny_Compare1 (binT ha hb I h fun v u s2 x y H2 I2 rx ry q => ho pins s2 σ H2 x y v u Q I2 rx ry q) hm
def tTest (t : TE) : TT := fun σ H Q => t σ H fun x H' => ∃ k, x = .bl k /\ Q k H'
theorem pt_cmpR {op : CmpOp} {r : R2} (ho : OpR X (compareOp op) r) (ha : PE X a ta) (hb : PE X b tb) (hm : behindInMarks op b = false) : PT X (.Compare a [op] [b] pos) (tTest (tOp r ta tb)) := by
  intro pins s σ H Q I h
  refine wpAny_isTrue_Compare1 (thn (ha pins s σ H _ I h) fun v s1 ⟨x, H1, I1, r1, q1⟩ => thn (hb pins s1 σ H1 _ I1 q1) fun u s2 ⟨y, H2, I2, r2, q2⟩ =>
    thn (ho pins s2 σ H2 x y v u _ I2 r1 r2 q2) fun c s3 ⟨z, H3, I3, r3, k, e, q3⟩ => ?_) hm
  subst e
  cases r3
  exact wpAny_truthy_bool ⟨H3, I3, q3⟩
def tChain (r r' : R2) (ta tb tc : TE) : TE := fun σ H Q => ta σ H fun x H1 => tb σ H1 fun y H2 => r x y H2 fun z H3 => ∃ k, z = .bl k /\
  (if k = true then tc σ H3 fun w' H4 => r' y w' H4 Q else Q (.bl false) H3)
theorem pe_chain {op op' : CmpOp} {r r' : R2} (ho : OpR X (compareOp op) r) (ho' : OpR X (compareOp op') r') (ha : PE X a ta) (hb : PE X b tb) (hc : PE X c tc)
    (hm : lastMarks [op, op'] [b, c] = false := by with_unfolding_all rfl) : PE X (.Compare a [op, op'] [b, c] pos) (tChain r r' ta tb tc) := by
  intro pins s σ H Q I h
  refine Compare_chain (thn (ha pins s σ H _ I h) fun v s1 ⟨x, H1, I1, r1, q1⟩ => chain_link (thn (hb pins s1 σ H1 _ I1 q1) fun u s2 ⟨y, H2, I2, r2, q2⟩ =>
    thn (ho pins s2 σ H2 x y v u _ I2 r1 r2 q2) fun d s3 ⟨z, H3, I3, r3, k, e, q3⟩ => ?_)) hm
  subst e
  cases r3
  refine wpAny_truthy_bool ?_
  cases k with
  | false => exact ite_ff ⟨.bl false, H3, I3, rfl, q3⟩
  | true => exact ite_tt (chain_last (thn (hc pins s3 σ H3 _ I3 q3) fun w' s4 ⟨z', H4, I4, r4, q4⟩ => ho' pins s4 σ H4 y z' u w' Q I4 r2 r4 q4))
def TruV (K : PySem.W.Frag) (x : V) (H : Hp) (k : Bool) : Prop :=
  match x with
  | .non => k = false
  | .bl b => k = b
  | .int i => k = (i != 0)
  | .str y => y.length <= sizeLine /\ k = ((y.length : Int) != 0)
  | .byt y => y.size <= sizeLine /\ k = ((y.size : Int) != 0)
  | .ref p => (∃ xs, SqL K H p xs /\ k = !xs.isEmpty) \/ (∃ xs, SqT K H p xs /\ k = !xs.isEmpty) \/ ∃ kvs, H p = some (.dK kvs) /\ k = !kvs.isEmpty
  | _ => False
theorem isEmpty_kv {κ : Type} {kvs : List (κ × V)} {vs : List (κ × Value)} (r : KV kvs vs) : (!vs.isEmpty) = !kvs.isEmpty := by
  cases r <;> rfl
theorem isEmpty_of {xs : List V} {its : List Value} (r : Vals xs its) : (!its.toArray.isEmpty) = !xs.isEmpty := by
  cases r <;> simp
theorem line63 : (sizeLine : Nat) < 2 ^ 63 := by rw [sizeLine_eq]; decide
theorem tru_ok : TruR X (fun x H Q => ∃ k, TruV X.K x H k /\ Q k H) := by
  intro pins s σ H x v Q I rx h
  obtain ⟨k, e, q⟩ := h
  have hl := line63
  have hs : sizeLine = 16777216 := sizeLine_eq
  cases x with
  | non =>
    cases rx
    have e' : k = false := e
    subst e'
    exact truthy_none ⟨H, I, q⟩
  | bl b =>
    cases rx
    have e' : k = b := e
    subst e'
    exact wpAny_truthy_bool ⟨H, I, q⟩
  | int i =>
    obtain ⟨t, rfl⟩ := rx
    have e' : k = (i != 0) := e
    subst e'
    exact PySem.P.truthy_int ⟨H, I, q⟩
  | str y =>
    obtain ⟨t, rfl⟩ := rx
    obtain ⟨hy, e'⟩ : y.length <= sizeLine /\ k = ((y.length : Int) != 0) := e
    subst e'
    exact PySem.P.truthy_str (by omega) ⟨H, I.tok _, q⟩
  | byt y =>
    obtain ⟨t, rfl⟩ := rx
    obtain ⟨hy, e'⟩ : y.size <= sizeLine /\ k = ((y.size : Int) != 0) := e
    subst e'
    exact PySem.W.truthy_bytes (by omega) ⟨H, I.tok _, q⟩
  | ref p =>
    cases rx
    have e' : (∃ xs, SqL X.K H p xs /\ k = !xs.isEmpty) \/ (∃ xs, SqT X.K H p xs /\ k = !xs.isEmpty) \/ ∃ kvs, H p = some (.dK kvs) /\ k = !kvs.isEmpty := e
    rcases e' with ⟨xs, hx, e'⟩ | ⟨xs, hx, e'⟩ | ⟨kvs, hx, e'⟩
    · subst e'
      obtain ⟨its, r, pl, hz⟩ := I.list hx
      have hlen := r.length
      exact wpAny_truthy_list pl.isList (by simp only [List.size_toArray]; omega) ⟨H, I.tok _, by rw [isEmpty_of r]; exact q⟩
    · subst e'
      obtain ⟨its, r, pl, hz⟩ := I.tuple hx
      have hlen := r.length
      exact truthy_tuple pl (by simp only [List.size_toArray]; omega) ⟨H, I.tok _, by rw [isEmpty_of r]; exact q⟩
    · subst e'
      obtain ⟨hz, hS, vs, r, m⟩ : kvs.length <= sizeLine /\ (p == sysModules) = false /\ ∃ vs, KV kvs vs /\ s.heap.DictOf (mixKind X.prog X.w) p vs := I.hok p _ hx
      have hlen : kvs.length = vs.length := Paired.length r
      exact wpAny_truthy_dict hS m (by omega) ⟨H, I.tok _, by rw [isEmpty_kv r]; exact q⟩
  | _ => exact (show False from e).elim
theorem pt_truth (ha : PE X a ta) (he : ∀ whole, isTrue a X.env whole = (do let v <- whole; standAt a.pos; holding [v] (truthy v))) :
    PT X a (fun σ H Q => ta σ H fun x H' => ∃ k, TruV X.K x H' k /\ Q k H') := by
  intro pins s σ H Q I h
  exact isTrue_plain (thn (ha pins s σ H _ I h) fun v s1 ⟨x, H1, I1, r1, q1⟩ => tru_ok pins s1 σ H1 x v Q I1 r1 q1) (he _)
theorem vals1 {x : V} {us : List Value} (r : Vals [x] us) : ∃ u, us = [u] /\ RelV x u := by
  cases r with
  | cons r1 r2 => cases r2; exact ⟨_, rfl, r1⟩
theorem vals2 {x y : V} {us : List Value} (r : Vals [x, y] us) : ∃ u w', us = [u, w'] /\ RelV x u /\ RelV y w' := by
  cases r with
  | cons r1 r2 =>
    cases r2 with
    | cons r3 r4 => cases r4; exact ⟨_, _, rfl, r1, r3⟩
end
end L2
namespace L2
open PySem PySem.Spec PyProof.Rows
structure ObjM (h : Heap) (x dx C : Addr) (mA : Str -> Option Value) : Prop where
  obj : h.get? x = some (PySem.W.instObj C dx)
  ns : h.Ns1 dx mA
  ne : dx ≠ x
theorem lookIn_ns {h : Heap} {dx : Addr} {mA : Str -> Option Value} (n : h.Ns1 dx mA) : ∃ od, h.get? dx = some od /\ ∀ name, PySem.W.lookIn name od = some (mA name) := by
  obtain ⟨o, es, ep, ho, hd, hk, _, hm⟩ := n
  refine ⟨o, ho, fun name => ?_⟩
  have e := hm name
  unfold nsFind findBy at e
  rw [<- Array.find?_toList] at e
  unfold PySem.W.lookIn
  rw [hd]
  dsimp only
  split
  · rename_i y q
    rw [q] at e
    exact congrArg some e
  · rename_i q
    rw [q] at e
    have a : es.toList.any (·.refKey) = false := by
      rw [List.any_eq_false]
      intro y hy
      obtain ⟨z, t, hkey⟩ := hk y (Array.mem_toList_iff.mp hy)
      simp [DictEntry.refKey, hkey]
    have a' : ¬ es.toList.any (·.refKey) = true := by rw [a]; exact Bool.false_ne_true
    rw [if_neg a']
    exact congrArg some e
theorem ObjM.look {h : Heap} {x dx C : Addr} {mA : Str -> Option Value} (I : ObjM h x dx C mA) : ∃ od, PySem.W.InstAt h x (PySem.W.instObj C dx) C (some od) /\ ∀ name, PySem.W.lookIn name od = some (mA name) :=
  let ⟨od, ho, hl⟩ := lookIn_ns I.ns
  ⟨od, ⟨I.obj, rfl, rfl, ho⟩, hl⟩
section
variable {prog : Program} {w : World} {A : Around} {E : Value -> Shared -> Prop} {s : Shared} {K : PySem.W.Frag} {x dx C f : Addr} {mA : Str -> Option Value} {name : Str} {v : Value}
end
section
variable {P : Program} {w : World} {H H' : Hp} {h h' : Heap} {a C dx : Addr} {fs fs' : List (Str × V)}
theorem ins_get (hok : HOk P w H h) (e : H a = some (.ins C dx fs)) : ∃ mA, ObjM h a dx C mA /\ (∀ f, RelO (fs.lookup f) (mA f)) /\ PySem.Within mA (fs.map (·.1)) /\ fs.length <= 1000 /\ H dx = some (.own a) := by
  obtain ⟨d, z, ne, ob, mA, n, r, q⟩ := (show ObjOk P w H h a (.ins C dx fs) from hok a _ e)
  exact ⟨mA, ⟨ob, n, ne⟩, r, q, z, d⟩
end
structure Cls (K : PySem.W.Frag) (C : Addr) : Prop where
  pg : PySem.W.plainGet K C Str.empty = true
  hd : PySem.W.hasDictIn K C = true
  po : PySem.W.plainOver K C = true
  sa : PySem.W.findIn K (.ref C) "__setattr__" = some (some (.builtin "object.__setattr__"))
theorem Cls.get {K : PySem.W.Frag} {C : Addr} (c : Cls K C) (f : Str) : PySem.W.plainGet K C f = true := c.pg
section
variable {X : Cx} {pins : List (Addr × Obj)} {σ : St} {H : Hp} {s : Shared} {a C dx : Addr} {fs : List (Str × V)} {f : Str} {v : V} {A : Around} {E : Value -> Shared -> Prop}
end
section
variable {X : Cx} {o e value : Expr} {f : Str} {pos pos' tpos : Pos} {ta tv : TE}
end
section
variable {X : Cx} {pins : List (Addr × Obj)} {σ : St} {H : Hp} {s : Shared} {A : Around} {E : Value -> Shared -> Prop} {Q : Value -> Shared -> Prop} {c : Value} {b : Bool}
inductive TyOf (K : PySem.W.Frag) (H : Hp) : V -> Value -> Prop where
  | non : TyOf K H .non (.type "NoneType")
  | bl (x : Bool) : TyOf K H (.bl x) (.type "bool")
  | int (i : Int) : TyOf K H (.int i) (.type "int")
  | str (x : Str) : TyOf K H (.str x) (.type "str")
  | flt (x : UInt64) : TyOf K H (.flt x) (.type "float")
  | lst {a : Addr} {xs : List V} (e : H a = some (.lst xs)) : TyOf K H (.ref a) (.type "list")
  | frz {a : Addr} {o : Obj} {xs : List V} (e : H a = some (.frz o (.lst xs))) : TyOf K H (.ref a) (.type "list")
  | tup {a : Addr} {xs : List V} (e : H a = some (.tup xs)) : TyOf K H (.ref a) (.type "tuple")
  | dK {a : Addr} {kvs : List (Key × V)} (e : H a = some (.dK kvs)) : TyOf K H (.ref a) (.type "dict")
  | dT {a : Addr} {kvs : List (List Key × V)} (e : H a = some (.dT kvs)) : TyOf K H (.ref a) (.type "dict")
  | ins {a C dx : Addr} {fs : List (Str × V)} (e : H a = some (.ins C dx fs)) (cl : Cls K C) (ha : PySem.W.findIn K (.ref C) "__class__" = some (some (.builtin "object.__class__")))
      (hn : PySem.W.specialIn K (.builtin "object.__class__") "__get__" = some (some (.builtin "getset_descriptor.__get__"))) (htk : PySem.W.takesIn K (.builtin "object.__class__") = some true)
      (hm : PySem.W.mroIn K C (.type "object") = some true) : TyOf K H (.ref a) (.ref C)
theorem isinst_ok {x : V} {u t : Value} (I : Inv X pins σ H s) (rx : RelV x u) (ty : TyOf X.K H x t) (e : PySem.W.kitOne X.K t c = some b) (h : ∀ tk, Q (.bool b) { s with toks := tk }) :
    wpAny (model X.prog X.w) A (call (.builtin "isinstance") [u, c]) Q E s := by
  cases ty with
  | non => cases (show u = Value.none from rx); exact PySem.W.kia_one PySem.W.kitx_none I.kIn True.intro e (fun z => nomatch z) h
  | bl y => cases (show u = Value.bool y from rx); exact PySem.W.kia_one PySem.W.kitx_bool I.kIn True.intro e (fun z => nomatch z) h
  | int i => obtain ⟨t, q⟩ := (show ∃ t, u = Value.int i t from rx); cases q; exact PySem.W.kia_one PySem.W.kitx_int I.kIn True.intro e (fun z => nomatch z) h
  | str y => obtain ⟨t, q⟩ := (show ∃ t, u = Value.str y t from rx); cases q; exact PySem.W.kia_one PySem.W.kitx_str I.kIn True.intro e (fun z => nomatch z) h
  | flt y => obtain ⟨t, q⟩ := (show ∃ t, u = Value.float y t from rx); cases q; exact PySem.W.kia_one PySem.W.kitx_float I.kIn True.intro e (fun z => nomatch z) h
  | @lst a xs ea =>
    cases (show u = Value.ref a from rx)
    obtain ⟨_, _, n, _, h1⟩ := (show ObjOk X.prog X.w H s.heap a (.lst xs) from I.hok a _ ea)
    exact PySem.W.kia_one PySem.W.kitx_list I.kIn ⟨_, h1, rfl⟩ e (fun z => nomatch z) h
  | @frz a ob xs ea =>
    cases (show u = Value.ref a from rx)
    obtain ⟨_, _, _, n, _, h1⟩ := (show ObjOk X.prog X.w H s.heap a (.frz ob (.lst xs)) from I.hok a _ ea)
    exact PySem.W.kia_one PySem.W.kitx_list I.kIn ⟨_, h1, rfl⟩ e (fun z => nomatch z) h
  | @tup a xs ea =>
    cases (show u = Value.ref a from rx)
    obtain ⟨_, _, _, p⟩ := (show ObjOk X.prog X.w H s.heap a (.tup xs) from I.hok a _ ea)
    obtain ⟨o, h1, h2, _⟩ := p
    exact PySem.W.kia_one PySem.W.kitx_tuple I.kIn ⟨o, h1, h2⟩ e (fun z => nomatch z) h
  | @dK a kvs ea =>
    cases (show u = Value.ref a from rx)
    obtain ⟨_, _, vs, _, p⟩ := (show ObjOk X.prog X.w H s.heap a (.dK kvs) from I.hok a _ ea)
    obtain ⟨o, es, ep, h1, h2, _⟩ := p
    exact PySem.W.kia_one PySem.W.kitx_dict I.kIn ⟨o, h1, h2.1⟩ e (fun z => nomatch z) h
  | @dT a kvs ea =>
    cases (show u = Value.ref a from rx)
    obtain ⟨_, _, xs, _, o, es, ep, h1, h2, _⟩ := (show ObjOk X.prog X.w H s.heap a (.dT kvs) from I.hok a _ ea)
    exact PySem.W.kia_one PySem.W.kitx_dict I.kIn ⟨o, h1, h2.1⟩ e (fun z => nomatch z) h
  | @ins a C dx fs ea cl ha hn htk hm =>
    cases (show u = Value.ref a from rx)
    obtain ⟨mA, O, _⟩ := ins_get I.hok ea
    obtain ⟨od, J, _⟩ := O.look
    exact PySem.W.kia_one (PySem.W.kitx_own (cl.get _) cl.hd ha hn htk hm) I.kIn J e (fun z => nomatch z) h
end
end L2
namespace L2
open PySem PySem.Spec PyProof.Rows
structure Room (k : Nat) (A : Around) : Prop where
  hd : A.handled = none
  dp : A.depth + 3 * k + 5 < recursionLimit
  un : A.units + 16 * k + 200 < cLine
theorem Room.mono {j k : Nat} {A : Around} (r : Room k A) (h : j <= k) : Room j A := ⟨r.hd, by have := r.dp; omega, by have := r.un; omega⟩
theorem Room.deeper {k : Nat} {A : Around} (r : Room (k + 1) A) (env : Env) : Room k (A.deeper env) :=
  ⟨r.hd, by have := r.dp; show A.depth + 1 + 3 * k + 5 < _; omega, by have := r.un; show A.units + 3 + 16 * k + 200 < _; omega⟩
theorem Room.depth {k : Nat} {A : Around} (r : Room k A) : A.depth < recursionLimit := by have := r.dp; omega
theorem Room.units {k : Nat} {A : Around} (r : Room k A) : A.units + 64 < cLine := by have := r.un; omega
theorem Room.units0 {k : Nat} {A : Around} (r : Room k A) : A.units < cLine := by have := r.un; omega
def tNil : TA := fun _ H Q => Q [] H
def tCons (ta : TE) (tr : TA) : TA := fun σ H Q => ta σ H fun x H1 => tr σ H1 fun xs H2 => Q (x :: xs) H2
section
variable {X : Cx} {e : Expr} {es : List Expr} {te : TE} {t : TA} {pos : Pos}
theorem pa_nil : PA X [] tNil := fun _ _ _ _ H Q I h => Calls.spliced_nil ⟨[], H, I, .nil, h⟩
theorem pa_cons (ha : PE X e te) (hr : PA X es t) (hs : starEach (e :: es) X.env = (false, eval e X.env) :: starEach es X.env := by rfl) : PA X (e :: es) (tCons te t) := by
  intro pos pins s σ H Q I h
  rw [hs]
  show wpAny _ _ (spliced ((false, eval e X.env) :: backTo pos (starEach es X.env))) _ _ s
  refine Calls.spliced_cons (thn (ha pins s σ H _ I h) fun u s1 ⟨x, H1, I1, r1, q1⟩ => ?_)
  exact thn (hr pos pins s1 σ H1 _ I1 q1) fun us s2 ⟨xs, H2, I2, r2, q2⟩ => ⟨x :: xs, H2, I2, .cons r1 r2, q2⟩
def tTup (t : TA) : TE := fun σ H Q => t σ H fun xs H1 => xs.length <= sizeLine /\ ∀ p, H1 p = none -> Q (.ref p) (upd H1 p (.tup xs))
def tLst (t : TA) : TE := fun σ H Q => t σ H fun xs H1 => xs.length <= sizeLine /\ ∀ p, H1 p = none -> Q (.ref p) (upd H1 p (.lst xs))
theorem pe_tup {x1} (h : PA X es t) : PE X (.Tuple es x1 pos) (tTup t) := by
  intro pins s σ H Q I hq
  refine wpAny_Tuple_spliced (thn (h pos pins s σ H _ I hq) fun us s1 ⟨xs, H1, I1, r, z, q⟩ => ⟨by rw [<- r.length]; exact z, ?_⟩)
  have hf : H1 s1.heap.objs.size = none := I1.hok.fresh (Nat.le_refl _)
  refine ⟨.ref s1.heap.objs.size, upd H1 s1.heap.objs.size (.tup xs), I1.laid (t' := s1.toks) (fun b u e => Heap.get?_push_of_some _ e) (Nat.le_refl _) ?_, rfl, q _ hf⟩
  exact ⟨z, us, r, ⟨_, Heap.get?_push_size _ rfl, rfl, _, rfl⟩⟩
theorem pe_lst (h : PA X es t) : PE X (.List es pos) (tLst t) := by
  intro pins s σ H Q I hq
  refine wpAny_List_spliced (thn (h pos pins s σ H _ I hq) fun us s1 ⟨xs, H1, I1, r, z, q⟩ => ⟨by rw [<- r.length]; exact z, ?_⟩)
  have hf : H1 s1.heap.objs.size = none := I1.hok.fresh (Nat.le_refl _)
  refine ⟨.ref s1.heap.objs.size, upd H1 s1.heap.objs.size (.lst xs), I1.laid (t' := s1.toks) (fun b u e => Heap.get?_push_of_some _ e) (Nat.le_refl _) ?_, rfl, q _ hf⟩
  exact ⟨z, us, 0, r, Heap.get?_push_size _ rfl⟩
end
abbrev Sp := List V -> Hp -> VK -> XK -> Prop
abbrev CXT := List Env -> Hp -> Shared -> XK -> Value -> Shared -> Prop
structure Env0 (P : Program) (w : World) (K : PySem.W.Frag) (mg : Str -> Option Value) (base : Heap) (A : Around) (outer : List Env) (s : Shared) (H : Hp) : Prop where
  frames : A.frames = some outer
  mod : Mod K mg base
  bs : ∀ b o, base.get? b = some o -> s.heap.get? b = some o /\ H b = none
  bsz : base.objs.size <= s.heap.objs.size
  funs : s.heap.FunFrames base outer
  frf : ∀ b ∈ frs outer, H b = none
  hok : HOk P w H s.heap
  bare : AllBare s.gens
def CE (outer : List Env) (P : Program) (w : World) (H : Hp) (s : Shared) (Q : VK) (u : Value) (s' : Shared) : Prop :=
  ∃ v H', s'.os = s.os /\ AllBare s'.gens /\ Un (frs outer) [] H H' s.heap s'.heap /\ HOk P w H' s'.heap /\ RelV v u /\ Q v H'
def CR (CX : CXT) (outer : List Env) (P : Program) (w : World) (H : Hp) (s : Shared) (Q : VK) (E : XK) (r : Result) (s' : Shared) : Prop :=
  match r with
  | .ok (.ret u) => CE outer P w H s Q u s'
  | .ok _ => False
  | .error e => CX outer H s E e s'
structure FnOk (P : Program) (w : World) (K : PySem.W.Frag) (mg : Str -> Option Value) (base : Heap) (CX : CXT) (k : Nat) (f : Addr) (fd : FuncData) (ps : List Str) (sp : Sp) : Prop where
  len : ∀ vs H Q E, sp vs H Q E -> vs.length = ps.length
  run : ∀ (A : Around) (outer : List Env) (s : Shared) (H : Hp) (args : Args) (us : List Value) (vs : List V) (Q : VK) (E : XK), Room k A -> Env0 P w K mg base A outer s H -> BindsTo s fd args (ps.zip us) -> Vals vs us -> sp vs H Q E ->
    codeAny (model P w) A (.call (.ref f) args) (CR CX outer P w H s Q E) s
section
variable {X : Cx} {pins : List (Addr × Obj)} {σ : St} {H : Hp} {s s' : Shared}
theorem Inv.env0 (I : Inv X pins σ H s) : Env0 X.prog X.w X.K X.mg X.base X.A X.stack s H :=
  ⟨I.ok.frames, I.ok.mod, I.bs, Nat.le_trans I.ok.bsz I.sz, I.stack, I.stkFree, I.hok, I.bare⟩
theorem Inv.after {Q : VK} {u : Value} (I : Inv X pins σ H s) (h : CE X.stack X.prog X.w H s Q u s') : EP X pins σ Q u s' := by
  obtain ⟨v, H', os, bare, un, hok, r, q⟩ := h
  obtain ⟨hh, g, d, t, os'⟩ := s'
  obtain rfl : os' = s.os := os
  exact ⟨v, H', I.call (h' := hh) (g' := g) (d' := d) (t' := t) (ch := []) un hok bare (fun b z => absurd z (by simp)), r, q⟩
end
def tCall (sp : Sp) (dvs : List V) (E : XK) (t : TA) : TE := fun σ H Q => t σ H fun vs H1 => sp (vs ++ dvs) H1 Q E
def Binds (K : PySem.W.Frag) (fd : FuncData) (ps : List Str) (ds : List Value) : Prop :=
  ∀ (s : Shared) (us : List Value), K.In s.heap -> (us ++ ds).length = ps.length -> BindsTo s fd ⟨us, []⟩ (ps.zip (us ++ ds))
theorem Binds.all {K : PySem.W.Frag} {fd : FuncData} {ps : List Str} (h : ∀ us : List Value, us.length = ps.length -> bindArgs fd ⟨us, []⟩ = pure (ps.zip us)) : Binds K fd ps [] := fun s us _ hl => by
  rw [List.append_nil] at hl ⊢
  exact .of_eq (h us hl)
def Passes (CX : CXT) (X : Cx) (E : XK) : Prop := ∀ (pins : List (Addr × Obj)) (σ : St) (H : Hp) (s : Shared) (e : Value) (s' : Shared), Inv X pins σ H s -> CX X.stack H s E e s' -> X.xe e s'
section
variable {X : Cx} {CX : CXT} {k : Nat} {f C : Addr} {fd : FuncData} {ps : List Str} {sp : Sp} {dvs : List V} {ds : List Value} {E : XK} {x m : Str} {p pos apos : Pos} {e o : Expr} {es : List Expr} {ta : TE} {t : TA}
theorem run_fn {pins : List (Addr × Obj)} {σ : St} {H : Hp} {s : Shared} {Q : VK} {us : List Value} {vs : List V} (F : FnOk X.prog X.w X.K X.mg X.base CX k f fd ps sp) (hr : Room k X.A) (hb : Binds X.K fd ps ds) (hd : Vals dvs ds) (hx : Passes CX X E)
    (I : Inv X pins σ H s) (r : Vals vs us) (h : sp (vs ++ dvs) H Q E) : wpAny (model X.prog X.w) X.A (call (.ref f) us) (EP X pins σ Q) X.xe s := by
  have r2 : Vals (vs ++ dvs) (us ++ ds) := r.append hd
  have hl : (us ++ ds).length = ps.length := by rw [<- r2.length]; exact F.len _ _ _ _ h
  refine wpAny_call (codeAny_mono (F.run X.A X.stack s H ⟨us, []⟩ (us ++ ds) (vs ++ dvs) Q E hr I.env0 (hb s us I.kIn hl) r2 h) fun r s' hq => ?_)
  cases r with
  | error e => exact hx pins σ H s e s' I hq
  | ok fl =>
    cases fl with
    | ret u => exact I.after hq
    | next => exact False.elim hq
    | brk => exact False.elim hq
    | cont => exact False.elim hq
theorem pe_call (F : FnOk X.prog X.w X.K X.mg X.base CX k f fd ps sp) (hr : Room k X.A) (hg : Gl X x) (hm : X.mg x = some (.ref f)) (hk : PySem.W.keepIn X.K (.ref f) = true) (hb : Binds X.K fd ps ds) (hd : Vals dvs ds) (hx : Passes CX X E)
    (ha : PA X (e :: es) t) (hdb : (x == ("__debug__" : Str)) = false := by decide) (he : starEach (e :: es) X.env = (false, eval e X.env) :: starEach es X.env := by rfl) (hpl : (backTo pos (starEach es X.env)).any (·.1) = false := by rfl) :
    PE X (.Call (.Name x p) (e :: es) [] pos) (tCall sp dvs E t) := by
  intro pins s σ H Q I h
  refine wpAny_Call_Name_kw (ld_glob I hg hm ?_ hdb)
  refine PySem.W.callWith_K (h₀ := X.base) I.ok.mod.kin hk (thn (ha pos pins s σ H _ I h) fun us s1 ⟨vs, H1, I1, r, q⟩ => ⟨I1.kIn, ?_⟩) he hpl
  exact run_fn F hr hb hd hx I1 r q
end
section
variable {X : Cx} {CX : CXT} {k : Nat} {f C : Addr} {fd : FuncData} {ps ks : List Str} {sp : Sp} {E : XK} {x m : Str} {p pos apos kpos : Pos} {e o : Expr} {es : List Expr} {kws : List Keyword} {te ta : TE} {t tk : TA} {nm : Option Str}
variable {g : List Value -> List Value -> List Value} {gV : List V -> List V -> List V}
end
structure FnScope (N P : List Str) (sc : Scope) : Prop where
  kind : sc.kind = .function
  co : sc.isCoroutine = false
  gen : sc.isGenerator = false
  nd : N.Nodup
  pre : N.take P.length = P
  par : ∀ x ∈ P, sc.names.lookup x = some .local \/ sc.names.lookup x = some .cell
  nofree : ∀ y ∈ sc.names, y.2 ≠ .free
theorem bindL_out {kindOf : Str -> Option NameKind} {x : Str} : ∀ {binds : List (Str × Value)} {m : Str -> Option Value}, (∀ v, (x, v) ∉ binds) -> bindL kindOf binds m x = m x
  | [], _, _ => rfl
  | (n, v) :: r, m, h => by
    unfold bindL
    rw [bindL_out fun w hw => h w (List.mem_cons_of_mem _ hw)]
    split
    · have : x ≠ n := by rintro rfl; exact h v List.mem_cons_self
      simp [this]
    · rfl
theorem bindC_out {kindOf : Str -> Option NameKind} {x : Str} : ∀ {binds : List (Str × Value)} {m : Str -> Option Value}, (∀ v, (x, v) ∉ binds) -> bindC kindOf binds m x = m x
  | [], _, _ => rfl
  | (n, v) :: r, m, h => by
    unfold bindC
    rw [bindC_out fun w hw => h w (List.mem_cons_of_mem _ hw)]
    split
    · rfl
    · have : x ≠ n := by rintro rfl; exact h v List.mem_cons_self
      simp [this]
theorem bindL_get {kindOf : Str -> Option NameKind} {x : Str} {v : Value} : ∀ {P : List Str} {vs : List Value} {i : Nat} {m : Str -> Option Value}, P.Nodup -> P[i]? = some x -> vs[i]? = some v -> kindOf x = some .local ->
    bindL kindOf (P.zip vs) m x = some v
  | [], _, _, _, _, h, _, _ => by simp at h
  | _ :: _, [], _, _, _, _, h, _ => by simp at h
  | p :: P, w :: vs, 0, m, nd, h1, h2, hk => by
    simp at h1 h2; subst h1; subst h2
    show bindL kindOf ((p, w) :: P.zip vs) m p = _
    unfold bindL
    rw [bindL_out fun v hv => (List.nodup_cons.mp nd).1 (List.of_mem_zip hv).1, if_pos hk]
    simp
  | p :: P, w :: vs, i + 1, m, nd, h1, h2, hk => by
    show bindL kindOf ((p, w) :: P.zip vs) m x = _
    unfold bindL
    exact bindL_get (i := i) (List.nodup_cons.mp nd).2 (by simpa using h1) (by simpa using h2) hk
theorem bindC_get {kindOf : Str -> Option NameKind} {x : Str} {v : Value} : ∀ {P : List Str} {vs : List Value} {i : Nat} {m : Str -> Option Value}, P.Nodup -> P[i]? = some x -> vs[i]? = some v -> kindOf x ≠ some .local ->
    bindC kindOf (P.zip vs) m x = some v
  | [], _, _, _, _, h, _, _ => by simp at h
  | _ :: _, [], _, _, _, _, h, _ => by simp at h
  | p :: P, w :: vs, 0, m, nd, h1, h2, hk => by
    simp at h1 h2; subst h1; subst h2
    show bindC kindOf ((p, w) :: P.zip vs) m p = _
    unfold bindC
    rw [bindC_out fun v hv => (List.nodup_cons.mp nd).1 (List.of_mem_zip hv).1, if_neg hk]
    simp
  | p :: P, w :: vs, i + 1, m, nd, h1, h2, hk => by
    show bindC kindOf ((p, w) :: P.zip vs) m x = _
    unfold bindC
    exact bindC_get (i := i) (List.nodup_cons.mp nd).2 (by simpa using h1) (by simpa using h2) hk
def start (N : List Str) (vs : List V) : St := vs.map some ++ List.replicate (N.length - vs.length) none
def cxOf (CX : CXT) (P : Program) (w : World) (K : PySem.W.Frag) (mg : Str -> Option Value) (base : Heap) (N : List Str) (qual : Str) (scope : Scope) (f : Addr) (cd : Value) (A : Around) (outer : List Env) (s : Shared) (H : Hp) (E : XK) : Cx where
  prog := P
  w := w
  K := K
  mg := mg
  base := base
  A := A.deeper (envOfC qual scope s.heap.objs.size f cd)
  N := N
  s₀ := s
  H₀ := H
  env := envOfC qual scope s.heap.objs.size f cd
  outer := outer
  stack := envOfC qual scope s.heap.objs.size f cd :: outer
  ex := []
  calm := true
  fn := fun _ => true
  pn := []
  xe := fun e s' => wpAny (model P w) (A.deeper (envOfC qual scope s.heap.objs.size f cd)) (leaving (envOfC qual scope s.heap.objs.size f cd) e) (fun _ s'' => CX outer H s E e s'') (fun e' s'' => CX outer H s E e' s'') s'
theorem cell_has {sc : Scope} {n : Nat} {x : Str} (h : sc.names.lookup x = some .cell) : ∃ c, (cellsFrom n sc.names []).lookup x = some c := by
  have q := PySem.W.cellsFrom_some sc.names n [] (.inl h)
  exact Option.isSome_iff_exists.mp q
theorem inv_start {CX : CXT} {P : Program} {w : World} {K : PySem.W.Frag} {mg : Str -> Option Value} {base : Heap} {N ps : List Str} {qual : Str} {scope : Scope} {f : Addr} {cd : Value} {A : Around} {outer : List Env} {s s1 : Shared} {H : Hp} {E : XK} {us : List Value} {vs : List V}
    (S : FnScope N ps scope) (hd : A.handled = none) (e0 : Env0 P w K mg base A outer s H) (hl : vs.length = ps.length) (r : Vals vs us)
    (x : InCallC s s.heap.objs.size (bindL (envOfC qual scope s.heap.objs.size f cd).kindOf (ps.zip us) fun _ => none) (cellsFrom (s.heap.objs.size + 1) scope.names []) (bindC (envOfC qual scope s.heap.objs.size f cd).kindOf (ps.zip us) fun _ => none) s1) :
    Inv (cxOf CX P w K mg base N qual scope f cd A outer s H E) [] (start N vs) H s1 := by
  have hpl : ps.length <= N.length := by have := congrArg List.length S.pre; rw [List.length_take] at this; omega
  obtain ⟨h1, tk, rfl, hk⟩ := x.done
  have noA : ∀ b : Addr, b ∉ (cxOf CX P w K mg base N qual scope f cd A outer s H E).ex := fun b z => absurd (show b ∈ ([] : List Addr) from z) (by simp)
  refine ⟨⟨e0.mod, S.kind, rfl, rfl, Nat.le_refl _, fun y z c h1 h2 => ?_, fun y hy => ?_, fun y c _ h => ?_, fun _ => hd, Around.frames_deeper e0.frames, .inr ⟨rfl, rfl⟩, fun b z => absurd z (noA b), e0.bs, e0.bsz, fun b _ _ => noA b, fun b z => absurd z (noA b), e0.funs, e0.frf⟩,
    rfl, e0.bare, Un.kept hk, ⟨_, x.toInCall.ns, fun i y v h1 h2 h3 => ?_⟩, fun y c h => ⟨_, x.cell y c h⟩, e0.hok.fresh (Nat.le_refl _), fun y c h => ?_, fun p hp => absurd (show p ∈ ([] : List (Addr × Obj)) from hp) (by simp), e0.hok.kept hk, ?_⟩
  · exact name_of_addr x.apart (PySem.mem_of_lookup h1) (PySem.mem_of_lookup h2)
  · have hy : scope.names.lookup y = some .cell \/ scope.names.lookup y = some .free := hy
    rcases hy with hy | hy
    · exact cell_has hy
    · exact absurd rfl (S.nofree _ (PySem.mem_of_lookup hy))
  · exact Nat.le_of_lt (x.above y c (PySem.mem_of_lookup h))
  · have hi : i < vs.length := by
      unfold start at h2
      by_cases hi : i < vs.length
      · exact hi
      · rw [List.getElem?_append_right (by simpa using hi)] at h2
        rw [List.getElem?_replicate] at h2
        split at h2 <;> cases h2
    have ha : vs[i]? = some v := by
      unfold start at h2
      rw [List.getElem?_append_left (by simpa using hi), List.getElem?_map] at h2
      cases e : vs[i]? with
      | none => rw [e] at h2; cases h2
      | some a => rw [e] at h2; cases h2; rfl
    obtain ⟨u, hu, rv⟩ := r.get ha
    have hp : ps[i]? = some y := by
      rw [<- S.pre, List.getElem?_take_of_lt (by omega)]; exact h1
    have ndP : ps.Nodup := by rw [<- S.pre]; exact S.nd.sublist (List.take_sublist _ _)
    refine ⟨u, rv, ?_⟩
    rcases S.par y (List.mem_of_getElem? hp) with k | k
    · exact .inl ⟨k, bindL_get ndP hp hu k⟩
    · obtain ⟨c, e⟩ := cell_has (n := s.heap.objs.size + 1) k
      refine .inr ⟨.inl k, c, e, ?_⟩
      have q := x.cell y c e
      rw [bindC_get ndP hp hu (by show scope.names.lookup y ≠ _; rw [k]; decide)] at q
      exact q
  · exact e0.hok.fresh (Nat.le_of_lt (x.above y c (PySem.mem_of_lookup h)))
  · unfold start
    show _ = N.length
    rw [List.length_append, List.length_map, List.length_replicate]
    omega
theorem fn_of {CX : CXT} {P : Program} {w : World} {K : PySem.W.Frag} {mg : Str -> Option Value} {base : Heap} {k : Nat} {f : Addr} {name qual : Str} {params : Arguments} {body : List Stmt} {scope : Scope} {dV kV doc pm cdv ct oc : Value} {an od : Option Addr}
    {osl : Array (Option Value)} {N ps : List Str} {sp : Sp} (lk : K.lookup f = some ⟨oc, od, .func (PySem.W.fnOf name qual params body scope dV kV doc pm an cdv ct), osl⟩) (hcd : PySem.W.codeIn K cdv qual = true) (S : FnScope N ps scope)
    (len : ∀ vs H Q E, sp vs H Q E -> vs.length = ps.length)
    (hbody : ∀ (A : Around) (outer : List Env) (s : Shared) (H : Hp) (vs : List V) (Q : VK) (E : XK), Room k (A.deeper (envOfC qual scope s.heap.objs.size f cdv)) -> sp vs H Q E ->
      ∃ t, PSs (cxOf CX P w K mg base N qual scope f cdv A outer s H E) body t /\ t { nx := fun _ H' => Q .non H', rt := Q } (start N vs) H) :
    FnOk P w K mg base CX (k + 1) f (PySem.W.fnOf name qual params body scope dV kV doc pm an cdv ct) ps sp := by
  refine ⟨len, fun A outer s H args us vs Q E hr e0 hb r hsp => ?_⟩
  have hl := len _ _ _ _ hsp
  have KX : K.In s.heap := e0.mod.kin.keeps fun b o e => (e0.bs b o e).1
  have lim : s.heap.NoLimit := e0.mod.nolimit.keeps fun b o e => (e0.bs b o e).1
  have hkind : ∀ y ∈ ps.zip us, scope.names.lookup y.1 = some .local \/ (scope.names.lookup y.1 = some .cell /\ ((cellsFrom (s.heap.objs.size + 1) scope.names []).lookup y.1).isSome = true) := fun ⟨n, v⟩ hy => by
    rcases S.par n (List.of_mem_zip hy).1 with q | q
    · exact .inl q
    · exact .inr ⟨q, PySem.W.cellsFrom_some _ _ _ (.inl q)⟩
  refine codeAny_call_function hr.depth (KX _ _ lk) rfl S.co S.gen rfl (PySem.W.codeRec_of KX hcd) (hb _ _ _ _ ?_)
  refine wpAny_newFunctionEnv_cells S.kind hkind fun env he s1 x => ?_
  subst he
  refine ⟨lim.keeps x.toInCall.keep, codeAny_func ?_⟩
  obtain ⟨t, ht, hq⟩ := hbody A outer s H vs Q E (hr.deeper _) hsp
  have I : Inv (cxOf CX P w K mg base N qual scope f cdv A outer s H E) [] (start N vs) H s1 := inv_start S hr.hd e0 hl r x
  refine wpAny_mono (ht [] s1 (start N vs) H _ I hq) (fun fl s' hs => ?_) fun e s' hs => hs
  have fin : ∀ {σ' : St} {H' : Hp} {v : V} {u : Value}, Inv (cxOf CX P w K mg base N qual scope f cdv A outer s H E) [] σ' H' s' -> RelV v u -> Q v H' -> CE outer P w H s Q u s' :=
    fun {σ' H' v u} J rv q => ⟨v, H', J.os, J.bare, J.base, J.hok, rv, q⟩
  cases fl with
  | ret u =>
    obtain ⟨v, σ', H', J, rv, q⟩ := hs
    exact fin J rv q
  | next =>
    obtain ⟨σ', H', J, q⟩ := hs
    exact fin (v := V.non) (u := Value.none) J rfl q
  | brk =>
    obtain ⟨_, _, _, q⟩ := hs
    exact False.elim q
  | cont =>
    obtain ⟨_, _, _, q⟩ := hs
    exact False.elim q
end L2
namespace L2
open PySem PySem.Spec PyProof.Rows
section
variable {X : Cx} {x : Str} {p pos : Pos} {e : Expr} {es : List Expr} {t : TA} {id T : String} {r : List V -> Hp -> VK -> Prop}
def tCB (r : List V -> Hp -> VK -> Prop) (t : TA) : TE := fun σ H Q => t σ H fun vs H1 => r vs H1 Q
theorem pe_callB (hc : CallR X (.builtin id) r) (hg : Gl X x) (hm : X.mg x = none) (hv : bootBuiltins x = some (.builtin id)) (ha : PA X (e :: es) t) (hn : x ≠ "__name__" := by decide) (hdb : (x == ("__debug__" : Str)) = false := by decide)
    (he : starEach (e :: es) X.env = (false, eval e X.env) :: starEach es X.env := by rfl) (hpl : (backTo pos (starEach es X.env)).any (·.1) = false := by rfl) : PE X (.Call (.Name x p) (e :: es) [] pos) (tCB r t) := by
  intro pins s σ H Q I h
  refine wpAny_Call_Name_kw (ld_blt I hg hm hv ?_ hn hdb)
  exact PyProof.Rows.callWith_builtin1 (thn (ha pos pins s σ H _ I h) fun us s1 ⟨vs, H1, I1, r1, q1⟩ => hc pins s1 σ H1 vs us Q I1 r1 q1) he hpl
theorem pe_callTy (hc : CallR X (.type T) r) (hg : Gl X x) (hm : X.mg x = none) (hv : bootBuiltins x = some (.type T)) (ha : PA X (e :: es) t) (hn : x ≠ "__name__" := by decide) (hdb : (x == ("__debug__" : Str)) = false := by decide)
    (he : starEach (e :: es) X.env = (false, eval e X.env) :: starEach es X.env := by rfl) (hpl : (backTo pos (starEach es X.env)).any (·.1) = false := by rfl) : PE X (.Call (.Name x p) (e :: es) [] pos) (tCB r t) := by
  intro pins s σ H Q I h
  refine wpAny_Call_Name_kw (ld_blt I hg hm hv ?_ hn hdb)
  exact PyProof.Rows.callWith_type1 (thn (ha pos pins s σ H _ I h) fun us s1 ⟨vs, H1, I1, r1, q1⟩ => hc pins s1 σ H1 vs us Q I1 r1 q1) he hpl
end
end L2
namespace HT
open PySem PyProof.Rows
def lexLt : List Int -> List Int -> Bool
  | [], [] => false
  | [], _ :: _ => true
  | _ :: _, [] => false
  | x :: xs, y :: ys => if x = y then lexLt xs ys else decide (x < y)
theorem lexLt_cons (x y : Int) (xs ys : List Int) : lexLt (x :: xs) (y :: ys) = if x = y then lexLt xs ys else decide (x < y) := rfl
theorem lexLt_nil_nil : lexLt [] [] = false := rfl
theorem lexLt_nil_cons (y : Int) (ys : List Int) : lexLt [] (y :: ys) = true := rfl
theorem lexLt_cons_nil (x : Int) (xs : List Int) : lexLt (x :: xs) [] = false := rfl
theorem eqAt_int (A : Around) (s : Shared) (a : Int) (t : Tok) (c : Int) (u : Tok) : ∃ e, SeqAt.EqAt A s (.int a t) (.int c u) e /\ (e = true ↔ a = c) :=
  ⟨(a == c), SeqAt.EqAt.int_int a t c u, by simp⟩
theorem rcLt_int (A : Around) (s : Shared) (a : Int) (t : Tok) (c : Int) (u : Tok) (prog : Program) (w : World) (E : Value -> Shared -> Prop) (Q : Value -> Shared -> Prop) (h : Q (.bool (decide (a < c))) s) :
    wpAny (model prog w) A (richCompare .Lt (.int a t) (.int c u)) Q E s :=
  (PyProof.Rows.lt_int h : wpAny (model prog w) A (compareOp .Lt (.int a t) (.int c u)) Q E s)
section
open PySem.SeqAt
open PySem.AutoSeq1 (wpAny_loadPart')
open PySem.MeetsSeq PySem.MeetsSeq2 PySem.MeetsSeq3
end
section
variable {prog : Program} {w : World} {A : Around} {E : Value -> Shared -> Prop} {s : Shared}
def sIx (n d : Nat) : Option Int -> Nat
  | none => d
  | some v => if v < 0 then (v + (n : Int)).toNat else min v.toNat n
theorem sIx_none (n d : Nat) : sIx n d none = d := rfl
end
end HT
namespace L2
open PySem PySem.Spec PyProof.Rows
abbrev TO := St -> Hp -> (Option Int -> Hp -> Prop) -> Prop
def PO (X : Cx) (e : Option Expr) (t : TO) : Prop :=
  ∀ (pins : List (Addr × Obj)) (s : Shared) (σ : St) (H : Hp) (Q : Option Int -> Hp -> Prop), Inv X pins σ H s -> t σ H Q ->
    wpAny (model X.prog X.w) X.A (evalPart e X.env) (fun u s' => ∃ o H', Inv X pins σ H' s' /\ IsPart u o /\ Q o H') X.xe s
def tNoPart : TO := fun _ H Q => Q none H
def tPart (t : TE) : TO := fun σ H Q => t σ H fun x H1 => ∃ i, x = .int i /\ Q (some i) H1
theorem intsAre_of {ns : List Int} : ∀ {us : List Value}, Vals (ns.map V.int) us -> IntsAre us ns := by
  induction ns with
  | nil => intro us r; rw [List.map_nil] at r; cases r; exact .nil
  | cons n ns ih =>
    intro us r
    rw [List.map_cons] at r
    cases r with
    | cons r1 r2 =>
      obtain ⟨t, e⟩ := r1
      subst e
      exact .cons n t (ih r2)
section
variable {X : Cx} {e : Expr} {te : TE} {lo hi : Option Expr} {tl th : TO} {pos p2 : Pos}
theorem po_none : PO X none tNoPart := by
  intro pins s σ H Q I h
  rw [evalPart_none]
  exact wpAny_pure ⟨none, H, I, .none, h⟩
theorem po_some (h : PE X e te) : PO X (some e) (tPart te) := by
  intro pins s σ H Q I hw
  rw [evalPart_some]
  refine thn (h pins s σ H _ I hw) fun u s1 ⟨x, H1, I1, r1, q1⟩ => ?_
  obtain ⟨i, rfl, q⟩ := q1
  obtain ⟨t, rfl⟩ := r1
  exact ⟨some i, H1, I1, .int i t, q⟩
def SlR (X : Cx) (r : V -> Option Int -> Option Int -> Hp -> VK -> Prop) : Prop :=
  ∀ (pins : List (Addr × Obj)) (s : Shared) (σ : St) (H : Hp) (x : V) (v vl vu : Value) (lo hi : Option Int) (sl : Addr) (Q : VK), Inv X pins σ H s -> RelV x v -> s.heap.IsSliceOf sl vl vu .none -> IsPart vl lo -> IsPart vu hi -> r x lo hi H Q ->
    ∃ T id, typeLookup (.type T) "__getitem__" = pure (some (.builtin id)) /\ s.TypeIs v T /\ wpAny (model X.prog X.w) X.A (getItem v (.ref sl)) (EP X pins σ Q) X.xe s
def tSl (r : V -> Option Int -> Option Int -> Hp -> VK -> Prop) (te : TE) (tl th : TO) : TE := fun σ H Q => te σ H fun x H1 => tl σ H1 fun l H2 => th σ H2 fun u H3 => r x l u H3 Q
theorem pe_slice {r : V -> Option Int -> Option Int -> Hp -> VK -> Prop} (hr : SlR X r) (he : PE X e te) (hl : PO X lo tl) (hu : PO X hi th) : PE X (.Subscript e (.Slice lo hi none p2) pos) (tSl r te tl th) := by
  intro pins s σ H Q I h
  refine Subscript_ (thn (he pins s σ H _ I h) fun v s1 ⟨x, H1, I1, r1, q1⟩ => ?_)
  refine wpAny_Slice (thn (hl pins s1 σ H1 _ I1 q1) fun vl s2 ⟨l, H2, I2, pl, q2⟩ => thn (hu pins s2 σ H2 _ I2 q2) fun vu s3 ⟨u, H3, I3, pu, q3⟩ => ?_)
  rw [evalPart_none]
  refine wpAny_pure ?_
  have I4 : Inv X pins σ H3 { s3 with heap := s3.heap.push { cls := .type "slice", data := .fields #[vl, vu, .none] } } := I3.kept (t' := s3.toks) fun b ob q => Heap.get?_push_of_some _ q
  obtain ⟨T, id, hT, ht, hg⟩ := hr pins { s3 with heap := s3.heap.push { cls := .type "slice", data := .fields #[vl, vu, .none] } } σ H3 x v vl vu l u s3.heap.objs.size Q I4 r1 (Heap.IsSliceOf.new ..) pl pu q3
  show wpAny (model X.prog X.w) X.A (subscriptTail e (.Slice lo hi none p2) v (.ref s3.heap.objs.size)) (EP X pins σ Q) X.xe { s3 with heap := s3.heap.push { cls := .type "slice", data := .fields #[vl, vu, .none] } }
  exact tail_any (ops := [.ref s3.heap.objs.size, v]) ht hT hg (by with_unfolding_all rfl)
def cutV (xs : List V) (lo hi : Option Int) : List V := (xs.drop (HT.sIx xs.length 0 lo)).take (HT.sIx xs.length xs.length hi - HT.sIx xs.length 0 lo)
theorem cutV_length (xs : List V) (lo hi : Option Int) : (cutV xs lo hi).length <= xs.length := by
  unfold cutV
  rw [List.length_take, List.length_drop]
  omega
end
end L2
namespace L2
open PySem PySem.Spec PyProof.Rows
def ixN (n : Nat) (i : Int) : Option Nat := if 0 <= i then (if i < n then some i.toNat else none) else if -(n : Int) <= i then some (i + n).toNat else none
def atI {α : Type} (xs : List α) (i : Int) : Option α := (ixN xs.length i).bind fun j => xs[j]?
theorem ixN_seq {n : Nat} {i : Int} {j : Nat} (h : ixN n i = some j) : seqIndex? i n = some j /\ j < n /\ -(n : Int) <= i /\ i < n := by
  unfold ixN at h
  by_cases h0 : 0 <= i
  · rw [if_pos h0] at h
    by_cases h1 : i < n
    · rw [if_pos h1] at h
      have e : i.toNat = j := Option.some.inj h
      exact ⟨by rw [seqIndex_of h0 h1, e], by omega, by omega, h1⟩
    · rw [if_neg h1] at h; cases h
  · rw [if_neg h0] at h
    by_cases h1 : -(n : Int) <= i
    · rw [if_pos h1] at h
      have e : (i + n).toNat = j := Option.some.inj h
      exact ⟨by rw [seqIndex_neg (by omega) h1, e], by omega, h1, by omega⟩
    · rw [if_neg h1] at h; cases h
theorem atI_get {α : Type} {xs : List α} {i : Int} {v : α} (h : atI xs i = some v) : ∃ j, seqIndex? i xs.length = some j /\ xs[j]? = some v /\ j < xs.length /\ -(xs.length : Int) <= i /\ i < xs.length := by
  unfold atI at h
  cases e : ixN xs.length i with
  | none => rw [e] at h; cases h
  | some j =>
    rw [e] at h
    obtain ⟨h1, h2, h3, h4⟩ := ixN_seq e
    exact ⟨j, h1, h, h2, h3, h4⟩
theorem atI_nat {α : Type} {xs : List α} {j : Nat} {v : α} (h : xs[j]? = some v) : atI xs (j : Int) = some v := by
  have hj : j < xs.length := (List.getElem?_eq_some_iff.mp h).1
  have e : ixN xs.length (j : Int) = some j := by
    unfold ixN
    rw [if_pos (by omega), if_pos (by omega)]; simp
  unfold atI; rw [e]; exact h
def PlainIx (b : Expr) : Prop := ∀ o i, subscripted b false o i = operate [o, i] (getItem o i)
def IxR (X : Cx) (r : R2) : Prop :=
  ∀ (value slice : Expr) (pins : List (Addr × Obj)) (s : Shared) (σ : St) (H : Hp) (x y : V) (v u : Value) (Q : VK), Inv X pins σ H s -> RelV x v -> RelV y u -> r x y H Q ->
    subscripted slice false v u = operate [v, u] (getItem v u) -> wpAny (model X.prog X.w) X.A (subscriptTail value slice v u) (EP X pins σ Q) X.xe s
def MtR (X : Cx) (id : String) (r : V -> List V -> Hp -> VK -> Prop) : Prop :=
  ∀ (pins : List (Addr × Obj)) (s : Shared) (σ : St) (H : Hp) (x : V) (xs : List V) (v : Value) (us : List Value) (Q : VK), Inv X pins σ H s -> RelV x v -> Vals xs us -> r x xs H Q ->
    wpAny (model X.prog X.w) X.A (call (.builtin id) (v :: us)) (EP X pins σ Q) X.xe s
section
variable {X : Cx} {a b : Expr} {ta tb : TE} {pos : Pos}
theorem pe_ix {r : R2} (hr : IxR X r) (ha : PE X a ta) (hb : PE X b tb) (hs : PlainIx b) : PE X (.Subscript a b pos) (tOp r ta tb) := by
  intro pins s σ H Q I h
  exact Subscript_ (binT ha hb I h fun v u s2 x y H2 I2 rx ry q => hr a b pins s2 σ H2 x y v u Q I2 rx ry q (hs _ _))
def rIxL (K : PySem.W.Frag) : R2 := fun x y H Q => ∃ p xs i v, x = .ref p /\ y = .int i /\ SqL K H p xs /\ atI xs i = some v /\ Q v H
def rIxT (K : PySem.W.Frag) : R2 := fun x y H Q => ∃ p xs i v, x = .ref p /\ y = .int i /\ SqT K H p xs /\ atI xs i = some v /\ Q v H
theorem ix_list : IxR X (rIxL X.K) := by
  intro value slice pins s σ H x y v u Q I rx ry h hs
  obtain ⟨p, xs, i, z, rfl, rfl, hq, he, q⟩ := h
  cases rx
  obtain ⟨t, rfl⟩ := ry
  obtain ⟨its, r, pl, hz⟩ := I.list hq
  obtain ⟨j, h1, h2, h3, h4, h5⟩ := atI_get he
  obtain ⟨w, ew, rw'⟩ := r.get h2
  have hl := r.length
  have hn := line63
  have fin : EP X pins σ Q w s := ⟨z, H, I, rw', q⟩
  by_cases h0 : 0 <= i
  · have hj : i.toNat = j := by
      rw [seqIndex_of h0 h5] at h1
      exact Option.some.inj h1
    exact item_listR pl.isList h0 (by omega) (by rw [hj]; simpa using ew) fin hs
  · have hj : (i + (its.toArray.size : Int)).toNat = j := by
      rw [seqIndex_neg (by omega) h4] at h1
      rw [List.size_toArray, <- hl]
      exact Option.some.inj h1
    exact subscriptTail_builtinR (x := w) pl.isList.typeIs slot_list_getitem.lookup
      (wpAny_getItem_list_neg (Q := fun r s' => r = w /\ EP X pins σ Q r s') pl.isList (by omega) (by rw [List.size_toArray] <;> omega) (by omega) (by rw [hj]; simpa using ew) ⟨rfl, fin⟩) hs
theorem ix_tup : IxR X (rIxT X.K) := by
  intro value slice pins s σ H x y v u Q I rx ry h hs
  obtain ⟨p, xs, i, z, rfl, rfl, hq, he, q⟩ := h
  cases rx
  obtain ⟨t, rfl⟩ := ry
  obtain ⟨its, r, pl, hz⟩ := I.tuple hq
  obtain ⟨j, h1, h2, h3, h4, h5⟩ := atI_get he
  obtain ⟨w, ew, rw'⟩ := r.get h2
  have hl := r.length
  have hn := line63
  have fin : EP X pins σ Q w s := ⟨z, H, I, rw', q⟩
  exact subscriptTail_builtinR (x := w) pl.typeIs slot_tuple_getitem.lookup
    (getItem_tuple (j := j) (Q := fun r s' => r = w /\ EP X pins σ Q r s') pl (by omega) (by omega) (by rw [List.size_toArray, <- hl]; exact h1) (by simpa using ew) ⟨rfl, fin⟩) hs
theorem mapSeq_set (its : List Value) (n j : Nat) (u : Value) : Obj.mapSeq (·.setIfInBounds j u) { cls := .type "list", data := .seq its.toArray n } = { cls := .type "list", data := .seq (its.set j u).toArray n } := by
  simp [Obj.mapSeq]
theorem Inv.lst {pins : List (Addr × Obj)} {σ : St} {H : Hp} {s : Shared} {p : Addr} {xs : List V} (I : Inv X pins σ H s) (h : H p = some (.lst xs)) :
    ∃ (its : List Value) (n : Nat), Vals xs its /\ s.heap.get? p = some { cls := .type "list", data := .seq its.toArray n } /\ xs.length <= sizeLine := by
  obtain ⟨z, its, n, r, e⟩ := I.hok p _ h
  exact ⟨its, n, r, e, z⟩
theorem Inv.lstUpd {pins : List (Addr × Obj)} {σ : St} {H : Hp} {s : Shared} {p : Addr} {xs ys : List V} {its its' : List Value} {n n' : Nat} {f : Obj -> Obj} (I : Inv X pins σ H s) (h : H p = some (.lst xs))
    (ho : s.heap.get? p = some { cls := .type "list", data := .seq its.toArray n }) (hf : f { cls := .type "list", data := .seq its.toArray n } = { cls := .type "list", data := .seq its'.toArray n' }) (r : Vals ys its') (hz : ys.length <= sizeLine) (t : Nat) :
    Inv X pins σ (upd H p (.lst ys)) { s with heap := s.heap.update p f, toks := t } := by
  have e : (s.heap.update p f).get? p = some { cls := .type "list", data := .seq its'.toArray n' } := by
    rw [Heap.get?_update_self f ho (by rw [hf] <;> rfl), hf]
  refine I.write (x := p) (e := p) (by rw [h]; trivial) (.inl rfl) (fun b u hb q => (Heap.get?_update_other _ _ (Ne.symm hb)).trans q) ⟨_, e⟩ ?_
  exact ⟨hz, its', n', r, e⟩
def rSetL : V -> V -> V -> Hp -> (Hp -> Prop) -> Prop := fun o i v H Q => ∃ p xs k j, o = .ref p /\ i = .int k /\ H p = some (.lst xs) /\ ixN xs.length k = some j /\ Q (upd H p (.lst (xs.set j v)))
theorem set_list : PSet X rSetL := by
  intro pins s σ H o i v ov iv u Q I ro ri rv h
  obtain ⟨p, xs, k, j, rfl, rfl, hp, hj, q⟩ := h
  cases ro
  obtain ⟨t, rfl⟩ := ri
  obtain ⟨its, n, r, ho, hz⟩ := I.lst hp
  obtain ⟨h1, h2, h3, h4⟩ := ixN_seq hj
  have hl := r.length
  have hn := line63
  have I' : Inv X pins σ (upd H p (.lst (xs.set j v))) { s with heap := s.heap.update p (Obj.mapSeq (·.setIfInBounds j u)) } :=
    I.lstUpd hp ho (mapSeq_set its n j u) (r.set rv j) (by rw [List.length_set]; exact hz) s.toks
  by_cases h0 : 0 <= k
  · have hk : k.toNat = j := by
      rw [seqIndex_of h0 h4] at h1
      exact Option.some.inj h1
    exact PySem.W.ki_setAt ho h0 (by omega) (by rw [List.size_toArray, <- hl]; exact h4) (by rw [hk]; exact ⟨_, I', q⟩)
  · have hk : (k + (its.toArray.size : Int)).toNat = j := by
      rw [seqIndex_neg (by omega) h3] at h1
      rw [List.size_toArray, <- hl]
      exact Option.some.inj h1
    exact PySem.W.ki_setBack ho (by omega) (by rw [List.size_toArray, <- hl]; exact h3) (by omega) (by rw [hk]; exact ⟨_, I', q⟩)
theorem slice_bounds (lo hi : Option Int) (n : Nat) : (sliceBounds lo hi none n).1 = ((HT.sIx n 0 lo : Nat) : Int) /\ (sliceBounds lo hi none n).2.1 = ((HT.sIx n n hi : Nat) : Int) /\ (sliceBounds lo hi none n).2.2 = 1 := by
  refine ⟨?_, ?_, rfl⟩
  · cases lo with
    | none => simp [sliceBounds, HT.sIx]
    | some i =>
      simp only [sliceBounds, HT.sIx, Option.getD_none, show (1 : Int) > 0 by decide, if_true]
      by_cases h : i < 0
      · simp only [h, if_true] <;> omega
      · simp only [h, if_false] <;> omega
  · cases hi with
    | none => simp [sliceBounds, HT.sIx]
    | some i =>
      simp only [sliceBounds, HT.sIx, Option.getD_none, show (1 : Int) > 0 by decide, if_true]
      by_cases h : i < 0
      · simp only [h, if_true] <;> omega
      · simp only [h, if_false] <;> omega
theorem slicePick_cut (its : List Value) (lo hi : Option Int) : slicePick its.toArray lo hi none = ((its.drop (HT.sIx its.length 0 lo)).take (HT.sIx its.length its.length hi - HT.sIx its.length 0 lo)).toArray := by
  obtain ⟨h1, h2, h3⟩ := slice_bounds lo hi its.toArray.size
  unfold slicePick
  rw [h1, h2, h3]
  simp only [sliceRange_one, pick_run, List.size_toArray] <;> rfl
def rSlL (K : PySem.W.Frag) : V -> Option Int -> Option Int -> Hp -> VK -> Prop := fun x lo hi H Q => ∃ a xs, x = .ref a /\ SqL K H a xs /\ ∀ p, H p = none -> Q (.ref p) (upd H p (.lst (cutV xs lo hi)))
theorem sl_list : SlR X (rSlL X.K) := by
  intro pins s σ H x v vl vu lo hi sl Q I rx hs pl pu h
  obtain ⟨a, xs, rfl, hx, q⟩ := h
  cases rx
  obtain ⟨its, r, ht, hz⟩ := I.list hx
  have hlen := r.length
  refine ⟨"list", _, slot_list_getitem.lookup, ht.isList.typeIs, ?_⟩
  refine wpAny_getItem_list_slice ht.isList hs pl pu .none (by simp) ?_ (by rw [List.size_toArray] <;> omega)
  rw [slicePick_cut, <- hlen]
  refine ⟨.ref s.heap.objs.size, _, I.laid (t' := s.toks) (o := .lst (cutV xs lo hi)) (fun b ob q => Heap.get?_push_of_some _ q) (Nat.le_refl _) ?_, rfl, q _ (I.hok.fresh (Nat.le_refl _))⟩
  exact ⟨Nat.le_trans (cutV_length xs lo hi) hz, _, 0, (r.drop (HT.sIx xs.length 0 lo)).take (HT.sIx xs.length xs.length hi - HT.sIx xs.length 0 lo), Heap.get?_push_size _ rfl⟩
def flatV : V -> Bool
  | .non => true
  | .bl _ => true
  | .int _ => true
  | .str _ => true
  | _ => false
def eqV : V -> V -> Bool
  | .non, .non => true
  | .bl a, .bl b => a == b
  | .bl a, .int b => (if a then 1 else 0) == b
  | .int a, .bl b => a == (if b then 1 else 0)
  | .int a, .int b => a == b
  | .str a, .str b => a == b
  | _, _ => false
theorem eqAt_V {A : Around} {s : Shared} {y x : V} {u v : Value} (ry : RelV y u) (rx : RelV x v) (fy : flatV y = true) (fx : flatV x = true) : SeqAt.EqAt A s u v (eqV y x) := by
  cases y with
  | non =>
    cases ry
    cases x with
    | non => cases rx; exact SeqAt.EqAt.same _
    | bl b => cases rx; exact SeqAt.EqAt.none_bool b
    | int b => obtain ⟨t, rfl⟩ := rx; exact SeqAt.EqAt.none_int b t
    | str b => obtain ⟨t, rfl⟩ := rx; exact SeqAt.EqAt.none_str b t
    | _ => exact absurd (show false = true from fx) Bool.false_ne_true
  | bl a =>
    cases ry
    cases x with
    | non => cases rx; exact SeqAt.EqAt.bool_none a
    | bl b => cases rx; exact SeqAt.EqAt.bool_bool a b
    | int b => obtain ⟨t, rfl⟩ := rx; exact SeqAt.EqAt.bool_int a b t
    | str b => obtain ⟨t, rfl⟩ := rx; exact SeqAt.EqAt.bool_str a b t
    | _ => exact absurd (show false = true from fx) Bool.false_ne_true
  | int a =>
    obtain ⟨t', rfl⟩ := ry
    cases x with
    | non => cases rx; exact SeqAt.EqAt.int_none a t'
    | bl b => cases rx; exact SeqAt.EqAt.int_bool a t' b
    | int b => obtain ⟨t, rfl⟩ := rx; exact SeqAt.EqAt.int_int a t' b t
    | str b => obtain ⟨t, rfl⟩ := rx; exact SeqAt.EqAt.int_str a t' b t
    | _ => exact absurd (show false = true from fx) Bool.false_ne_true
  | str a =>
    obtain ⟨t', rfl⟩ := ry
    cases x with
    | non => cases rx; exact SeqAt.EqAt.str_none a t'
    | bl b => cases rx; exact SeqAt.EqAt.str_bool a t' b
    | int b => obtain ⟨t, rfl⟩ := rx; exact SeqAt.EqAt.str_int a t' b t
    | str b => obtain ⟨t, rfl⟩ := rx; exact SeqAt.EqAt.str_str a t' b t
    | _ => exact absurd (show false = true from fx) Bool.false_ne_true
  | _ => exact absurd (show false = true from fy) Bool.false_ne_true
def eqU (x : V) (u : Value) : Bool := match u with
  | .none => eqV .non x
  | .bool b => eqV (.bl b) x
  | .int i _ => eqV (.int i) x
  | .str z _ => eqV (.str z) x
  | _ => false
theorem eqU_of {x y : V} {u : Value} (r : RelV y u) (f : flatV y = true) : eqU x u = eqV y x := by
  cases y with
  | non => cases r; rfl
  | bl b => cases r; rfl
  | int i => obtain ⟨t, rfl⟩ := r; rfl
  | str z => obtain ⟨t, rfl⟩ := r; rfl
  | _ => exact absurd (show false = true from f) Bool.false_ne_true
theorem any_eqU {x : V} : ∀ {xs : List V} {us : List Value}, Vals xs us -> xs.all flatV = true -> us.any (eqU x) = xs.any fun y => eqV y x
  | _, _, .nil, _ => rfl
  | y :: xs, u :: us, .cons r t, f => by
    rw [List.all_cons, Bool.and_eq_true] at f
    rw [List.any_cons, List.any_cons, eqU_of r f.1, any_eqU t f.2]
theorem mem_eqAt {A : Around} {s : Shared} {x : V} {v : Value} (rx : RelV x v) (fx : flatV x = true) : ∀ {xs : List V} {us : List Value}, Vals xs us -> xs.all flatV = true -> ∀ u ∈ us, SeqAt.EqAt A s u v (eqU x u)
  | _, _, .nil, _ => fun u hu => by cases hu
  | y :: xs, u :: us, .cons r t, f => fun u' hu => by
    rw [List.all_cons, Bool.and_eq_true] at f
    rcases List.mem_cons.mp hu with rfl | hu
    · rw [eqU_of r f.1]; exact eqAt_V r rx f.1 fx
    · exact mem_eqAt rx fx t f.2 u' hu
def inV (x : V) (xs : List V) : Bool := xs.any fun y => eqV y x
def rIn (K : PySem.W.Frag) (neg : Bool) : R2 := fun x y H Q => ∃ p xs, y = .ref p /\ (SqL K H p xs \/ SqT K H p xs) /\ flatV x = true /\ xs.all flatV = true /\ Q (.bl (if neg then !inV x xs else inV x xs)) H
theorem op_in_seq : OpR X (compareOp .In) (rIn X.K false) := by
  intro pins s σ H x y v u Q I rx ry h
  obtain ⟨p, xs, rfl, hq, fx, fs, q⟩ := h
  cases ry
  rcases hq with hq | hq
  · obtain ⟨its, r, pl, hz⟩ := I.list hq
    refine SeqAt.in_listAt (eqU x) pl.isList (fun w hw => mem_eqAt rx fx r fs w (by simpa using hw)) ⟨.bl _, H, I, rfl, ?_⟩
    rw [show its.toArray.any (eqU x) = its.any (eqU x) by simp, any_eqU r fs]
    exact q
  · obtain ⟨its, r, pl, hz⟩ := I.tuple hq
    refine SeqAt.in_tupleAt (eqU x) pl (fun w hw => mem_eqAt rx fx r fs w (by simpa using hw)) ⟨.bl _, H, I, rfl, ?_⟩
    rw [show its.toArray.any (eqU x) = its.any (eqU x) by simp, any_eqU r fs]
    exact q
theorem op_notIn_seq : OpR X (compareOp .NotIn) (rIn X.K true) := by
  intro pins s σ H x y v u Q I rx ry h
  obtain ⟨p, xs, rfl, hq, fx, fs, q⟩ := h
  cases ry
  rcases hq with hq | hq
  · obtain ⟨its, r, pl, hz⟩ := I.list hq
    refine SeqAt.notIn_listAt (eqU x) pl.isList (fun w hw => mem_eqAt rx fx r fs w (by simpa using hw)) ⟨.bl _, H, I, rfl, ?_⟩
    rw [show its.toArray.any (eqU x) = its.any (eqU x) by simp, any_eqU r fs]
    exact q
  · obtain ⟨its, r, pl, hz⟩ := I.tuple hq
    refine SeqAt.notIn_tupleAt (eqU x) pl (fun w hw => mem_eqAt rx fx r fs w (by simpa using hw)) ⟨.bl _, H, I, rfl, ?_⟩
    rw [show its.toArray.any (eqU x) = its.any (eqU x) by simp, any_eqU r fs]
    exact q
theorem call_len_seq : CallR X (.builtin "len") (fun xs H Q => ∃ p ys, xs = [.ref p] /\ (SqL X.K H p ys \/ SqT X.K H p ys) /\ Q (.int ys.length) H) := by
  intro pins s σ H xs us Q I r h
  obtain ⟨p, ys, rfl, hq, q⟩ := h
  obtain ⟨u, rfl, rx⟩ := vals1 r
  cases rx
  have hn := line63
  rcases hq with hq | hq
  · obtain ⟨its, r', pl, hz⟩ := I.list hq
    have hlen := r'.length
    exact Calls.call_len_list pl.isList (by simp only [List.size_toArray] <;> omega) ⟨.int ys.length, H, I.tok _, ⟨s.toks + 1, by rw [List.size_toArray, hlen]⟩, q⟩
  · obtain ⟨its, r', pl, hz⟩ := I.tuple hq
    have hlen := r'.length
    exact len_tuple pl (by simp only [List.size_toArray] <;> omega) ⟨.int ys.length, H, I.tok _, ⟨s.toks + 1, by rw [List.size_toArray, hlen]⟩, q⟩
theorem call_tuple_of : CallR X (.type "tuple") (fun xs H Q => ∃ p ys, xs = [.ref p] /\ ((SqL X.K H p ys /\ ∀ l, H l = none -> Q (.ref l) (upd H l (.tup ys))) \/ (SqT X.K H p ys /\ Q (.ref p) H))) := by
  intro pins s σ H xs us Q I r h
  obtain ⟨p, ys, rfl, h⟩ := h
  obtain ⟨u, rfl, rx⟩ := vals1 r
  cases rx
  rcases h with ⟨hq, q⟩ | ⟨hq, q⟩
  · obtain ⟨its, r', pl, hz⟩ := I.list hq
    have hlen := r'.length
    refine call_tuple_list pl.isList (fun h' kp => ?_) (by simp only [List.size_toArray] <;> omega)
    have I1 : Inv X pins σ H { s with heap := h' } := I.kept (t' := s.toks) kp
    have I2 : Inv X pins σ (upd H h'.objs.size (.tup ys)) { s with heap := h'.push { cls := .type "tuple", data := .seq its.toArray } } :=
      I1.laid (t' := s.toks) (fun b o e => Heap.get?_push_of_some _ e) (Nat.le_refl _) (show ObjOk X.prog X.w _ _ _ (.tup ys) from ⟨hz, its, r', IsTup.new _ _⟩)
    exact ⟨.ref h'.objs.size, _, I2, rfl, q _ (I1.hok.fresh (Nat.le_refl _))⟩
  · obtain ⟨its, r', pl, hz⟩ := I.tuple hq
    exact call_tuple_same pl ⟨.ref p, H, I, rfl, q⟩
def tyV (K : PySem.W.Frag) (T : String) (x : V) (H : Hp) : Prop := match x with
  | .str _ => T = "str"
  | .int _ => T = "int"
  | .ref p => (T = "list" /\ ∃ xs, SqL K H p xs) \/ (T = "tuple" /\ ∃ o, K.lookup p = some o /\ o.cls = .type "tuple" /\ o.dict = none) \/
      (T = "dict" /\ ((∃ kvs, H p = some (.dK kvs)) \/ ∃ kvs, H p = some (.dT kvs))) \/ (T = "set" /\ ∃ S n, H p = some (.set S n))
  | _ => False
theorem tyV_is {pins : List (Addr × Obj)} {σ : St} {H : Hp} {s : Shared} {T : String} {x : V} {v : Value} (I : Inv X pins σ H s) (r : RelV x v) (ty : tyV X.K T x H) :
    s.TypeIs v T /\ ∀ a, v = .ref a -> ∃ ob, s.heap.get? a = some ob /\ ob.dict = none := by
  cases x with
  | str z =>
    obtain ⟨t, rfl⟩ := r
    cases (show T = "str" from ty)
    exact ⟨typeIs_str s z t, fun _ e => nomatch e⟩
  | int i =>
    obtain ⟨t, rfl⟩ := r
    cases (show T = "int" from ty)
    exact ⟨typeIs_int s i t, fun _ e => nomatch e⟩
  | ref p =>
    cases r
    rcases ty with ⟨rfl, xs, hq⟩ | ⟨rfl, o, hk, hc, hd⟩ | ⟨rfl, hk⟩ | ⟨rfl, S, n, hk⟩
    · obtain ⟨its, _, pl, _⟩ := I.list hq
      refine ⟨pl.isList.typeIs, fun a e => ?_⟩
      cases e
      obtain ⟨o, n, e, c, hd, _⟩ := pl
      exact ⟨o, e, hd⟩
    · refine ⟨⟨o, I.kIn p o hk, hc⟩, fun a e => ?_⟩
      cases e
      exact ⟨o, I.kIn _ o hk, hd⟩
    · have z : ∃ o, s.heap.get? p = some o /\ o.ExactDict := by
        rcases hk with ⟨kvs, hk⟩ | ⟨kvs, hk⟩
        · obtain ⟨_, _, _, _, o, _, _, e, ex, _⟩ := I.hok p _ hk
          exact ⟨o, e, ex⟩
        · obtain ⟨_, _, _, _, o, _, _, e, ex, _⟩ := I.hok p _ hk
          exact ⟨o, e, ex⟩
      obtain ⟨o, e, ex⟩ := z
      refine ⟨⟨o, e, ex.1⟩, fun a e2 => ?_⟩
      cases e2
      exact ⟨o, e, ex.2.1⟩
    · obtain ⟨o, _, _, _, e, ex, _⟩ := I.hok p _ hk
      refine ⟨⟨o, e, ex.1⟩, fun a e2 => ?_⟩
      cases e2
      exact ⟨o, e, ex.2.1⟩
  | _ => exact False.elim ty
def tBM (K : PySem.W.Frag) (T : String) (r : V -> List V -> Hp -> VK -> Prop) (to : TE) (t : TA) : TE := fun σ H Q => to σ H fun x H1 => tyV K T x H1 /\ t σ H1 fun xs H2 => r x xs H2 Q
variable {o e : Expr} {es : List Expr} {to : TE} {t : TA} {name : Str} {apos cpos : Pos} {T id : String} {r : V -> List V -> Hp -> VK -> Prop}
theorem pe_bm (pa : PlainAttrs T) (slot : Slot T name id) (hty : typeOf (.builtin id) = pure (.type "method_descriptor")) (hm : MtR X id r) (ho : PE X o to) (ha : PA X (e :: es) t)
    (hbase : attributeBase o name X.env (eval o X.env) = eval o X.env := by rfl)
    (hfew : ((backTo cpos (starEach (e :: es) X.env)).all (fun x => !x.1) && (backToKw cpos (keywordEach [] X.env)).all (fun x => x.1.isSome)
      && decide ((e :: es).length + ([] : List Keyword).length + (if ([] : List Keyword).isEmpty then 0 else 1) < 30)) = true := by rfl)
    (hline : (apos.endLine == cpos.line) = true := by rfl) (hs : starEach (e :: es) X.env = (false, eval e X.env) :: starEach es X.env := by rfl) (hplain : (backTo cpos (starEach es X.env)).any (·.1) = false := by rfl) :
    PE X (.Call (.Attribute o name apos) (e :: es) [] cpos) (tBM X.K T r to t) := by
  intro pins s σ H Q I h
  refine wpAny_Call_method_late hbase hfew hline rfl (thn (ho pins s σ H _ I h) fun v s1 ⟨x, H1, I1, r1, ty, q1⟩ => ?_)
  obtain ⟨h1, h2⟩ := tyV_is I1 r1 ty
  refine ⟨T, id, pa, slot, hty, h1, h2, ?_⟩
  have hA := ha cpos pins s1 σ H1 _ I1 q1
  rw [hs] at hA ⊢
  refine Calls.callWith_builtin (by show (false || (backTo cpos (starEach es X.env)).any (·.1)) = false; rw [hplain] <;> rfl) (Calls.evalArgs_plain ?_)
  exact thn hA fun us s2 ⟨vs, H2, I2, r2, q2⟩ => hm pins s2 σ H2 x vs v us Q I2 r1 r2 q2
/- xs.append(e), list.index on a module's tuple .. are MtR facts of 06m -/
end
end L2
namespace L2
open PySem PySem.Spec PyProof.Rows
def MtM (X : Cx) (id : String) (r : V -> List V -> Hp -> VK -> Prop) : Prop :=
  ∀ (pins : List (Addr × Obj)) (s : Shared) (σ : St) (H : Hp) (x : V) (xs : List V) (v : Value) (us : List Value) (Q : VK), Inv X pins σ H s -> RelV x v -> Vals xs us -> r x xs H Q ->
    wpAny (model X.prog X.w) X.A (call (.builtin id) (v :: us)) (EP X pins σ Q) X.xe s
theorem Vals.one : ∀ {x : V} {us : List Value}, Vals [x] us -> ∃ u, us = [u] /\ RelV x u
  | _, _, .cons r .nil => ⟨_, rfl, r⟩
theorem Vals.two : ∀ {x y : V} {us : List Value}, Vals [x, y] us -> ∃ u v, us = [u, v] /\ RelV x u /\ RelV y v
  | _, _, _, .cons r (.cons q .nil) => ⟨_, _, rfl, r, q⟩
theorem Vals.rep {xs : List V} {us : List Value} (h : Vals xs us) : ∀ k : Nat, Vals (List.replicate k xs).flatten (List.replicate k us).flatten
  | 0 => .nil
  | k + 1 => by
    rw [List.replicate_succ, List.replicate_succ, List.flatten_cons, List.flatten_cons]
    exact Vals.append h (Vals.rep h k)
theorem foldl_rep (its : List Value) : ∀ (k : Nat) (acc : List Value),
    List.foldl (fun x1 x2 => x1 ++ x2) acc.toArray (List.replicate k its.toArray) = (acc ++ (List.replicate k its).flatten).toArray
  | 0, acc => by simp
  | k + 1, acc => by
    have e : acc.toArray ++ its.toArray = (acc ++ its).toArray := by simp
    have e2 : (acc ++ its) ++ (List.replicate k its).flatten = acc ++ (List.replicate (k + 1) its).flatten := by
      rw [List.replicate_succ, List.flatten_cons, List.append_assoc]
    rw [<- e2, <- foldl_rep its k (acc ++ its), <- e, List.replicate_succ, List.foldl_cons]
section
variable {X : Cx} {pins : List (Addr × Obj)} {σ : St} {H : Hp} {s : Shared} {l b : Addr} {xs ys zs : List V}
theorem Inv.lset {its its' : List Value} {n : Nat} {f : Array Value -> Array Value} {t' : Nat} (I : Inv X pins σ H s) (hH : H l = some (.lst xs))
    (e : s.heap.get? l = some { cls := .type "list", data := .seq its.toArray n }) (hf : f its.toArray = its'.toArray) (hv : Vals ys its') (hz : ys.length <= sizeLine) :
    Inv X pins σ (upd H l (.lst ys)) { s with heap := s.heap.update l (Obj.mapSeq f), toks := t' } := by
  have q := PySem.IsL.update e f
  rw [hf] at q
  refine I.write (x := l) (e := l) (by rw [hH]; exact trivial) (.inl rfl) (fun b' u hb hu => (Heap.get?_update_other s.heap (Obj.mapSeq f) (Ne.symm hb)).trans hu) ⟨_, q⟩ ?_
  exact ⟨hz, its', _, hv, q⟩
theorem Inv.lnew {its : List Value} {t' : Nat} (I : Inv X pins σ H s) (hv : Vals ys its) (hz : ys.length <= sizeLine) :
    Inv X pins σ (upd H s.heap.objs.size (.lst ys)) { s with heap := s.heap.push { cls := .type "list", data := .seq its.toArray }, toks := t' } :=
  I.laid (fun _ _ q => Heap.get?_push_of_some _ q) (Nat.le_refl _) ⟨hz, its, 0, hv, Heap.get?_push_size _ rfl⟩
theorem Inv.fresh (I : Inv X pins σ H s) : H s.heap.objs.size = none := I.hok.fresh (Nat.le_refl _)
theorem Inv.lstM (I : Inv X pins σ H s) (hH : H l = some (.lst xs)) : xs.length <= sizeLine /\ ∃ (its : List Value) (n : Nat), Vals xs its /\ xs.length = its.length /\ s.heap.get? l = some { cls := .type "list", data := .seq its.toArray n } := by
  obtain ⟨z, its, n, r, e⟩ := I.hok l _ hH
  exact ⟨z, its, n, r, r.length, e⟩
theorem notLongL {n : Nat} (h : n <= sizeLine) : Builtin.List.listTooLong n = false := by
  unfold Builtin.List.listTooLong
  exact decide_eq_false (by omega)
end
section
variable {X : Cx}
def rAppend : V -> List V -> Hp -> VK -> Prop := fun x vs H Q => ∃ l xs y, x = .ref l /\ vs = [y] /\ H l = some (.lst xs) /\ xs.length < sizeLine /\ Q .non (upd H l (.lst (xs ++ [y])))
theorem mt_append : MtM X "list.append" rAppend := by
  intro pins s σ H x vs v us Q I rx rv h
  obtain ⟨l, xs, y, rfl, rfl, hH, hz, q⟩ := h
  cases rx
  obtain ⟨u, rfl, ru⟩ := rv.one
  obtain ⟨z, its, n, r, hl, e⟩ := I.lstM hH
  refine call_meets F.slot_list_append ⟨_, e, rfl⟩ F.entry_list_append (F.args_list_append_2 _ _) (PySem.list_append l its.toArray n u (by rw [List.size_toArray]; omega)) ⟨e, ?_⟩
  refine ⟨.non, _, I.lset (its' := its ++ [u]) hH e (by simp) (r.append (.cons ru .nil)) ?_, rfl, q⟩
  rw [List.length_append, List.length_singleton]
  omega
def rExtend : V -> List V -> Hp -> VK -> Prop := fun x vs H Q => ∃ l b xs zs, x = .ref l /\ vs = [.ref b] /\ H l = some (.lst xs) /\ H b = some (.lst zs) /\ xs.length + zs.length <= sizeLine /\ Q .non (upd H l (.lst (xs ++ zs)))
theorem mt_extend : MtM X "list.extend" rExtend := by
  intro pins s σ H x vs v us Q I rx rv h
  obtain ⟨l, b, xs, zs, rfl, rfl, hH, hB, hz, q⟩ := h
  cases rx
  obtain ⟨u, rfl, ru⟩ := rv.one
  cases ru
  obtain ⟨z, its, n, r, hl, e⟩ := I.lstM hH
  obtain ⟨z2, its2, n2, r2, hl2, e2⟩ := I.lstM hB
  have hsz : its.toArray.size + its2.toArray.size <= sizeLine := by rw [List.size_toArray, List.size_toArray]; omega
  have hlong : ¬ (!its.toArray.isEmpty && Builtin.List.listTooLong (its.toArray.size + its2.toArray.size)) = true := by
    rw [notLongL hsz, Bool.and_false]
    exact Bool.false_ne_true
  refine call_meets F.slot_list_extend ⟨_, e, rfl⟩ F.entry_list_extend (F.args_list_extend_2 _ _)
    (AutoSeq1.list_extend_list_list_0 l its.toArray n b its2.toArray n2 hlong (by rw [List.size_toArray]; omega) (by omega)) ⟨e, e2, ?_⟩
  refine ⟨.non, _, I.lset (its' := its ++ its2) hH e (by simp) (r.append r2) ?_, rfl, q⟩
  rw [List.length_append]
  omega
def rCat : R2 := fun x y H Q => ∃ l b xs zs, x = .ref l /\ y = .ref b /\ H l = some (.lst xs) /\ H b = some (.lst zs) /\ xs.length + zs.length <= sizeLine /\ ∀ p, H p = none -> Q (.ref p) (upd H p (.lst (xs ++ zs)))
theorem op_cat : OpR X (binaryOp .Add) rCat := by
  intro pins s σ H x y v u Q I rx ry h
  obtain ⟨l, b, xs, zs, rfl, rfl, hH, hB, hz, q⟩ := h
  cases rx
  cases ry
  obtain ⟨z, its, n, r, hl, e⟩ := I.lstM hH
  obtain ⟨z2, its2, n2, r2, hl2, e2⟩ := I.lstM hB
  refine PySem.P.add_list e e2 ?_ (by rw [List.size_toArray, List.size_toArray]; omega)
  have ea : its.toArray ++ its2.toArray = (its ++ its2).toArray := by simp
  rw [ea]
  exact ⟨.ref _, _, I.lnew (t' := s.toks) (r.append r2) (by rw [List.length_append]; omega), rfl, q _ I.fresh⟩
def rRep : R2 := fun x y H Q => ∃ l k xs, x = .ref l /\ y = .int k /\ H l = some (.lst xs) /\ -(2 ^ 63) <= k /\ k < 2 ^ 63 /\ xs.length * k.toNat <= sizeLine /\
  ∀ p, H p = none -> Q (.ref p) (upd H p (.lst (List.replicate k.toNat xs).flatten))
theorem len_rep {α : Type} (xs : List α) (k : Nat) : (List.replicate k xs).flatten.length = k * xs.length := by
  induction k with
  | zero => simp
  | succ k ih => rw [List.replicate_succ, List.flatten_cons, List.length_append, ih, Nat.succ_mul, Nat.add_comm]
theorem op_rep : OpR X (binaryOp .Mult) rRep := by
  intro pins s σ H x y v u Q I rx ry h
  obtain ⟨l, k, xs, rfl, rfl, hH, h1, h2, hz, q⟩ := h
  cases rx
  obtain ⟨t, rfl⟩ := ry
  obtain ⟨z, its, n, r, hl, e⟩ := I.lstM hH
  have hlen : its.toArray.size * k.toNat <= sizeLine := by rw [List.size_toArray, <- hl]; exact hz
  have hcap : ¬ its.toArray.size * k.toNat > (2 ^ 63 - 1) / 8 := by
    have : (sizeLine : Nat) <= (2 ^ 63 - 1) / 8 := by decide
    omega
  have hfit : ¬ (!Builtin.List.listFitsIndex k) = true := by
    rw [fitsIndex_both h1 h2]
    exact Bool.false_ne_true
  have hlong : ¬ Builtin.List.listTooLong (its.toArray.size * k.toNat) = true := by
    rw [notLongL hlen]
    exact Bool.false_ne_true
  have hnew : List.foldl (fun x1 x2 => x1 ++ x2) #[] (List.replicate (if its.toArray.isEmpty = true then 0 else k.toNat) its.toArray) = (List.replicate k.toNat its).flatten.toArray := by
    have f0 : ∀ m : Nat, List.foldl (fun x1 x2 => x1 ++ x2) #[] (List.replicate m its.toArray) = (List.replicate m its).flatten.toArray := fun m => by
      have := foldl_rep its m []
      rw [List.nil_append] at this
      exact this
    rw [f0]
    cases its with
    | nil => simp
    | cons a r' => rw [if_neg (by simp)]
  refine wpAny_binaryOp_repeat_ref (T := "list") (U := "int") (by decide) ⟨_, e, rfl⟩ (fun s' => typeIs_int s' k t) noFill_list_mul F.fills_int_mul F.slot_int_rmul repeat_list F.slot_int_index.lookup
    (call_meets F.slot_int_rmul (typeIs_int s k t) F.entry_int_rmul (F.args_int_rmul_2 _ _) (int___rmul___int_list k t l its.toArray n)
      ⟨e, rfl, ⟨_, e, rfl⟩, call_meets F.slot_list_mul ⟨_, e, rfl⟩ F.entry_list_mul (F.args_list_mul_2 _ _) (AutoListH.list___mul___list_int_3 l its.toArray n k t hfit hcap hlong) ⟨e, ?_⟩⟩)
  rw [hnew]
  exact ⟨.ref _, _, I.lnew (t' := s.toks) (r.rep k.toNat) (by rw [len_rep, Nat.mul_comm]; exact hz), rfl, q _ I.fresh⟩
end
section
variable {prog : Program} {w : World} {A : Around} {E : Value -> Shared -> Prop} {s : Shared}
set_option maxRecDepth 100000 in
end
section
variable {X : Cx}
end
end L2
namespace Att
open PySem PySem.W PySem.Calls PyProof.Rows
theorem ints_of_wellAll {P : Params} {h : Heap} : ∀ (ns : List Int) (vs : List Value), WellAll P h vs (ns.map WData.int) -> IntsAre vs ns := by
  intro ns
  induction ns with
  | nil =>
    intro vs w
    rw [List.map_nil] at w
    cases w
    exact .nil
  | cons n ns ih =>
    intro vs w
    rw [List.map_cons] at w
    cases w with
    | cons a b =>
      cases a
      exact .cons _ _ (ih _ b)
theorem script_of {l : OpenLaw} {n : Nat} (hn : l.most = some n) {P : Params} {h : Heap} {args : List WData} {vals : List Value}
    (hpre : l.row.toRowW.claim.pre args = true) (hwl : WellAll P h vals args) :
    ∃ a vs ns, vals = [Value.ref a] /\ args = [WData.list (ns.map WData.int)] /\ h.get? a = some { cls := .type "list", data := .seq vs.toArray } /\ IntsAre vs ns /\ ns.length <= n := by
  have hsh : WShape.hasAll [] args [.list .int] = true := (pre_splitW hpre).1
  have hc : l.pre.holds [] { args := args } = true := (pre_splitW hpre).2
  obtain ⟨d, r, rfl, h1, h2⟩ := hasAllW_cons hsh
  obtain rfl := hasAllW_nil h2
  obtain ⟨xs, rfl, h3⟩ := hasW_list h1
  obtain ⟨ns, rfl⟩ := items_int h3
  have hlen : ns.length <= n := by
    unfold OpenLaw.pre at hc
    have h4 : (WTm.not (.lt (.lit (.int (n : Int))) (.len (.arg 0)))).holds [] { args := [.list (ns.map .int)] } = true := by
      have h4 := (holds_andW hc).1
      rw [hn] at h4
      exact h4
    have h5 := condW_of h4 (w_not (w_lt w_lit (w_len_list (w_arg rfl))))
    rw [List.length_map] at h5
    refine Nat.le_of_not_lt fun q => ?_
    have q' : (n : Int) < ((ns.length : Nat) : Int) := by omega
    first
      | (rw [decide_eq_true q'] at h5; exact absurd h5 (by decide))
      | (simp at h5; omega)
  cases hwl with
  | cons w1 w2 =>
    cases w2
    cases w1 with
    | list ho hall => exact ⟨_, _, ns, rfl, rfl, ho, ints_of_wellAll ns _ hall, hlen⟩
theorem post_true (l : OpenLaw) (args : List WData) : l.row.toRowW.claim.post args (.bool true) args = true :=
  postW_of (r := l.row.toRowW) (X := (true == true))
    (show WShape.has [] (.bool true) .bool = true by first | rfl | decide | simp [WShape.has, WShape.arms, WShape.armsAll])
    (show (WTm.eq .res (.lit (.bool true))).value [] { args := args, res := some (.bool true), after := args } = some (.bool (true == true)) from w_eq_bool (w_res rfl) w_lit) rfl
theorem attach_call {l : OpenLaw} {n : Nat} {q : Program} {loose : List Str} {XP : (Str -> Option Value) -> Heap -> Prop} {YP : World -> Heap -> Prop} {d : DefRec}
    (hn : l.most = some n) (hdf : d.params.defaults = [])
    (call : ∀ (w : World) (s₀ s₁ : Shared) (mg mb : Str -> Option Value) (fa : Addr) (o : Obj) (pm cd doc : Value) (a : Addr) (vs : List Value) (ns : List Int),
      Ground q loose [] XP w s₀ mg mb s₁.heap -> YP w s₁.heap ->
      s₁.heap.get? fa = some o -> o.data = .func (docDef d.name d.params d.body d.scope pm cd doc) -> s₁.heap.CodeRec cd d.name -> mg d.name = some (.ref fa) ->
      s₁.heap.get? a = some { cls := .type "list", data := .seq vs.toArray } -> IntsAre vs ns -> ns.length <= n -> s₁.gens = #[] ->
      codeAny (model l.prog w) callerA (.call (.ref fa) ⟨[.ref a], []⟩) (fun r s' => r = .ok (.ret (.bool true)) /\ OldK s₁.heap s'.heap /\ s'.os = s₁.os /\ AllBare s'.gens) s₁) :
    WalkO q loose XP YP l.row.toRowW d [] (fun f vs => PySem.call f vs) := by
  intro w s₀ s₁ mg mb G Y fa o pm cd doc dV kV ho hd hcd hD hmg hg args vals as hpre hlay hrd hwl hlo
  obtain rfl : dV = .none := Dflts.none hD hdf
  obtain rfl : kV = .none := Dflts.noKw hD
  obtain ⟨a, vs, ns, rfl, rfl, hobj, hints, hlen⟩ := script_of hn hpre hwl
  refine enter_call (codeAny_mono (call w s₀ s₁ mg mb fa o pm cd doc a vs ns G Y ho (fd_plain hd) hcd hmg hobj hints hlen hg) fun r s' hq => ?_)
  obtain ⟨rfl, h2, h3, h4⟩ := hq
  exact ⟨.inl ⟨.bool true, .bool true, [], rfl, fun _ => rfl, .bool true, post_true l _, fun _ => ⟨List.Pairwise.nil, fun _ hm => (nomatch hm)⟩⟩, h2, h3, h4⟩
section
variable {prog : Program} {w : World} {A : Around} {E : Value -> Shared -> Prop} {s : Shared} {K : Frag}
end
end Att
namespace L2
open PySem PySem.Spec PyProof.Rows
theorem vals_ints : ∀ {vs : List Value} {ns : List Int}, IntsAre vs ns -> Vals (ns.map V.int) vs
  | _, _, .nil => .nil
  | _, _, .cons n t h => .cons ⟨t, rfl⟩ (vals_ints h)
end L2
namespace L2
open PySem PySem.Spec PyProof.Rows
end L2
/- THE LAST THEOREM (shape; LID, My.* are yours):
   My.Adr: a structure of the addresses that your layer names (classes, functions); My.Txt K t: a structure (Prop) of the equations over K;
   My.txt_mk : {K} {implicit addresses ..} (e1 : nsIn K mainGlobals "law" = some (some (.ref f))) (e2 : K.lookup f = some ⟨oc, od, .func (fnOf "law" "law" params body scope dV kV doc pm an cdv ct), sl⟩) (e3 : codeIn K cdv "law" = true) .. : ∃ t, My.Txt K t
set_option maxRecDepth 100000 in
set_option maxHeartbeats 0 in
(the tactic k_is has no namespace: write k_is) -/
namespace L2
open PySem PySem.Spec PyProof.Rows
def defArgs (s : Stmt) : Arguments := match s with
  | .FunctionDef _ a _ _ _ _ _ _ _ _ => a
  | _ => { posonlyargs := [], args := [], vararg := none, kwonlyargs := [], kw_defaults := [], kwarg := none, defaults := [] }
def defBody (s : Stmt) : List Stmt := match s with
  | .FunctionDef _ _ b _ _ _ _ _ _ _ => b
  | _ => []
def defScope (s : Stmt) : Scope := match s with
  | .FunctionDef _ _ _ _ _ _ sc _ _ _ => sc
  | _ => { kind := .function, names := [], isGenerator := false, isCoroutine := false }
abbrev CX0 : CXT := fun _ _ _ _ _ _ => False
abbrev E0 : XK := fun _ _ _ => False
theorem pass0 {X : Cx} : Passes CX0 X E0 := fun _ _ _ _ _ _ _ h => h.elim
structure Fun (K : PySem.W.Frag) (x qual : Str) (st : Stmt) (f : Addr) (fd : FuncData) : Prop where
  ex : ∃ (oc : Value) (od : Option Addr) (kV doc pm : Value) (an : Option Addr) (cdv ct : Value) (osl : Array (Option Value)),
    fd = PySem.W.fnOf x qual (defArgs st) (defBody st) (defScope st) .none kV doc pm an cdv ct /\ K.lookup f = some ⟨oc, od, .func fd, osl⟩ /\ PySem.W.codeIn K cdv qual = true
  kp : PySem.W.keepIn K (.ref f) = true
section
variable {P : Program} {w : World} {K : PySem.W.Frag} {mg : Str -> Option Value} {base : Heap}
theorem Fun.ok {x qual : Str} {st : Stmt} {f : Addr} {fd : FuncData} {N ps : List Str} {k : Nat} {sp : Sp} (F : Fun K x qual st f fd) (S : FnScope N ps (defScope st)) (len : ∀ vs H Q E, sp vs H Q E -> vs.length = ps.length)
    (hbody : ∀ (cdv : Value) (A : Around) (outer : List Env) (s : Shared) (H : Hp) (vs : List V) (Q : VK) (E : XK), Room k (A.deeper (envOfC qual (defScope st) s.heap.objs.size f cdv)) -> sp vs H Q E ->
      ∃ t, PSs (cxOf CX0 P w K mg base N qual (defScope st) f cdv A outer s H E).nox (defBody st) t /\ t { nx := fun _ H' => Q .non H', rt := Q } (start N vs) H) : FnOk P w K mg base CX0 (k + 1) f fd ps sp := by
  obtain ⟨oc, od, kV, doc, pm, an, cdv, ct, osl, rfl, lk, hcd⟩ := F.ex
  refine fn_of lk hcd S len fun A outer s H vs Q E hr hsp => ?_
  obtain ⟨t, h, q⟩ := hbody cdv A outer s H vs Q E hr hsp
  exact ⟨t, h.nox, q⟩
theorem Fun.binds {x qual : Str} {st : Stmt} {f : Addr} {fd : FuncData} {ps : List Str} (F : Fun K x qual st f fd)
    (h : ∀ (kV doc pm : Value) (an : Option Addr) (cdv ct : Value) (us : List Value), us.length = ps.length -> bindArgs (PySem.W.fnOf x qual (defArgs st) (defBody st) (defScope st) .none kV doc pm an cdv ct) ⟨us, []⟩ = pure (ps.zip us)) : Binds K fd ps [] := by
  obtain ⟨oc, od, kV, doc, pm, an, cdv, ct, osl, rfl, lk, hcd⟩ := F.ex
  exact .all (h kV doc pm an cdv ct)
theorem fun_mk {x qual : Str} {st : Stmt} {f : Addr} {oc : Value} {od an : Option Addr} {osl : Array (Option Value)} {kV doc pm cdv ct : Value} (l : K.lookup f = some ⟨oc, od, .func (PySem.W.fnOf x qual (defArgs st) (defBody st) (defScope st) .none kV doc pm an cdv ct), osl⟩)
    (c : PySem.W.codeIn K cdv qual = true) (k : PySem.W.keepIn K (.ref f) = true) : Fun K x qual st f (PySem.W.fnOf x qual (defArgs st) (defBody st) (defScope st) .none kV doc pm an cdv ct) := ⟨⟨oc, od, kV, doc, pm, an, cdv, ct, osl, rfl, l, c⟩, k⟩
end
theorem small1000 {n : Nat} (h : n <= 1000) : n < sizeLine := Nat.lt_of_le_of_lt h (by decide)
section
variable {X : Cx}
theorem pv (i : Nat) {x : Str} {pos : Pos} (hN : X.N[i]? = some x := by rfl) (hv : Vis X.env.scope x := by first | exact Or.inl rfl | exact Or.inr (Or.inl rfl) | exact Or.inr (Or.inr rfl)) (hd : (x == ("__debug__" : Str)) = false := by decide)
    (hcd : (x == ("__classdict__" : Str)) = false := by decide) : PE X (.Name x pos) (tVar i) := pe_var hN hv hd hcd
end
theorem iteF {A B : Prop} (h : B) : if false = true then A else B := by
  rw [if_neg Bool.false_ne_true]
  exact h
theorem iteT {A B : Prop} (h : A) : if true = true then A else B := by
  rw [if_pos rfl]
  exact h
theorem ite2 {c A B : Prop} [Decidable c] (h1 : c -> A) (h2 : ¬ c -> B) : if c then A else B := by
  by_cases h : c
  · rw [if_pos h]
    exact h1 h
  · rw [if_neg h]
    exact h2 h
theorem iteNS {c A B : Prop} [Decidable c] (hc : c) (h : B) : if (!decide c) = true then A else B := by
  rw [decide_eq_true hc]
  exact iteF h
def Same (H H' : Hp) : Prop := ∀ b o, H b = some o -> H' b = some o
theorem Same.refl (H : Hp) : Same H H := fun _ _ h => h
theorem Same.trans {H H1 H2 : Hp} (a : Same H H1) (b : Same H1 H2) : Same H H2 := fun c o h => b c o (a c o h)
theorem Same.free {H H' : Hp} (e : Same H H') {l : Addr} (h : H' l = Option.none) : H l = Option.none := by
  cases q : H l with
  | none => rfl
  | some o =>
    rw [e l o q] at h
    cases h
theorem Same.seq {K : PySem.W.Frag} {H H' : Hp} {a : Addr} {xs : List V} (e : Same H H') (h : SqL K H a xs) : SqL K H' a xs := by
  rcases h with (h | ⟨o, h⟩) | h
  · exact .inl (.inl (e _ _ h))
  · exact .inl (.inr ⟨o, e _ _ h⟩)
  · exact .inr h
end L2
set_option maxHeartbeats 4000000
namespace L2
open PySem PySem.Spec PyProof.Rows
section
variable {κ : Type} [DecidableEq κ]
end
section
variable {P : Program} {w : World} {H : Hp} {h : Heap} {a : Addr}
end
section
variable {X : Cx} {pins : List (Addr × Obj)} {σ : St} {H : Hp} {s : Shared} {a : Addr} {y v : V} {u r : Value} {o : Option V} {A : Around} {E : Value -> Shared -> Prop}
end
section
variable {X : Cx} {pins : List (Addr × Obj)} {σ : St} {H : Hp} {s : Shared} {a : Addr} {kvs : List (Key × V)} {k : Key} {u : Value} {A : Around} {E : Value -> Shared -> Prop}
end
section
variable {X : Cx} {o i e value : Expr} {pos pos' tpos : Pos} {td ty tv : TE}
end
section
variable {X : Cx} {pos : Pos}
end
structure M1 (X : Cx) (o : Expr) (m : Str) (apos : Pos) (e : Expr) (cpos : Pos) : Prop where
  base : attributeBase o m X.env (eval o X.env) = eval o X.env
  few : ((backTo cpos (starEach [e] X.env)).all (fun x => !x.1) && (backToKw cpos (keywordEach [] X.env)).all (fun x => x.1.isSome)
    && decide (([e] : List Expr).length + ([] : List Keyword).length + (if ([] : List Keyword).isEmpty then 0 else 1) < 30)) = true
  line : (apos.endLine == cpos.line) = true
  trees : backTo cpos (starEach [e] X.env) = [(false, eval e X.env)]
structure M2 (X : Cx) (o : Expr) (m : Str) (apos : Pos) (e f : Expr) (cpos : Pos) : Prop where
  base : attributeBase o m X.env (eval o X.env) = eval o X.env
  few : ((backTo cpos (starEach [e, f] X.env)).all (fun x => !x.1) && (backToKw cpos (keywordEach [] X.env)).all (fun x => x.1.isSome)
    && decide (([e, f] : List Expr).length + ([] : List Keyword).length + (if ([] : List Keyword).isEmpty then 0 else 1) < 30)) = true
  line : (apos.endLine == cpos.line) = true
  trees : backTo cpos (starEach [e, f] X.env) = [(false, eval e X.env), (false, eval f X.env)]
def IsD (H : Hp) (a : Addr) : Prop := (∃ kvs, Rd H a (.dK kvs)) \/ ∃ kvs, Rd H a (.dT kvs)
section
variable {X : Cx} {pins : List (Addr × Obj)} {σ : St} {H : Hp} {s : Shared} {a : Addr} {y d : V} {u r : Value} {o : Option V} {A : Around} {E : Value -> Shared -> Prop}
end
section
variable {X : Cx} {o e f : Expr} {apos cpos : Pos} {td ty tx : TE}
end
section
variable {X : Cx} {pins : List (Addr × Obj)} {σ : St} {H : Hp} {s : Shared} {a : Addr} {kvs : List (Key × V)} {A : Around} {E : Value -> Shared -> Prop}
end
section
variable {X : Cx} {pins : List (Addr × Obj)} {σ : St} {H : Hp} {s : Shared} {a : Addr} {y : V} {u : Value} {A : Around} {E : Value -> Shared -> Prop}
end
end L2
namespace L2
open PySem PySem.Spec PyProof.Rows
theorem forIn_step {α β : Type} {f : α -> β -> Sem (ForInStep β)} {g : β -> α -> β} : ∀ (l : List α) (c : β), (∀ x ∈ l, ∀ c, f x c = pure (.yield (g c x))) -> forIn l c f = pure (l.foldl g c)
  | [], c, _ => rfl
  | x :: l, c, h => by
    rw [List.forIn_cons, h x List.mem_cons_self, pure_bind]
    exact forIn_step l (g c x) fun y hy => h y (List.mem_cons_of_mem _ hy)
def clStep (env : Env) (c : List (Str × Addr)) (x : Str × NameKind) : List (Str × Addr) := if x.2 == .free then (x.1, (env.cells.lookup x.1).getD 0) :: c else c
theorem clStep_free {env : Env} {c : List (Str × Addr)} {n : Str} {a : Addr} (e : env.cells.lookup n = some a) : clStep env c (n, .free) = (n, a) :: c := by
  unfold clStep
  rw [if_pos (by rfl)]
  show (n, (env.cells.lookup n).getD 0) :: c = _
  rw [e]; rfl
theorem clStep_not {env : Env} {c : List (Str × Addr)} {n : Str} {k : NameKind} (h : k ≠ .free) : clStep env c (n, k) = c := by
  unfold clStep
  rw [if_neg (by simpa using h)]
theorem look_cons {x n : Str} {a : Addr} {c : List (Str × Addr)} : ((n, a) :: c).lookup x = if x = n then some a else c.lookup x := by
  by_cases h : x = n
  · subst h; simp
  · rw [if_neg h, List.lookup_cons, show (x == n) = false by simpa using h]
theorem cl_fold {env : Env} : ∀ (l : List (Str × NameKind)) (c : List (Str × Addr)), (∀ x ∈ l, x.2 = .free -> ∃ a, env.cells.lookup x.1 = some a) -> (∀ x a, c.lookup x = some a -> env.cells.lookup x = some a) ->
    (∀ x a, (l.foldl (clStep env) c).lookup x = some a -> env.cells.lookup x = some a) /\ (∀ x, (∃ a, c.lookup x = some a) -> ∃ a, (l.foldl (clStep env) c).lookup x = some a) /\
    (∀ y ∈ l, y.2 = .free -> ∃ a, (l.foldl (clStep env) c).lookup y.1 = some a)
  | [], c, _, h2 => ⟨h2, fun _ h => h, fun y hy => absurd hy (by simp)⟩
  | (n, k) :: l, c, h1, h2 => by
    have h1' : ∀ x ∈ l, x.2 = .free -> ∃ a, env.cells.lookup x.1 = some a := fun x hx => h1 x (List.mem_cons_of_mem _ hx)
    rw [List.foldl_cons]
    by_cases hk : k = .free
    · subst hk
      obtain ⟨a0, e0⟩ := h1 (n, .free) List.mem_cons_self rfl
      rw [clStep_free e0]
      obtain ⟨q1, q2, q3⟩ := cl_fold l ((n, a0) :: c) h1' fun x a e => by
        rw [look_cons] at e
        split at e
        · rename_i hx; rw [hx, <- e]; exact e0
        · exact h2 x a e
      refine ⟨q1, fun x ⟨a, e⟩ => q2 x ?_, fun y hy hf => ?_⟩
      · rw [look_cons]; split
        · exact ⟨_, rfl⟩
        · exact ⟨a, e⟩
      · rcases List.mem_cons.mp hy with rfl | hy
        · exact q2 _ ⟨a0, by rw [look_cons, if_pos rfl]⟩
        · exact q3 y hy hf
    · rw [clStep_not hk]
      obtain ⟨q1, q2, q3⟩ := cl_fold l c h1' h2
      refine ⟨q1, q2, fun y hy hf => ?_⟩
      rcases List.mem_cons.mp hy with rfl | hy
      · exact absurd hf hk
      · exact q3 y hy hf
theorem closure_ok {sc : Scope} {env : Env} (h : ∀ x ∈ sc.names, x.2 = .free -> ∃ a, env.cells.lookup x.1 = some a) : closureFor sc env = pure (sc.names.foldl (clStep env) []) := by
  simp only [closureFor]
  rw [forIn_step (g := clStep env) sc.names [] (fun x hx c => ?_)]
  · rfl
  · obtain ⟨n, k⟩ := x
    by_cases hk : k = .free
    · subst hk
      obtain ⟨a, e⟩ := h _ hx rfl
      rw [clStep_free e]
      have e' : cellOf env n = pure a := by unfold cellOf; rw [show env.cells.lookup n = some a from e]
      simp [e']
    · rw [clStep_not hk]
      simp [hk]
theorem lc_loop {prog : Program} {w : World} {A : Around} {R : Result -> Shared -> Prop} {s : Shared} {elt tg it₀ : Expr} {ifs : List Expr} {sc : Scope} {pos : Pos} {it acc : Value} {env : Env} (J : Nat -> Shared -> Prop)
    (step : ∀ k st, J k st -> wpAny (model prog w) A (pyNext it) (fun r st1 => match r with
      | none => R (.ok .next) st1
      | some v => wpAny (model prog w) A (letOwnedTupleGo tg it v) (fun _ st2 => wpAny (model prog w) A (assign tg env v) (fun _ st3 =>
          wpAny (model prog w) A (forIn ifs true fun c r => if r = true then do let ok <- isTrue c env (eval c env); pure (ForInStep.yield ok) else pure (ForInStep.yield r)) (fun ok st4 =>
            if ok = true then wpAny (model prog w) A (eval elt env) (fun x st5 => wpAny (model prog w) A (call (.builtin "list.append") [acc, x]) (fun _ st6 => ∃ m, m < k /\ J m st6) (fun _ _ => False) st5) (fun _ _ => False) st4
            else ∃ m, m < k /\ J m st4) (fun _ _ => False) st3) (fun _ _ => False) st2) (fun _ _ => False) st1) (fun _ _ => False) st)
    (k₀ : Nat) (h₀ : J k₀ s) : codeAny (model prog w) A (.compLoop (.ListComp elt [⟨tg, it₀, ifs, 0⟩] sc pos) 0 it acc env) R s := by
  refine codeAny_loop rfl J (fun k st hJ => ?_) k₀ h₀
  show wpAny _ A ((compTurn (.ListComp elt [⟨tg, it₀, ifs, 0⟩] sc pos) 0 it acc env).onRaise (fun x => do noteFrame x env; theTreesLotGoes x)) _ _ st
  refine wpAny_noted ?_
  rw [compTurn_list]
  refine wpAny_bind (wpAny_standAt (wpAny_bind (wpAny_mono (step k st hJ) (fun r st1 q1 => ?_) fun _ _ z => z.elim)))
  cases r with
  | none => exact wpAny_pure q1
  | some v =>
    refine wpAny_bind (wpAny_mono q1 (fun _ st2 q2 => ?_) fun _ _ z => z.elim)
    refine wpAny_bind (wpAny_mono q2 (fun _ st3 q3 => wpAny_bind (wpAny_mono q3 (fun ok st4 q4 => ?_) fun _ _ z => z.elim)) fun _ _ z => z.elim)
    cases ok with
    | false => exact wpAny_pure ⟨rfl, q4⟩
    | true => exact wpAny_bind (wpAny_bind (wpAny_mono q4 (fun x st5 q5 => wpAny_bind (wpAny_mono q5 (fun _ st6 q6 => wpAny_pure (wpAny_pure ⟨rfl, q6⟩)) fun _ _ z => z.elim)) fun _ _ z => z.elim))
theorem relabel_look (c : Str -> NameKind -> Bool) (x : Str) : ∀ names : List (Str × NameKind), (names.map fun (n, k) => if c n k = true then (n, NameKind.cell) else (n, k)).lookup x = (names.lookup x).map fun k => if c x k = true then NameKind.cell else k
  | [] => rfl
  | (n, k) :: r => by
    have ih := relabel_look c x r
    rw [List.map_cons]
    by_cases h : x = n
    · subst h
      by_cases hc : c x k = true
      · simp [hc]
      · simp [hc]
    · have hb : (x == n) = false := by simpa using h
      have e1 : ((if c n k = true then (n, NameKind.cell) else (n, k)) :: (r.map fun (n, k) => if c n k = true then (n, NameKind.cell) else (n, k))).lookup x = (r.map fun (n, k) => if c n k = true then (n, NameKind.cell) else (n, k)).lookup x := by
        by_cases hc : c n k = true
        · rw [if_pos hc, List.lookup_cons, hb]
        · rw [if_neg hc, List.lookup_cons, hb]
      refine e1.trans (ih.trans ?_)
      rw [List.lookup_cons, hb]
theorem relabel_kind {sc : Scope} {env : Env} {x : Str} : (relabel sc env).names.lookup x = (sc.names.lookup x).map fun k => if (k == .free && env.scope.kind == .function && env.kindOf x == some .cell) = true then NameKind.cell else k :=
  relabel_look (fun n k => k == .free && env.scope.kind == .function && env.kindOf n == some .cell) x sc.names
theorem relabel_free {sc : Scope} {env : Env} {x : Str} (h : sc.names.lookup x = some .free) : (relabel sc env).names.lookup x = some .cell \/ (relabel sc env).names.lookup x = some .free := by
  rw [relabel_kind, h, Option.map_some]
  split
  · exact .inl rfl
  · exact .inr rfl
theorem relabel_of {sc : Scope} {env : Env} {x : Str} (hc : sc.names.lookup x ≠ some .cell) (h : (relabel sc env).names.lookup x = some .cell \/ (relabel sc env).names.lookup x = some .free) : sc.names.lookup x = some .free := by
  rw [relabel_kind] at h
  cases e : sc.names.lookup x with
  | none => rw [e] at h; simp at h
  | some k =>
    rw [e, Option.map_some] at h
    cases k <;> simp_all
theorem Inv.adopt {X : Cx} {pins : List (Addr × Obj)} {σ : St} {H : Hp} {s : Shared} {a : Addr} {o : HO} (I : Inv X pins σ H s) (hn : H a = none) (ho : ObjOk X.prog X.w (upd H a o) s.heap a o) (hs : X.s₀.heap.objs.size <= a) (hL : a ≠ X.env.locals)
    (hc : ∀ x c, X.env.cells.lookup x = some c -> c ≠ a) (hp : ∀ p ∈ X.pn ++ pins, p.1 ≠ a) : Inv X pins σ (upd H a o) s := by
  have ne : ∀ b u, H b = some u -> b ≠ a := fun b u e z => by rw [z, hn] at e; cases e
  refine ⟨I.ok, I.os, I.bare, ⟨I.base.keep, I.base.slot, fun b u e n hx => ?_, I.base.there, fun b xs e => ?_, fun b u v e => ?_, fun b ps e => ?_⟩, I.loc, I.cell, ?_, fun x c e => ?_, fun p q => ?_, fun b u e => ?_, I.len⟩
  · rw [upd_ne (Nat.ne_of_lt (Nat.lt_of_lt_of_le (Heap.lt_size e) hs))]
    exact I.base.free b u e n hx
  · have q := I.base.tups b xs e
    rw [upd_ne (ne _ _ q)]; exact q
  · have q := I.base.frzs b u v e
    rw [upd_ne (ne _ _ q)]; exact q
  · obtain ⟨m, q⟩ := I.base.tbls b ps e
    exact ⟨m, by rw [upd_ne (ne _ _ q)]; exact q⟩
  · rw [upd_ne hL.symm]; exact I.free
  · rw [upd_ne (hc x c e)]; exact I.freeC x c e
  · obtain ⟨q1, q2, q3⟩ := I.pin p q
    exact ⟨q1, by rw [upd_ne (hp p q)]; exact q2, q3⟩
  · by_cases hb : b = a
    · subst hb
      rw [upd_same] at e
      cases e
      exact ho
    · rw [upd_ne hb] at e
      exact (I.hok b u e).stay (fun _ _ _ q => q) (fun c q => by rw [upd_ne (ne _ _ q)]; exact q) fun c xs q => by rw [upd_ne (ne _ _ q)]; exact q
structure LcScope (N : List Str) (osc sc : Scope) (NB : List Str) (nt : Nat) (fr : List Nat) : Prop where
  kind : sc.kind = .function
  nocell : ∀ y ∈ sc.names, y.2 ≠ .cell
  locs : ∀ y ∈ sc.names, y.2 = .local -> sc.names.lookup y.1 = some .local
  len : NB.length = nt + fr.length
  frN : ∀ (j i : Nat), fr[j]? = some i -> NB[nt + j]? = N[i]?
  frF : ∀ (j : Nat) (x : Str), j < fr.length -> NB[nt + j]? = some x -> sc.names.lookup x = some .free
  out : ∀ y ∈ sc.names, y.2 = .free -> osc.names.lookup y.1 = some .cell \/ osc.names.lookup y.1 = some .free
def lcOk (N : List Str) (osc sc : Scope) (NB : List Str) (nt : Nat) (fr : List Nat) : Bool :=
  decide (sc.kind = .function) && sc.names.all (fun y => !decide (y.2 = .cell)) && sc.names.all (fun y => !decide (y.2 = .local) || decide (sc.names.lookup y.1 = some .local)) && decide (NB.length = nt + fr.length) &&
  (List.range fr.length).all (fun j => decide (NB[nt + j]? = N[fr.getD j 0]?) && (match NB[nt + j]? with | some x => decide (sc.names.lookup x = some .free) | none => false)) &&
  sc.names.all (fun y => !decide (y.2 = .free) || (decide (osc.names.lookup y.1 = some .cell) || decide (osc.names.lookup y.1 = some .free)))
theorem lcOk.mk {N : List Str} {osc sc : Scope} {NB : List Str} {nt : Nat} {fr : List Nat} (h : lcOk N osc sc NB nt fr = true) : LcScope N osc sc NB nt fr := by
  unfold lcOk at h
  simp only [Bool.and_eq_true, List.all_eq_true, decide_eq_true_eq, Bool.or_eq_true, Bool.not_eq_true', decide_eq_false_iff_not, List.mem_range] at h
  obtain ⟨⟨⟨⟨⟨h1, h2⟩, h3⟩, h4⟩, h5⟩, h6⟩ := h
  have lt : ∀ {j i : Nat}, fr[j]? = some i -> j < fr.length := fun e => (List.getElem?_eq_some_iff.mp e).1
  refine ⟨h1, fun y hy => h2 y hy, fun y hy e => (h3 y hy).resolve_left fun z => z e, h4, fun j i e => ?_, fun j x hj e => ?_, fun y hy e => (h6 y hy).resolve_left fun z => z e⟩
  · have q := (h5 j (lt e)).1
    rw [q]
    rw [show fr.getD j 0 = i by rw [List.getD_eq_getElem?_getD, e]; rfl]
  · have q := (h5 j hj).2
    rw [e] at q
    simpa using q
abbrev Cx.blk (X : Cx) (NB : List Str) (sc : Scope) (cl : List (Str × Addr)) (C : Addr) (s₀ : Shared) (H₀ : Hp) (ex : List Addr) : Cx :=
  { X with N := NB, s₀ := s₀, H₀ := H₀, env := compEnvC sc cl C X.env, outer := X.stack, ex := ex, fn := fun _ => false, pn := [], xe := fun _ _ => False }
def lcSt (nt : Nat) (fr : List Nat) (σ : St) : St := List.replicate nt none ++ fr.map fun i => (σ[i]?).join
theorem blk_inv {X : Cx} {pins : List (Addr × Obj)} {σ : St} {H : Hp} {s3 s4 : Shared} {sc : Scope} {NB : List Str} {nt : Nat} {fr : List Nat} {cl : List (Str × Addr)} {C : Addr} {ex : List Addr} (I : Inv X pins σ H s3) (S : LcScope X.N X.env.scope sc NB nt fr)
    (P1 : ∀ x a, cl.lookup x = some a -> X.env.cells.lookup x = some a) (P2 : ∀ y ∈ sc.names, y.2 = .free -> ∃ a, cl.lookup y.1 = some a)
    (hC : C = s3.heap.objs.size) (hn : ∃ m, s4.heap.Ns C m) (hk : ∀ b o, s3.heap.get? b = some o -> s4.heap.get? b = some o) (hos : s4.os = s3.os) (hgn : s4.gens = s3.gens)
    (hex : ∀ b ∈ ex, FpOk X pins H b /\ b < s3.heap.objs.size) : Inv (X.blk NB sc cl C s3 H ex) [] (lcSt nt fr σ) H s4 := by
  have hcell : ∀ x, sc.names.lookup x ≠ some .cell := fun x e => S.nocell _ (PySem.mem_of_lookup e) rfl
  have isC : ∀ c v, s3.heap.IsCell c v -> s4.heap.IsCell c v := fun c v ⟨o, ho, hd⟩ => ⟨o, hk _ _ ho, hd⟩
  obtain ⟨m, hn⟩ := hn
  refine ⟨⟨I.ok.mod, S.kind, I.ok.glob, I.ok.blt, Nat.le_of_eq hC.symm, fun x y c e1 e2 => I.ok.inj x y c (P1 x c e1) (P1 y c e2), fun x hx => ?_, fun x c h => ?_, I.ok.hd, I.ok.frames, .inl rfl, fun b hb => ?_, I.bs, Nat.le_trans I.ok.bsz I.sz, fun b o e hb => ?_, fun b hb hf => ?_, I.stack, I.stkFree⟩,
    hos, hgn ▸ I.bare, Un.kept hk, ⟨m, hn, fun j x v e1 e2 e3 => ?_⟩, fun x c e => ?_, I.hok.fresh (Nat.le_of_eq hC.symm), fun x c e => I.freeC x c (P1 x c e), fun p hp => absurd (show p ∈ ([] : List (Addr × Obj)) from hp) (by simp), I.hok.kept hk, ?_⟩
  · exact P2 (x, .free) (PySem.mem_of_lookup (relabel_of (hcell x) hx)) rfl
  · exact Bool.noConfusion (show false = true from h)
  · obtain ⟨f, hl⟩ := hex b hb
    exact ⟨by rw [hC]; exact Nat.ne_of_lt hl, fun x c e => f.2.2.2.2.1 x c (P1 x c e)⟩
  · obtain ⟨f, _⟩ := hex b hb
    rcases f.2.2.2.1 with z | z
    · exact I.ok.noex b o e z
    · exact absurd (Nat.lt_of_lt_of_le (Nat.lt_of_lt_of_le (Heap.lt_size e) I.ok.bsz) z) (Nat.lt_irrefl _)
  · obtain ⟨f, _⟩ := hex b hb
    rcases List.mem_cons.mp (I.stkSub b hf) with z | z
    · exact f.2.1 z
    · exact f.2.2.1 z
  · have e2' : (List.replicate nt none ++ fr.map fun i => (σ[i]?).join)[j]? = some (some v) := e2
    by_cases hj : j < nt
    · rw [List.getElem?_append_left (by simpa using hj), List.getElem?_replicate, if_pos hj] at e2'
      cases e2'
    · rw [List.getElem?_append_right (by simpa using Nat.le_of_not_lt hj), List.length_replicate, List.getElem?_map] at e2'
      obtain ⟨k, rfl⟩ : ∃ k, j = nt + k := ⟨j - nt, by omega⟩
      rw [show nt + k - nt = k by omega] at e2'
      cases ei : fr[k]? with
      | none => rw [ei] at e2'; cases e2'
      | some i =>
        rw [ei] at e2'
        have e2'' : (σ[i]?).join = some v := Option.some.inj e2'
        have es : σ[i]? = some (some v) := by
          cases q : σ[i]? with
          | none => rw [q] at e2''; cases e2''
          | some w' => rw [q] at e2''; exact congrArg some e2''
        have kl : k < fr.length := (List.getElem?_eq_some_iff.mp ei).1
        have ex' : X.N[i]? = some x := by rw [<- S.frN k i ei]; exact e1
        have ef := S.frF k x kl e1
        have eo := S.out _ (PySem.mem_of_lookup ef) rfl
        obtain ⟨m', _, hl⟩ := I.loc
        obtain ⟨u, r, l⟩ := hl i x v ex' es (eo.elim (fun z => .inr (.inl z)) fun z => .inr (.inr z))
        refine ⟨u, r, .inr ⟨relabel_free ef, ?_⟩⟩
        obtain ⟨c, ec⟩ := P2 _ (PySem.mem_of_lookup ef) rfl
        refine ⟨c, ec, ?_⟩
        rcases l with ⟨z, _⟩ | ⟨_, c', ec', hc'⟩
        · have z' : X.env.scope.names.lookup x = some .local := z
          rcases eo with q | q
          · rw [show X.env.scope.names.lookup x = _ from q] at z'; cases z'
          · rw [show X.env.scope.names.lookup x = _ from q] at z'; cases z'
        · have := P1 x c ec
          rw [ec'] at this
          cases this
          exact isC _ _ hc'
  · obtain ⟨v, z⟩ := I.cell x c (P1 x c e)
    exact ⟨v, isC _ _ z⟩
  · show (List.replicate nt none ++ fr.map fun i => (σ[i]?).join).length = NB.length
    rw [List.length_append, List.length_replicate, List.length_map, S.len]
def PTs (X : Cx) (ifs : List Expr) (t : TT) : Prop :=
  ∀ (pins : List (Addr × Obj)) (s : Shared) (σ : St) (H : Hp) (Q : Bool -> Hp -> Prop), Inv X pins σ H s -> t σ H Q ->
    wpAny (model X.prog X.w) X.A (forIn ifs true fun c r => if r = true then do let ok <- isTrue c X.env (eval c X.env); pure (ForInStep.yield ok) else pure (ForInStep.yield r)) (TP X pins σ Q) X.xe s
def tYes : TT := fun _ H Q => Q true H
theorem pts_nil {X : Cx} : PTs X [] tYes := fun _ _ _ H _ I h => wpAny_tests_nil ⟨H, I, h⟩
theorem pts_one {X : Cx} {c : Expr} {t : TT} (h : PT X c t) : PTs X [c] t := fun pins s σ H Q I q => wpAny_tests_one (h pins s σ H Q I q)
def LcW (J : It) (g : TG) (tc : TT) (te : TE) (Fin : List V -> Hp -> Prop) (σ₀ : St) (H : Hp) : Prop := ∃ W : Nat -> Nat -> St -> List V -> Hp -> Prop, (∃ m, W 0 m σ₀ [] H) /\ ∀ i m σ ys H, W i m σ ys H -> ys.length < sizeLine /\
  ((J.stop i H /\ Fin ys H) \/ (J.go i H /\ ∃ N : St -> List V -> Hp -> Prop, (∀ σ' ys' H', N σ' ys' H' -> ∃ m', m' < m /\ W (i + 1) m' σ' ys' H') /\
    ∀ x H', J.yld i H x H' -> g x σ H' fun σ2 H2 => tc σ2 H2 fun b H3 => if b = true then te σ2 H3 fun v H4 => N σ2 (ys ++ [v]) H4 else N σ2 ys H3))
def tLC (nt : Nat) (fr : List Nat) (wi : TI) (g : TG) (tc : TT) (te : TE) : TE := fun σ H Q => wi σ H fun J H1 => LcW J g tc te (fun ys H2 => ∀ D, H2 D = none -> Q (.ref D) (upd H2 D (.lst ys))) (lcSt nt fr σ) H1
theorem lc_core {X : Cx} {pins : List (Addr × Obj)} {σ : St} {H2 : Hp} {s2 : Shared} {sc : Scope} {NB : List Str} {nt : Nat} {fr : List Nat} {cl : List (Str × Addr)} {tg iter elt : Expr} {ifs : List Expr} {pos : Pos} {g : TG} {tc : TT} {te : TE} {J : It} {fp : List Addr} {it : Addr}
    {tn : Nat -> Heap -> Prop} {Fin : List V -> Hp -> Prop} {E : Value -> Shared -> Prop} (hcalm : X.calm = true) (S : LcScope X.N X.env.scope sc NB nt fr)
    (P1 : ∀ x a, cl.lookup x = some a -> X.env.cells.lookup x = some a) (P2 : ∀ y ∈ sc.names, y.2 = .free -> ∃ a, cl.lookup y.1 = some a)
    (hg : ∀ cl C s₀ H₀ ex, PG (X.blk NB sc cl C s₀ H₀ ex) tg g) (ht : ∀ cl C s₀ H₀ ex, PTs (X.blk NB sc cl C s₀ H₀ ex) ifs tc) (he : ∀ cl C s₀ H₀ ex, PE (X.blk NB sc cl C s₀ H₀ ex) elt te)
    (I2 : Inv X pins σ H2 s2) (T : Turn X.prog X.w X.K tg J fp it tn) (st2 : tn 0 s2.heap) (f2 : ∀ b ∈ fp, FpOk X pins H2 b) (hw : LcW J g tc te Fin (lcSt nt fr σ) H2) {RR : Value -> Addr -> Result -> Shared -> Prop}
    (hRR : ∀ D C s' H' ys, Fin ys H' -> H' D = none -> Inv X pins σ (upd H' D (.lst ys)) s' -> FpOk X pins (upd H' D (.lst ys)) C -> (∃ m, s'.heap.Ns C m) -> RR (.ref D) C (.ok .next) s') :
    wpAny (model X.prog X.w) X.A (newList []) (fun acc s₃ => wpAny (model X.prog X.w) X.A (newFunctionEnv sc X.env.globals cl [] X.env.qual none .none (some X.env)) (fun cenv s₄ =>
      codeAny (model X.prog X.w) X.A (.compStart (.ListComp elt [⟨tg, iter, ifs, 0⟩] sc pos) 0 (.ref it) acc { cenv with scope := relabel sc X.env }) (RR acc cenv.locals) s₄) E s₃) E s2 := by
  obtain ⟨W, ⟨m0, w0⟩, turn⟩ := hw
  refine wpAny_newObj_type (wpAny_newFunctionEnv S.nocell (by intro y hy; simp at hy) (fun h1 hns hsb => ?_) S.kind)
  dsimp only at hns hsb ⊢
  generalize hH : s2.heap.push { cls := .type "list", dict := none, data := .seq ([] : List Value).toArray } = hp at hns hsb ⊢
  have eC : hp.objs.size = s2.heap.objs.size + 1 := by rw [<- hH, Heap.size_push]
  have k3 : ∀ b o, s2.heap.get? b = some o -> hp.get? b = some o := fun b o e => by rw [<- hH]; exact Heap.get?_push_of_some _ e
  have I3 : Inv X pins σ H2 { s2 with heap := hp } := I2.kept (t' := s2.toks) k3
  have oD : hp.get? s2.heap.objs.size = some { cls := .type "list", data := .seq ([] : List Value).toArray 0 } := by rw [<- hH]; exact Heap.get?_push_size _ rfl
  have k4 : ∀ b o, hp.get? b = some o -> h1.get? b = some o := fun b o e => hsb.extBut b o (Nat.ne_of_lt (Heap.lt_size e)) (Heap.get?_push_of_some _ e)
  have fD : ∀ (H' : Hp), H' s2.heap.objs.size = none -> FpOk X pins H' s2.heap.objs.size := fun H' e => I2.fpOk (Nat.le_refl _) e
  have fC : ∀ (H' : Hp), H' hp.objs.size = none -> FpOk X pins H' hp.objs.size := fun H' e => I3.fpOk (Nat.le_refl _) e
  have nD : H2 s2.heap.objs.size = none := I2.hok.fresh (Nat.le_refl _)
  have lfp : ∀ b ∈ fp, b < s2.heap.objs.size := fun b hb => by
    obtain ⟨o, e, _⟩ := T.obj _ _ st2 b hb
    exact Heap.lt_size e
  have hex : ∀ b ∈ s2.heap.objs.size :: fp, FpOk X pins H2 b /\ b < hp.objs.size := fun b hb => by
    rcases List.mem_cons.mp hb with rfl | hb
    · exact ⟨fD H2 nD, by omega⟩
    · exact ⟨f2 b hb, Nat.lt_of_lt_of_le (lfp b hb) (by rw [eC]; exact Nat.le_succ _)⟩
  have loop : ∀ (s4 : Shared), s4 = { s2 with heap := h1, toks := s2.toks + ([] : List (Str × Value)).length } ->
      codeAny (model X.prog X.w) X.A (.compLoop (.ListComp elt [⟨tg, iter, ifs, 0⟩] sc pos) 0 (.ref it) (.ref s2.heap.objs.size) (compEnvC sc cl hp.objs.size X.env)) (RR (.ref s2.heap.objs.size) hp.objs.size) s4 := by
    rintro s4 rfl
    have IB : Inv (X.blk NB sc cl hp.objs.size { s2 with heap := hp } H2 (s2.heap.objs.size :: fp)) [] (lcSt nt fr σ) H2 { s2 with heap := h1, toks := s2.toks + ([] : List (Str × Value)).length } :=
      blk_inv (s3 := { s2 with heap := hp }) I3 S P1 P2 rfl ⟨_, hns⟩ k4 rfl rfl hex
    have stat : ∀ {H' : Hp} {pl : List (Addr × Obj)}, (∀ b ∈ fp, H' b = none) -> (∀ p ∈ pl, p.1 = s2.heap.objs.size) -> ∀ b ∈ fp, FpOk (X.blk NB sc cl hp.objs.size { s2 with heap := hp } H2 (s2.heap.objs.size :: fp)) pl H' b := fun {H' pl} hn hpl b hb => by
      obtain ⟨f, hl⟩ := hex b (List.mem_cons_of_mem _ hb)
      refine ⟨hn b hb, Nat.ne_of_lt hl, fun z => ?_, .inl (List.mem_cons_of_mem _ hb), fun x c e => f.2.2.2.2.1 x c (P1 x c e), fun p hp' => ?_⟩
      · rcases List.mem_cons.mp (I3.stkSub b z) with q | q
        · exact f.2.1 q
        · exact f.2.2.1 q
      · rw [hpl p hp']
        exact Nat.ne_of_gt (lfp b hb)
    refine lc_loop (fun n s' => ∃ i σ' ys its H', Inv (X.blk NB sc cl hp.objs.size { s2 with heap := hp } H2 (s2.heap.objs.size :: fp)) [] σ' H' s' /\ tn i s'.heap /\ (∀ b ∈ fp, H' b = none) /\ H' s2.heap.objs.size = none /\
      (∃ e, s'.heap.get? s2.heap.objs.size = some { cls := .type "list", data := .seq (List.toArray its) e }) /\ Vals ys its /\ W i n σ' ys H') ?_ m0
      ⟨0, _, [], [], H2, IB, T.keep _ _ _ st2 fun b _ o e => k4 b o (k3 b o e), fun b hb => (f2 b hb).1, nD, ⟨0, k4 _ _ oD⟩, .nil, w0⟩
    rintro n s5 ⟨i, σ5, ys, its, H5, I5, st5, fr5, nD5, ⟨e5, o5⟩, rv, w5⟩
    have pinD : ∀ {σ' : St} {H' : Hp} {s' : Shared} {o : Obj}, Inv (X.blk NB sc cl hp.objs.size { s2 with heap := hp } H2 (s2.heap.objs.size :: fp)) [] σ' H' s' -> s'.heap.get? s2.heap.objs.size = some o -> (∀ v, o.data ≠ .cell v) -> H' s2.heap.objs.size = none ->
        Inv (X.blk NB sc cl hp.objs.size { s2 with heap := hp } H2 (s2.heap.objs.size :: fp)) [(s2.heap.objs.size, o)] σ' H' s' := fun {σ' H' s' o} J' eo ed en => J'.pins_of fun p hp' => by
      have ep : p = (s2.heap.objs.size, o) := by simpa using hp'
      subst ep
      refine ⟨eo, en, by show s2.heap.objs.size ≠ hp.objs.size; omega, fun z => ?_, ed⟩
      rcases List.mem_cons.mp (I3.stkSub _ z) with q | q
      · exact (fD H2 nD).2.1 q
      · exact (fD H2 nD).2.2.1 q
    obtain ⟨hlen, way⟩ := turn i n σ5 ys H5 w5
    rcases way with ⟨stop, fin⟩ | ⟨go, N, hN, step⟩
    · refine wpAny_mono (T.done (X.blk NB sc cl hp.objs.size { s2 with heap := hp } H2 (s2.heap.objs.size :: fp)) rfl rfl rfl hcalm i [(s2.heap.objs.size, _)] s5 σ5 H5 (fun _ _ => False) (pinD I5 o5 (fun v z => nomatch z) nD5) (stat fr5 (by simp)) st5 stop) (fun r s6 ⟨hr, I6⟩ => ?_) fun _ _ z => z
      subst hr
      have o6 := (I6.pin (s2.heap.objs.size, _) (List.mem_append_right _ (List.mem_singleton.mpr rfl))).1
      have I6' : Inv X pins σ H5 s6 := I3.call' (ch := s2.heap.objs.size :: fp) I6.os I6.base I6.hok I6.bare fun b hb => by
        obtain ⟨f, _⟩ := hex b hb
        exact ⟨f.2.2.2.1, f.2.1, f.2.2.2.2.1, f.2.2.2.2.2⟩
      obtain ⟨mC, hmC, _⟩ := I6.loc
      have fD' := fD H5 nD5
      have I7 : Inv X pins σ (upd H5 s2.heap.objs.size (.lst ys)) s6 := I6'.adopt nD5 ⟨Nat.le_of_lt hlen, its, _, rv, o6⟩ I2.sz fD'.2.1 fD'.2.2.2.2.1 fD'.2.2.2.2.2
      refine hRR _ _ s6 H5 ys fin nD5 I7 (fC _ ?_) ⟨mC, hmC⟩
      rw [upd_ne (by show hp.objs.size ≠ s2.heap.objs.size; omega)]
      exact I6.free
    · refine wpAny_mono (T.item (X.blk NB sc cl hp.objs.size { s2 with heap := hp } H2 (s2.heap.objs.size :: fp)) rfl rfl rfl hcalm i [(s2.heap.objs.size, _)] s5 σ5 H5 (fun _ _ => False) (pinD I5 o5 (fun v z => nomatch z) nD5) (stat fr5 (by simp)) st5 go) (fun r s6 ⟨u, hr, h6⟩ => ?_) fun _ _ z => z
      subst hr
      refine wpAny_mono h6 (fun _ s7 ⟨x, H7, I7, r7, y7, st7, fr7⟩ => ?_) fun _ _ z => z
      have n7 := (I7.pin (s2.heap.objs.size, _) (List.mem_append_right _ (List.mem_singleton.mpr rfl))).2.1
      have I7' := I7.pinned (stat fr7 (by simp)) (T.obj _ _ st7)
      refine wpAny_mono (hg _ _ _ _ _ _ s7 σ5 H7 x u _ I7' r7 (step x H7 y7)) (fun _ s8 ⟨σ8, H8, I8, q8⟩ => ?_) fun _ _ z => z
      refine wpAny_mono (ht _ _ _ _ _ _ s8 σ8 H8 _ I8 q8) (fun ok s9 ⟨H9, I9, q9⟩ => ?_) fun _ _ z => z
      have back : ∀ {H' : Hp} {s' : Shared} {ys' : List V}, Inv (X.blk NB sc cl hp.objs.size { s2 with heap := hp } H2 (s2.heap.objs.size :: fp)) ([(s2.heap.objs.size, { cls := .type "list", data := .seq its.toArray e5 })] ++ pinsAt fp s7.heap) σ8 H' s' ->
          tn (i + 1) s'.heap /\ (∀ b ∈ fp, H' b = none) /\ H' s2.heap.objs.size = none /\ s'.heap.get? s2.heap.objs.size = some { cls := .type "list", data := .seq its.toArray e5 } := fun {H' s' ys'} I' => by
        have pD := I'.pin (s2.heap.objs.size, _) (List.mem_append_right _ (List.mem_append_left _ (List.mem_singleton.mpr rfl)))
        refine ⟨T.keep _ _ _ st7 fun b hb o e => (I'.pin (b, o) (List.mem_append_right _ (List.mem_append_right _ (mem_pinsAt hb e)))).1, fun b hb => ?_, pD.2.1, pD.1⟩
        obtain ⟨o, e, d⟩ := T.obj _ _ st7 b hb
        exact (I'.pin (b, o) (List.mem_append_right _ (List.mem_append_right _ (mem_pinsAt hb e)))).2.1
      cases ok with
      | false =>
        obtain ⟨m', hm, w'⟩ := hN σ8 ys H9 q9
        obtain ⟨b1, b2, b3, b4⟩ := back (ys' := ys) I9
        exact ⟨m', hm, i + 1, σ8, ys, its, H9, I9.pins_of (fun p hp' => absurd hp' (by simp)), b1, b2, b3, ⟨_, b4⟩, rv, w'⟩
      | true =>
        refine wpAny_mono (he _ _ _ _ _ _ s9 σ8 H9 _ I9 q9) (fun y sa ⟨v, Ha, Ia, ra, qa⟩ => ?_) fun _ _ z => z
        obtain ⟨m', hm, w'⟩ := hN σ8 (ys ++ [v]) Ha qa
        obtain ⟨b1, b2, b3, b4⟩ := back (ys' := ys) Ia
        refine append_at (hsz := by show its.toArray.size <= sizeLine; rw [List.size_toArray, <- rv.length]; exact Nat.le_of_lt hlen) b4 fun h' hs' hD' => ?_
        have I0 : Inv (X.blk NB sc cl hp.objs.size { s2 with heap := hp } H2 (s2.heap.objs.size :: fp)) [] σ8 Ha sa := Ia.pins_of (fun p hp' => absurd hp' (by simp))
        refine ⟨m', hm, i + 1, σ8, ys ++ [v], its ++ [y], Ha, I0.turned (t' := sa.toks) (fun b o hb e => hs'.extBut b o hb e) b3 (by show s2.heap.objs.size ≠ hp.objs.size; omega) (.inl List.mem_cons_self) (fun x c e => (fD H2 nD).2.2.2.2.1 x c (P1 x c e)) (fun p hp' => absurd hp' (by simp)),
          T.keep _ _ _ b1 fun b hb o e => hs'.extBut b o (Nat.ne_of_lt (lfp b hb)) e, b2, b3, ⟨e5 + 1, ?_⟩, rv.append (.cons ra .nil), w'⟩
        rw [hD', List.push_toArray]
  exact codeAny_compStart_list (loop _ rfl) (T.self _ 0 _ _ _ (T.keep _ _ _ st2 fun b _ o e => k4 b o (k3 b o e)) (loop _ rfl))
theorem pe_lc {X : Cx} {sc : Scope} {NB : List Str} {nt : Nat} {fr : List Nat} {tg iter elt : Expr} {ifs : List Expr} {pos : Pos} {wi : TI} {g : TG} {tc : TT} {te : TE} (hcalm : X.calm = true) (S : lcOk X.N X.env.scope sc NB nt fr = true)
    (hi : PI X tg iter wi) (hg : ∀ cl C s₀ H₀ ex, PG (X.blk NB sc cl C s₀ H₀ ex) tg g) (ht : ∀ cl C s₀ H₀ ex, PTs (X.blk NB sc cl C s₀ H₀ ex) ifs tc) (he : ∀ cl C s₀ H₀ ex, PE (X.blk NB sc cl C s₀ H₀ ex) elt te)
    (hs : ∀ x, foldedSetIterable iter X.env x = pure x := by intro _; rfl) : PE X (.ListComp elt [⟨tg, iter, ifs, 0⟩] sc pos) (tLC nt fr wi g tc te) := by
  intro pins s σ H Q I h
  have S := lcOk.mk S
  have hfree : ∀ x ∈ sc.names, x.2 = .free -> ∃ a, X.env.cells.lookup x.1 = some a := fun x hx e => I.ok.has x.1 (S.out x hx e)
  obtain ⟨P1, _, P2⟩ := cl_fold sc.names [] hfree (fun x a e => by simp at e)
  rw [eval_ListComp]
  refine wpAny_comprehension_free (use := none) rfl hs (closure_ok hfree) S.kind S.locs (thn (hi pins s σ H _ I h) fun xv s1 h1 => thn h1 fun itv s2 h2 => ?_)
  obtain ⟨it, fp, tn, J, H2, rfl, I2, T, st2, f2, hw⟩ := h2
  refine lc_core (RR := fun acc C => compPost (model X.prog X.w) X.A X.xe none (EP X pins σ Q) acc C) hcalm S P1 P2 hg ht he I2 T st2 f2 hw fun D C s' H' ys fin nD I' fC ⟨m, hm⟩ => ?_
  refine ⟨m, hm, fun h' hs' => ⟨.ref D, _, I'.turned (t' := s'.toks) (fun b o hb e => hs'.extBut b o hb e) fC.1 fC.2.1 fC.2.2.2.1 fC.2.2.2.2.1 fC.2.2.2.2.2, rfl, fin D nD⟩⟩
theorem ps_setLC {X : Cx} {sc : Scope} {NB : List Str} {nt : Nat} {fr : List Nat} {tg iter elt : Expr} {ifs : List Expr} {pos spos py : Pos} {wi : TI} {g : TG} {tc : TT} {te : TE} {i : Nat} {y : Str} (hcalm : X.calm = true) (S : lcOk X.N X.env.scope sc NB nt fr = true)
    (hN : X.N.Nodup) (hiy : X.N[i]? = some y) (hy : X.env.scope.names.lookup y = some .local)
    (hi : PI X tg iter wi) (hg : ∀ cl C s₀ H₀ ex, PG (X.blk NB sc cl C s₀ H₀ ex) tg g) (ht : ∀ cl C s₀ H₀ ex, PTs (X.blk NB sc cl C s₀ H₀ ex) ifs tc) (he : ∀ cl C s₀ H₀ ex, PE (X.blk NB sc cl C s₀ H₀ ex) elt te)
    (hsw : swapsWith (.ListComp elt [⟨tg, iter, ifs, 0⟩] sc pos) (some (.Name y py)) spos.line X.env = pure true := by rfl)
    (hs : ∀ x, foldedSetIterable iter X.env x = pure x := by intro _; rfl) : PS X (.Assign [.Name y py] (.ListComp elt [⟨tg, iter, ifs, 0⟩] sc pos) spos) (tAsg (tLC nt fr wi g tc te) (gName i)) := by
  intro pins s σ H D I h
  have S := lcOk.mk S
  have hfree : ∀ x ∈ sc.names, x.2 = .free -> ∃ a, X.env.cells.lookup x.1 = some a := fun x hx e => I.ok.has x.1 (S.out x hx e)
  obtain ⟨P1, _, P2⟩ := cl_fold sc.names [] hfree (fun x a e => by simp at e)
  rw [exec_Assign_Name_used _ _ _ _ hsw]
  refine wpAny_bind (wpAny_standAt (wpAny_bind ?_))
  show wpAny _ X.A (do let _ <- comprehension (.ListComp elt [⟨tg, iter, ifs, 0⟩] sc pos) sc X.env _ (newList []) false (eval iter X.env) (some (assign (.Name y py) X.env))) _ _ s
  refine wpAny_bind (wpAny_mono (wpAny_comprehension_free (use := some (assign (.Name y py) X.env)) (Q := fun _ s' => SP X pins D .next s') rfl hs (closure_ok hfree) S.kind S.locs
    (thn (hi pins s σ H _ I h) fun xv s1 h1 => thn h1 fun itv s2 h2 => ?_)) (fun _ s' hq => wpAny_pure (wpAny_pure hq)) fun _ _ e => e)
  obtain ⟨it, fp, tn, J, H2, rfl, I2, T, st2, f2, hw⟩ := h2
  refine lc_core (RR := fun acc C => compPost (model X.prog X.w) X.A X.xe (some (assign (.Name y py) X.env)) (fun _ s' => SP X pins D .next s') acc C) hcalm S P1 P2 hg ht he I2 T st2 f2 hw fun d C s' H' ys fin nD I' fC ⟨m, hm⟩ => ?_
  show wpAny _ X.A (assign (.Name y py) X.env (.ref d)) _ _ _
  obtain ⟨oC, es, ep, hoC, hdC, hrest⟩ := id hm
  have IC : Inv X (pins ++ [(C, oC)]) σ (upd H' d (.lst ys)) s' := I'.pins_of fun p hp => by
    rcases List.mem_append.mp hp with z | z
    · exact I'.pin p (List.mem_append_right _ z)
    · have ep : p = (C, oC) := by simpa using z
      subst ep
      exact ⟨hoC, fC.1, fC.2.1, fC.2.2.1, fun v z => by rw [hdC] at z; cases z⟩
  refine wpAny_assign_Name (store_ok IC hN hiy (.inl hy) (v := .ref d) rfl (fun s'' I'' => ?_) (.inr hy))
  have pC := I''.pin (C, oC) (List.mem_append_right _ (List.mem_append_right _ (List.mem_singleton.mpr rfl)))
  refine ⟨m, ⟨oC, es, ep, pC.1, hdC, hrest⟩, fun h' hs' => ⟨_, _, I''.unpinned.turned (t' := s''.toks) (fun b o hb e => hs'.extBut b o hb e) fC.1 fC.2.1 fC.2.2.2.1 fC.2.2.2.2.1 fC.2.2.2.2.2, fin d nD⟩⟩
section
variable {X : Cx} {K : PySem.W.Frag}
theorem ixl (hK : X.K = K) : IxR X (rIxL K) := hK ▸ ix_list
theorem ixt (hK : X.K = K) : IxR X (rIxT K) := hK ▸ ix_tup
theorem inq (hK : X.K = K) : OpR X (compareOp .In) (rIn K false) := hK ▸ op_in_seq
theorem ninq (hK : X.K = K) : OpR X (compareOp .NotIn) (rIn K true) := hK ▸ op_notIn_seq
def rLen (K : PySem.W.Frag) : List V -> Hp -> VK -> Prop := fun xs H Q => ∃ p ys, xs = [.ref p] /\ (SqL K H p ys \/ SqT K H p ys) /\ Q (.int ys.length) H
theorem lenq (hK : X.K = K) : CallR X (.builtin "len") (rLen K) := hK ▸ call_len_seq
def rTupOf (K : PySem.W.Frag) : List V -> Hp -> VK -> Prop := fun xs H Q => ∃ p ys, xs = [.ref p] /\ ((SqL K H p ys /\ ∀ l, H l = none -> Q (.ref l) (upd H l (.tup ys))) \/ (SqT K H p ys /\ Q (.ref p) H))
theorem tupq (hK : X.K = K) : CallR X (.type "tuple") (rTupOf K) := hK ▸ call_tuple_of
theorem pil {tg l : Expr} {tl : TE} (hK : X.K = K) (hl : PE X l tl) : PI X tg l (iList K tl) := hK ▸ pi_list hl
theorem pit {tg l : Expr} {tl : TE} (hK : X.K = K) (hl : PE X l tl) : PI X tg l (iTup K tl) := hK ▸ pi_tup hl
theorem pgt {es : List Expr} {k : Nat} {pos : Pos} {t : TGs} {n : Nat} (hK : X.K = K) (hc : X.calm = true) (h : PGs X es t) (hn : (assignEach es X.env).length = n := by rfl) (hst : (assignEach es X.env).findIdx? (·.1) = none := by rfl) : PG X (.Tuple es k pos) (gTup K n t) := hK ▸ pg_tup hc h hn hst
theorem bm {o e : Expr} {es : List Expr} {to : TE} {t : TA} {name : Str} {apos cpos : Pos} {T id : String} {r : V -> List V -> Hp -> VK -> Prop} (hK : X.K = K) (pa : PlainAttrs T) (slot : Slot T name id) (hty : typeOf (.builtin id) = pure (.type "method_descriptor")) (hm : MtR X id r) (ho : PE X o to) (ha : PA X (e :: es) t)
    (hbase : attributeBase o name X.env (eval o X.env) = eval o X.env := by rfl)
    (hfew : ((backTo cpos (starEach (e :: es) X.env)).all (fun x => !x.1) && (backToKw cpos (keywordEach [] X.env)).all (fun x => x.1.isSome)
      && decide ((e :: es).length + ([] : List Keyword).length + (if ([] : List Keyword).isEmpty then 0 else 1) < 30)) = true := by rfl)
    (hline : (apos.endLine == cpos.line) = true := by rfl) (hs : starEach (e :: es) X.env = (false, eval e X.env) :: starEach es X.env := by rfl) (hplain : (backTo cpos (starEach es X.env)).any (·.1) = false := by rfl) :
    PE X (.Call (.Attribute o name apos) (e :: es) [] cpos) (tBM K T r to t) := hK ▸ pe_bm pa slot hty hm ho ha hbase hfew hline hs hplain
end
theorem Inv.turnedL {X : Cx} {pins : List (Addr × Obj)} {σ : St} {H : Hp} {s : Shared} {h' : Heap} {t' : Nat} {ch : List Addr} (I : Inv X pins σ H s) (k : ∀ b o, b ∉ ch -> s.heap.get? b = some o -> h'.get? b = some o) (hf : ∀ b ∈ ch, FpOk X pins H b)
    (ht : ∀ b ∈ ch, ∃ o, h'.get? b = some o) : Inv X pins σ H { s with heap := h', toks := t' } := by
  have nit : ∀ b u, H b = some u -> b ∉ ch := fun b u e z => by rw [(hf b z).1] at e; cases e
  refine I.step (g' := s.gens) (d' := s.drawn) (ch := ch) (fun b hb => ?_) (fun b o _ _ hc e _ => k b o hc e) (fun b o _ _ hc e _ => ⟨o.slots, k b o hc e⟩) (fun _ _ _ _ n => n)
    (fun b o hc e => ⟨o, k b o hc e⟩) (fun _ _ e => e) (fun _ _ _ e => e) (fun b ps e => ⟨#[], by rw [e]; simp⟩) (fun m hm => ?_) (fun b u e => ?_) I.bare
  · obtain ⟨f0, f1, f2, f3, f4, f5⟩ := hf b hb
    exact ⟨f3, f1, f4, f5⟩
  · obtain ⟨o, es, ep, ho, r⟩ := hm
    exact ⟨o, es, ep, k _ o (fun z => (hf _ z).2.1 rfl) ho, r⟩
  · refine (I.hok b u e).stay (fun c v hc q => k c v ?_ q) (fun _ q => q) fun _ _ q => q
    rcases hc with z | z
    · rw [z]; exact nit b u e
    · exact nit c _ z
def Ite (K : PySem.W.Frag) (a : Addr) : It :=
  ⟨fun i H => ∃ xs x, SqL K H a xs /\ xs[i]? = some x, fun i H v H' => ∃ t x, v = .ref t /\ H t = none /\ H' = upd H t (.tup [.int i, x]) /\ ∀ xs, SqL K H a xs -> xs[i]? = some x, fun i H => ∃ xs, SqL K H a xs /\ xs.length <= i⟩
theorem turn_enum {P : Program} {w : World} {K : PySem.W.Frag} {es : List Expr} {x1 : Nat} {tp : Pos} (a e it : Addr) (hne : e ≠ it) : Turn P w K (.Tuple es x1 tp) (Ite K a) [e, it] e (fun i h => (∃ old, IsEnum h e it (i : Int) old) /\ h.IsListIter it a i) where
  mem := by simp
  obj := fun i h st b hb => by
    obtain ⟨⟨old, s1⟩, o, e2, c, d⟩ := st
    rcases List.mem_cons.mp hb with rfl | hb
    · exact ⟨_, s1, fun v z => nomatch z⟩
    · have z : b = it := by simpa using hb
      subst z
      exact ⟨o, e2, fun v z => by rw [d] at z; cases z⟩
  keep := fun i h h' st k => ⟨let ⟨old, z⟩ := st.1; ⟨old, k e (by simp) _ z⟩, st.2.at fun o z => k it (by simp) o z⟩
  item := by
    intro X hP hw hK hc i pins s σ H E I hf st hg
    subst hP hw hK
    obtain ⟨xs, x, hq, hx⟩ := hg
    obtain ⟨its, rv, p, hz⟩ := I.list hq
    obtain ⟨u, hu, ru⟩ := rv.get hx
    obtain ⟨⟨old, s1⟩, s2⟩ := st
    refine wpAny_pyNext_enum_item s1 s2 p.isList (x := u) (by simpa using hu) hne fun h' o1 o2 o3 o4 o5 => ⟨_, rfl, ?_⟩
    refine wpAny_letOwnedTupleGo_enum o1 fun h2 he hs => ?_
    have lt1 : e < s.heap.objs.size := Heap.lt_size s1
    have lt2 : it < s.heap.objs.size := by obtain ⟨o, z, _⟩ := s2; exact Heap.lt_size z
    have ot : h2.get? s.heap.objs.size = some { cls := .type "tuple", data := .seq #[.int i s.toks, u] } := (hs.2 _ (Nat.ne_of_gt lt1)).trans o3
    have s2' : h2.IsListIter it a (i + 1) := o2.at fun o z => (hs.2 it (Ne.symm hne)).trans z
    have I1 : Inv X pins σ H { s with heap := h2, toks := s.toks + 1 } := I.turnedL (ch := [e, it]) (fun b o hb z => by
      have n1 : b ≠ e := fun q => hb (by simp [q])
      have n2 : b ≠ it := fun q => hb (by simp [q])
      exact (hs.2 b n1).trans (o5 b o n1 n2 z)) hf (fun b hb => by
      rcases List.mem_cons.mp hb with rfl | hb
      · exact ⟨_, he⟩
      · have z : b = it := by simpa using hb
        subst z
        obtain ⟨o, q, _⟩ := s2'
        exact ⟨o, q⟩)
    have nT : H s.heap.objs.size = none := I.hok.fresh (Nat.le_refl _)
    have fT := I.fpOk (H' := H) (Nat.le_refl _) nT
    have I2 := I1.adopt (a := s.heap.objs.size) (o := .tup [.int i, x]) nT ⟨by show 2 <= sizeLine; decide, [.int i s.toks, u], .cons ⟨_, rfl⟩ (.cons ru .nil), ⟨_, ot, rfl, 0, rfl⟩⟩ I.sz fT.2.1 fT.2.2.2.2.1 fT.2.2.2.2.2
    refine ⟨.ref s.heap.objs.size, _, I2, rfl, ⟨_, x, rfl, nT, rfl, fun ys hy => by rw [I.list_inj hy hq]; exact hx⟩, ⟨⟨u, by simpa using he⟩, s2'⟩, fun b hb => ?_⟩
    rw [upd_ne]
    · exact (hf b hb).1
    · rcases List.mem_cons.mp hb with rfl | hb
      · exact Nat.ne_of_lt lt1
      · have z : b = it := by simpa using hb
        subst z
        exact Nat.ne_of_lt lt2
  done := by
    intro X hP hw hK hc i pins s σ H E I hf st hg
    subst hP hw hK
    obtain ⟨xs, hq, hx⟩ := hg
    obtain ⟨its, rv, p, hz⟩ := I.list hq
    obtain ⟨⟨old, s1⟩, s2⟩ := st
    obtain ⟨f0, f1, f2, f3, f4, f5⟩ := hf it (by simp)
    have hl := rv.length
    exact wpAny_pyNext_enum_end (I.ok.hd hc) s1 s2 p.isList (by simp; omega) fun h' eb => ⟨rfl, I.turned (t' := s.toks) (fun b o hb z => eb b o hb z) f0 f1 f3 f4 f5⟩
  self := fun _ _ _ _ _ st h => let ⟨⟨_, s1⟩, _⟩ := st; wpAny_pyIter_enum s1 h
def iEnum (K : PySem.W.Frag) (ta : TA) : TI := fun σ H R => ta σ H fun vs H1 => ∃ a, vs = [.ref a] /\ (∃ xs, SqL K H1 a xs) /\ R (Ite K a) H1
theorem pi_enum {X : Cx} {K : PySem.W.Frag} {es : List Expr} {x1 : Nat} {tp : Pos} {l : Expr} {ta : TA} {p pos : Pos} (hK : X.K = K) (hg : Gl X "enumerate") (hm : X.mg "enumerate" = none) (ha : PA X [l] ta) (hs : starEach [l] X.env = [(false, eval l X.env)] := by rfl) :
    PI X (.Tuple es x1 tp) (.Call (.Name "enumerate" p) [l] [] pos) (iEnum K ta) := by
  subst hK
  intro pins s σ H R I h
  refine Call_ (ld_blt I hg hm boot_enumerate (PyProof.Rows.callWith_type1 (thn (ha pos pins s σ H _ I h) fun us s1 ⟨vs, H1, I1, r1, q1⟩ => ?_) hs rfl))
  obtain ⟨a, rfl, ⟨xs, hq⟩, q⟩ := q1
  obtain ⟨u, rfl, rx⟩ := vals1 r1
  cases rx
  obtain ⟨its, rv, pl, hz⟩ := I1.list hq
  refine call_enumerate_list pl.isList fun h' e1 e2 e3 e4 => ?_
  refine wpAny_pyIter_enum e1 ?_
  have I2 : Inv X pins σ H1 { s1 with heap := h' } := I1.kept (t' := s1.toks) e4
  refine ⟨s1.heap.objs.size + 1, [s1.heap.objs.size + 1, s1.heap.objs.size], _, _, H1, rfl, I2, turn_enum a _ _ (Nat.succ_ne_self _), ⟨⟨_, e1⟩, e2⟩, fun b hb => ?_, q⟩
  have hb' : s1.heap.objs.size <= b := by
    rcases List.mem_cons.mp hb with rfl | hb
    · exact Nat.le_succ _
    · have z : b = s1.heap.objs.size := by simpa using hb
      exact Nat.le_of_eq z.symm
  exact I1.fpOk hb' (I1.hok.fresh hb')
def rIsi (K : PySem.W.Frag) : List V -> Hp -> VK -> Prop := fun xs H Q => ∃ x T t b, xs = [x, .ty T] /\ TyOf K H x t /\ PySem.W.kitOne K t (.type T) = some b /\ Q (.bl b) H
theorem isiq {X : Cx} {K : PySem.W.Frag} (hK : X.K = K) : CallR X (.builtin "isinstance") (rIsi K) := by
  subst hK
  intro pins s σ H xs us Q I r h
  obtain ⟨x, T, t, b, rfl, ty, e, q⟩ := h
  obtain ⟨u, v, rfl, rx, ry⟩ := vals2 r
  cases ry
  exact isinst_ok I rx ty e fun tk => ⟨.bl b, H, I.tok tk, rfl, q⟩
def rInsert : V -> List V -> Hp -> VK -> Prop := fun x vs H Q => ∃ l xs k y, x = .ref l /\ vs = [.int (Nat.cast k), y] /\ H l = some (.lst xs) /\ k <= xs.length /\ xs.length < sizeLine /\ Q .non (upd H l (.lst (xs.take k ++ y :: xs.drop k)))
theorem mt_insert {X : Cx} : MtM X "list.insert" rInsert := by
  intro pins s σ H x vs v us Q I rx rv h
  obtain ⟨l, xs, k, y, rfl, rfl, hH, hk, hz, q⟩ := h
  cases rx
  obtain ⟨u1, u2, rfl, ⟨t, rfl⟩, ru⟩ := rv.two
  obtain ⟨z, its, n, r, hl, e⟩ := I.lstM hH
  have hsl : (sizeLine : Nat) < 2 ^ 63 := line63
  have hfit : ¬ (!Builtin.List.listFitsIndex (k : Int)) = true := by
    rw [fitsIndex_both (by omega) (by omega)]
    exact Bool.false_ne_true
  have hsz : its.toArray.size <= sizeLine := by rw [List.size_toArray, <- hl]; exact z
  obtain ⟨i, hi⟩ : ∃ i : Int, i = (k : Int) := ⟨_, rfl⟩
  rw [<- hi] at hfit
  rw [<- hi]
  refine call_meets F.slot_list_insert ⟨_, e, rfl⟩ F.entry_list_insert (F.args_list_insert_3 (.ref l) (.int i t) u2) (AutoListH.list_insert_list_int_val_1 l its.toArray n i t u2 hfit hsz) ⟨e, ?_⟩
  refine ⟨.non, _, I.lset (ys := xs.take k ++ y :: xs.drop k) (its' := its.take k ++ u2 :: its.drop k) hH e ?_ ((r.take k).append (.cons ru (r.drop k))) ?_, rfl, q⟩
  · show ((its.toArray.extract 0 (if i < 0 then (i + ((its.toArray.size : Nat) : Int)).toNat else min i.toNat its.toArray.size)).push u2 ++ its.toArray.extract (if i < 0 then (i + ((its.toArray.size : Nat) : Int)).toNat else min i.toNat its.toArray.size)) = _
    rw [hi, if_neg (by omega), Int.toNat_natCast, List.size_toArray, Nat.min_eq_left (by omega)]
    apply Array.ext'
    simp [List.take_of_length_le]
  · rw [List.length_append, List.length_cons, List.length_take, List.length_drop]
    omega
def rSorted (K : PySem.W.Frag) : List V -> Hp -> VK -> Prop := fun xs H Q => ∃ (p : Addr) (ns : List Int), xs = [.ref p] /\ SqL K H p (ns.map V.int) /\ ns.length < 64 /\ ∀ (l : Addr) (ms : List Int), ms.Perm ns -> ms.Pairwise (· <= ·) -> H l = none -> Q (.ref l) (upd H l (.lst (ms.map V.int)))
theorem sortq {X : Cx} {K : PySem.W.Frag} (hK : X.K = K) : CallR X (.builtin "sorted") (rSorted K) := by
  subst hK
  intro pins s σ H xs us Q I r h
  obtain ⟨p, ns, rfl, hq, h64, q⟩ := h
  obtain ⟨u, rfl, rx⟩ := vals1 r
  cases rx
  obtain ⟨its, rv, pl, hz⟩ := I.list hq
  have hi := intsAre_of rv
  have hlen := rv.length
  rw [List.length_map] at hlen
  refine sorted_ints pl.isList hi (by omega) fun out ns' a1 a2 a3 => ?_
  obtain ⟨e, he⟩ := sortedAll_at s.heap its out
  have I1 : Inv X pins σ H { s with heap := sortedAll s.heap its out } := I.kept (t' := s.toks) fun b o z => sortedAll_old z
  have nT : H (s.heap.objs.size + 1) = none := I.hok.fresh (Nat.le_succ _)
  have fT := I.fpOk (H' := H) (b := s.heap.objs.size + 1) (Nat.le_succ _) nT
  have rv' : Vals (ns'.map V.int) out.toList := vals_ints a1
  have hz' : (ns'.map V.int).length <= sizeLine := by
    rw [List.length_map, a2.length_eq]
    exact Nat.le_trans (Nat.le_of_lt h64) (by decide)
  have I2 := I1.adopt (a := s.heap.objs.size + 1) (o := .lst (ns'.map V.int)) nT ⟨hz', out.toList, e, rv', by rw [he]⟩ (Nat.le_trans I.sz (Nat.le_succ _)) fT.2.1 fT.2.2.2.2.1 fT.2.2.2.2.2
  exact ⟨.ref _, _, I2, rfl, q _ ns' a2 a3 nT⟩
theorem eq_ints_all {us vs : List Value} {ns ms : List Int} (h1 : IntsAre us ns) (h2 : IntsAre vs ms) (hl : us.length = vs.length) :
    ((List.range us.length).all fun j => ns[j]? == ms[j]?) = decide (ns = ms) := by
  have l1 := h1.length
  have l2 := h2.length
  rw [Bool.eq_iff_iff, List.all_eq_true, decide_eq_true_iff]
  constructor
  · intro h
    apply List.ext_getElem?
    intro j
    by_cases hj : j < us.length
    · have := h j (List.mem_range.mpr hj)
      simpa using this
    · rw [List.getElem?_eq_none (by omega), List.getElem?_eq_none (by omega)]
  · rintro rfl j _
    simp
theorem ints_at {us : List Value} {ns : List Int} (h : IntsAre us ns) {j : Nat} {u : Value} (e : us[j]? = some u) : ∃ n t, ns[j]? = some n /\ u = .int n t := by
  induction h generalizing j with
  | nil => simp at e
  | cons n t h ih =>
    cases j with
    | zero => simp at e; exact ⟨n, t, by simp, e.symm⟩
    | succ j => simp at e; obtain ⟨n', t', q1, q2⟩ := ih e; exact ⟨n', t', by simpa using q1, q2⟩
def rEqI (K : PySem.W.Frag) (neg : Bool) : R2 := fun x y H Q => ∃ (a b : Addr) (ns ms : List Int), x = .ref a /\ y = .ref b /\ SqL K H a (ns.map V.int) /\ SqL K H b (ms.map V.int) /\ Q (.bl (if neg then !decide (ns = ms) else decide (ns = ms))) H
theorem eqI {X : Cx} {K : PySem.W.Frag} {k : Nat} (hK : X.K = K) (hr : Room k X.A) : OpR X (compareOp .Eq) (rEqI K false) := by
  subst hK
  intro pins s σ H x y v u Q I rx ry h
  obtain ⟨a, b, ns, ms, rfl, rfl, hq1, hq2, q⟩ := h
  cases rx
  cases ry
  obtain ⟨us, r1, p1, _⟩ := I.list hq1
  obtain ⟨vs, r2, p2, _⟩ := I.list hq2
  have i1 := intsAre_of r1
  have i2 := intsAre_of r2
  have hu := hr.units0
  by_cases hl : us.length = vs.length
  · refine SeqAt.eq_listAt (e := fun j => ns[j]? == ms[j]?) p1.isList p2.isList (by simpa using hl) hu (fun j h1 h2 => ?_) ⟨.bl _, H, I, rfl, ?_⟩
    · obtain ⟨n, t, e1, e2⟩ := ints_at i1 (j := j) (u := us.toArray[j]) (by simp at h1; simp [h1])
      obtain ⟨m, t', e3, e4⟩ := ints_at i2 (j := j) (u := vs.toArray[j]) (by simp at h2; simp [h2])
      rw [e2, e4, e1, e3]
      have := SeqAt.EqAt.int_int (A := X.A.in1) (s := s) n t m t'
      simpa using this
    · rw [List.size_toArray, eq_ints_all i1 i2 hl]
      exact q
  · refine SeqAt.eq_list_lengthsAt p1.isList p2.isList (by simpa using hl) hu ⟨.bl false, H, I, rfl, ?_⟩
    have : decide (ns = ms) = false := decide_eq_false fun e => hl (by rw [i1.length, i2.length, e])
    rw [this] at q
    exact q
theorem neI {X : Cx} {K : PySem.W.Frag} {k : Nat} (hK : X.K = K) (hr : Room k X.A) : OpR X (compareOp .NotEq) (rEqI K true) := by
  subst hK
  intro pins s σ H x y v u Q I rx ry h
  obtain ⟨a, b, ns, ms, rfl, rfl, hq1, hq2, q⟩ := h
  cases rx
  cases ry
  obtain ⟨us, r1, p1, _⟩ := I.list hq1
  obtain ⟨vs, r2, p2, _⟩ := I.list hq2
  have i1 := intsAre_of r1
  have i2 := intsAre_of r2
  have hu := hr.units0
  by_cases hl : us.length = vs.length
  · refine SeqAt.RcNeAt.lists (e := fun j => ns[j]? == ms[j]?) p1.isList p2.isList (by simpa using hl) hu (fun j h1 h2 => ?_) X.prog X.w X.xe _ ⟨.bl _, H, I, rfl, ?_⟩
    · obtain ⟨n, t, e1, e2⟩ := ints_at i1 (j := j) (u := us.toArray[j]) (by simp at h1; simp [h1])
      obtain ⟨m, t', e3, e4⟩ := ints_at i2 (j := j) (u := vs.toArray[j]) (by simp at h2; simp [h2])
      rw [e2, e4, e1, e3]
      have := SeqAt.EqAt.int_int (A := X.A.in1) (s := s) n t m t'
      simpa using this
    · rw [List.size_toArray, eq_ints_all i1 i2 hl]
      exact q
  · refine SeqAt.RcNeAt.lists_lengths p1.isList p2.isList (by simpa using hl) hu X.prog X.w X.xe _ ⟨.bl true, H, I, rfl, ?_⟩
    have : decide (ns = ms) = false := decide_eq_false fun e => hl (by rw [i1.length, i2.length, e])
    rw [this] at q
    exact q
structure Callee (P : Program) (w : World) (K : PySem.W.Frag) (mg : Str -> Option Value) (base : Heap) (k : Nat) (x : Str) (ps : List Str) (sp : Sp) : Prop where
  ex : ∃ (f : Addr) (fd : FuncData), FnOk P w K mg base CX0 k f fd ps sp /\ mg x = some (.ref f) /\ PySem.W.keepIn K (.ref f) = true /\ Binds K fd ps []
def tFn (sp : Sp) (t : TA) : TE := fun σ H Q => t σ H fun vs H1 => sp vs H1 Q E0
theorem pe_fn {X : Cx} {k m : Nat} {x : Str} {ps : List Str} {sp : Sp} {e : Expr} {es : List Expr} {t : TA} {p pos : Pos} (C : Callee X.prog X.w X.K X.mg X.base k x ps sp) (hr : Room m X.A) (hg : Gl X x) (ha : PA X (e :: es) t) (hk : k <= m := by decide)
    (hdb : (x == ("__debug__" : Str)) = false := by decide) (he : starEach (e :: es) X.env = (false, eval e X.env) :: starEach es X.env := by rfl) (hpl : (backTo pos (starEach es X.env)).any (·.1) = false := by rfl) :
    PE X (.Call (.Name x p) (e :: es) [] pos) (tFn sp t) := by
  obtain ⟨f, fd, F, hm, kp, b⟩ := C.ex
  have h := pe_call (E := E0) (p := p) (pos := pos) F (hr.mono hk) hg hm kp b .nil pass0 ha hdb he hpl
  intro pins s σ H Q I q
  refine h pins s σ H Q I ?_
  show t σ H fun vs H1 => sp (vs ++ []) H1 Q E0
  have e : (fun vs H1 => sp (vs ++ []) H1 Q E0) = fun vs H1 => sp vs H1 Q E0 := by funext vs H1; rw [List.append_nil]
  rw [e]
  exact q
def DefAt (K : PySem.W.Frag) (mg : Str -> Option Value) (x : Str) (st : Stmt) : Prop := ∃ (f : Addr) (fd : FuncData), Fun K x x st f fd /\ mg x = some (.ref f)
theorem mkCallee {P : Program} {w : World} {K : PySem.W.Frag} {mg : Str -> Option Value} {base : Heap} {k : Nat} {x : Str} {st : Stmt} {N ps : List Str} {sp : Sp} (D : DefAt K mg x st) (S : FnScope N ps (defScope st))
    (hb : ∀ (kV doc pm : Value) (an : Option Addr) (cdv ct : Value) (us : List Value), us.length = ps.length -> bindArgs (PySem.W.fnOf x x (defArgs st) (defBody st) (defScope st) .none kV doc pm an cdv ct) ⟨us, []⟩ = pure (ps.zip us))
    (len : ∀ vs H Q E, sp vs H Q E -> vs.length = ps.length)
    (hbody : ∀ (f : Addr) (cdv : Value) (A : Around) (outer : List Env) (s : Shared) (H : Hp) (vs : List V) (Q : VK) (E : XK), Room k (A.deeper (envOfC x (defScope st) s.heap.objs.size f cdv)) -> sp vs H Q E ->
      ∃ t, PSs (cxOf CX0 P w K mg base N x (defScope st) f cdv A outer s H E).nox (defBody st) t /\ t { nx := fun _ H' => Q .non H', rt := Q } (start N vs) H) : Callee P w K mg base (k + 1) x ps sp := by
  obtain ⟨f, fd, F, hm⟩ := D
  exact ⟨f, fd, F.ok S len (fun cdv A outer s H vs Q E hr h => hbody f cdv A outer s H vs Q E hr h), hm, F.kp, F.binds hb⟩
def SameB (p : Addr) (H H' : Hp) : Prop := ∀ b o, H b = some o -> b ≠ p -> H' b = some o
theorem Same.new {H : Hp} {a : Addr} {o : HO} (h : H a = none) : Same H (upd H a o) := fun b u e => by rw [upd_ne (ne_of_none e h)]; exact e
theorem Same.updr {H H' : Hp} {a : Addr} {o : HO} (s : Same H H') (h : H' a = none) : Same H (upd H' a o) := s.trans (Same.new h)
theorem SameB.refl {p : Addr} {H : Hp} : SameB p H H := fun _ _ h _ => h
theorem SameB.trans {p : Addr} {H H1 H2 : Hp} (a : SameB p H H1) (b : SameB p H1 H2) : SameB p H H2 := fun c o h n => b c o (a c o h n) n
theorem Same.b {p : Addr} {H H' : Hp} (h : Same H H') : SameB p H H' := fun b o e _ => h b o e
theorem lc_range {lo : Int} {n : Nat} {g : TG} {tc : TT} {te : TE} {Fin : List V -> Hp -> Prop} {σ₀ : St} {H : Hp} (Pv : Nat -> St -> List V -> Hp -> Prop) (h0 : Pv 0 σ₀ [] H) (hz : ∀ i σ ys H, Pv i σ ys H -> ys.length < sizeLine)
    (hs : ∀ i σ ys H, i < n -> Pv i σ ys H -> g (.int (lo + i)) σ H fun σ2 H2 => tc σ2 H2 fun b H3 => if b = true then te σ2 H3 fun v H4 => Pv (i + 1) σ2 (ys ++ [v]) H4 else Pv (i + 1) σ2 ys H3)
    (hd : ∀ σ ys H, Pv n σ ys H -> Fin ys H) : LcW (Itr lo n) g tc te Fin σ₀ H := by
  refine ⟨fun i m σ ys H => m = n - i /\ i <= n /\ Pv i σ ys H, ⟨n, by simp, Nat.zero_le _, h0⟩, ?_⟩
  rintro i m σ ys H ⟨rfl, hi, p⟩
  refine ⟨hz i σ ys H p, ?_⟩
  by_cases hlt : i < n
  · refine .inr ⟨hlt, Pv (i + 1), fun σ' ys' H' p' => ⟨n - (i + 1), by omega, rfl, hlt, p'⟩, fun x H' y => ?_⟩
    obtain ⟨e, y⟩ := y
    subst e y
    exact hs i σ ys _ hlt p
  · have e : i = n := by omega
    subst e
    exact .inl ⟨Nat.le_refl _, hd σ ys H p⟩
theorem lc_list {K : PySem.W.Frag} {a : Addr} {xs : List V} {g : TG} {tc : TT} {te : TE} {Fin : List V -> Hp -> Prop} {σ₀ : St} {H : Hp} (Pv : Nat -> St -> List V -> Hp -> Prop) (h0 : Pv 0 σ₀ [] H) (hl : ∀ i σ ys H, i <= xs.length -> Pv i σ ys H -> SqL K H a xs) (hz : ∀ i σ ys H, Pv i σ ys H -> ys.length < sizeLine)
    (hs : ∀ i x σ ys H, xs[i]? = some x -> Pv i σ ys H -> g x σ H fun σ2 H2 => tc σ2 H2 fun b H3 => if b = true then te σ2 H3 fun v H4 => Pv (i + 1) σ2 (ys ++ [v]) H4 else Pv (i + 1) σ2 ys H3)
    (hd : ∀ σ ys H, Pv xs.length σ ys H -> Fin ys H) : LcW (Itl K a) g tc te Fin σ₀ H := by
  refine ⟨fun i m σ ys H => m = xs.length - i /\ i <= xs.length /\ Pv i σ ys H, ⟨xs.length, by simp, Nat.zero_le _, h0⟩, ?_⟩
  rintro i m σ ys H ⟨rfl, hi, p⟩
  refine ⟨hz i σ ys H p, ?_⟩
  have q := hl i σ ys H hi p
  by_cases hlt : i < xs.length
  · refine .inr ⟨⟨xs, xs[i], q, by simp [hlt]⟩, Pv (i + 1), fun σ' ys' H' p' => ⟨xs.length - (i + 1), by omega, rfl, hlt, p'⟩, fun x H' y => ?_⟩
    obtain ⟨e, y⟩ := y
    subst e
    exact hs i x σ ys _ (y xs q) p
  · have e : i = xs.length := by omega
    subst e
    exact .inl ⟨⟨xs, q, Nat.le_refl _⟩, hd σ ys H p⟩
theorem lc_tup {K : PySem.W.Frag} {a : Addr} {xs : List V} {g : TG} {tc : TT} {te : TE} {Fin : List V -> Hp -> Prop} {σ₀ : St} {H : Hp} (Pv : Nat -> St -> List V -> Hp -> Prop) (h0 : Pv 0 σ₀ [] H) (hl : ∀ i σ ys H, i <= xs.length -> Pv i σ ys H -> SqT K H a xs) (hz : ∀ i σ ys H, Pv i σ ys H -> ys.length < sizeLine)
    (hs : ∀ i x σ ys H, xs[i]? = some x -> Pv i σ ys H -> g x σ H fun σ2 H2 => tc σ2 H2 fun b H3 => if b = true then te σ2 H3 fun v H4 => Pv (i + 1) σ2 (ys ++ [v]) H4 else Pv (i + 1) σ2 ys H3)
    (hd : ∀ σ ys H, Pv xs.length σ ys H -> Fin ys H) : LcW (Itt K a) g tc te Fin σ₀ H := by
  refine ⟨fun i m σ ys H => m = xs.length - i /\ i <= xs.length /\ Pv i σ ys H, ⟨xs.length, by simp, Nat.zero_le _, h0⟩, ?_⟩
  rintro i m σ ys H ⟨rfl, hi, p⟩
  refine ⟨hz i σ ys H p, ?_⟩
  have q := hl i σ ys H hi p
  by_cases hlt : i < xs.length
  · refine .inr ⟨⟨xs, xs[i], q, by simp [hlt]⟩, Pv (i + 1), fun σ' ys' H' p' => ⟨xs.length - (i + 1), by omega, rfl, hlt, p'⟩, fun x H' y => ?_⟩
    obtain ⟨e, y⟩ := y
    subst e
    exact hs i x σ ys _ (y xs q) p
  · have e : i = xs.length := by omega
    subst e
    exact .inl ⟨⟨xs, q, Nat.le_refl _⟩, hd σ ys H p⟩
theorem lc_enum {K : PySem.W.Frag} {a : Addr} {xs : List V} {g : TG} {tc : TT} {te : TE} {Fin : List V -> Hp -> Prop} {σ₀ : St} {H : Hp} (Pv : Nat -> St -> List V -> Hp -> Prop) (h0 : Pv 0 σ₀ [] H) (hl : ∀ i σ ys H, i <= xs.length -> Pv i σ ys H -> SqL K H a xs) (hz : ∀ i σ ys H, Pv i σ ys H -> ys.length < sizeLine)
    (hs : ∀ i x t σ ys H, xs[i]? = some x -> Pv i σ ys H -> H t = none -> g (.ref t) σ (upd H t (.tup [.int i, x])) fun σ2 H2 => tc σ2 H2 fun b H3 => if b = true then te σ2 H3 fun v H4 => Pv (i + 1) σ2 (ys ++ [v]) H4 else Pv (i + 1) σ2 ys H3)
    (hd : ∀ σ ys H, Pv xs.length σ ys H -> Fin ys H) : LcW (Ite K a) g tc te Fin σ₀ H := by
  refine ⟨fun i m σ ys H => m = xs.length - i /\ i <= xs.length /\ Pv i σ ys H, ⟨xs.length, by simp, Nat.zero_le _, h0⟩, ?_⟩
  rintro i m σ ys H ⟨rfl, hi, p⟩
  refine ⟨hz i σ ys H p, ?_⟩
  have q := hl i σ ys H hi p
  by_cases hlt : i < xs.length
  · refine .inr ⟨⟨xs, xs[i], q, by simp [hlt]⟩, Pv (i + 1), fun σ' ys' H' p' => ⟨xs.length - (i + 1), by omega, rfl, hlt, p'⟩, fun x H' y => ?_⟩
    obtain ⟨t, z, rfl, nt, rfl, y⟩ := y
    exact hs i z t σ ys _ (y xs q) p nt
  · have e : i = xs.length := by omega
    subst e
    exact .inl ⟨⟨xs, q, Nat.le_refl _⟩, hd σ ys H p⟩
theorem bt_int : bootBuiltins "int" = some (.type "int") := by decide +kernel
theorem bt_bool : bootBuiltins "bool" = some (.type "bool") := by decide +kernel
theorem bt_list : bootBuiltins "list" = some (.type "list") := by decide +kernel
theorem bt_tuple : bootBuiltins "tuple" = some (.type "tuple") := by decide +kernel
theorem bt_len : bootBuiltins "len" = some (.builtin "len") := by decide +kernel
theorem bt_isinstance : bootBuiltins "isinstance" = some (.builtin "isinstance") := by decide +kernel
theorem bt_sorted : bootBuiltins "sorted" = some (.builtin "sorted") := by decide +kernel
theorem bt_min : bootBuiltins "min" = some (.builtin "min") := by decide +kernel
theorem bt_max : bootBuiltins "max" = some (.builtin "max") := by decide +kernel
theorem bt_all : bootBuiltins "all" = some (.builtin "all") := by decide +kernel
theorem Same.of_upd {H H' : Hp} {a : Addr} {o : HO} (s : Same H H') (h : H a = none) : Same H (L2.upd H' a o) := fun b u e => by rw [upd_ne (ne_of_none e h)]; exact s b u e
theorem lcY {σ : St} {H : Hp} {A B : Hp -> Prop} (h : A H) : tYes σ H (fun b H3 => if b = true then A H3 else B H3) := @iteT (A H) (B H) h
theorem lcN {i : Nat} {v : V} {σ : St} {H : Hp} {A B : St -> Hp -> Prop} (h : A (σ.set i (some v)) H) : gName i v σ H (fun σ2 H2 => tYes σ2 H2 fun b H3 => if b = true then A σ2 H3 else B σ2 H3) := @iteT (A (σ.set i (some v)) H) (B (σ.set i (some v)) H) h
def tLstK (K : PySem.W.Frag) (t : TA) : TE := fun σ H Q => t σ H fun xs H1 => xs.length <= sizeLine /\ ∀ p, H1 p = none -> K.lookup p = none -> Q (.ref p) (upd H1 p (.lst xs))
theorem pe_lstK {X : Cx} {K : PySem.W.Frag} {es : List Expr} {t : TA} {pos : Pos} (hK : X.K = K) (h : PA X es t) : PE X (.List es pos) (tLstK K t) := by
  subst hK
  intro pins s σ H Q I hw
  refine wpAny_List_spliced (thn (h pos pins s σ H _ I hw) fun us s1 q1 => ?_)
  obtain ⟨xs, H1, I1, r, z, q⟩ := q1
  refine ⟨by rw [<- r.length]; exact z, ?_⟩
  have lk : X.K.lookup s1.heap.objs.size = none := by
    cases e : X.K.lookup s1.heap.objs.size with
    | none => rfl
    | some o => exact absurd (Heap.lt_size (I1.kIn _ o e)) (Nat.lt_irrefl _)
  exact ⟨.ref s1.heap.objs.size, _, I1.lnew (t' := s1.toks) r z, rfl, q _ I1.fresh lk⟩
theorem SqL.ne_new {K : PySem.W.Frag} {H : Hp} {a p : Addr} {xs : List V} (h : SqL K H a xs) (h1 : H p = none) (h2 : K.lookup p = none) : a ≠ p := by
  rintro rfl
  rcases h with (h | ⟨o, h⟩) | ⟨o, its, n, hk, _⟩
  · rw [h1] at h; cases h
  · rw [h1] at h; cases h
  · rw [h2] at hk; cases hk
theorem iteNT {c A B : Prop} [Decidable c] (hc : ¬ c) (h : A) : if (!decide c) = true then A else B := by
  rw [decide_eq_false hc]
  exact iteT h
theorem iteDT {c A B : Prop} [Decidable c] (hc : c) (h : A) : if decide c = true then A else B := by
  rw [decide_eq_true hc]
  exact iteT h
theorem iteDF {c A B : Prop} [Decidable c] (hc : ¬ c) (h : B) : if decide c = true then A else B := by
  rw [decide_eq_false hc]
  exact iteF h
theorem for_range0 {n : Nat} {g : TG} {tb : TS} {D : Ends} {σ : St} {H : Hp} (Pv : Nat -> St -> Hp -> Prop) (h0 : Pv 0 σ H)
    (hs : ∀ i σ H, i < n -> Pv i σ H -> g (.int (i : Int)) σ H fun σ2 H2 => tb { D with nx := Pv (i + 1), ct := Pv (i + 1), bk := D.nx } σ2 H2) (hd : ∀ σ H, Pv n σ H -> D.nx σ H) :
    ∃ W : Nat -> Nat -> St -> Hp -> Prop, (∃ m, W 0 m σ H) /\ ∀ i m σ H, W i m σ H ->
      ((Itr 0 ((n : Int)).toNat).stop i H /\ D.nx σ H) \/ ((Itr 0 ((n : Int)).toNat).go i H /\ ∃ N : St -> Hp -> Prop, (∀ σ' H', N σ' H' -> ∃ m', m' < m /\ W (i + 1) m' σ' H') /\ ∀ x H', (Itr 0 ((n : Int)).toNat).yld i H x H' -> g x σ H' fun σ2 H2 => tb { D with nx := N, ct := N, bk := D.nx } σ2 H2) := by
  rw [Int.toNat_natCast]
  exact for_range Pv h0 (fun i σ H hi p => by rw [Int.zero_add]; exact hs i σ H hi p) hd
theorem lc_range0 {n : Nat} {g : TG} {tc : TT} {te : TE} {Fin : List V -> Hp -> Prop} {σ₀ : St} {H : Hp} (Pv : Nat -> St -> List V -> Hp -> Prop) (h0 : Pv 0 σ₀ [] H) (hz : ∀ i σ ys H, Pv i σ ys H -> ys.length < sizeLine)
    (hs : ∀ i σ ys H, i < n -> Pv i σ ys H -> g (.int (i : Int)) σ H fun σ2 H2 => tc σ2 H2 fun b H3 => if b = true then te σ2 H3 fun v H4 => Pv (i + 1) σ2 (ys ++ [v]) H4 else Pv (i + 1) σ2 ys H3)
    (hd : ∀ σ ys H, Pv n σ ys H -> Fin ys H) : LcW (Itr 0 ((n : Int)).toNat) g tc te Fin σ₀ H := by
  rw [Int.toNat_natCast]
  exact lc_range Pv h0 hz (fun i σ ys H hi p => by rw [Int.zero_add]; exact hs i σ ys H hi p) hd
def gTupL (K : PySem.W.Frag) (n : Nat) (t : TGs) : TG := fun v σ H Q => ∃ a xs, v = .ref a /\ SqL K H a xs /\ xs.length = n /\ t xs σ H Q
theorem pgl {X : Cx} {K : PySem.W.Frag} {es : List Expr} {k : Nat} {pos : Pos} {t : TGs} {n : Nat} (hK : X.K = K) (hc : X.calm = true) (h : PGs X es t)
    (hn : (assignEach es X.env).length = n := by rfl) (hst : (assignEach es X.env).findIdx? (·.1) = none := by rfl) : PG X (.Tuple es k pos) (gTupL K n t) := by
  subst hK
  intro pins s σ H v u Q I r hw
  obtain ⟨a, xs, e1, hq, hl, hw⟩ := hw
  subst e1
  cases r
  obtain ⟨its, rv, ht, hz⟩ := I.list hq
  rw [PyProof.Rows.assign_Tuple]
  refine wpAny_bind (wpAny_standAt ?_)
  unfold unpack
  have hn' : (assignEach es X.env).length = its.toArray.size := by simp [hn, <- hl, rv.length]
  rw [hn', hst]
  refine wpAny_bind (wpAny_holding (PySem.W.kun_itemsOf (I.ok.hd hc) ht.isList fun h' hx => ?_))
  have I1 : Inv X pins σ H { s with heap := h' } := I.kept (t' := s.toks) fun b o e => hx b o (Nat.ne_of_lt (Heap.lt_size e)) e
  exact h pins _ σ H xs _ Q I1 (by simpa using rv) hw
inductive EqQ (K : PySem.W.Frag) (H : Hp) : Nat -> V -> V -> Bool -> Prop
  | flat {n : Nat} {x y : V} (hx : flatV x = true) (hy : flatV y = true) : EqQ K H n x y (eqV x y)
  | same {n : Nat} {a : Addr} : EqQ K H n (.ref a) (.ref a) true
  | lsts {n : Nat} {a b : Addr} {xs ys : List V} {e : Nat -> Bool} (ne : a ≠ b) (ha : SqL K H a xs) (hb : SqL K H b ys) (hl : xs.length = ys.length) (he : ∀ j x y, xs[j]? = some x -> ys[j]? = some y -> EqQ K H n x y (e j)) :
      EqQ K H (n + 1) (.ref a) (.ref b) ((List.range xs.length).all e)
  | lstsN {n : Nat} {a b : Addr} {xs ys : List V} (ne : a ≠ b) (ha : SqL K H a xs) (hb : SqL K H b ys) (hl : xs.length ≠ ys.length) : EqQ K H (n + 1) (.ref a) (.ref b) false
  | tups {n : Nat} {a b : Addr} {xs ys : List V} {e : Nat -> Bool} (ne : a ≠ b) (ha : SqT K H a xs) (hb : SqT K H b ys) (he : ∀ j x y, xs[j]? = some x -> ys[j]? = some y -> EqQ K H n x y (e j)) :
      EqQ K H (n + 1) (.ref a) (.ref b) ((List.range (min xs.length ys.length)).all e && xs.length == ys.length)
theorem Vals.getR : ∀ {xs : List V} {us : List Value} {j : Nat} {u : Value}, Vals xs us -> us[j]? = some u -> ∃ x, xs[j]? = some x /\ RelV x u
  | _, _, _, _, .nil, e => by simp at e
  | _, _, 0, _, .cons r _, e => by simp at e; subst e; exact ⟨_, rfl, r⟩
  | _, _, j + 1, u, .cons _ t, e => by
    obtain ⟨x, h1, h2⟩ := Vals.getR (j := j) (u := u) t (by simpa using e)
    exact ⟨x, by simpa using h1, h2⟩
theorem EqQ.at {X : Cx} {pins : List (Addr × Obj)} {σ : St} {H : Hp} {s : Shared} (I : Inv X pins σ H s) {n : Nat} {x y : V} {b : Bool} (h : EqQ X.K H n x y b) : ∀ {A : Around} {u v : Value}, RelV x u -> RelV y v -> A.units + n < cLine -> SeqAt.EqAt A s u v b := by
  induction h with
  | flat hx hy => intro A u v ru rv _; exact eqAt_V ru rv hx hy
  | same => intro A u v ru rv _; cases ru; cases rv; exact SeqAt.EqAt.same _
  | lsts ne ha hb hl he ih =>
    intro A u v ru rv hu
    cases ru; cases rv
    obtain ⟨us, r1, p1, _⟩ := I.list ha
    obtain ⟨vs, r2, p2, _⟩ := I.list hb
    have l1 := r1.length
    have l2 := r2.length
    have := SeqAt.EqAt.of_refs ne (SeqAt.RcAt.lists (A := A) (s := s) p1.isList p2.isList (by simp; omega) (by omega) fun j h1 h2 => by
      obtain ⟨x, hx, rx⟩ := Vals.getR r1 (j := j) (u := us.toArray[j]) (by simp at h1; simp [h1])
      obtain ⟨y, hy, ry⟩ := Vals.getR r2 (j := j) (u := vs.toArray[j]) (by simp at h2; simp [h2])
      exact ih j x y hx hy rx ry (by rw [Around.in1_units]; omega))
    simp only [List.size_toArray, <- l1] at this
    exact this
  | lstsN ne ha hb hl =>
    intro A u v ru rv hu
    cases ru; cases rv
    obtain ⟨us, r1, p1, _⟩ := I.list ha
    obtain ⟨vs, r2, p2, _⟩ := I.list hb
    have l1 := r1.length
    have l2 := r2.length
    exact SeqAt.EqAt.of_refs ne (SeqAt.RcAt.lists_lengths p1.isList p2.isList (by simp; omega) (by omega))
  | tups ne ha hb he ih =>
    intro A u v ru rv hu
    cases ru; cases rv
    obtain ⟨us, r1, p1, _⟩ := I.tuple ha
    obtain ⟨vs, r2, p2, _⟩ := I.tuple hb
    have l1 := r1.length
    have l2 := r2.length
    have := SeqAt.EqAt.of_refs ne (SeqAt.RcAt.tuples (A := A) (s := s) p1 p2 (by omega) fun j h1 h2 => by
      obtain ⟨x, hx, rx⟩ := Vals.getR r1 (j := j) (u := us.toArray[j]) (by simp at h1; simp [h1])
      obtain ⟨y, hy, ry⟩ := Vals.getR r2 (j := j) (u := vs.toArray[j]) (by simp at h2; simp [h2])
      exact ih j x y hx hy rx ry (by rw [Around.in1_units]; omega))
    simp only [List.size_toArray, <- l1, <- l2] at this
    exact this
inductive TopQ (K : PySem.W.Frag) (H : Hp) : V -> V -> Bool -> Prop
  | lsts {n : Nat} {a b : Addr} {xs ys : List V} {e : Nat -> Bool} (hn : n <= 32) (ha : SqL K H a xs) (hb : SqL K H b ys) (hl : xs.length = ys.length) (he : ∀ j x y, xs[j]? = some x -> ys[j]? = some y -> EqQ K H n x y (e j)) : TopQ K H (.ref a) (.ref b) ((List.range xs.length).all e)
  | lstsN {a b : Addr} {xs ys : List V} (ha : SqL K H a xs) (hb : SqL K H b ys) (hl : xs.length ≠ ys.length) : TopQ K H (.ref a) (.ref b) false
  | tups {n : Nat} {a b : Addr} {xs ys : List V} {e : Nat -> Bool} (hn : n <= 32) (ha : SqT K H a xs) (hb : SqT K H b ys) (he : ∀ j x y, xs[j]? = some x -> ys[j]? = some y -> EqQ K H n x y (e j)) : TopQ K H (.ref a) (.ref b) ((List.range (min xs.length ys.length)).all e && xs.length == ys.length)
def rQ (K : PySem.W.Frag) (neg : Bool) : R2 := fun x y H Q => ∃ b, TopQ K H x y b /\ Q (.bl (if neg then !b else b)) H
theorem eqq {X : Cx} {K : PySem.W.Frag} {k : Nat} (hK : X.K = K) (hr : Room k X.A) : OpR X (compareOp .Eq) (rQ K false) := by
  subst hK
  intro pins s σ H x y v u Q I rx ry h
  obtain ⟨b, h, q⟩ := h
  have hu := hr.units
  cases h with
  | @lsts n a b xs ys e hn ha hb hl he =>
    cases rx; cases ry
    obtain ⟨us, r1, p1, _⟩ := I.list ha
    obtain ⟨vs, r2, p2, _⟩ := I.list hb
    have l1 := r1.length
    have l2 := r2.length
    refine SeqAt.eq_listAt (e := e) p1.isList p2.isList (by simp; omega) (by omega) (fun j h1 h2 => ?_) ⟨.bl _, H, I, rfl, ?_⟩
    · obtain ⟨x, hx, rx⟩ := Vals.getR r1 (j := j) (u := us.toArray[j]) (by simp at h1; simp [h1])
      obtain ⟨y, hy, ry⟩ := Vals.getR r2 (j := j) (u := vs.toArray[j]) (by simp at h2; simp [h2])
      exact (he j x y hx hy).at I rx ry (by rw [Around.in1_units]; omega)
    · rw [List.size_toArray, <- l1]; exact q
  | lstsN ha hb hl =>
    cases rx; cases ry
    obtain ⟨us, r1, p1, _⟩ := I.list ha
    obtain ⟨vs, r2, p2, _⟩ := I.list hb
    have l1 := r1.length
    have l2 := r2.length
    exact SeqAt.eq_list_lengthsAt p1.isList p2.isList (by simp; omega) (by omega) ⟨.bl false, H, I, rfl, q⟩
  | @tups n a b xs ys e hn ha hb he =>
    cases rx; cases ry
    obtain ⟨us, r1, p1, _⟩ := I.tuple ha
    obtain ⟨vs, r2, p2, _⟩ := I.tuple hb
    have l1 := r1.length
    have l2 := r2.length
    refine SeqAt.eq_tupleAt (e := e) p1 p2 (by omega) (fun j h1 h2 => ?_) ⟨.bl _, H, I, rfl, ?_⟩
    · obtain ⟨x, hx, rx⟩ := Vals.getR r1 (j := j) (u := us.toArray[j]) (by simp at h1; simp [h1])
      obtain ⟨y, hy, ry⟩ := Vals.getR r2 (j := j) (u := vs.toArray[j]) (by simp at h2; simp [h2])
      exact (he j x y hx hy).at I rx ry (by rw [Around.in1_units]; omega)
    · rw [List.size_toArray, List.size_toArray, <- l1, <- l2]; exact q
theorem neq {X : Cx} {K : PySem.W.Frag} {k : Nat} (hK : X.K = K) (hr : Room k X.A) : OpR X (compareOp .NotEq) (rQ K true) := by
  subst hK
  intro pins s σ H x y v u Q I rx ry h
  obtain ⟨b, h, q⟩ := h
  have hu := hr.units
  cases h with
  | @lsts n a b xs ys e hn ha hb hl he =>
    cases rx; cases ry
    obtain ⟨us, r1, p1, _⟩ := I.list ha
    obtain ⟨vs, r2, p2, _⟩ := I.list hb
    have l1 := r1.length
    have l2 := r2.length
    refine SeqAt.RcNeAt.lists (e := e) p1.isList p2.isList (by simp; omega) (by omega) (fun j h1 h2 => ?_) X.prog X.w X.xe _ ⟨.bl _, H, I, rfl, ?_⟩
    · obtain ⟨x, hx, rx⟩ := Vals.getR r1 (j := j) (u := us.toArray[j]) (by simp at h1; simp [h1])
      obtain ⟨y, hy, ry⟩ := Vals.getR r2 (j := j) (u := vs.toArray[j]) (by simp at h2; simp [h2])
      exact (he j x y hx hy).at I rx ry (by rw [Around.in1_units]; omega)
    · rw [List.size_toArray, <- l1]; exact q
  | lstsN ha hb hl =>
    cases rx; cases ry
    obtain ⟨us, r1, p1, _⟩ := I.list ha
    obtain ⟨vs, r2, p2, _⟩ := I.list hb
    have l1 := r1.length
    have l2 := r2.length
    exact SeqAt.RcNeAt.lists_lengths p1.isList p2.isList (by simp; omega) (by omega) X.prog X.w X.xe _ ⟨.bl true, H, I, rfl, q⟩
  | @tups n a b xs ys e hn ha hb he =>
    cases rx; cases ry
    obtain ⟨us, r1, p1, _⟩ := I.tuple ha
    obtain ⟨vs, r2, p2, _⟩ := I.tuple hb
    have l1 := r1.length
    have l2 := r2.length
    refine SeqAt.RcNeAt.tuples (e := e) p1 p2 (by omega) (fun j h1 h2 => ?_) X.prog X.w X.xe _ ⟨.bl _, H, I, rfl, ?_⟩
    · obtain ⟨x, hx, rx⟩ := Vals.getR r1 (j := j) (u := us.toArray[j]) (by simp at h1; simp [h1])
      obtain ⟨y, hy, ry⟩ := Vals.getR r2 (j := j) (u := vs.toArray[j]) (by simp at h2; simp [h2])
      exact (he j x y hx hy).at I rx ry (by rw [Around.in1_units]; omega)
    · rw [List.size_toArray, List.size_toArray, <- l1, <- l2]; exact q
theorem paired_getL {α β : Type} {F : α -> β -> Prop} : ∀ {l : List α} {m : List β}, Paired F l m -> ∀ {i : Nat} {a : α}, l[i]? = some a -> ∃ b, m[i]? = some b /\ F a b
  | _, _, .nil, i, a, h => by simp at h
  | _, _, .cons r t, 0, a, h => by simp at h; subst h; exact ⟨_, rfl, r⟩
  | _, _, .cons r t, i + 1, a, h => by simp at h; obtain ⟨b, q1, q2⟩ := paired_getL t h; exact ⟨b, by simpa using q1, q2⟩
def rAll (K : PySem.W.Frag) : List V -> Hp -> VK -> Prop := fun xs H Q => ∃ (p : Addr) (bs : List Bool), xs = [.ref p] /\ SqL K H p (bs.map V.bl) /\ Q (.bl (bs.all id)) H
theorem allq {X : Cx} {K : PySem.W.Frag} (hK : X.K = K) (hc : X.calm = true := by rfl) : CallR X (.builtin "all") (rAll K) := by
  subst hK
  intro pins s σ H xs us Q I r h
  obtain ⟨p, bs, rfl, hq, q⟩ := h
  obtain ⟨u, rfl, rx⟩ := vals1 r
  cases rx
  obtain ⟨its, rv, pl, hz⟩ := I.list hq
  have hl := pl.isList
  have hlen := rv.length
  rw [List.length_map] at hlen
  have hne : p ≠ s.heap.objs.size := by obtain ⟨o, ho, _⟩ := hl; exact Nat.ne_of_lt (Heap.lt_size ho)
  have at_ : ∀ (i : Nat) (v : Value), its.toArray[i]? = some v -> ∃ b, bs[i]? = some b /\ v = .bool b := by
    intro i v e
    rw [List.getElem?_toArray] at e
    obtain ⟨x, hx, rx⟩ := Vals.getR rv e
    rw [List.getElem?_map] at hx
    cases eb : bs[i]? with
    | none => rw [eb] at hx; cases hx
    | some b => rw [eb] at hx; cases hx; exact ⟨b, rfl, rx⟩
  refine call_all_walk (wpAny_pyIter_list hl ?_)
  refine ⟨s.heap.objs.size, [s.heap.objs.size, p], [s.heap.objs.size], its.toArray.size, fun i v => its.toArray[i]? = some v, fun i h => h.IsListIter s.heap.objs.size p i /\ h.IsList p its.toArray, fun i => bs.getD i true, rfl,
    Walks.list (A := X.A.in1) (show X.A.in1.handled = none from I.ok.hd hc) _ p hne its.toArray, ⟨⟨_, Heap.get?_push_size _ rfl, rfl, rfl⟩, hl.push _⟩, fun i v s' Q' E' hP hQ' => ?_, fun h' tk hk => ?_⟩
  · obtain ⟨b, eb, rfl⟩ := at_ i v hP
    have e2 : bs.getD i true = b := by rw [List.getD_eq_getElem?_getD, eb]; rfl
    have hQ2 : Q' (bs.getD i true) s' := hQ'
    rw [e2] at hQ2
    exact wpAny_truthy_bool hQ2
  · have ea : ((List.range its.toArray.size).all fun i => bs.getD i true) = bs.all id := by
      rw [List.size_toArray, <- hlen, Bool.eq_iff_iff, List.all_eq_true, List.all_eq_true]
      constructor
      · intro z b hb
        obtain ⟨i, hi, e⟩ := List.getElem_of_mem hb
        have := z i (List.mem_range.mpr hi)
        rw [List.getD_eq_getElem?_getD, List.getElem?_eq_getElem hi, e] at this
        exact this
      · intro z i hi
        rw [List.mem_range] at hi
        rw [List.getD_eq_getElem?_getD, List.getElem?_eq_getElem hi]
        exact z _ (List.getElem_mem hi)
    show EP X pins σ Q (.bool ((List.range its.toArray.size).all fun i => bs.getD i true)) _
    rw [ea]
    exact ⟨.bl _, H, I.kept (t' := tk) fun b o e => hk b o (fun m => by rw [List.mem_singleton] at m; subst m; exact absurd (Heap.lt_size e) (Nat.lt_irrefl _)) (Heap.get?_push_of_some _ e), rfl, q⟩
theorem ObjOk.ex {P : Program} {w : World} {H : Hp} {h : Heap} {a : Addr} : ∀ {o : HO}, ObjOk P w H h a o -> ∃ ob, h.get? a = some ob
  | .lst xs, x => by obtain ⟨_, _, _, _, e⟩ := x; exact ⟨_, e⟩
  | .tup xs, x => by obtain ⟨_, _, _, ob, e, _⟩ := x; exact ⟨_, e⟩
  | .dK kvs, x => by obtain ⟨_, _, _, _, o, _, _, e, _⟩ := x; exact ⟨_, e⟩
  | .dT kvs, x => by obtain ⟨_, _, _, _, o, _, _, e, _⟩ := x; exact ⟨_, e⟩
  | .set S n, x => by obtain ⟨o, _, _, _, e, _⟩ := x; exact ⟨_, e⟩
  | .ins C dx fs, x => by obtain ⟨_, _, _, e, _⟩ := x; exact ⟨_, e⟩
  | .own y, x => x
  | .xd fs, x => by obtain ⟨_, ⟨o, _, _, e, _⟩, _⟩ := x; exact ⟨_, e⟩
  | .met f y, x => ⟨_, x⟩
  | .rng lo hi, x => by obtain ⟨_, _, _, e⟩ := x; exact ⟨_, e⟩
  | .frz o u, x => ⟨_, x.1⟩
  | .tbl ps, x => ⟨_, x⟩
  | .ext φ, x => x.2.1
  | .tab p q, x => by obtain ⟨_, e, _⟩ := x; exact ⟨_, e⟩
section
variable {P : Program} {w : World} {K : PySem.W.Frag} {mg : Str -> Option Value} {base : Heap} {N : List Str} {qual : Str} {scope : Scope} {f : Addr} {cd : Value} {A : Around} {outer : List Env} {s0 : Shared} {H0 : Hp} {E : XK}
end
section
variable {prog : Program} {w : World} {A : Around} {E : Value -> Shared -> Prop} {s : Shared} {K : PySem.W.Frag} {x C : Addr} {ox : Obj}
end
abbrev TJ := Str -> St -> Hp -> (Str -> Hp -> Prop) -> Prop
section
variable {X : Cx} {e a b : Expr} {es r : List Expr} {t : TE} {u : TJ} {pos : Pos}
end
section
variable {P : Program} {w : World} {K : PySem.W.Frag} {mg : Str -> Option Value} {base : Heap} {N : List Str} {qual : Str} {scope : Scope} {f : Addr} {cd : Value} {A : Around} {outer : List Env} {s0 : Shared} {H0 : Hp} {E : XK}
end
section
variable {prog : Program} {w : World} {A : Around} {E : Value -> Shared -> Prop} {s : Shared} {K : PySem.W.Frag} {x C D : Addr} {ox : Obj}
end
section
variable {X : Cx} {pins : List (Addr × Obj)} {σ : St} {H : Hp} {s : Shared}
end
section
variable {P : Program} {w : World} {K : PySem.W.Frag} {mg : Str -> Option Value} {base : Heap} {N : List Str} {qual : Str} {scope : Scope} {f : Addr} {cd : Value} {A : Around} {outer : List Env} {s0 : Shared} {H0 : Hp} {E : XK}
end
section
variable {es : List Expr} {env : Env}
end
section
variable {X : Cx} {e a b : Expr} {es : List Expr} {te ta tb : TE} {t : TA} {pos : Pos}
end
def rIndex : V -> List V -> Hp -> VK -> Prop := fun x vs H Q => ∃ (l : Addr) (ns : List Int) (k : Int), x = .ref l /\ vs = [.int k] /\ H l = some (.lst (ns.map V.int)) /\ k ∈ ns /\ Q (.int ((ns.idxOf k : Nat) : Int)) H
theorem mt_index {X : Cx} : MtM X "list.index" rIndex := by
  intro pins s σ H x vs v us Q I rx rv h
  obtain ⟨l, ns, k, rfl, rfl, hH, hk, q⟩ := h
  cases rx
  obtain ⟨u, rfl, ru⟩ := rv.one
  obtain ⟨t, rfl⟩ := ru
  obtain ⟨z, its, n, r, hl, e⟩ := I.lstM hH
  have hi := intsAre_of r
  have hlen := hi.length
  have hj : ns.idxOf k < ns.length := List.idxOf_lt_length_iff.mpr hk
  have hz : its.length <= sizeLine := by rw [List.length_map] at z; omega
  have hs : (sizeLine : Nat) < 2 ^ 62 := by decide
  refine call_meets F.slot_list_index ⟨_, e, rfl⟩ F.entry_list_index (F.args_list_index_2 _ _)
    (PySem.SeqAt.list_indexAt l its.toArray n none #[] (.int k t) (isInt k) (ns.idxOf k) (by simpa [hlen] using hj) (by omega) ?_ ?_) ⟨e, fun y hy => (eq_isInt k t hi y (by simpa using hy)).at _ _, ?_⟩
  · show isInt k its[ns.idxOf k] = true
    rw [isInt_at k hi _ (by omega) hj]
    simpa using List.getElem_idxOf hj
  · intro j hjs hlt
    show isInt k its[j] = false
    rw [isInt_at k hi j (by simpa using hjs) (by omega)]
    exact ne_of_lt_idxOf hlt _
  · exact ⟨.int _, H, I.tok _, ⟨_, rfl⟩, q⟩
theorem and_nat (a b : Nat) : Builtin.bitAnd (a : Int) (b : Int) = ((a &&& b : Nat) : Int) := by
  unfold Builtin.bitAnd
  simp
theorem or_nat (a b : Nat) : Builtin.bitOr (a : Int) (b : Int) = ((a ||| b : Nat) : Int) := by
  unfold Builtin.bitOr
  have n0 : ∀ x : Nat, Builtin.bitNot (x : Int) = -(x : Int) - 1 := fun x => by unfold Builtin.bitNot; omega
  have nn : ∀ x : Int, Builtin.bitNot (Builtin.bitNot x) = x := fun x => by unfold Builtin.bitNot; omega
  have h1 : Builtin.bitAnd (Builtin.bitNot (a : Int)) (Builtin.bitNot (b : Int)) = Builtin.bitNot (((Builtin.bitNot (Builtin.bitNot (a : Int))).toNat ||| (Builtin.bitNot (Builtin.bitNot (b : Int))).toNat : Nat) : Int) := by
    have da : decide ((0 : Int) <= Builtin.bitNot (a : Int)) = false := by rw [n0]; exact decide_eq_false (by omega)
    have db : decide ((0 : Int) <= Builtin.bitNot (b : Int)) = false := by rw [n0]; exact decide_eq_false (by omega)
    rw [Builtin.bitAnd, da, db]
  rw [h1, nn, nn, nn, Int.toNat_natCast, Int.toNat_natCast]
section
variable {prog : Program} {w : World} {A : Around} {E : Value -> Shared -> Prop} {s : Shared}
theorem nextOf_tup {it t : Addr} {i : Nat} {ws : Array Value} {x : Value} {Q : Value -> Shared -> Prop} (J : s.heap.IsTupleIter it t i) (L : s.heap.IsTuple t ws) (ex : ws[i]? = some x)
    (q : ∀ h', h'.IsTupleIter it t (i + 1) -> Heap.SameBut it s.heap h' -> Q x { s with heap := h' }) : wpAny (model prog w) A (Builtin.SmallTypes.nextOf (.ref it)) Q E s := by
  obtain ⟨ob, e1, e2, e3⟩ := id J
  obtain ⟨tb, e4, _, m, e5⟩ := L
  unfold Builtin.SmallTypes.nextOf
  refine wpAny_bind (wpAny_callSpecial?_slot (name := Str.ofString "__next__") J.typeIs F.slot_tuple_iterator_next (wpAny_call_entry F.slot_tuple_iterator_next J.typeIs F.entry_tuple_iterator_next ?_ (F.args_tuple_iterator_next_1 _)))
  show wpAny _ _ (field (.ref it) 0 >>= _) _ _ s; refine wpAny_bind (wpAny_field e1 e3 (x := .ref t) rfl ?_)
  show wpAny _ _ (if (Value.ref t == Value.none) = true then _ else _) _ _ s; rw [if_neg (show ¬ ((Value.ref t == Value.none) = true) from Bool.false_ne_true)]
  show wpAny _ _ (field (.ref it) 1 >>= _) _ _ s; refine wpAny_bind (wpAny_field e1 e3 (x := .int i 0) rfl ?_)
  show wpAny _ _ (seqItems? (.ref t) >>= _) _ _ s; refine wpAny_bind (wpAny_seqItems e4 e5 ?_)
  simp only [Int.toNat_natCast, ex]
  refine wpAny_bind (wpAny_setField e1 e3 (by simp) (wpAny_pure ⟨x, rfl, wpAny_pure (q _ ⟨_, Heap.get?_update_self _ e1 (Obj.isFreed_of_fields (Obj.data_mapFields e3 _)), (Obj.cls_mapFields ..).trans e2, by rw [Obj.data_mapFields e3]; simp [rawInt]⟩ (Heap.SameBut.update ..))⟩))
theorem nextOf_tup_end {it t : Addr} {i : Nat} {ws : Array Value} {Q : Value -> Shared -> Prop} (hd : A.handled = none) (J : s.heap.IsTupleIter it t i) (L : s.heap.IsTuple t ws) (ex : ws[i]? = none)
    (q : ∀ h' e, Heap.ExtBut it s.heap h' -> (∃ o, h'.get? e = some o /\ o.cls = .type "StopIteration") -> E (.ref e) { s with heap := h' }) : wpAny (model prog w) A (Builtin.SmallTypes.nextOf (.ref it)) Q E s := by
  obtain ⟨ob, e1, e2, e3⟩ := id J
  obtain ⟨tb, e4, _, m, e5⟩ := L
  unfold Builtin.SmallTypes.nextOf
  refine wpAny_bind (wpAny_callSpecial?_slot (name := Str.ofString "__next__") J.typeIs F.slot_tuple_iterator_next (wpAny_call_entry F.slot_tuple_iterator_next J.typeIs F.entry_tuple_iterator_next ?_ (F.args_tuple_iterator_next_1 _)))
  show wpAny _ _ (field (.ref it) 0 >>= _) _ _ s; refine wpAny_bind (wpAny_field e1 e3 (x := .ref t) rfl ?_)
  show wpAny _ _ (if (Value.ref t == Value.none) = true then _ else _) _ _ s; rw [if_neg (show ¬ ((Value.ref t == Value.none) = true) from Bool.false_ne_true)]
  show wpAny _ _ (field (.ref it) 1 >>= _) _ _ s; refine wpAny_bind (wpAny_field e1 e3 (x := .int i 0) rfl ?_)
  show wpAny _ _ (seqItems? (.ref t) >>= _) _ _ s; refine wpAny_bind (wpAny_seqItems e4 e5 ?_)
  simp only [Int.toNat_natCast, ex]
  refine wpAny_bind (wpAny_rule (wpAny_bind (wpAny_setField e1 e3 (by simp) ?_))); show wpAny _ _ (newExc (.type "StopIteration") [] >>= _) _ _ _
  refine wpAny_bind ?_; simp only [newExc, newTuple]; refine wpAny_bind (wpAny_newObj_type ?_ (by size_fits))
  refine wpAny_bind (m := firstArgMember _ _) (wpAny_of_eq (a := Value.none) (by first | rfl | (simp only [firstArgMember]; rfl)) ?_); refine wpAny_newObj_type ?_ (by size_fits)
  simp only [raiseNew]; refine wpAny_bind (wpAny_handled ?_)
  (first | rw [show A.in1.handled = none from hd] | rw [hd]); refine wpAny_bind (wpAny_pure (wpAny_throw ?_))
  exact q _ _ (((Heap.SameBut.update ..).extBut.push _).push _) ⟨_, Heap.get?_push_size _ rfl, rfl⟩
end
theorem drawsT {prog : Program} {w : World} {A : Around} (hd : A.handled = none) (it t : Addr) (ne : t ≠ it) (ws : Array Value) :
    Draws prog w A it [it, t] ws.size (fun i v => ws[i]? = some v) (fun i h => h.IsTupleIter it t i /\ h.IsTuple t ws) where
  live := fun _ _ z => let ⟨o, e, _⟩ := z.1; ⟨o, e⟩
  frame := fun _ _ _ z k => ⟨let ⟨o, e, r⟩ := z.1; ⟨o, k it (by simp) o e, r⟩, let ⟨o, e, r⟩ := z.2; ⟨o, k t (by simp) o e, r⟩⟩
  item := fun i s Q E hi z q => nextOf_tup z.1 z.2 (x := ws[i]) (by simp [hi]) fun h' a b => q _ h' s.toks (by simp [hi]) ⟨a, z.2.extBut b.extBut ne⟩ b
  done := fun s Q E z q => nextOf_tup_end hd z.1 z.2 (by simp) q
theorem drawsE {prog : Program} {w : World} {A : Around} (hd : A.handled = none) (it t : Addr) (ws : Array Value) (i : Nat) (hi : ws[i]? = none) :
    Draws prog w A it [it, t] 0 (fun _ _ => True) (fun _ h => h.IsTupleIter it t i /\ h.IsTuple t ws) where
  live := fun _ _ z => let ⟨o, e, _⟩ := z.1; ⟨o, e⟩
  frame := fun _ _ _ z k => ⟨let ⟨o, e, r⟩ := z.1; ⟨o, k it (by simp) o e, r⟩, let ⟨o, e, r⟩ := z.2; ⟨o, k t (by simp) o e, r⟩⟩
  item := fun i s Q E hi => absurd hi (Nat.not_lt_zero _)
  done := fun s Q E z q => nextOf_tup_end hd z.1 z.2 hi q
abbrev tIt (t : Addr) : Obj := { cls := .type "tuple_iterator", data := .fields #[.ref t, .int 0 0] }
abbrev enOb (a : Addr) : Obj := { cls := .type "enumerate", data := .fields #[.none, .bool false, .ref a, rawInt 0, .none, .none] }
theorem meets_enumT (t : Addr) (ws : Array Value) (n : Nat) (dc : Option Addr) (sl : Array (Option Value)) :
    Meets (Builtin.«enumerate.__new__» ⟨[.type "enumerate", .ref t], []⟩) (fun _ R s => s.heap.get? t = some { cls := .type "tuple", dict := dc, data := .seq ws n, slots := sl } /\
      R (.ok (.ret (.ref (s.heap.push (tIt t)).objs.size))) { s with heap := (s.heap.push (tIt t)).push (enOb s.heap.objs.size) }) := .of_wp fun prog w A R s h => by
    obtain ⟨hp, g, d, tk, os⟩ := s
    obtain ⟨e1, h⟩ := h
    have sb := sub_enumerate
    have L : Heap.IsTuple (Shared.heap ⟨hp, g, d, tk, os⟩) t ws := ⟨_, e1, rfl, n, rfl⟩
    wp_walk using AutoSeq1.wpAny_loadPart' e1
    refine wpAny_stack_any fun st => wpAny_pure ?_
    split
    · rename_i c _ _ _ _ _
      cases (c == Value.type "enumerate") <;> (wp_walk using AutoSeq1.wpAny_loadPart' e1, wpAny_pyIter_tuple L) <;> exact ⟨_, rfl, h⟩
    · (wp_walk using AutoSeq1.wpAny_loadPart' e1, wpAny_pyIter_tuple L); exact ⟨_, rfl, h⟩
theorem call_enumT {prog : Program} {w : World} {A : Around} {E : Value -> Shared -> Prop} {s : Shared} {t : Addr} {ws : Array Value} {Q : Value -> Shared -> Prop} (L : s.heap.IsTuple t ws)
    (h : ∀ h', IsEnum h' (s.heap.objs.size + 1) s.heap.objs.size 0 .none -> h'.IsTupleIter s.heap.objs.size t 0 -> (∀ b o, s.heap.get? b = some o -> h'.get? b = some o) -> Q (.ref (s.heap.objs.size + 1)) { s with heap := h' }) :
    wpAny (model prog w) A (call (.type "enumerate") [.ref t]) Q E s := by
  obtain ⟨⟨c, dc, dt, sl⟩, e1, e2, n, e3⟩ := L
  have e2 : c = .type "tuple" := e2
  have e3 : dt = .seq ws n := e3
  subst e2 e3
  refine callType_new F.called_enumerate (by decide) (F.typeCall_enumerate_1 _) (F.newCall_enumerate_1 _) (fun ob => F.args_object_init_2 ob _) F.entry_enumerate_new (meets_enumT t ws n dc sl) ⟨e1, ?_⟩
  have z : (s.heap.push (tIt t)).objs.size = s.heap.objs.size + 1 := Heap.size_push ..
  have e4 : IsEnum ((s.heap.push (tIt t)).push (enOb s.heap.objs.size)) (s.heap.objs.size + 1) s.heap.objs.size 0 .none := by
    have q := Heap.get?_push_size (s.heap.push (tIt t)) (o := enOb s.heap.objs.size) rfl
    rw [z] at q
    exact q
  show _ /\ _
  rw [z]
  exact ⟨⟨_, e4, rfl⟩, h _ e4 ⟨_, Heap.get?_push_of_some _ (Heap.get?_push_size _ rfl), rfl, rfl⟩ fun b o x => Heap.get?_push_of_some _ (Heap.get?_push_of_some _ x)⟩
def Itet (K : PySem.W.Frag) (a : Addr) : It :=
  ⟨fun i H => ∃ xs x, SqT K H a xs /\ xs[i]? = some x, fun i H v H' => ∃ t x, v = .ref t /\ H t = none /\ H' = upd H t (.tup [.int i, x]) /\ ∀ xs, SqT K H a xs -> xs[i]? = some x, fun i H => ∃ xs, SqT K H a xs /\ xs.length <= i⟩
theorem turn_enumT {P : Program} {w : World} {K : PySem.W.Frag} {es : List Expr} {x1 : Nat} {tp : Pos} (a e it : Addr) (hne : e ≠ it) (hae : a ≠ e) (hai : a ≠ it) : Turn P w K (.Tuple es x1 tp) (Itet K a) [e, it] e (fun i h => (∃ old, IsEnum h e it (i : Int) old) /\ h.IsTupleIter it a i) where
  mem := by simp
  obj := fun i h st b hb => by
    obtain ⟨⟨old, s1⟩, o, e2, c, d⟩ := st
    rcases List.mem_cons.mp hb with rfl | hb
    · exact ⟨_, s1, fun v z => nomatch z⟩
    · have z : b = it := by simpa using hb
      subst z
      exact ⟨o, e2, fun v z => by rw [d] at z; cases z⟩
  keep := fun i h h' st k => ⟨let ⟨old, z⟩ := st.1; ⟨old, k e (by simp) _ z⟩, let ⟨o, z, r⟩ := st.2; ⟨o, k it (by simp) o z, r⟩⟩
  item := by
    intro X hP hw hK hc i pins s σ H E I hf st hg
    subst hP hw hK
    obtain ⟨xs, x, hq, hx⟩ := hg
    obtain ⟨its, rv, p, hz⟩ := I.tuple hq
    obtain ⟨u, hu, ru⟩ := rv.get hx
    obtain ⟨⟨old, s1⟩, s2⟩ := st
    have hlt : i < its.toArray.size := by
      have := (List.getElem?_eq_some_iff.mp hu).1
      simpa using this
    refine wpAny_pyNext_enum_itemD (drawsT (A := X.A.in1) (I.ok.hd hc) it a hai its.toArray) s1 ⟨s2, show s.heap.IsTuple a its.toArray from p⟩ hlt hne (by simp [hne, Ne.symm hae]) fun u' h' tk hP' o1 o2 o3 o4 o5 => ?_
    have eu : u' = u := by
      have : its.toArray[i]? = some u := by simpa using hu
      rw [this] at hP'
      exact (Option.some.inj hP').symm
    subst eu
    refine ⟨_, rfl, ?_⟩
    refine wpAny_letOwnedTupleGo_enum o1 fun h2 he hs => ?_
    have lt1 : e < s.heap.objs.size := Heap.lt_size s1
    have lt2 : it < s.heap.objs.size := by obtain ⟨o, z, _⟩ := s2; exact Heap.lt_size z
    have ot : h2.get? s.heap.objs.size = some { cls := .type "tuple", data := .seq #[.int i tk, u'] } := (hs.2 _ (Nat.ne_of_gt lt1)).trans o3
    have s2' : h2.IsTupleIter it a (i + 1) := let ⟨o, z, r⟩ := o2.1; ⟨o, (hs.2 it (Ne.symm hne)).trans z, r⟩
    have I1 : Inv X pins σ H { s with heap := h2, toks := tk + 1 } := I.turnedL (ch := [e, it]) (fun b o hb z => by
      have n1 : b ≠ e := fun q => hb (by simp [q])
      have n2 : b ≠ it := fun q => hb (by simp [q])
      exact (hs.2 b n1).trans (o5 b o n1 n2 z)) hf (fun b hb => by
      rcases List.mem_cons.mp hb with rfl | hb
      · exact ⟨_, he⟩
      · have z : b = it := by simpa using hb
        subst z
        obtain ⟨o, q, _⟩ := s2'
        exact ⟨o, q⟩)
    have nT : H s.heap.objs.size = none := I.hok.fresh (Nat.le_refl _)
    have fT := I.fpOk (H' := H) (Nat.le_refl _) nT
    have I2 := I1.adopt (a := s.heap.objs.size) (o := .tup [.int i, x]) nT ⟨by show 2 <= sizeLine; decide, [.int i tk, u'], .cons ⟨_, rfl⟩ (.cons ru .nil), ⟨_, ot, rfl, 0, rfl⟩⟩ I.sz fT.2.1 fT.2.2.2.2.1 fT.2.2.2.2.2
    refine ⟨.ref s.heap.objs.size, _, I2, rfl, ⟨_, x, rfl, nT, rfl, fun ys hy => by rw [I.tuple_inj hy hq]; exact hx⟩, ⟨⟨u', by simpa using he⟩, s2'⟩, fun b hb => ?_⟩
    rw [upd_ne]
    · exact (hf b hb).1
    · rcases List.mem_cons.mp hb with rfl | hb
      · exact Nat.ne_of_lt lt1
      · have z : b = it := by simpa using hb
        subst z
        exact Nat.ne_of_lt lt2
  done := by
    intro X hP hw hK hc i pins s σ H E I hf st hg
    subst hP hw hK
    obtain ⟨xs, hq, hx⟩ := hg
    obtain ⟨its, rv, p, hz⟩ := I.tuple hq
    obtain ⟨⟨old, s1⟩, s2⟩ := st
    obtain ⟨f0, f1, f2, f3, f4, f5⟩ := hf it (by simp)
    have hl := rv.length
    exact wpAny_pyNext_enum_endD (drawsE (A := X.A.in1) (I.ok.hd hc) it a its.toArray i (by simp; omega)) s1 ⟨s2, show s.heap.IsTuple a its.toArray from p⟩ fun h' eb => ⟨rfl, I.turned (t' := s.toks) (fun b o hb z => eb b o hb z) f0 f1 f3 f4 f5⟩
  self := fun _ _ _ _ _ st h => let ⟨⟨_, s1⟩, _⟩ := st; wpAny_pyIter_enum s1 h
def iEnumT (K : PySem.W.Frag) (ta : TA) : TI := fun σ H R => ta σ H fun vs H1 => ∃ a, vs = [.ref a] /\ (∃ xs, SqT K H1 a xs) /\ R (Itet K a) H1
theorem pi_enumT {X : Cx} {K : PySem.W.Frag} {es : List Expr} {x1 : Nat} {tp : Pos} {l : Expr} {ta : TA} {p pos : Pos} (hK : X.K = K) (hg : Gl X "enumerate") (hm : X.mg "enumerate" = none) (ha : PA X [l] ta) (hs : starEach [l] X.env = [(false, eval l X.env)] := by rfl) :
    PI X (.Tuple es x1 tp) (.Call (.Name "enumerate" p) [l] [] pos) (iEnumT K ta) := by
  subst hK
  intro pins s σ H R I h
  refine Call_ (ld_blt I hg hm boot_enumerate (PyProof.Rows.callWith_type1 (thn (ha pos pins s σ H _ I h) fun us s1 ⟨vs, H1, I1, r1, q1⟩ => ?_) hs rfl))
  obtain ⟨a, rfl, ⟨xs, hq⟩, q⟩ := q1
  obtain ⟨u, rfl, rx⟩ := vals1 r1
  cases rx
  obtain ⟨its, rv, pl, hz⟩ := I1.tuple hq
  have hlt : a < s1.heap.objs.size := by obtain ⟨o, z, _⟩ := pl; exact Heap.lt_size z
  refine call_enumT (show s1.heap.IsTuple a its.toArray from pl) fun h' e1 e2 e4 => ?_
  refine wpAny_pyIter_enum e1 ?_
  have I2 : Inv X pins σ H1 { s1 with heap := h' } := I1.kept (t' := s1.toks) e4
  refine ⟨s1.heap.objs.size + 1, [s1.heap.objs.size + 1, s1.heap.objs.size], _, _, H1, rfl, I2, turn_enumT a _ _ (Nat.succ_ne_self _) (Nat.ne_of_lt (Nat.lt_succ_of_lt hlt)) (Nat.ne_of_lt hlt), ⟨⟨_, e1⟩, e2⟩, fun b hb => ?_, q⟩
  have hb' : s1.heap.objs.size <= b := by
    rcases List.mem_cons.mp hb with rfl | hb
    · exact Nat.le_succ _
    · have z : b = s1.heap.objs.size := by simpa using hb
      exact Nat.le_of_eq z.symm
  exact I1.fpOk hb' (I1.hok.fresh hb')
theorem for_enumT {K : PySem.W.Frag} {a : Addr} {xs : List V} {g : TG} {tb : TS} {D : Ends} {σ : St} {H : Hp} (Pv : Nat -> St -> Hp -> Prop) (h0 : Pv 0 σ H) (hl : ∀ i σ H, i <= xs.length -> Pv i σ H -> SqT K H a xs)
    (hs : ∀ i x t σ H, xs[i]? = some x -> Pv i σ H -> H t = none -> g (.ref t) σ (upd H t (.tup [.int i, x])) fun σ2 H2 => tb { D with nx := Pv (i + 1), ct := Pv (i + 1), bk := D.nx } σ2 H2) (hd : ∀ σ H, Pv xs.length σ H -> D.nx σ H) :
    ∃ W : Nat -> Nat -> St -> Hp -> Prop, (∃ m, W 0 m σ H) /\ ∀ i m σ H, W i m σ H ->
      ((Itet K a).stop i H /\ D.nx σ H) \/ ((Itet K a).go i H /\ ∃ N : St -> Hp -> Prop, (∀ σ' H', N σ' H' -> ∃ m', m' < m /\ W (i + 1) m' σ' H') /\ ∀ x H', (Itet K a).yld i H x H' -> g x σ H' fun σ2 H2 => tb { D with nx := N, ct := N, bk := D.nx } σ2 H2) := by
  refine ⟨fun i m σ H => m = xs.length - i /\ i <= xs.length /\ Pv i σ H, ⟨xs.length, by simp, Nat.zero_le _, h0⟩, ?_⟩
  rintro i m σ H ⟨rfl, hi, p⟩
  have q := hl i σ H hi p
  by_cases hlt : i < xs.length
  · refine .inr ⟨⟨xs, _, q, List.getElem?_eq_getElem hlt⟩, Pv (i + 1), fun σ' H' z => ⟨xs.length - (i + 1), by omega, rfl, hlt, z⟩, ?_⟩
    rintro x H' ⟨t, y, rfl, ht, rfl, hy⟩
    exact hs i y t σ H (hy xs q) p ht
  · have : i = xs.length := by omega
    subst this
    exact .inl ⟨⟨xs, q, Nat.le_refl _⟩, hd σ H p⟩
theorem refs_at : ∀ {rs : List Addr} {us : List Value}, Vals (rs.map V.ref) us -> ∀ (j : Nat) (h1 : j < us.length) (h2 : j < rs.length), us[j] = .ref rs[j]
  | [], _, .nil => fun j h1 => by simp at h1
  | r :: rs, _, .cons h t => fun j h1 h2 => by
    cases j with
    | zero => cases h; rfl
    | succ j => exact refs_at t j (Nat.lt_of_succ_lt_succ h1) (Nat.lt_of_succ_lt_succ h2)
structure LcScopeC (N : List Str) (osc sc : Scope) (NB : List Str) (nt : Nat) (fr : List Nat) : Prop where
  kind : sc.kind = .function
  celn : ∀ y ∈ sc.names, y.2 = .cell -> sc.names.lookup y.1 = some .cell
  locs : ∀ y ∈ sc.names, y.2 = .local -> sc.names.lookup y.1 = some .local
  len : NB.length = nt + fr.length
  frN : ∀ (j i : Nat), fr[j]? = some i -> NB[nt + j]? = N[i]?
  frF : ∀ (j : Nat) (x : Str), j < fr.length -> NB[nt + j]? = some x -> sc.names.lookup x = some .free
  out : ∀ y ∈ sc.names, y.2 = .free -> osc.names.lookup y.1 = some .cell \/ osc.names.lookup y.1 = some .free
def lcOkC (N : List Str) (osc sc : Scope) (NB : List Str) (nt : Nat) (fr : List Nat) : Bool :=
  decide (sc.kind = .function) && sc.names.all (fun y => !decide (y.2 = .cell) || decide (sc.names.lookup y.1 = some .cell)) && sc.names.all (fun y => !decide (y.2 = .local) || decide (sc.names.lookup y.1 = some .local)) && decide (NB.length = nt + fr.length) &&
  (List.range fr.length).all (fun j => decide (NB[nt + j]? = N[fr.getD j 0]?) && (match NB[nt + j]? with | some x => decide (sc.names.lookup x = some .free) | none => false)) &&
  sc.names.all (fun y => !decide (y.2 = .free) || (decide (osc.names.lookup y.1 = some .cell) || decide (osc.names.lookup y.1 = some .free)))
theorem lcOkC.mk {N : List Str} {osc sc : Scope} {NB : List Str} {nt : Nat} {fr : List Nat} (h : lcOkC N osc sc NB nt fr = true) : LcScopeC N osc sc NB nt fr := by
  unfold lcOkC at h
  simp only [Bool.and_eq_true, List.all_eq_true, decide_eq_true_eq, Bool.or_eq_true, Bool.not_eq_true', decide_eq_false_iff_not, List.mem_range] at h
  obtain ⟨⟨⟨⟨⟨h1, h2⟩, h3⟩, h4⟩, h5⟩, h6⟩ := h
  have lt : ∀ {j i : Nat}, fr[j]? = some i -> j < fr.length := fun e => (List.getElem?_eq_some_iff.mp e).1
  refine ⟨h1, fun y hy e => (h2 y hy).resolve_left fun z => z e, fun y hy e => (h3 y hy).resolve_left fun z => z e, h4, fun j i e => ?_, fun j x hj e => ?_, fun y hy e => (h6 y hy).resolve_left fun z => z e⟩
  · have q := (h5 j (lt e)).1
    rw [q]
    rw [show fr.getD j 0 = i by rw [List.getD_eq_getElem?_getD, e]; rfl]
  · have q := (h5 j hj).2
    rw [e] at q
    simpa using q
theorem laid : ∀ (names : List (Str × NameKind)) (acc : List (Str × Addr)) (h : Heap), ∃ own : List (Str × Addr), cellsFrom h.objs.size names acc = own ++ acc /\ (∀ p ∈ own, h.objs.size <= p.2 /\ (pushCells h names).IsCell p.2 none /\ (p.1, .cell) ∈ names) /\ (own.Pairwise fun x y => x.2 ≠ y.2) /\ ∀ x, (x, .cell) ∈ names -> ∃ c, (x, c) ∈ own
  | [], acc, h => ⟨[], rfl, fun p hp => absurd hp (by simp), .nil, fun x hx => absurd hx (by simp)⟩
  | (n, kd) :: r, acc, h => by
    by_cases e : (kd == .cell) = true
    · obtain ⟨own, e1, e2, e3, e4⟩ := laid r ((n, h.objs.size) :: acc) (h.push { cls := .type "cell", data := .cell none })
      have sz : (h.push { cls := .type "cell", data := .cell none }).objs.size = h.objs.size + 1 := Heap.size_push ..
      have kc : kd = .cell := by simpa using e
      refine ⟨own ++ [(n, h.objs.size)], ?_, fun p hp => ?_, ?_, fun x hx => ?_⟩
      · unfold cellsFrom
        rw [if_pos e, <- sz, e1, List.append_assoc]
        rfl
      · unfold pushCells
        rw [if_pos e]
        rcases List.mem_append.mp hp with q | q
        · obtain ⟨a1, a2, a3⟩ := e2 p q
          exact ⟨by omega, a2, List.mem_cons_of_mem _ a3⟩
        · have : p = (n, h.objs.size) := by simpa using q
          subst this
          exact ⟨Nat.le_refl _, ⟨_, pushCells_keeps r _ _ _ (Heap.get?_push_size _ rfl), rfl⟩, by rw [kc]; exact List.mem_cons_self⟩
      · rw [List.pairwise_append]
        refine ⟨e3, by simp, fun a ha b hb => ?_⟩
        have : b = (n, h.objs.size) := by simpa using hb
        subst this
        have q := (e2 a ha).1
        rw [sz] at q
        exact Nat.ne_of_gt q
      · rcases List.mem_cons.mp hx with q | q
        · injection q with q1 q2
          exact ⟨h.objs.size, List.mem_append.mpr (.inr (by rw [q1]; simp))⟩
        · obtain ⟨c, hc⟩ := e4 x q
          exact ⟨c, List.mem_append.mpr (.inl hc)⟩
    · obtain ⟨own, e1, e2, e3, e4⟩ := laid r acc h
      refine ⟨own, ?_, fun p hp => ?_, e3, fun x hx => ?_⟩
      · unfold cellsFrom
        rw [if_neg e]
        exact e1
      · obtain ⟨a1, a2, a3⟩ := e2 p hp
        unfold pushCells
        rw [if_neg e]
        exact ⟨a1, a2, List.mem_cons_of_mem _ a3⟩
      · rcases List.mem_cons.mp hx with q | q
        · injection q with q1 q2
          exact absurd (by rw [<- q2]; rfl) e
        · exact e4 x q
theorem look_own {own cl : List (Str × Addr)} {x : Str} {c : Addr} (h : (own ++ cl).lookup x = some c) : (x, c) ∈ own \/ ((∀ c', (x, c') ∉ own) /\ cl.lookup x = some c) := by
  induction own with
  | nil => exact .inr ⟨fun _ z => by simp at z, h⟩
  | cons p own ih =>
    obtain ⟨n, a⟩ := p
    rw [List.cons_append, List.lookup_cons] at h
    cases hb : x == n with
    | true =>
      rw [hb] at h
      have e : x = n := by simpa using hb
      subst e
      cases h
      exact .inl List.mem_cons_self
    | false =>
      rw [hb] at h
      have ne : x ≠ n := by simpa using hb
      rcases ih h with q | ⟨q1, q2⟩
      · exact .inl (List.mem_cons_of_mem _ q)
      · refine .inr ⟨fun c' z => ?_, q2⟩
        rcases List.mem_cons.mp z with r | r
        · injection r with r1 r2; exact ne r1
        · exact q1 c' r
theorem look_has {own cl : List (Str × Addr)} {x : Str} {c : Addr} (h : (x, c) ∈ own) : ∃ c', (own ++ cl).lookup x = some c' := by
  induction own with
  | nil => simp at h
  | cons p own ih =>
    obtain ⟨n, a⟩ := p
    rw [List.cons_append, List.lookup_cons]
    cases hb : x == n with
    | true => exact ⟨a, rfl⟩
    | false =>
      rcases List.mem_cons.mp h with q | q
      · injection q with q1 q2
        have : (x == n) = true := by simp [q1]
        rw [this] at hb
        cases hb
      · exact ih q
theorem newEnvC {M : Model} {A : Around} {E : Value -> Shared -> Prop} {s : Shared} {sc : Scope} {gl : Addr} {cl : List (Str × Addr)} {qual : Str} {env : Env} {Q : Env -> Shared -> Prop}
    (h : Q (newEnv sc s.heap.objs.size gl (cellsFrom (s.heap.objs.size + 1) sc.names cl) qual none .none (some env) builtinsNs) { s with heap := pushCells (s.heap.push { cls := .type "dict", data := .dict #[] }) sc.names }) :
    wpAny M A (newFunctionEnv sc gl cl [] qual none .none (some env)) Q E s := by
  simp only [newFunctionEnv, Option.isSome_some, if_true]
  refine wpAny_bind (wpAny_alloc ?_)
  refine wpAny_bind (wpAny_layCells _ (fun name kind cells => by cases hkc : kind == NameKind.cell <;> simp [hkc]) _ _ _ _ ?_)
  rw [show ({ s with heap := s.heap.push { cls := .type "dict", data := .dict #[] } } : Shared).heap.objs.size = s.heap.objs.size + 1 from Heap.size_push ..]
  exact wpAny_bind (by rw [List.forIn_nil]; exact wpAny_pure (wpAny_pure h))
abbrev Cx.blkC (X : Cx) (NB : List Str) (sc : Scope) (cs : List (Str × Addr)) (C : Addr) (s₀ : Shared) (H₀ : Hp) (ex : List Addr) : Cx :=
  { X with N := NB, s₀ := s₀, H₀ := H₀, env := compEnvC sc cs C X.env, outer := X.stack, ex := ex, fn := fun x => decide (sc.names.lookup x = some .cell), pn := [], xe := fun _ _ => False }
theorem blkC_inv {X : Cx} {pins : List (Addr × Obj)} {σ : St} {H : Hp} {s3 s4 : Shared} {sc : Scope} {NB : List Str} {nt : Nat} {fr : List Nat} {own cl : List (Str × Addr)} {C : Addr} {ex : List Addr} (I : Inv X pins σ H s3) (S : LcScopeC X.N X.env.scope sc NB nt fr)
    (P1 : ∀ x a, cl.lookup x = some a -> X.env.cells.lookup x = some a) (P2 : ∀ y ∈ sc.names, y.2 = .free -> ∃ a, cl.lookup y.1 = some a)
    (Q1 : ∀ p ∈ own, s3.heap.objs.size < p.2 /\ s4.heap.IsCell p.2 none /\ (p.1, .cell) ∈ sc.names) (Q2 : own.Pairwise fun x y => x.2 ≠ y.2) (Q3 : ∀ x, (x, .cell) ∈ sc.names -> ∃ c, (x, c) ∈ own) (hC : C = s3.heap.objs.size) (hn : ∃ m, s4.heap.Ns C m) (hk : ∀ b o, s3.heap.get? b = some o -> s4.heap.get? b = some o) (hos : s4.os = s3.os) (hgn : s4.gens = s3.gens)
    (hex : ∀ b ∈ ex, FpOk X pins H b /\ b < s3.heap.objs.size) : Inv (X.blkC NB sc (own ++ cl) C s3 H ex) [] (lcSt nt fr σ) H s4 := by
  have old : ∀ x c, X.env.cells.lookup x = some c -> c < s3.heap.objs.size := fun x c e => by
    obtain ⟨v, z⟩ := I.cell x c e
    exact z.lt
  have isC : ∀ c v, s3.heap.IsCell c v -> s4.heap.IsCell c v := fun c v ⟨o, ho, hd⟩ => ⟨o, hk _ _ ho, hd⟩
  obtain ⟨m, hn⟩ := hn
  refine ⟨⟨I.ok.mod, S.kind, I.ok.glob, I.ok.blt, Nat.le_of_eq hC.symm, fun x y c e1 e2 => ?_, fun x hx => ?_, fun x c h h' => ?_, I.ok.hd, I.ok.frames, .inl rfl, fun b hb => ?_, I.bs, Nat.le_trans I.ok.bsz I.sz, fun b o e hb => ?_, fun b hb hf => ?_, I.stack, I.stkFree⟩,
    hos, hgn ▸ I.bare, Un.kept hk, ⟨m, hn, fun j x v e1 e2 e3 => ?_⟩, fun x c e => ?_, I.hok.fresh (Nat.le_of_eq hC.symm), fun x c e => ?_, fun p hp => absurd (show p ∈ ([] : List (Addr × Obj)) from hp) (by simp), I.hok.kept hk, ?_⟩
  · rcases look_own e1 with q | ⟨_, q⟩ <;> rcases look_own e2 with r | ⟨_, r⟩
    · exact PySem.name_of_addr Q2 q r
    · exact absurd (old y c (P1 y c r)) (Nat.lt_asymm (Q1 _ q).1)
    · exact absurd (old x c (P1 x c q)) (Nat.lt_asymm (Q1 _ r).1)
    · exact I.ok.inj x y c (P1 x c q) (P1 y c r)
  · by_cases hc : sc.names.lookup x = some .cell
    · obtain ⟨c, hc'⟩ := Q3 x (PySem.mem_of_lookup hc)
      exact look_has hc'
    · obtain ⟨a, ha⟩ := P2 (x, .free) (PySem.mem_of_lookup (relabel_of hc hx)) rfl
      cases q : (own ++ cl).lookup x with
      | some c => exact ⟨c, q⟩
      | none =>
        exfalso
        have aux : ∀ {own : List (Str × Addr)}, (own ++ cl).lookup x = none -> cl.lookup x = none := by
          intro own
          induction own with
          | nil => exact id
          | cons p own ih =>
            intro z
            obtain ⟨n, b⟩ := p
            rw [List.cons_append, List.lookup_cons] at z
            cases hb : x == n with
            | true => rw [hb] at z; cases z
            | false => rw [hb] at z; exact ih z
        have := aux q
        rw [ha] at this
        cases this
  · have hn : sc.names.lookup x = some .cell := of_decide_eq_true h
    obtain ⟨c', hc'⟩ := Q3 x (PySem.mem_of_lookup hn)
    rcases look_own h' with q | ⟨q, _⟩
    · exact Nat.le_of_lt (Q1 _ q).1
    · exact absurd hc' (q c')
  · obtain ⟨f, hl⟩ := hex b hb
    refine ⟨by rw [hC]; exact Nat.ne_of_lt hl, fun x c e => ?_⟩
    rcases look_own e with q | ⟨_, q⟩
    · exact Nat.ne_of_gt (Nat.lt_trans hl (Q1 _ q).1)
    · exact f.2.2.2.2.1 x c (P1 x c q)
  · obtain ⟨f, _⟩ := hex b hb
    rcases f.2.2.2.1 with z | z
    · exact I.ok.noex b o e z
    · exact absurd (Nat.lt_of_lt_of_le (Nat.lt_of_lt_of_le (Heap.lt_size e) I.ok.bsz) z) (Nat.lt_irrefl _)
  · obtain ⟨f, _⟩ := hex b hb
    rcases List.mem_cons.mp (I.stkSub b hf) with z | z
    · exact f.2.1 z
    · exact f.2.2.1 z
  · have e2' : (List.replicate nt none ++ fr.map fun i => (σ[i]?).join)[j]? = some (some v) := e2
    by_cases hj : j < nt
    · rw [List.getElem?_append_left (by simpa using hj), List.getElem?_replicate, if_pos hj] at e2'
      cases e2'
    · rw [List.getElem?_append_right (by simpa using Nat.le_of_not_lt hj), List.length_replicate, List.getElem?_map] at e2'
      obtain ⟨k, rfl⟩ : ∃ k, j = nt + k := ⟨j - nt, by omega⟩
      rw [show nt + k - nt = k by omega] at e2'
      cases ei : fr[k]? with
      | none => rw [ei] at e2'; cases e2'
      | some i =>
        rw [ei] at e2'
        have e2'' : (σ[i]?).join = some v := Option.some.inj e2'
        have es : σ[i]? = some (some v) := by
          cases q : σ[i]? with
          | none => rw [q] at e2''; cases e2''
          | some w' => rw [q] at e2''; exact congrArg some e2''
        have kl : k < fr.length := (List.getElem?_eq_some_iff.mp ei).1
        have ex' : X.N[i]? = some x := by rw [<- S.frN k i ei]; exact e1
        have ef := S.frF k x kl e1
        have eo := S.out _ (PySem.mem_of_lookup ef) rfl
        obtain ⟨m', _, hl⟩ := I.loc
        obtain ⟨u, r, l⟩ := hl i x v ex' es (eo.elim (fun z => .inr (.inl z)) fun z => .inr (.inr z))
        refine ⟨u, r, .inr ⟨relabel_free ef, ?_⟩⟩
        obtain ⟨c, ec⟩ := P2 _ (PySem.mem_of_lookup ef) rfl
        have ec2 : (own ++ cl).lookup x = some c := by
          have nocl : ∀ c', (x, c') ∉ own := fun c' z => by
            have := S.celn _ (Q1 _ z).2.2 rfl
            rw [show sc.names.lookup x = _ from ef] at this
            cases this
          have aux : ∀ {own : List (Str × Addr)}, (∀ c', (x, c') ∉ own) -> (own ++ cl).lookup x = cl.lookup x := by
            intro own
            induction own with
            | nil => intro _; rfl
            | cons p own ih =>
              intro z
              obtain ⟨n, b⟩ := p
              rw [List.cons_append, List.lookup_cons]
              have : (x == n) = false := by
                rw [beq_eq_false_iff_ne]
                intro e
                exact z b (by rw [e]; exact List.mem_cons_self)
              rw [this]
              exact ih fun c' q => z c' (List.mem_cons_of_mem _ q)
          rw [aux nocl]
          exact ec
        refine ⟨c, ec2, ?_⟩
        rcases l with ⟨z, _⟩ | ⟨_, c', ec', hc'⟩
        · have z' : X.env.scope.names.lookup x = some .local := z
          rcases eo with q | q
          · rw [show X.env.scope.names.lookup x = _ from q] at z'; cases z'
          · rw [show X.env.scope.names.lookup x = _ from q] at z'; cases z'
        · have := P1 x c ec
          rw [ec'] at this
          cases this
          exact isC _ _ hc'
  · rcases look_own e with q | ⟨_, q⟩
    · exact ⟨none, (Q1 _ q).2.1⟩
    · obtain ⟨v, z⟩ := I.cell x c (P1 x c q)
      exact ⟨v, isC _ _ z⟩
  · rcases look_own e with q | ⟨_, q⟩
    · exact I.hok.fresh (Nat.le_of_lt (Q1 _ q).1)
    · exact I.freeC x c (P1 x c q)
  · show (List.replicate nt none ++ fr.map fun i => (σ[i]?).join).length = NB.length
    rw [List.length_append, List.length_replicate, List.length_map, S.len]
theorem lcC_core {X : Cx} {pins : List (Addr × Obj)} {σ : St} {H2 : Hp} {s2 : Shared} {sc : Scope} {NB : List Str} {nt : Nat} {fr : List Nat} {cl : List (Str × Addr)} {tg iter elt : Expr} {ifs : List Expr} {pos : Pos} {g : TG} {tc : TT} {te : TE} {J : It} {fp : List Addr} {it : Addr}
    {tn : Nat -> Heap -> Prop} {Fin : List V -> Hp -> Prop} {E : Value -> Shared -> Prop} (hcalm : X.calm = true) (S : LcScopeC X.N X.env.scope sc NB nt fr)
    (P1 : ∀ x a, cl.lookup x = some a -> X.env.cells.lookup x = some a) (P2 : ∀ y ∈ sc.names, y.2 = .free -> ∃ a, cl.lookup y.1 = some a)
    (hg : ∀ cl C s₀ H₀ ex, PG (X.blkC NB sc cl C s₀ H₀ ex) tg g) (ht : ∀ cl C s₀ H₀ ex, PTs (X.blkC NB sc cl C s₀ H₀ ex) ifs tc) (he : ∀ cl C s₀ H₀ ex, PE (X.blkC NB sc cl C s₀ H₀ ex) elt te)
    (I2 : Inv X pins σ H2 s2) (T : Turn X.prog X.w X.K tg J fp it tn) (st2 : tn 0 s2.heap) (f2 : ∀ b ∈ fp, FpOk X pins H2 b) (hw : LcW J g tc te Fin (lcSt nt fr σ) H2) {RR : Value -> Addr -> Result -> Shared -> Prop}
    (hRR : ∀ D C s' H' ys, Fin ys H' -> H' D = none -> Inv X pins σ (upd H' D (.lst ys)) s' -> FpOk X pins (upd H' D (.lst ys)) C -> (∃ m, s'.heap.Ns C m) -> RR (.ref D) C (.ok .next) s') :
    wpAny (model X.prog X.w) X.A (newList []) (fun acc s₃ => wpAny (model X.prog X.w) X.A (newFunctionEnv sc X.env.globals cl [] X.env.qual none .none (some X.env)) (fun cenv s₄ =>
      codeAny (model X.prog X.w) X.A (.compStart (.ListComp elt [⟨tg, iter, ifs, 0⟩] sc pos) 0 (.ref it) acc { cenv with scope := relabel sc X.env }) (RR acc cenv.locals) s₄) E s₃) E s2 := by
  obtain ⟨W, ⟨m0, w0⟩, turn⟩ := hw
  refine wpAny_newObj_type (newEnvC ?_)
  dsimp only
  generalize hH : s2.heap.push { cls := .type "list", dict := none, data := .seq ([] : List Value).toArray } = hp
  have eC : hp.objs.size = s2.heap.objs.size + 1 := by rw [<- hH, Heap.size_push]
  have szd : (hp.push { cls := .type "dict", data := .dict #[] }).objs.size = hp.objs.size + 1 := Heap.size_push ..
  obtain ⟨own, ew, Q1, Q2, Q3⟩ := laid sc.names cl (hp.push { cls := .type "dict", data := .dict #[] })
  rw [szd] at ew
  rw [ew]
  have k4 : ∀ b o, hp.get? b = some o -> (pushCells (hp.push { cls := .type "dict", data := .dict #[] }) sc.names).get? b = some o := fun b o e => pushCells_keeps _ _ b o (Heap.get?_push_of_some _ e)
  have hns := (Heap.Ns.new hp (.type "dict")).keeps (pushCells_keeps sc.names _)
  generalize pushCells (hp.push { cls := .type "dict", data := .dict #[] }) sc.names = h1 at Q1 k4 hns ⊢
  have Q1' : ∀ p ∈ own, hp.objs.size < p.2 /\ h1.IsCell p.2 none /\ (p.1, .cell) ∈ sc.names := fun p hp' => by
    obtain ⟨a1, a2, a3⟩ := Q1 p hp'
    rw [szd] at a1
    exact ⟨a1, a2, a3⟩
  have cne : ∀ b, b < hp.objs.size -> (∀ x c, X.env.cells.lookup x = some c -> c ≠ b) -> ∀ x c, (own ++ cl).lookup x = some c -> c ≠ b := fun b hb hf x c e => by
    rcases look_own e with q | ⟨_, q⟩
    · exact Nat.ne_of_gt (Nat.lt_trans hb (Q1' _ q).1)
    · exact hf x c (P1 x c q)
  have k3 : ∀ b o, s2.heap.get? b = some o -> hp.get? b = some o := fun b o e => by rw [<- hH]; exact Heap.get?_push_of_some _ e
  have I3 : Inv X pins σ H2 { s2 with heap := hp } := I2.kept (t' := s2.toks) k3
  have oD : hp.get? s2.heap.objs.size = some { cls := .type "list", data := .seq ([] : List Value).toArray 0 } := by rw [<- hH]; exact Heap.get?_push_size _ rfl
  have fD : ∀ (H' : Hp), H' s2.heap.objs.size = none -> FpOk X pins H' s2.heap.objs.size := fun H' e => I2.fpOk (Nat.le_refl _) e
  have fC : ∀ (H' : Hp), H' hp.objs.size = none -> FpOk X pins H' hp.objs.size := fun H' e => I3.fpOk (Nat.le_refl _) e
  have nD : H2 s2.heap.objs.size = none := I2.hok.fresh (Nat.le_refl _)
  have lfp : ∀ b ∈ fp, b < s2.heap.objs.size := fun b hb => by
    obtain ⟨o, e, _⟩ := T.obj _ _ st2 b hb
    exact Heap.lt_size e
  have hex : ∀ b ∈ s2.heap.objs.size :: fp, FpOk X pins H2 b /\ b < hp.objs.size := fun b hb => by
    rcases List.mem_cons.mp hb with rfl | hb
    · exact ⟨fD H2 nD, by omega⟩
    · exact ⟨f2 b hb, Nat.lt_of_lt_of_le (lfp b hb) (by rw [eC]; exact Nat.le_succ _)⟩
  have loop : ∀ (s4 : Shared), s4 = { s2 with heap := h1, toks := s2.toks } ->
      codeAny (model X.prog X.w) X.A (.compLoop (.ListComp elt [⟨tg, iter, ifs, 0⟩] sc pos) 0 (.ref it) (.ref s2.heap.objs.size) (compEnvC sc (own ++ cl) hp.objs.size X.env)) (RR (.ref s2.heap.objs.size) hp.objs.size) s4 := by
    rintro s4 rfl
    have IB : Inv (X.blkC NB sc (own ++ cl) hp.objs.size { s2 with heap := hp } H2 (s2.heap.objs.size :: fp)) [] (lcSt nt fr σ) H2 { s2 with heap := h1, toks := s2.toks } :=
      blkC_inv (s3 := { s2 with heap := hp }) I3 S P1 P2 Q1' Q2 Q3 rfl ⟨_, hns⟩ k4 rfl rfl hex
    have stat : ∀ {H' : Hp} {pl : List (Addr × Obj)}, (∀ b ∈ fp, H' b = none) -> (∀ p ∈ pl, p.1 = s2.heap.objs.size) -> ∀ b ∈ fp, FpOk (X.blkC NB sc (own ++ cl) hp.objs.size { s2 with heap := hp } H2 (s2.heap.objs.size :: fp)) pl H' b := fun {H' pl} hn hpl b hb => by
      obtain ⟨f, hl⟩ := hex b (List.mem_cons_of_mem _ hb)
      refine ⟨hn b hb, Nat.ne_of_lt hl, fun z => ?_, .inl (List.mem_cons_of_mem _ hb), cne b hl f.2.2.2.2.1, fun p hp' => ?_⟩
      · rcases List.mem_cons.mp (I3.stkSub b z) with q | q
        · exact f.2.1 q
        · exact f.2.2.1 q
      · rw [hpl p hp']
        exact Nat.ne_of_gt (lfp b hb)
    refine lc_loop (fun n s' => ∃ i σ' ys its H', Inv (X.blkC NB sc (own ++ cl) hp.objs.size { s2 with heap := hp } H2 (s2.heap.objs.size :: fp)) [] σ' H' s' /\ tn i s'.heap /\ (∀ b ∈ fp, H' b = none) /\ H' s2.heap.objs.size = none /\
      (∃ e, s'.heap.get? s2.heap.objs.size = some { cls := .type "list", data := .seq (List.toArray its) e }) /\ Vals ys its /\ W i n σ' ys H') ?_ m0
      ⟨0, _, [], [], H2, IB, T.keep _ _ _ st2 fun b _ o e => k4 b o (k3 b o e), fun b hb => (f2 b hb).1, nD, ⟨0, k4 _ _ oD⟩, .nil, w0⟩
    rintro n s5 ⟨i, σ5, ys, its, H5, I5, st5, fr5, nD5, ⟨e5, o5⟩, rv, w5⟩
    have pinD : ∀ {σ' : St} {H' : Hp} {s' : Shared} {o : Obj}, Inv (X.blkC NB sc (own ++ cl) hp.objs.size { s2 with heap := hp } H2 (s2.heap.objs.size :: fp)) [] σ' H' s' -> s'.heap.get? s2.heap.objs.size = some o -> (∀ v, o.data ≠ .cell v) -> H' s2.heap.objs.size = none ->
        Inv (X.blkC NB sc (own ++ cl) hp.objs.size { s2 with heap := hp } H2 (s2.heap.objs.size :: fp)) [(s2.heap.objs.size, o)] σ' H' s' := fun {σ' H' s' o} J' eo ed en => J'.pins_of fun p hp' => by
      have ep : p = (s2.heap.objs.size, o) := by simpa using hp'
      subst ep
      refine ⟨eo, en, by show s2.heap.objs.size ≠ hp.objs.size; omega, fun z => ?_, ed⟩
      rcases List.mem_cons.mp (I3.stkSub _ z) with q | q
      · exact (fD H2 nD).2.1 q
      · exact (fD H2 nD).2.2.1 q
    obtain ⟨hlen, way⟩ := turn i n σ5 ys H5 w5
    rcases way with ⟨stop, fin⟩ | ⟨go, N, hN, step⟩
    · refine wpAny_mono (T.done (X.blkC NB sc (own ++ cl) hp.objs.size { s2 with heap := hp } H2 (s2.heap.objs.size :: fp)) rfl rfl rfl hcalm i [(s2.heap.objs.size, _)] s5 σ5 H5 (fun _ _ => False) (pinD I5 o5 (fun v z => nomatch z) nD5) (stat fr5 (by simp)) st5 stop) (fun r s6 ⟨hr, I6⟩ => ?_) fun _ _ z => z
      subst hr
      have o6 := (I6.pin (s2.heap.objs.size, _) (List.mem_append_right _ (List.mem_singleton.mpr rfl))).1
      have I6' : Inv X pins σ H5 s6 := I3.call' (ch := s2.heap.objs.size :: fp) I6.os I6.base I6.hok I6.bare fun b hb => by
        obtain ⟨f, _⟩ := hex b hb
        exact ⟨f.2.2.2.1, f.2.1, f.2.2.2.2.1, f.2.2.2.2.2⟩
      obtain ⟨mC, hmC, _⟩ := I6.loc
      have fD' := fD H5 nD5
      have I7 : Inv X pins σ (upd H5 s2.heap.objs.size (.lst ys)) s6 := I6'.adopt nD5 ⟨Nat.le_of_lt hlen, its, _, rv, o6⟩ I2.sz fD'.2.1 fD'.2.2.2.2.1 fD'.2.2.2.2.2
      refine hRR _ _ s6 H5 ys fin nD5 I7 (fC _ ?_) ⟨mC, hmC⟩
      rw [upd_ne (by show hp.objs.size ≠ s2.heap.objs.size; omega)]
      exact I6.free
    · refine wpAny_mono (T.item (X.blkC NB sc (own ++ cl) hp.objs.size { s2 with heap := hp } H2 (s2.heap.objs.size :: fp)) rfl rfl rfl hcalm i [(s2.heap.objs.size, _)] s5 σ5 H5 (fun _ _ => False) (pinD I5 o5 (fun v z => nomatch z) nD5) (stat fr5 (by simp)) st5 go) (fun r s6 ⟨u, hr, h6⟩ => ?_) fun _ _ z => z
      subst hr
      refine wpAny_mono h6 (fun _ s7 ⟨x, H7, I7, r7, y7, st7, fr7⟩ => ?_) fun _ _ z => z
      have n7 := (I7.pin (s2.heap.objs.size, _) (List.mem_append_right _ (List.mem_singleton.mpr rfl))).2.1
      have I7' := I7.pinned (stat fr7 (by simp)) (T.obj _ _ st7)
      refine wpAny_mono (hg _ _ _ _ _ _ s7 σ5 H7 x u _ I7' r7 (step x H7 y7)) (fun _ s8 ⟨σ8, H8, I8, q8⟩ => ?_) fun _ _ z => z
      refine wpAny_mono (ht _ _ _ _ _ _ s8 σ8 H8 _ I8 q8) (fun ok s9 ⟨H9, I9, q9⟩ => ?_) fun _ _ z => z
      have back : ∀ {H' : Hp} {s' : Shared} {ys' : List V}, Inv (X.blkC NB sc (own ++ cl) hp.objs.size { s2 with heap := hp } H2 (s2.heap.objs.size :: fp)) ([(s2.heap.objs.size, { cls := .type "list", data := .seq its.toArray e5 })] ++ pinsAt fp s7.heap) σ8 H' s' ->
          tn (i + 1) s'.heap /\ (∀ b ∈ fp, H' b = none) /\ H' s2.heap.objs.size = none /\ s'.heap.get? s2.heap.objs.size = some { cls := .type "list", data := .seq its.toArray e5 } := fun {H' s' ys'} I' => by
        have pD := I'.pin (s2.heap.objs.size, _) (List.mem_append_right _ (List.mem_append_left _ (List.mem_singleton.mpr rfl)))
        refine ⟨T.keep _ _ _ st7 fun b hb o e => (I'.pin (b, o) (List.mem_append_right _ (List.mem_append_right _ (mem_pinsAt hb e)))).1, fun b hb => ?_, pD.2.1, pD.1⟩
        obtain ⟨o, e, d⟩ := T.obj _ _ st7 b hb
        exact (I'.pin (b, o) (List.mem_append_right _ (List.mem_append_right _ (mem_pinsAt hb e)))).2.1
      cases ok with
      | false =>
        obtain ⟨m', hm, w'⟩ := hN σ8 ys H9 q9
        obtain ⟨b1, b2, b3, b4⟩ := back (ys' := ys) I9
        exact ⟨m', hm, i + 1, σ8, ys, its, H9, I9.pins_of (fun p hp' => absurd hp' (by simp)), b1, b2, b3, ⟨_, b4⟩, rv, w'⟩
      | true =>
        refine wpAny_mono (he _ _ _ _ _ _ s9 σ8 H9 _ I9 q9) (fun y sa ⟨v, Ha, Ia, ra, qa⟩ => ?_) fun _ _ z => z
        obtain ⟨m', hm, w'⟩ := hN σ8 (ys ++ [v]) Ha qa
        obtain ⟨b1, b2, b3, b4⟩ := back (ys' := ys) Ia
        refine append_at (hsz := by show its.toArray.size <= sizeLine; rw [List.size_toArray, <- rv.length]; exact Nat.le_of_lt hlen) b4 fun h' hs' hD' => ?_
        have I0 : Inv (X.blkC NB sc (own ++ cl) hp.objs.size { s2 with heap := hp } H2 (s2.heap.objs.size :: fp)) [] σ8 Ha sa := Ia.pins_of (fun p hp' => absurd hp' (by simp))
        refine ⟨m', hm, i + 1, σ8, ys ++ [v], its ++ [y], Ha, I0.turned (t' := sa.toks) (fun b o hb e => hs'.extBut b o hb e) b3 (by show s2.heap.objs.size ≠ hp.objs.size; omega) (.inl List.mem_cons_self) (cne _ (by omega) (fD H2 nD).2.2.2.2.1) (fun p hp' => absurd hp' (by simp)),
          T.keep _ _ _ b1 fun b hb o e => hs'.extBut b o (Nat.ne_of_lt (lfp b hb)) e, b2, b3, ⟨e5 + 1, ?_⟩, rv.append (.cons ra .nil), w'⟩
        rw [hD', List.push_toArray]
  exact codeAny_compStart_list (loop _ rfl) (T.self _ 0 _ _ _ (T.keep _ _ _ st2 fun b _ o e => k4 b o (k3 b o e)) (loop _ rfl))
theorem pe_lcC {X : Cx} {sc : Scope} {NB : List Str} {nt : Nat} {fr : List Nat} {tg iter elt : Expr} {ifs : List Expr} {pos : Pos} {wi : TI} {g : TG} {tc : TT} {te : TE} (hcalm : X.calm = true) (S : lcOkC X.N X.env.scope sc NB nt fr = true)
    (hi : PI X tg iter wi) (hg : ∀ cl C s₀ H₀ ex, PG (X.blkC NB sc cl C s₀ H₀ ex) tg g) (ht : ∀ cl C s₀ H₀ ex, PTs (X.blkC NB sc cl C s₀ H₀ ex) ifs tc) (he : ∀ cl C s₀ H₀ ex, PE (X.blkC NB sc cl C s₀ H₀ ex) elt te)
    (hs : ∀ x, foldedSetIterable iter X.env x = pure x := by intro _; rfl) : PE X (.ListComp elt [⟨tg, iter, ifs, 0⟩] sc pos) (tLC nt fr wi g tc te) := by
  intro pins s σ H Q I h
  have S := lcOkC.mk S
  have hfree : ∀ x ∈ sc.names, x.2 = .free -> ∃ a, X.env.cells.lookup x.1 = some a := fun x hx e => I.ok.has x.1 (S.out x hx e)
  obtain ⟨P1, _, P2⟩ := cl_fold sc.names [] hfree (fun x a e => by simp at e)
  rw [eval_ListComp]
  refine wpAny_comprehension_free (use := none) rfl hs (closure_ok hfree) S.kind S.locs (thn (hi pins s σ H _ I h) fun xv s1 h1 => thn h1 fun itv s2 h2 => ?_)
  obtain ⟨it, fp, tn, J, H2, rfl, I2, T, st2, f2, hw⟩ := h2
  refine lcC_core (RR := fun acc C => compPost (model X.prog X.w) X.A X.xe none (EP X pins σ Q) acc C) hcalm S P1 P2 hg ht he I2 T st2 f2 hw fun D C s' H' ys fin nD I' fC ⟨m, hm⟩ => ?_
  refine ⟨m, hm, fun h' hs' => ⟨.ref D, _, I'.turned (t' := s'.toks) (fun b o hb e => hs'.extBut b o hb e) fC.1 fC.2.1 fC.2.2.2.1 fC.2.2.2.2.1 fC.2.2.2.2.2, rfl, fin D nD⟩⟩
def tOrT (K : PySem.W.Frag) (ta tb : TE) : TE := fun σ H Q => ta σ H fun x H1 => ∃ k, TruV K x H1 k /\ if k = true then Q x H1 else tb σ H1 Q
theorem pe_orT {X : Cx} {K : PySem.W.Frag} {a b : Expr} {rest : List Expr} {pos : Pos} {ta tb : TE} (hK : X.K = K) (ha : PE X a ta) (hb : PE X (.BoolOp .Or (b :: rest) pos) tb) : PE X (.BoolOp .Or (a :: b :: rest) pos) (tOrT K ta tb) := by
  subst hK
  intro pins s σ H Q I h
  refine PyProof.Rows.BoolOp_or (thn (ha pins s σ H _ I h) fun v s1 ⟨x, H1, I1, r1, q1⟩ => ?_)
  refine thn (tru_ok pins s1 σ H1 x v (fun k H' => if k = true then Q x H' else tb σ H' Q) I1 r1 q1) fun c s2 ⟨H2, I2, q2⟩ => ?_
  cases c with
  | false => exact hb pins s2 σ H2 Q I2 q2
  | true => exact ⟨x, H2, I2, r1, q2⟩
def rngV (n : Nat) : List V := (List.range n).map fun i : Nat => V.int (i : Int)
def tListR (ta : TA) : TE := fun σ H Q => ta σ H fun vs H1 => ∃ n : Nat, vs = [.int (n : Int)] /\ n <= 1000 /\ ∀ l, H1 l = none -> Q (.ref l) (upd H1 l (.lst (rngV n)))
theorem rng_vals {n : Nat} {acc : Array Value} (h : ItemsOf (fun i v => ∃ t, v = .int ((0 : Int) + i * 1) t) acc n) : Vals (rngV n) acc.toList := by
  obtain ⟨h1, h2⟩ := h
  have aux : ∀ (k : Nat) (l : List Value), l.length = k -> (∀ (j : Nat) (v : Value), l[j]? = some v -> ∃ t, v = .int (j : Int) t) -> Vals ((List.range k).map fun i : Nat => V.int (i : Int)) l := by
    intro k
    induction k with
    | zero => intro l hl _; have : l = [] := List.length_eq_zero_iff.mp hl; subst this; exact .nil
    | succ k ih =>
      intro l hl hv
      have e : l = l.take k ++ [l[k]'(by omega)] := by
        rw [List.take_append_getElem]
        rw [List.take_of_length_le (by omega)]
      rw [e, List.range_succ, List.map_append]
      refine (ih (l.take k) (by rw [List.length_take]; omega) fun j v hj => ?_).append (.cons ?_ .nil)
      · rw [List.getElem?_take] at hj
        split at hj
        · exact hv j v hj
        · cases hj
      · obtain ⟨t, ht⟩ := hv k (l[k]'(by omega)) (List.getElem?_eq_getElem _)
        rw [ht]
        exact ⟨t, rfl⟩
  refine aux n acc.toList (by simpa using h1) fun j v hj => ?_
  obtain ⟨t, ht⟩ := h2 j v (by simpa using hj)
  exact ⟨t, by rw [ht]; congr 1; omega⟩
theorem pe_listR {X : Cx} {a : Expr} {ta : TA} {p p2 pos pos2 : Pos} (hcalm : X.calm = true) (hg1 : Gl X "list") (hm1 : X.mg "list" = none) (hg2 : Gl X "range") (hm2 : X.mg "range" = none) (ha : PA X [a] ta)
    (hs : starEach [a] X.env = [(false, eval a X.env)] := by rfl) (hs2 : starEach [.Call (.Name "range" p2) [a] [] pos2] X.env = [(false, eval (.Call (.Name "range" p2) [a] [] pos2) X.env)] := by rfl) :
    PE X (.Call (.Name "list" p) [.Call (.Name "range" p2) [a] [] pos2] [] pos) (tListR ta) := by
  intro pins s σ H Q I h
  refine wpAny_Call_Name_kw (ld_blt I hg1 hm1 bt_list ?_ (by decide) (by decide))
  refine PyProof.Rows.callWith_type1 ?_ hs2 rfl
  rw [hs2]
  show wpAny _ _ (spliced ((false, eval (.Call (.Name "range" p2) [a] [] pos2) X.env) :: backTo pos [])) _ _ s
  refine Calls.spliced_cons ?_
  refine Call_ (ld_blt I hg2 hm2 boot_range (PyProof.Rows.callWith_type1 (thn (ha pos2 pins s σ H _ I h) fun us s1 ⟨vs, H1, I1, r1, q1⟩ => ?_) hs rfl))
  obtain ⟨n, rfl, hn, q⟩ := q1
  obtain ⟨u, rfl, ⟨t, rfl⟩⟩ := vals1 r1
  refine call_range_1 (Calls.spliced_nil ?_)
  have hk0 : ∀ b o, s1.heap.get? b = some o -> (s1.heap.push { cls := .type "range", data := .fields #[.int 0 s1.toks, .int (n : Int) t, .int 1 (s1.toks + 1)] }).get? b = some o := fun b o e => Heap.get?_push_of_some _ e
  have I2 : Inv X pins σ H1 { s1 with heap := s1.heap.push { cls := .type "range", data := .fields #[.int 0 s1.toks, .int (n : Int) t, .int 1 (s1.toks + 1)] }, toks := s1.toks + 1 + 1 } := I1.kept hk0
  have hsz : PySem.Builtin.Range.rangeSize 0 (n : Int) 1 = n := by rw [rangeSize_one]; split <;> omega
  refine call_list_range (I.ok.hd hcalm) (IsRange.new ..) (small_one (by decide) (by decide) (by omega) (by omega)) hsz (by omega) fun h' tk acc c' hk hS hacc => ?_
  have I3 : Inv X pins σ H1 { s1 with heap := h', toks := tk } := I2.kept (t' := tk) hk
  have nT : H1 (s1.heap.push { cls := .type "range", data := .fields #[.int 0 s1.toks, .int (n : Int) t, .int 1 (s1.toks + 1)] }).objs.size = none := I2.hok.fresh (Nat.le_refl _)
  have fT := I2.fpOk (H' := H1) (Nat.le_refl _) nT
  have rv := rng_vals hacc
  have I4 := I3.adopt (a := (s1.heap.push { cls := .type "range", data := .fields #[.int 0 s1.toks, .int (n : Int) t, .int 1 (s1.toks + 1)] }).objs.size) (o := .lst (rngV n)) nT
    ⟨by unfold rngV; rw [List.length_map, List.length_range]; exact Nat.le_trans hn (by decide), acc.toList, c', rv, by simpa using hS⟩ I2.sz fT.2.1 fT.2.2.2.2.1 fT.2.2.2.2.2
  exact ⟨.ref _, _, I4, rfl, q _ nT⟩
theorem lc_enumT {K : PySem.W.Frag} {a : Addr} {xs : List V} {g : TG} {tc : TT} {te : TE} {Fin : List V -> Hp -> Prop} {σ₀ : St} {H : Hp} (Pv : Nat -> St -> List V -> Hp -> Prop) (h0 : Pv 0 σ₀ [] H) (hl : ∀ i σ ys H, i <= xs.length -> Pv i σ ys H -> SqT K H a xs) (hz : ∀ i σ ys H, Pv i σ ys H -> ys.length < sizeLine)
    (hs : ∀ i x t σ ys H, xs[i]? = some x -> Pv i σ ys H -> H t = none -> g (.ref t) σ (upd H t (.tup [.int i, x])) fun σ2 H2 => tc σ2 H2 fun b H3 => if b = true then te σ2 H3 fun v H4 => Pv (i + 1) σ2 (ys ++ [v]) H4 else Pv (i + 1) σ2 ys H3)
    (hd : ∀ σ ys H, Pv xs.length σ ys H -> Fin ys H) : LcW (Itet K a) g tc te Fin σ₀ H := by
  refine ⟨fun i m σ ys H => m = xs.length - i /\ i <= xs.length /\ Pv i σ ys H, ⟨xs.length, by simp, Nat.zero_le _, h0⟩, ?_⟩
  rintro i m σ ys H ⟨rfl, hi, p⟩
  refine ⟨hz i σ ys H p, ?_⟩
  have q := hl i σ ys H hi p
  by_cases hlt : i < xs.length
  · refine .inr ⟨⟨xs, xs[i], q, by simp [hlt]⟩, Pv (i + 1), fun σ' ys' H' p' => ⟨xs.length - (i + 1), by omega, rfl, hlt, p'⟩, fun x H' y => ?_⟩
    obtain ⟨t, z, rfl, nt, rfl, y⟩ := y
    exact hs i z t σ ys _ (y xs q) p nt
  · have e : i = xs.length := by omega
    subst e
    exact .inl ⟨⟨xs, q, Nat.le_refl _⟩, hd σ ys H p⟩
def rMin (K : PySem.W.Frag) : List V -> Hp -> VK -> Prop := fun xs H Q => ∃ (p : Addr) (ns : List Int), xs = [.ref p] /\ SqL K H p (ns.map V.int) /\ ns ≠ [] /\ ∀ M, M ∈ ns -> (∀ a, a ∈ ns -> M <= a) -> Q (.int M) H
theorem minq {X : Cx} {K : PySem.W.Frag} (hK : X.K = K) (hc : X.calm = true := by rfl) : CallR X (.builtin "min") (rMin K) := by
  subst hK
  intro pins s σ H xs us Q I r h
  obtain ⟨p, ns, rfl, hq, hne, q⟩ := h
  obtain ⟨u, rfl, rx⟩ := vals1 r
  cases rx
  obtain ⟨its, rv, pl, hz⟩ := I.list hq
  have hi := intsAre_of rv
  have hlen := hi.length
  have hall := hi.allInts
  have hnum := hi.numsOf
  have hl := pl.isList
  obtain ⟨ys, ey⟩ := hall.items
  rw [ey] at hl
  have e2 : PySem.numsOf (intItems ys).toList = ns := by rw [<- ey]; exact hnum
  rw [nums_intItems] at e2
  have hpos : 0 < ns.length := List.length_pos_iff.mpr hne
  have hys : ys.size = ns.length := by rw [<- e2, List.length_map, Array.length_toList]
  refine min_intList (I.ok.hd hc) hl (by omega) fun v h' tk hv hk => ?_
  obtain ⟨t, rfl⟩ := intItems_at hv
  obtain ⟨h1, h2⟩ := argBest_lt (numAt ys) (ys.size - 1)
  refine ⟨.int _, H, I.kept (t' := tk) hk, ⟨t, rfl⟩, q _ ?_ fun a ha => ?_⟩
  · rw [numAt_eq, <- e2]
    exact PySem.getD_mem (by rw [List.length_map, Array.length_toList]; omega)
  · rw [<- e2] at ha
    obtain ⟨j, hj, rfl⟩ := PySem.mem_getD ha
    rw [List.length_map, Array.length_toList] at hj
    rw [<- numAt_eq]
    exact h2 j (by omega)
section
variable {X : Cx} {pins : List (Addr × Obj)} {σ : St} {H : Hp} {s : Shared} {h' : Heap}
theorem Inv.tabGrow {P c' : Addr} {p : Pos} {q : Str} {ps : Array Value} {t' : Nat} (I : Inv X pins σ H s) (hP : H P = some (.tab p q)) (e : s.heap.get? P = some { cls := .none, data := .fields ps }) (ht : TriplesOk ps.toList)
    (hnf : codeAmong p ps.toList = none) (hx : Heap.ExtBut P s.heap h') (hge : s.heap.objs.size <= c') (hrec : h'.CodeRec (.ref c') q) (htb : h'.get? P = some { cls := .none, data := .fields (ps ++ #[rawInt p.line, rawInt p.col, .ref c']) }) :
    Inv X pins σ (upd H c' (.own P)) { s with heap := h', toks := t' } := by
  have hn : H c' = none := I.hok.fresh hge
  have hPc : P ≠ c' := ne_of_none hP hn
  obtain ⟨c2, oc, vs, tk, e2, hoc, hd, hv⟩ := hrec
  cases e2
  have nP : ∀ b, H b = none -> b ≠ P := fun b n z => by rw [z, hP] at n; cases n
  refine I.un ⟨fun b o q n _ _ => hx b o (nP b n) q, fun b o q n _ _ => ⟨o.slots, hx b o (nP b n) q⟩, fun b o q n _ => ?_, fun b o q _ => ?_, fun b xs q => ?_, fun b o u q => ?_, fun b ps q => ⟨#[], ?_⟩⟩ fun b u q => ?_
  · rw [upd_ne (Nat.ne_of_lt (Nat.lt_of_lt_of_le (Heap.lt_size q) hge))]; exact n
  · by_cases hb : b = P
    · subst hb; exact ⟨_, htb⟩
    · exact ⟨o, hx b o hb q⟩
  · rw [upd_ne (ne_of_none q hn)]; exact q
  · rw [upd_ne (ne_of_none q hn)]; exact q
  · rw [upd_ne (ne_of_none q hn), q]; simp
  · by_cases hb : b = c'
    · subst hb
      rw [upd_same] at q
      cases q
      exact ⟨oc, hoc⟩
    · rw [upd_ne hb] at q
      by_cases hbP : b = P
      · subst hbP
        rw [hP] at q
        cases q
        refine ⟨_, htb, ?_, fun cv hcv => ?_⟩
        · rw [Array.toList_append]; exact TriplesOk_snoc _ _ _ _ ht
        · rw [Array.toList_append] at hcv
          have z := codeAmong_snoc (c := .ref c') ps.toList ht hnf
          have z2 := hcv.symm.trans z
          cases z2
          exact ⟨c', oc, vs, tk, rfl, upd_same, hoc, hd, hv⟩
      · refine (I.hok b u q).stay (fun c v hc r => hx c v ?_ r) (fun c r => by rw [upd_ne (ne_of_none r hn)]; exact r) fun c xs r => by rw [upd_ne (ne_of_none r hn)]; exact r
        rcases hc with z | z
        · rw [z]; exact hbP
        · intro y; rw [y, hP] at z; cases z
theorem Inv.butFrame {m : Str -> Option Value} {t' : Nat} (I : Inv X pins σ H s) (hm : s.heap.Ns X.env.locals m) (k : ∀ b o, b ≠ X.env.locals -> s.heap.get? b = some o -> h'.get? b = some o) (hn : h'.Ns X.env.locals m) :
    Inv X pins σ H { s with heap := h', toks := t' } := by
  have nL : ∀ b u, H b = some u -> b ≠ X.env.locals := fun b u e z => by rw [z, I.free] at e; cases e
  refine I.step (g' := s.gens) (d' := s.drawn) (ch := []) (fun _ z => nomatch z) (fun b o hL _ _ e _ => k b o hL e) (fun b o hL _ _ e _ => ⟨o.slots, k b o hL e⟩) (fun _ _ _ _ n => n) (fun b o _ e => ?_) (fun _ _ e => e) (fun _ _ _ e => e) (fun b ps e => ⟨#[], by rw [e]; simp⟩) (fun m' hm' => ?_) (fun b u e => ?_) I.bare
  · by_cases hb : b = X.env.locals
    · obtain ⟨o', _, _, ho', _⟩ := hn
      exact ⟨o', by rw [hb]; exact ho'⟩
    · exact ⟨o, k b o hb e⟩
  · obtain ⟨o1, es1, ep1, a1, b1, _, d1⟩ := hm
    obtain ⟨o2, es2, ep2, a2, b2, _, d2⟩ := hm'
    rw [a1] at a2; cases a2
    rw [b1] at b2; cases b2
    have e : m' = m := by funext x; rw [<- d1, <- d2]
    rw [e]; exact hn
  · refine (I.hok b u e).stay (fun c v hc q => k c v ?_ q) (fun _ q => q) fun _ _ q => q
    rcases hc with z | z
    · rw [z]; exact nL b u e
    · exact nL c _ z
end
theorem lam_call {prog : Program} {w : World} {A : Around} {E : Value -> Shared -> Prop} {s : Shared} {name qual fx pl : Str} {params : Arguments} {scope : Scope} {clos : List (Str × Addr)} {pm ctv : Value} {c' f cell b : Addr} {p1 p2 p3 : Pos} {its : Array Value} {n : Int} {t : Tok} {u : Value} {Q : Value -> Shared -> Prop}
    (hroom : A.depth < recursionLimit) (hf : s.heap.get? f = some (PySem.W.kla_obj name qual params (.Subscript (.Name fx p1) (.Name pl p2) p3) scope clos pm c' ctv)) (hrec : s.heap.CodeRec (.ref c') qual) (lim : s.heap.NoLimit)
    (hk : scope.kind = .function) (hco : scope.isCoroutine = false) (hgen : scope.isGenerator = false) (hcell : ∀ x ∈ scope.names, x.2 ≠ .cell) (hpl : scope.names.lookup pl = some .local) (hfx : scope.names.lookup fx = some .free)
    (hbind : bindArgs (PySem.W.kla_fn name qual params (.Subscript (.Name fx p1) (.Name pl p2) p3) scope clos pm (.ref c') ctv) ⟨[.int n t], []⟩ = pure [(pl, .int n t)])
    (hcl : clos.lookup fx = some cell) (hc : s.heap.IsCell cell (some (.ref b))) (hl : s.heap.IsList b its) (h0 : 0 <= n) (hfit : n < 2 ^ 63) (hu : its[n.toNat]? = some u)
    (h1 : (pl == ("__debug__" : Str)) = false) (h2 : (fx == ("__debug__" : Str)) = false) (h3 : (fx == ("__classdict__" : Str)) = false)
    (h : ∀ h' tk, (∀ b o, s.heap.get? b = some o -> h'.get? b = some o) -> Q u { s with heap := h', toks := tk }) :
    wpAny (model prog w) A (call (.ref f) [.int n t]) Q E s := by
  refine wpAny_call (PySem.W.kla_callFunE hroom hf rfl hco hgen rfl hrec ?_)
  rw [hbind]
  refine wpAny_pure (wpAny_newFunctionEnv hcell (fun y hy => ?_) (fun h₁ hns hsb => ⟨lim.fresh _ hsb, ?_⟩) hk)
  · rw [List.mem_singleton.mp hy]; exact hpl
  · have hk₁ : ∀ b o, s.heap.get? b = some o -> h₁.get? b = some o := fun b o e => hsb.extBut b o (Nat.ne_of_lt (Heap.lt_size e)) (Heap.get?_push_of_some _ e)
    refine PySem.W.kla_codeExpr ?_
    refine Subscript_ (wpAny_Name (wpAny_loadName_free hk hfx hcl (let ⟨o, ho, hd⟩ := hc; ⟨o, hk₁ _ _ ho, hd⟩) ?_ h3) h2)
    refine wpAny_Name (wpAny_loadName_local (v := .int n t) hk hpl hns (by simp [List.lookup]) ?_) h1
    exact item_listR (show h₁.IsList b its from let ⟨o, ho, r⟩ := hl; ⟨o, hk₁ _ _ ho, r⟩) h0 hfit hu (h h₁ _ hk₁) rfl
theorem SqL.grow {K : PySem.W.Frag} {H H' : Hp} {a : Addr} {xs : List V} (h : SqL K H a xs) (s : ∀ a o, H a = some o -> H' a = some o) : SqL K H' a xs := by
  rcases h with (h | ⟨o, h⟩) | h
  · exact .inl (.inl (s _ _ h))
  · exact .inl (.inr ⟨o, s _ _ h⟩)
  · exact .inr h
def tMinL (K : PySem.W.Frag) (P : Addr) (q : Str) (lp : Pos) (i : Nat) (t : TA) : TE := fun σ H Q => t σ H fun vs H1 => ∃ (l b : Addr) (ns : List Int) (ys : List V) (g : Int -> Int), vs = [.ref l] /\ SqL K H1 l (ns.map V.int) /\ ns ≠ [] /\ σ[i]? = some (some (.ref b)) /\
  SqL K H1 b ys /\ (∀ n ∈ ns, 0 <= n /\ ys[n.toNat]? = some (.int (g n))) /\ H1 P = some (.tab lp q) /\ ∀ M H2, M ∈ ns -> (∀ n ∈ ns, g M <= g n) -> (∀ a o, H1 a = some o -> H2 a = some o) -> Q (.int M) H2
theorem bt_min' : bootBuiltins "min" = some (.builtin "min") := by decide +kernel
theorem pe_minLam {X : Cx} {K : PySem.W.Frag} {k i : Nat} {c P : Addr} {e : Expr} {t : TA} {fx pl q : Str} {p p1 p2 p3 lp kp pos : Pos} {params : Arguments} {scope : Scope}
    (hK : X.K = K) (hc : X.calm = true) (hr : Room k X.A) (hg : Gl X "min") (hm : X.mg "min" = none) (ha : PA X [e] t) (hcd : X.env.code = .ref c) (hC : PySem.W.CodeHd X.base c P) (hB : X.base.BuiltinsAt X.mg P)
    (hN : X.N[i]? = some fx) (hv : X.env.kindOf fx = some .cell) (hq : X.env.qual ++ "<lambda>" = q) (hdef : defaultsOf params X.env = ([], []))
    (hcl : ∀ cell, X.env.cells.lookup fx = some cell -> closureFor scope X.env = pure [(fx, cell)])
    (hk : scope.kind = .function) (hco : scope.isCoroutine = false) (hgen : scope.isGenerator = false) (hcell : ∀ x ∈ scope.names, x.2 ≠ .cell) (hpl : scope.names.lookup pl = some .local) (hfx : scope.names.lookup fx = some .free)
    (hbind : ∀ (nm ql : Str) (clos : List (Str × Addr)) (pm cv ctv : Value) (n : Int) (t : Tok), bindArgs (PySem.W.kla_fn nm ql params (.Subscript (.Name fx p1) (.Name pl p2) p3) scope clos pm cv ctv) ⟨[.int n t], []⟩ = pure [(pl, .int n t)])
    (h1 : (pl == ("__debug__" : Str)) = false) (h2 : (fx == ("__debug__" : Str)) = false) (h3 : (fx == ("__classdict__" : Str)) = false)
    (he : backTo pos (starEach [e] X.env) = (false, eval e X.env) :: backTo pos (starEach [] X.env) := by rfl) (hpn : (backTo pos (starEach [e] X.env)).any (·.1) = false := by rfl) :
    PE X (.Call (.Name "min" p) [e] [⟨some "key", .Lambda params (.Subscript (.Name fx p1) (.Name pl p2) p3) scope lp, kp⟩] pos) (tMinL K P q lp i t) := by
  subst hK
  subst hq
  intro pins s σ H Q I h
  refine wpAny_Call_Name_kw (ld_blt I hg hm bt_min' ?_)
  refine callWith_kw (thn (ha pos pins s σ H _ I h) fun us s1 ⟨vs, H1, I1, r1, q1⟩ => ?_) he hpn
  obtain ⟨l, b, ns, ys, g, rfl, hl, hne, hσ, hys, hns, hP, q⟩ := q1
  obtain ⟨u, rfl, rx⟩ := vals1 r1
  cases rx
  refine kws_cons ?_
  obtain ⟨cell, hce⟩ := I1.ok.has fx (.inl hv)
  have main : ∀ (f c' : Addr) (ctv pm : Value) (H2 : Hp) (s2 : Shared), Inv X pins σ H2 s2 -> s2.heap.get? f = some (PySem.W.kla_obj "<lambda>" (X.env.qual ++ "<lambda>") params (.Subscript (.Name fx p1) (.Name pl p2) p3) scope [(fx, cell)] pm c' ctv) ->
      s2.heap.CodeRec (.ref c') (X.env.qual ++ "<lambda>") -> (∀ a o, H1 a = some o -> H2 a = some o) ->
      wpAny (model X.prog X.w) X.A (call (.builtin "min") [.ref l] [(Str.ofString "key", .ref f)]) (EP X pins σ Q) X.xe s2 := by
    intro f c' ctv pm H2 s2 J hf hrec sm
    obtain ⟨its, rv, pl1, hz⟩ := J.list (hl.grow sm)
    obtain ⟨it2, rv2, pl2, hz2⟩ := J.list (hys.grow sm)
    have hi := intsAre_of rv
    obtain ⟨m, hnm, hlk⟩ := J.loc
    obtain ⟨u, ru, lk⟩ := hlk i fx (.ref b) hN hσ (.inr (.inl hv))
    cases ru
    have hci : s2.heap.IsCell cell (some (.ref b)) := by
      rcases lk with ⟨z, _⟩ | ⟨_, c2, e2, hc2⟩
      · rw [hv] at z; cases z
      · rw [hce] at e2; cases e2; exact hc2
    have F : Fr X.base X.env.locals s2.heap m := ⟨hnm, J.bk, Nat.le_trans J.ok.bsz J.ok.above⟩
    have keepAll : ∀ h, Fr X.base X.env.locals h m -> News X.base X.env.locals h (allNews X.base s2.heap X.env.locals) -> ∀ b o, b ≠ X.env.locals -> s2.heap.get? b = some o -> h.get? b = some o := fun h F' N' b o hb e => by
      cases z : X.base.get? b with
      | some o' =>
        have := J.bk b o' z
        rw [e] at this; cases this
        exact F'.keep b _ z
      | none => exact (N' (b, o) (mem_allNews hb z e)).1
    have nL : ∀ {b : Addr} {o : Obj}, s2.heap.get? b = some o -> (∀ es ep, o.data ≠ .dict es ep) -> b ≠ X.env.locals := fun {b o} e d z => by
      obtain ⟨o', es, ep, e', d', _⟩ := hnm
      rw [z, e'] at e; cases e
      exact d _ _ d'
    have listK : ∀ {b : Addr} {its : Array Value} (h : Heap), s2.heap.IsList b its -> Fr X.base X.env.locals h m -> News X.base X.env.locals h (allNews X.base s2.heap X.env.locals) -> h.IsList b its := fun {b its} h hl F' N' => by
      obtain ⟨o, ho, hcls, n, hd⟩ := hl
      exact ⟨o, keepAll h F' N' b o (nL ho (fun _ _ z => by rw [hd] at z; cases z)) ho, hcls, n, hd⟩
    refine kmk_min_letter g (J.ok.hd hc) F news_all (fun h F' N' => listK h pl1.isList F' N') hi (List.length_pos_iff.mpr hne) (fun n t h tk own hn F' N' => ?_) fun M t h' tk' F' N' hM hle => ?_
    · have N2 : News X.base X.env.locals h (allNews X.base s2.heap X.env.locals) := fun p hp => N' p (List.mem_append_left _ hp)
      obtain ⟨h0, hy⟩ := hns n hn
      obtain ⟨u, hu, t', rfl⟩ := rv2.get hy
      have hlen : n.toNat < it2.length := (List.getElem?_eq_some_iff.mp hu).1
      have hl2 := rv2.length
      have h63 := line63
      refine lam_call (A := X.A.in1) (s := { s2 with heap := h, toks := tk }) (cell := cell) (b := b) (its := it2.toArray) (u := .int (g n) t') (show X.A.depth < recursionLimit by have := hr.dp; omega) (keepAll h F' N2 _ _ (nL hf (fun _ _ z => by cases z)) hf) ?_ (J.mod.nolimit.keeps F'.keep) hk hco hgen hcell hpl hfx (hbind _ _ _ _ _ _ _ _)
        (by simp [List.lookup]) ?_ (listK h pl2.isList F' N2) h0 (by omega) (by rw [List.getElem?_toArray]; exact hu) h1 h2 h3 fun h'' tk'' kk => ?_
      · obtain ⟨c2, oc, vs, t2, e2, hoc, hd, hv2⟩ := hrec
        exact ⟨c2, oc, vs, t2, e2, keepAll h F' N2 _ _ (nL hoc (fun _ _ z => by rw [hd] at z; cases z)) hoc, hd, hv2⟩
      · obtain ⟨oc, hoc, hd⟩ := hci
        exact ⟨oc, keepAll h F' N2 _ _ (nL hoc (fun _ _ z => by rw [hd] at z; cases z)) hoc, hd⟩
      · exact ⟨h'', tk'', t', rfl, rfl, ⟨F'.ns.keeps kk, fun b o e => kk _ _ (F'.keep b o e), F'.above⟩, fun p hp => ⟨kk _ _ (N' p hp).1, (N' p hp).2⟩⟩
    · exact ⟨.int M, H2, J.butFrame hnm (keepAll h' F' N') F'.ns, ⟨t, rfl⟩, q M H2 hM hle sm⟩
  obtain ⟨ps, eP, htr, hent⟩ := I1.hok P _ hP
  have hgl : s1.heap.Ns mainGlobals X.mg := I1.mod.glob.keeps I1.bk
  have hgP : mainGlobals ≠ P := fun z => by
    obtain ⟨o, es, ep, e, hd, _⟩ := hgl
    rw [z, eP] at e; cases e; cases hd
  obtain ⟨bm, ob, b1, b2, b3, b4, b5, b6⟩ := hB
  have hB1 : s1.heap.BuiltinsAt X.mg P := ⟨bm, ob, b1, b2, b3, b4, I1.bk _ _ b5, b6⟩
  refine PySem.W.kla_eval hdef ?_
  cases hcase : codeAmong lp ps.toList with
  | none =>
    refine PySem.W.kla_makeFunction (hcl cell hce) I1.ok.glob hgl hcd (hC.keeps I1.bk) eP htr hcase hgP hB1 fun c' ctv h' tk hx hge hlt hrec htb => ?_
    have J := I1.tabGrow (t' := tk) hP eP htr hcase hx hge hrec htb
    have J2 := J.kept (t' := tk) (h' := h'.push (PySem.W.kla_obj "<lambda>" (X.env.qual ++ "<lambda>") params (.Subscript (.Name fx p1) (.Name pl p2) p3) scope [(fx, cell)] ((X.mg "__name__").getD .none) c' ctv)) fun b u e => Heap.get?_push_of_some _ e
    have hn : H1 c' = none := I1.hok.fresh hge
    refine kws_nil (main _ c' ctv _ _ _ J2 (Heap.get?_push_size _ rfl) (hrec.push _) fun a o e => ?_)
    rw [upd_ne (ne_of_none e hn)]; exact e
  | some cv =>
    obtain ⟨c', oc, vs, tq, rfl, _, hoc, hd, hv1⟩ := hent cv hcase
    refine PySem.W.kla_makeFunctionHit (hcl cell hce) I1.ok.glob hgl hcd (hC.keeps I1.bk) eP htr hcase hB1 fun ctv h' tk hkk hsz => ?_
    have J2 := I1.kept (t' := tk) (h' := h'.push (PySem.W.kla_obj "<lambda>" (X.env.qual ++ "<lambda>") params (.Subscript (.Name fx p1) (.Name pl p2) p3) scope [(fx, cell)] ((X.mg "__name__").getD .none) c' ctv)) fun b u e => Heap.get?_push_of_some _ (hkk _ _ e)
    exact kws_nil (main _ c' ctv _ _ _ J2 (Heap.get?_push_size _ rfl) ⟨c', oc, vs, tq, rfl, Heap.get?_push_of_some _ (hkk _ _ hoc), hd, hv1⟩ fun a o e => e)
def lamPos (s : Stmt) : Pos := match defBody s with
  | [_, .Return (some (.Call _ _ (kw :: _) _)) _] => (match kw.value with | .Lambda _ _ _ p => p | _ => ⟨0, 0, 0, 0⟩)
  | _ => ⟨0, 0, 0, 0⟩
def lamQ (x : Str) : Str := x ++ ".<locals>." ++ "<lambda>"
structure LamB (base : Heap) (mg : Str -> Option Value) (c P : Addr) : Prop where
  code : PySem.W.CodeHd base c P
  blt : base.BuiltinsAt mg P
def LamH (st : Stmt) (x : Str) (P : Addr) (H : Hp) : Prop := H P = some (.tab (lamPos st) (lamQ x))
theorem Fun.okC {Pg : Program} {w : World} {K : PySem.W.Frag} {mg : Str -> Option Value} {base : Heap} {x qual : Str} {st : Stmt} {f : Addr} {fd : FuncData} {N ps : List Str} {k : Nat} {sp : Sp} {cd : Value} (F : Fun K x qual st f fd) (hcd0 : fd.code = cd) (S : FnScope N ps (defScope st)) (len : ∀ vs H Q E, sp vs H Q E -> vs.length = ps.length)
    (hbody : ∀ (A : Around) (outer : List Env) (s : Shared) (H : Hp) (vs : List V) (Q : VK) (E : XK), Room k (A.deeper (envOfC qual (defScope st) s.heap.objs.size f cd)) -> sp vs H Q E ->
      ∃ t, PSs (cxOf CX0 Pg w K mg base N qual (defScope st) f cd A outer s H E).nox (defBody st) t /\ t { nx := fun _ H' => Q .non H', rt := Q } (start N vs) H) : FnOk Pg w K mg base CX0 (k + 1) f fd ps sp := by
  obtain ⟨oc, od, kV, doc, pm, an, cdv, ct, osl, rfl, lk, hcd⟩ := F.ex
  obtain rfl : cdv = cd := hcd0
  refine fn_of lk hcd S len fun A outer s H vs Q E hr hsp => ?_
  obtain ⟨t, h, q⟩ := hbody A outer s H vs Q E hr hsp
  exact ⟨t, h.nox, q⟩
theorem tabIn_of {K : PySem.W.Frag} {x : Str} {f c P : Addr} {oc oc2 : Value} {od od2 : Option Addr} {fd : FuncData} {sl sl2 : Array (Option Value)} {vs : Array Value} (a : PySem.W.nsIn K mainGlobals x = some (some (.ref f))) (l : K.lookup f = some ⟨oc, od, .func fd, sl⟩)
    (hc : fd.code = .ref c) (lc : K.lookup c = some ⟨oc2, od2, .fields vs, sl2⟩) (hv : vs[11]? = some (.ref P)) : PySem.W.tabIn K x = some (c, P) := by
  unfold PySem.W.tabIn
  rw [a]; dsimp only
  rw [l]; dsimp only
  rw [hc]; dsimp only
  rw [lc]; dsimp only
  rw [hv]
theorem law_callT {Pg : Program} {w : World} {K : PySem.W.Frag} {mg mb : Str -> Option Value} {CX : CXT} {k : Nat} {fa a c P : Addr} {lp : Pos} {q : Str} {fd : FuncData} {x : Str} {sp : Sp} {s₁ : Shared} {vs : List Value} {ns : List Int}
    (KX : K.In s₁.heap) (hns : s₁.heap.Ns mainGlobals mg) (hb : s₁.heap.Ns builtinsNs mb) (hbb : ∀ x : Str, x ≠ "__name__" -> mb x = bootBuiltins x) (hlim : s₁.heap.NoLimit) (hg : s₁.gens = #[])
    (ha : s₁.heap.get? a = some { cls := .type "list", data := .seq vs.toArray }) (hi : IntsAre vs ns) (hl : ns.length <= sizeLine) (hr : Room k callerA)
    (hC : PySem.W.CodeHd s₁.heap c P) (hP : s₁.heap.get? P = some (PySem.W.tabObj #[])) (hnt : PySem.W.noTabs K = true) (hB : s₁.heap.BuiltinsAt mg P)
    (F : ∀ base : Heap, K.In base -> base.Ns mainGlobals mg -> LamB base mg c P -> FnOk Pg w K mg base CX k fa fd [x] sp) (hbind : ∀ (s : Shared) (u : Value), BindsTo s fd ⟨[u], []⟩ [(x, u)])
    (hsp : ∀ H : Hp, H P = some (.tab lp q) -> SqL K H a (ns.map V.int) -> sp [.ref a] H (fun v H' => v = .bl true /\ H' P = some (.tab lp q)) fun _ _ _ => False)
    (hCX : ∀ H e s', CX [] H s₁ (fun _ _ _ => False) e s' -> False) :
    codeAny (model Pg w) callerA (.call (.ref fa) ⟨[.ref a], []⟩) (fun r s' => r = .ok (.ret (.bool true)) /\ OldK s₁.heap s'.heap /\ s'.os = s₁.os /\ AllBare s'.gens) s₁ := by
  have rv := vals_ints hi
  have lenV := hi.length
  have haP : a ≠ P := fun z => by rw [z, hP] at ha; cases ha
  have hKP : K.lookup P = none := by
    cases z : K.lookup P with
    | none => rfl
    | some o =>
      have e := KX P o z
      rw [hP] at e; cases e
      have h2 := List.all_eq_true.mp hnt _ (PySem.W.mem_of_lookupK z)
      exact absurd (show false = true from h2) Bool.false_ne_true
  have tabOk : ∀ H : Hp, ObjOk Pg w H s₁.heap P (.tab lp q) := fun H => ⟨#[], hP, trivial, fun cv z => by cases z⟩
  have core : ∀ H : Hp, H P = some (.tab lp q) -> SqL K H a (ns.map V.int) -> HOk Pg w H s₁.heap -> (∀ b, H b ≠ none -> b = a \/ b = P) -> (H a ≠ none -> K.lookup a = none) -> (H a = none \/ ∃ o xs, H a = some (.frz o xs)) ->
      codeAny (model Pg w) callerA (.call (.ref fa) ⟨[.ref a], []⟩) (fun r s' => r = .ok (.ret (.bool true)) /\ OldK s₁.heap s'.heap /\ s'.os = s₁.os /\ AllBare s'.gens) s₁ := by
    intro H hT hS hok hA hK hZ
    have base_of : ∀ {b : Addr} {o : Obj}, s₁.heap.get? b = some o -> H b = none -> (hidT s₁.heap H).get? b = some o := fun e n => hidT_get e n
    have free : ∀ {b : Addr} {o : Obj}, s₁.heap.get? b = some o -> (∀ vs n, o.data ≠ .seq vs n) -> (∀ vs, o ≠ PySem.W.tabObj vs) -> H b = none := fun {b o} e d1 d2 => by
      cases z : H b with
      | none => rfl
      | some u =>
        rcases hA b (by rw [z]; simp) with y | y
        · subst y; rw [ha] at e; cases e; exact absurd rfl (d1 _ _)
        · subst y; rw [hP] at e; cases e; exact absurd rfl (d2 _)
    have nsK : ∀ {b : Addr} {m : Str -> Option Value}, s₁.heap.Ns b m -> (hidT s₁.heap H).Ns b m := fun {b m} ⟨o, es, ep, e, d, r⟩ => ⟨o, es, ep, base_of e (free e (fun _ _ z => by rw [d] at z; cases z) (fun _ z => by rw [z] at d; cases d)), d, r⟩
    have hKb : K.In (hidT s₁.heap H) := fun b o e => base_of (KX b o e) (by
      cases z : H b with
      | none => rfl
      | some u =>
        rcases hA b (by rw [z]; simp) with y | y
        · subst y; rw [hK (by rw [z]; simp)] at e; cases e
        · subst y; rw [hKP] at e; cases e)
    have hM : Mod K mg (hidT s₁.heap H) := ⟨hKb, nsK hns, ⟨mb, nsK hb, hbb⟩, let ⟨mc, h1, h2⟩ := hlim; ⟨mc, nsK h1, h2⟩⟩
    have LB : LamB (hidT s₁.heap H) mg c P := by
      obtain ⟨o, vs, file, tf, flags, tg, inF, text, tt, e1, r1, r2, r⟩ := hC
      obtain ⟨bm, ob, b1, b2, b3, b4, b5, b6, b7, b8⟩ := hB
      exact ⟨⟨o, vs, file, tf, flags, tg, inF, text, tt, base_of e1 (free e1 (fun _ _ z => by rw [r2] at z; cases z) (fun _ z => by rw [z] at r1; cases r1)), r1, r2, r⟩,
        ⟨bm, ob, b1, b2, b3, b4, base_of b5 (free b5 (fun _ _ z => by rw [b8] at z; cases z) (fun _ z => by rw [z] at b6; cases b6)), b6, b7, b8⟩⟩
    have e0 : Env0 Pg w K mg (hidT s₁.heap H) callerA [] s₁ H := ⟨rfl, hM, fun b o e => of_hidT e, Nat.le_of_eq (hidT_size _ _), trivial, fun b hb => absurd (show b ∈ ([] : List Addr) from hb) (by simp), hok, .of_eq hg⟩
    refine codeAny_mono ((F _ hKb (nsK hns) LB).run callerA [] s₁ H ⟨[.ref a], []⟩ [.ref a] [.ref a] _ _ hr e0 (hbind s₁ (.ref a)) (.cons rfl .nil) (hsp H hT hS)) fun r s' h => ?_
    cases r with
    | error e => exact (hCX H e s' h).elim
    | ok fl =>
      cases fl with
      | next => exact False.elim h
      | brk => exact False.elim h
      | cont => exact False.elim h
      | ret u =>
        obtain ⟨v, H', os, bare, un, hok', r', q1, q2⟩ := h
        subst q1
        obtain rfl : u = Value.bool true := r'
        obtain ⟨ps, eP, _⟩ := hok' P _ q2
        refine ⟨rfl, ⟨fun b o e => ?_, fun b o e => un.there b o e (by simp)⟩, os, bare⟩
        by_cases hb : b = P
        · subst hb
          rw [hP] at e; cases e
          exact .inr (.inl ⟨(hC.tab hP).isCodeTable, rfl, #[], ps, rfl, by rw [Array.empty_append]; exact eP⟩)
        · left
          cases z : H b with
          | none => exact un.keep b o e z (by intro z; exact absurd (show b ∈ ([] : List Addr) from z) (by simp)) (by simp)
          | some u =>
            rcases hA b (by rw [z]; simp) with y | y
            · subst y
              rcases hZ with y | ⟨ob, xs, y⟩
              · rw [z] at y; cases y
              · have z2 := un.frzs b ob _ y
                obtain ⟨e1, _⟩ := hok b _ y
                obtain ⟨e2, _⟩ := hok' b _ z2
                rw [e] at e1; cases e1
                exact e2
            · exact absurd y hb
  cases hk : K.lookup a with
  | some o =>
    have e := KX a o hk
    rw [ha] at e
    cases e
    refine core (fun b => if b = P then some (.tab lp q) else none) (if_pos rfl) (.inr ⟨_, vs.toArray, _, hk, rfl, rfl, rfl, by rw [List.size_toArray, lenV]; exact hl, by simpa using rv⟩) (fun b u z => ?_) (fun b z => .inr ?_) (fun z => absurd (if_neg haP) z) (.inl (if_neg haP))
    · by_cases hb : b = P
      · have z' := (if_pos hb).symm.trans z
        cases z'; subst hb
        exact tabOk _
      · have z' := (if_neg hb).symm.trans z
        cases z'
    · by_cases hb : b = P
      · exact hb
      · exact absurd (if_neg hb) z
  | none =>
    have ea : (if a = P then some (HO.tab lp q) else if a = a then some (.frz { cls := .type "list", data := .seq vs.toArray } (.lst (ns.map V.int))) else none) = some (.frz { cls := .type "list", data := .seq vs.toArray } (.lst (ns.map V.int))) := by rw [if_neg haP, if_pos rfl]
    refine core (fun b => if b = P then some (.tab lp q) else if b = a then some (.frz { cls := .type "list", data := .seq vs.toArray } (.lst (ns.map V.int))) else none) (if_pos rfl) (.inl (.inr ⟨{ cls := .type "list", data := .seq vs.toArray }, ea⟩)) (fun b u z => ?_) (fun b z => ?_) (fun _ => hk) (.inr ⟨_, _, ea⟩)
    · by_cases hb : b = P
      · have z' := (if_pos hb).symm.trans z
        cases z'; subst hb
        exact tabOk _
      · have z' := (if_neg hb).symm.trans z
        by_cases hba : b = a
        · have z2 := (if_pos hba).symm.trans z'
          cases z2
          subst hba
          exact ⟨ha, by rw [List.length_map]; exact hl, vs, _, rv, ha⟩
        · have z2 := (if_neg hba).symm.trans z'
          cases z2
    · by_cases hb : b = P
      · exact .inr hb
      · by_cases hba : b = a
        · exact .inl hba
        · exact absurd ((if_neg hb).trans (if_neg hba)) z
theorem walk_ofT {l : PySem.W.OpenLaw} {n k : Nat} {q : Program} {loose : List Str} {XP : (Str -> Option Value) -> Heap -> Prop} {YP : World -> Heap -> Prop} {d d0 : DefRec} {K : Params -> PySem.W.Frag} {CX : CXT} {sp : PySem.W.Frag -> Addr -> Sp} {x x0 : Str} {lp : Pos} {ql : Str}
    (hn : l.most = some n) (hn2 : n <= sizeLine) (hdf : d.params.defaults = []) (hr : Room k callerA) (hrec : (recsOf q).find? (fun e => e.name == x0) = some d0)
    (hY : ∀ (w : World) (h : Heap), YP w h -> (K w.params).In h) (hnt : ∀ w : World, PySem.W.noTabs (K w.params) = true)
    (F : ∀ (w : World) (mg : Str -> Option Value) (fa : Addr) (h : Heap), (K w.params).In h -> h.Ns mainGlobals mg -> mg d.name = some (.ref fa) ->
      ∃ (fd : FuncData) (c P : Addr), (∀ (s : Shared) (u : Value), BindsTo s fd ⟨[u], []⟩ [(x, u)]) /\ PySem.W.tabIn (K w.params) x0 = some (c, P) /\
        ∀ base : Heap, (K w.params).In base -> base.Ns mainGlobals mg -> LamB base mg c P -> FnOk l.prog w (K w.params) mg base CX k fa fd [x] (sp (K w.params) P))
    (hsp : ∀ (K : PySem.W.Frag) (P : Addr) (H : Hp) (a : Addr) (ns : List Int), ns.length <= n -> H P = some (.tab lp ql) -> SqL K H a (ns.map V.int) -> sp K P [.ref a] H (fun v H' => v = .bl true /\ H' P = some (.tab lp ql)) fun _ _ _ => False)
    (hCX : ∀ (H : Hp) (s : Shared) (e : Value) (s' : Shared), CX [] H s (fun _ _ _ => False) e s' -> False) :
    PySem.W.WalkO q loose XP YP l.row.toRowW d [] (fun f vs => PySem.call f vs) := by
  refine Att.attach_call hn hdf fun w s₀ s₁ mg mb fa o pm cd doc a vs ns G Y ho hd hcd hmg hobj hints hlen hg => ?_
  have KX := hY w _ Y
  obtain ⟨fd, c, P, hb, ht, hF⟩ := F w mg fa _ KX G.T.g hmg
  obtain ⟨hC, hP⟩ := PySem.W.tab_of G.T KX hrec ht
  obtain ⟨bm, ob, b1, b2, b3, b4, b5, b6⟩ := G.T.bmain
  have hbP : bm ≠ P := fun z => by rw [z, hP] at b3; cases b3; cases b4
  have hbG : bm ≠ mainGlobals := fun z => by
    obtain ⟨o, es, ep, e, hd, _⟩ := G.T.g
    rw [z, e] at b3; cases b3; rw [hd] at b6; cases b6
  exact law_callT KX G.T.g G.T.b G.T.builtins G.T.nolimit hg hobj hints (Nat.le_trans hlen hn2) hr hC hP (hnt w) ⟨bm, ob, b1, b2, hbG, hbP, b3, b4, b5, b6⟩ hF hb (fun H hT hS => hsp _ P H a ns hlen hT hS) fun H e s' => hCX H s₁ e s'
def rSum (K : PySem.W.Frag) : List V -> Hp -> VK -> Prop := fun xs H Q => ∃ (p : Addr) (ns : List Int), xs = [.ref p] /\ SqL K H p (ns.map V.int) /\ Q (.int ns.sum) H
theorem sumq {X : Cx} {K : PySem.W.Frag} (hK : X.K = K) (hc : X.calm = true := by rfl) : CallR X (.builtin "sum") (rSum K) := by
  subst hK
  intro pins s σ H xs us Q I r h
  obtain ⟨p, ns, rfl, hq, q⟩ := h
  obtain ⟨u, rfl, rx⟩ := vals1 r
  cases rx
  obtain ⟨its, rv, pl, hz⟩ := I.list hq
  have hi := intsAre_of rv
  have hall := hi.allInts
  have hnum := hi.numsOf
  have hl := pl.isList
  obtain ⟨ys, ey⟩ := hall.items
  rw [ey] at hl
  have e2 : PySem.numsOf (intItems ys).toList = ns := by rw [<- ey]; exact hnum
  rw [nums_intItems] at e2
  refine sum_intListG (I.ok.hd hc) hl fun h' tk t' hk => ?_
  refine ⟨.int _, H, I.kept (t' := tk) hk, ⟨t', rfl⟩, ?_⟩
  have e3 : preSum (numAt ys) ys.size = ns.sum := by rw [preSum_eq, List.take_of_length_le (by simp), e2]
  rw [e3]
  exact q
theorem bt_sum : bootBuiltins "sum" = some (.builtin "sum") := by decide +kernel
section
variable {prog : Program} {w : World} {A : Around} {R : Result -> Shared -> Prop} {I S : Addr} {fp wr : List Addr} {n : Nat} {Pw : Nat -> Value -> Prop} {St : Nat -> Heap -> Prop}
end
section
variable {prog : Program} {w : World} {A : Around} {R : Result -> Shared -> Prop} {I S : Addr} {fp wr : List Addr} {n : Nat} {Pw : Nat -> Value -> Prop} {St : Nat -> Heap -> Prop}
end
section
open PySem.W
def kasRun {α : Type} (lt : Nat -> Nat -> Bool) : KasT α -> α
  | .ret a => a
  | .ask i j k => kasRun lt (k (lt i j))
theorem kasRun_bind {α β : Type} (lt : Nat -> Nat -> Bool) (f : α -> KasT β) : ∀ t : KasT α, kasRun lt (t.bind f) = kasRun lt (f (kasRun lt t))
  | .ret a => rfl
  | .ask i j k => kasRun_bind lt f (k (lt i j))
def Asks {α : Type} (n : Nat) : KasT α -> Prop
  | .ret _ => True
  | .ask i j k => i < n /\ j < n /\ ∀ b, Asks n (k b)
theorem Asks.bind {α β : Type} {n : Nat} {f : α -> KasT β} (hf : ∀ a, Asks n (f a)) : ∀ {t : KasT α}, Asks n t -> Asks n (t.bind f)
  | .ret a, _ => hf a
  | .ask i j k, h => ⟨h.1, h.2.1, fun b => Asks.bind hf (h.2.2 b)⟩
theorem kasWp_run {α : Type} {n : Nat} {lt : Nat -> Nat -> Bool} {cmp : Nat -> Nat -> (Bool -> Shared -> Prop) -> Shared -> Prop} {s : Shared} (hc : ∀ i j C, i < n -> j < n -> C (lt i j) s -> cmp i j C s) {Q : α -> Shared -> Prop} : ∀ (t : KasT α), Asks n t -> Q (kasRun lt t) s -> t.kasWp cmp Q s
  | .ret a, _, h => h
  | .ask i j k, ha, h => hc i j _ ha.1 ha.2.1 (kasWp_run hc (k (lt i j)) (ha.2.2 _) h)
def InR (n : Nat) (p : Array Nat) : Prop := ∀ i, p.getD i 0 < n
theorem InR.of_perm {n : Nat} {p q : Array Nat} (h : InR n p) (hn : 0 < n) (hp : q.Perm p) : InR n q := by
  intro i
  by_cases hi : i < q.size
  · have hm : q[i] ∈ p := hp.mem_iff.mp (Array.getElem_mem hi)
    obtain ⟨j, hj, e⟩ := Array.getElem_of_mem hm
    have := h j
    rw [Array.getD_eq_getD_getElem?, Array.getElem?_eq_getElem hj] at this
    rw [Array.getD_eq_getD_getElem?, Array.getElem?_eq_getElem hi]
    simp only [Option.getD_some] at this ⊢
    omega
  · rw [Array.getD_eq_getD_getElem?, Array.getElem?_eq_none (by omega)]
    exact hn
theorem asks_asc {n : Nat} {p : Array Nat} (h : InR n p) : ∀ f m, Asks n (kas_asc p f m)
  | 0, _ => trivial
  | f + 1, m => ⟨h _, h _, fun b => by cases b <;> simp only [Bool.false_eq_true, if_false, if_true]; exact asks_asc h f (m + 1); trivial⟩
theorem rev_in {n : Nat} {p : Array Nat} (h : InR n p) (hn : 0 < n) (i j : Nat) : InR n (kas_rev p i j) := h.of_perm hn (mirror_perm _ _ _ _)
theorem asks_desc {n : Nat} (hn : 0 < n) : ∀ f (p : Array Nat) m q, InR n p -> Asks n (kas_desc f p m q)
  | 0, _, _, _, _ => trivial
  | f + 1, p, m, q, h => by
    refine ⟨h _, h _, fun b => ?_⟩
    cases b with
    | true =>
      simp only [if_true]
      by_cases z : q > 0
      · rw [if_pos z]; exact asks_desc hn f _ _ _ (rev_in h hn _ _)
      · rw [if_neg z]; exact asks_desc hn f _ _ _ h
    | false =>
      simp only [Bool.false_eq_true, if_false]
      refine ⟨h _, h _, fun d => ?_⟩
      cases d with
      | true => simp only [if_true]; trivial
      | false => simp only [Bool.false_eq_true, if_false]; exact asks_desc hn f _ _ _ h
def Tells {α : Type} (Pr : α -> Prop) : KasT α -> Prop
  | .ret a => Pr a
  | .ask _ _ k => ∀ b, Tells Pr (k b)
theorem Tells.bind {α β : Type} {Pr : α -> Prop} {n : Nat} {f : α -> KasT β} (hf : ∀ a, Pr a -> Asks n (f a)) : ∀ {t : KasT α}, Asks n t -> Tells Pr t -> Asks n (t.bind f)
  | .ret a, _, h => hf a h
  | .ask i j k, h, g => ⟨h.1, h.2.1, fun b => Tells.bind hf (h.2.2 b) (g b)⟩
theorem tells_desc {n : Nat} (hn : 0 < n) : ∀ f (p : Array Nat) m q, InR n p -> Tells (fun r : Array Nat × Nat × Nat => InR n r.1) (kas_desc f p m q)
  | 0, _, _, _, h => h
  | f + 1, p, m, q, h => by
    intro b
    cases b with
    | true =>
      simp only [if_true]
      by_cases z : q > 0
      · rw [if_pos z]; exact tells_desc hn f _ _ _ (rev_in h hn _ _)
      · rw [if_neg z]; exact tells_desc hn f _ _ _ h
    | false =>
      simp only [Bool.false_eq_true, if_false]
      intro d
      cases d with
      | true => simp only [if_true]; exact h
      | false => simp only [Bool.false_eq_true, if_false]; exact tells_desc hn f _ _ _ h
theorem tells_any {α : Type} {Pr : α -> Prop} (h : ∀ a, Pr a) : ∀ t : KasT α, Tells Pr t
  | .ret a => h a
  | .ask _ _ k => fun b => tells_any h (k b)
theorem tells_bind {α β : Type} {Pr : α -> Prop} {R : β -> Prop} {f : α -> KasT β} (hf : ∀ a, Pr a -> Tells R (f a)) : ∀ {t : KasT α}, Tells Pr t -> Tells R (t.bind f)
  | .ret a, h => hf a h
  | .ask _ _ k, h => fun b => tells_bind hf (h b)
theorem asks_tail3 {n : Nat} {p : Array Nat} (h : InR n p) (hn : 0 < n) (m k : Nat) : Asks n (kas_tail3 m k p) /\ Tells (fun r : Nat × Array Nat => InR n r.2) (kas_tail3 m k p) := by
  unfold kas_tail3
  refine ⟨Asks.bind (fun a => ?_) (asks_asc (rev_in h hn _ _) _ _), tells_bind (Pr := fun _ => True) (fun a _ => ?_) (tells_any (fun _ => trivial) _)⟩
  · trivial
  · exact rev_in h hn 0 m
theorem asks_descPart {n : Nat} {p : Array Nat} (h : InR n p) (hn : 0 < n) (m k : Nat) : Asks n (kas_descPart m k p) /\ Tells (fun r : Nat × Array Nat => InR n r.2) (kas_descPart m k p) := by
  have a := asks_desc hn (k - (m + 1)) p (m + 1) 0 h
  have t := tells_desc hn (k - (m + 1)) p (m + 1) 0 h
  constructor
  · refine Tells.bind (fun r hr => ?_) a t
    by_cases z : r.2.2 > 0
    · rw [if_pos z]; exact (asks_tail3 (rev_in hr hn _ _) hn _ _).1
    · rw [if_neg z]; exact (asks_tail3 hr hn _ _).1
  · refine tells_bind (fun r hr => ?_) t
    by_cases z : r.2.2 > 0
    · rw [if_pos z]; exact (asks_tail3 (rev_in hr hn _ _) hn _ _).2
    · rw [if_neg z]; exact (asks_tail3 hr hn _ _).2
theorem asks_count {n : Nat} {p : Array Nat} (h : InR n p) (hn : 0 < n) (k : Nat) : Asks n (kas_count k p) /\ Tells (fun r : Nat × Array Nat => InR n r.2) (kas_count k p) := by
  have a := asks_asc h (k - 1) 1
  constructor
  · refine Asks.bind (fun m => ?_) a
    by_cases z : (m == k) = true
    · rw [if_pos z]; trivial
    · rw [if_neg z]
      by_cases y : m > 1
      · rw [if_pos y]
        refine ⟨h _, h _, fun b => ?_⟩
        cases b with
        | true => simp only [if_true]; trivial
        | false => simp only [Bool.false_eq_true, if_false]; exact (asks_descPart (rev_in h hn _ _) hn _ _).1
      · rw [if_neg y]; exact (asks_descPart h hn _ _).1
  · refine tells_bind (Pr := fun _ => True) (fun m _ => ?_) (tells_any (fun _ => trivial) _)
    by_cases z : (m == k) = true
    · rw [if_pos z]; exact h
    · rw [if_neg z]
      by_cases y : m > 1
      · rw [if_pos y]
        intro b
        cases b with
        | true => simp only [if_true]; exact h
        | false => simp only [Bool.false_eq_true, if_false]; exact (asks_descPart (rev_in h hn _ _) hn _ _).2
      · rw [if_neg y]; exact (asks_descPart h hn _ _).2
theorem asks_place {n : Nat} {p : Array Nat} (h : InR n p) (k : Nat) : ∀ f l r, Asks n (kas_place p k f l r)
  | 0, _, _ => trivial
  | f + 1, l, r => by
    unfold kas_place
    by_cases z : l >= r
    · rw [if_pos z]; trivial
    · rw [if_neg z]
      refine ⟨h _, h _, fun b => ?_⟩
      cases b with
      | true => simp only [if_true]; exact asks_place h k f _ _
      | false => simp only [Bool.false_eq_true, if_false]; exact asks_place h k f _ _
theorem asks_bin {n : Nat} (hn : 0 < n) : ∀ f (p : Array Nat) k, InR n p -> Asks n (kas_bin f p k)
  | 0, _, _, _ => trivial
  | f + 1, p, k, h => Asks.bind (fun l => asks_bin hn f _ _ (h.of_perm hn (bubble_perm _ _ _))) (asks_place h k _ _ _)
theorem range_in {n : Nat} (hn : 0 < n) : InR n (List.toArray (List.range n)) := by
  intro i
  rw [Array.getD_eq_getD_getElem?]
  simp only [List.getElem?_toArray]
  by_cases hi : i < n
  · rw [List.getElem?_range hi]; exact hi
  · rw [List.getElem?_eq_none (by simpa using hi)]; exact hn
theorem asks_sort {n : Nat} (hn : 0 < n) : Asks n (kas_sort n) := by
  obtain ⟨a, t⟩ := asks_count (range_in hn) hn n
  refine Tells.bind (fun r hr => ?_) a t
  by_cases z : r.1 < n
  · rw [if_pos z]; exact asks_bin hn _ _ _ hr
  · rw [if_neg z]; trivial
def AscP (e : Nat -> Int) (p : Array Nat) (n : Nat) : Prop := ∀ i j, i < j -> j < n -> e (p.getD i 0) <= e (p.getD j 0)
def ltE (e : Nat -> Int) (i j : Nat) : Bool := decide (e i < e j)
theorem AscP.step {e : Nat -> Int} {p : Array Nat} {n : Nat} (h : AscP e p n) (hn : 1 <= n) (q : e (p.getD (n - 1) 0) <= e (p.getD n 0)) : AscP e p (n + 1) := by
  intro i j hij hj
  by_cases z : j = n
  · subst z
    by_cases y : i = j - 1
    · subst y; exact q
    · exact Int.le_trans (h i (j - 1) (by omega) (by omega)) q
  · exact h i j hij (by omega)
theorem run_asc {e : Nat -> Int} {p : Array Nat} : ∀ f n, 1 <= n -> AscP e p n -> n <= kasRun (ltE e) (kas_asc p f n) /\ kasRun (ltE e) (kas_asc p f n) <= n + f /\ AscP e p (kasRun (ltE e) (kas_asc p f n)) /\ (kasRun (ltE e) (kas_asc p f n) < n + f -> e (p.getD (kasRun (ltE e) (kas_asc p f n)) 0) < e (p.getD (kasRun (ltE e) (kas_asc p f n) - 1) 0))
  | 0, n, _, h => ⟨Nat.le_refl _, Nat.le_refl _, h, fun q => absurd q (Nat.lt_irrefl _)⟩
  | f + 1, n, hn, h => by
    show n <= kasRun (ltE e) (if ltE e (p.getD n 0) (p.getD (n - 1) 0) = true then .ret n else kas_asc p f (n + 1)) /\ kasRun (ltE e) (if ltE e (p.getD n 0) (p.getD (n - 1) 0) = true then .ret n else kas_asc p f (n + 1)) <= n + (f + 1) /\ AscP e p (kasRun (ltE e) (if ltE e (p.getD n 0) (p.getD (n - 1) 0) = true then .ret n else kas_asc p f (n + 1))) /\ _
    by_cases z : e (p.getD n 0) < e (p.getD (n - 1) 0)
    · rw [if_pos (show ltE e _ _ = true from decide_eq_true z)]
      exact ⟨Nat.le_refl _, Nat.le_add_right _ _, h, fun _ => by
        show e (p.getD (kasRun (ltE e) (if ltE e (p.getD n 0) (p.getD (n - 1) 0) = true then .ret n else kas_asc p f (n + 1))) 0) < e (p.getD (kasRun (ltE e) (if ltE e (p.getD n 0) (p.getD (n - 1) 0) = true then .ret n else kas_asc p f (n + 1)) - 1) 0)
        rw [if_pos (show ltE e _ _ = true from decide_eq_true z)]
        exact z⟩
    · have hf : ¬ ltE e (p.getD n 0) (p.getD (n - 1) 0) = true := fun q => z (of_decide_eq_true q)
      rw [if_neg hf]
      obtain ⟨a, b, c, d⟩ := run_asc f (n + 1) (by omega) (h.step hn (by omega))
      refine ⟨by omega, by omega, c, fun q => ?_⟩
      have q' : kasRun (ltE e) (if ltE e (p.getD n 0) (p.getD (n - 1) 0) = true then .ret n else kas_asc p f (n + 1)) < n + (f + 1) := q
      rw [if_neg hf] at q'
      show e (p.getD (kasRun (ltE e) (if ltE e (p.getD n 0) (p.getD (n - 1) 0) = true then .ret n else kas_asc p f (n + 1))) 0) < e (p.getD (kasRun (ltE e) (if ltE e (p.getD n 0) (p.getD (n - 1) 0) = true then .ret n else kas_asc p f (n + 1)) - 1) 0)
      rw [if_neg hf]
      exact d (by omega)
def DescP (e : Nat -> Int) (p : Array Nat) (n : Nat) : Prop := ∀ i j, i < j -> j < n -> e (p.getD j 0) <= e (p.getD i 0)
theorem getD_of {p q : Array Nat} {i j : Nat} (h : p[i]? = q[j]?) : p.getD i 0 = q.getD j 0 := by rw [Array.getD_eq_getD_getElem?, Array.getD_eq_getD_getElem?, h]
theorem rev_asc {e : Nat -> Int} {p : Array Nat} {m : Nat} (hm : m <= p.size) (h : DescP e p m) : AscP e (kas_rev p 0 m) m := by
  have at_ : ∀ k, k < m -> (kas_rev p 0 m).getD k 0 = p.getD (m - 1 - k) 0 := fun k hk => getD_of (by
    unfold kas_rev
    rw [getElem?_mirror_all hm, if_pos ⟨Nat.zero_le _, hk⟩, show 0 + m - 1 - k = m - 1 - k by omega])
  intro i j hij hj
  rw [at_ i (by omega), at_ j hj]
  exact h (m - 1 - j) (m - 1 - i) (by omega) (by omega)
theorem run_tail3 {e : Nat -> Int} {p : Array Nat} {m N : Nat} (hm1 : 1 <= m) (hm : m <= N) (hN : N = p.size) (h : DescP e p m) : ∃ r, kasRun (ltE e) (kas_tail3 m N p) = (r, kas_rev p 0 m) /\ 1 <= r /\ r <= N /\ AscP e (kas_rev p 0 m) r := by
  obtain ⟨a, b, c, _⟩ := run_asc (e := e) (p := kas_rev p 0 m) (N - m) m hm1 (rev_asc (by omega) h)
  refine ⟨kasRun (ltE e) (kas_asc (kas_rev p 0 m) (N - m) m), ?_, by omega, by omega, c⟩
  unfold kas_tail3
  rw [kasRun_bind]
  rfl
theorem run_place {e : Nat -> Int} {p : Array Nat} {k : Nat} : ∀ f l r, l <= r -> r <= k -> r - l <= f -> AscP e p k -> (∀ i, i < l -> e (p.getD i 0) <= e (p.getD k 0)) -> (∀ i, r <= i -> i < k -> e (p.getD k 0) <= e (p.getD i 0)) ->
    l <= kasRun (ltE e) (kas_place p k f l r) /\ kasRun (ltE e) (kas_place p k f l r) <= r /\ (∀ i, i < kasRun (ltE e) (kas_place p k f l r) -> e (p.getD i 0) <= e (p.getD k 0)) /\ ∀ i, kasRun (ltE e) (kas_place p k f l r) <= i -> i < k -> e (p.getD k 0) <= e (p.getD i 0)
  | 0, l, r, h1, _, h3, _, hl, hr => by
    have : l = r := by omega
    subst this
    exact ⟨Nat.le_refl _, Nat.le_refl _, hl, hr⟩
  | f + 1, l, r, h1, h2, h3, h, hl, hr => by
    unfold kas_place
    by_cases z : l >= r
    · rw [if_pos z]
      have : l = r := by omega
      subst this
      exact ⟨Nat.le_refl _, Nat.le_refl _, hl, hr⟩
    · rw [if_neg z]
      have hm1 : l <= (l + r) / 2 := by omega
      have hm2 : (l + r) / 2 < r := by omega
      have key : ∀ b, ltE e (p.getD k 0) (p.getD ((l + r) / 2) 0) = b -> l <= kasRun (ltE e) (if b = true then kas_place p k f l ((l + r) / 2) else kas_place p k f ((l + r) / 2 + 1) r) /\ kasRun (ltE e) (if b = true then kas_place p k f l ((l + r) / 2) else kas_place p k f ((l + r) / 2 + 1) r) <= r /\ (∀ i, i < kasRun (ltE e) (if b = true then kas_place p k f l ((l + r) / 2) else kas_place p k f ((l + r) / 2 + 1) r) -> e (p.getD i 0) <= e (p.getD k 0)) /\ ∀ i, kasRun (ltE e) (if b = true then kas_place p k f l ((l + r) / 2) else kas_place p k f ((l + r) / 2 + 1) r) <= i -> i < k -> e (p.getD k 0) <= e (p.getD i 0) := by
        intro b hb
        cases b with
        | true =>
          have lt : e (p.getD k 0) < e (p.getD ((l + r) / 2) 0) := of_decide_eq_true hb
          simp only [if_true]
          obtain ⟨a1, a2, a3, a4⟩ := run_place f l ((l + r) / 2) hm1 (by omega) (by omega) h hl fun i hi hk => by
            by_cases y : i = (l + r) / 2
            · subst y; exact Int.le_of_lt lt
            · exact Int.le_trans (Int.le_of_lt lt) (h ((l + r) / 2) i (by omega) hk)
          exact ⟨a1, by omega, a3, a4⟩
        | false =>
          have ge : ¬ e (p.getD k 0) < e (p.getD ((l + r) / 2) 0) := of_decide_eq_false hb
          simp only [Bool.false_eq_true, if_false]
          obtain ⟨a1, a2, a3, a4⟩ := run_place f ((l + r) / 2 + 1) r (by omega) h2 (by omega) h (fun i hi => by
            by_cases y : i = (l + r) / 2
            · subst y; omega
            · have := h i ((l + r) / 2) (by omega) (by omega)
              omega) hr
          exact ⟨by omega, a2, a3, a4⟩
      exact key _ rfl
theorem run_bin {e : Nat -> Int} : ∀ f (p : Array Nat) k, 1 <= k -> k + f <= p.size -> AscP e p k -> (kasRun (ltE e) (kas_bin f p k)).Perm p /\ AscP e (kasRun (ltE e) (kas_bin f p k)) (k + f)
  | 0, p, k, _, _, h => ⟨Array.Perm.refl _, h⟩
  | f + 1, p, k, hk, hs, h => by
    obtain ⟨a1, a2, a3, a4⟩ := run_place (e := e) (p := p) (k := k) k 0 k (by omega) (Nat.le_refl _) (by omega) h (fun i hi => by omega) (fun i h1 h2 => by omega)
    show (kasRun (ltE e) ((kas_place p k k 0 k).bind fun l => kas_bin f (bubble p k (k - l)) (k + 1))).Perm p /\ AscP e (kasRun (ltE e) ((kas_place p k k 0 k).bind fun l => kas_bin f (bubble p k (k - l)) (k + 1))) (k + (f + 1))
    rw [kasRun_bind]
    generalize kasRun (ltE e) (kas_place p k k 0 k) = l at *
    have at_ : ∀ i, (bubble p k (k - l)).getD i 0 = if i = l then p.getD k 0 else if l < i /\ i <= k then p.getD (i - 1) 0 else p.getD i 0 := fun i => by
      have hb := getElem?_bubble (xs := p) (src := k) (by omega) (k - l) (by omega) i
      rw [show k - (k - l) = l by omega] at hb
      by_cases y : i = l
      · rw [if_pos y] at hb ⊢; exact getD_of hb
      · rw [if_neg y] at hb ⊢
        by_cases x : l < i /\ i <= k
        · rw [if_pos x] at hb ⊢; exact getD_of hb
        · rw [if_neg x] at hb ⊢; exact getD_of hb
    have asc : AscP e (bubble p k (k - l)) (k + 1) := by
      intro i j hij hj
      rw [at_ i, at_ j]
      by_cases i1 : i = l
      · rw [if_pos i1, if_neg (by omega), if_pos (by omega)]
        exact a4 (j - 1) (by omega) (by omega)
      · rw [if_neg i1]
        by_cases i2 : l < i /\ i <= k
        · rw [if_pos i2, if_neg (by omega), if_pos (by omega)]
          exact h (i - 1) (j - 1) (by omega) (by omega)
        · rw [if_neg i2]
          by_cases j1 : j = l
          · rw [if_pos j1]; exact a3 i (by omega)
          · rw [if_neg j1]
            by_cases j2 : l < j /\ j <= k
            · rw [if_pos j2]
              by_cases w : i = j - 1
              · omega
              · exact h i (j - 1) (by omega) (by omega)
            · rw [if_neg j2]; exact h i j hij (by omega)
    obtain ⟨b1, b2⟩ := run_bin f (bubble p k (k - l)) (k + 1) (by omega) (by rw [bubble_size]; omega) asc
    exact ⟨b1.trans (bubble_perm _ _ _), by rw [show k + (f + 1) = k + 1 + f by omega]; exact b2⟩
end
section
open PySem.W
theorem Inv.adoptN {X : Cx} {pins : List (Addr × Obj)} {σ : St} {H : Hp} {s : Shared} {a : Addr} {o : HO} (I : Inv X pins σ H s) (hn : H a = none) (ho : ObjOk X.prog X.w (upd H a o) s.heap a o) (hs : a ∉ X.ex -> X.s₀.heap.get? a = none) (hL : a ≠ X.env.locals)
    (hc : ∀ x c, X.env.cells.lookup x = some c -> c ≠ a) (hp : ∀ p ∈ X.pn ++ pins, p.1 ≠ a) : Inv X pins σ (upd H a o) s := by
  have ne : ∀ b u, H b = some u -> b ≠ a := fun b u e z => by rw [z, hn] at e; cases e
  refine ⟨I.ok, I.os, I.bare, ⟨I.base.keep, I.base.slot, fun b u e n hx => ?_, I.base.there, fun b xs e => ?_, fun b u v e => ?_, fun b ps e => ?_⟩, I.loc, I.cell, ?_, fun x c e => ?_, fun p q => ?_, fun b u e => ?_, I.len⟩
  · rw [upd_ne (fun z => by subst z; rw [hs hx] at e; cases e)]
    exact I.base.free b u e n hx
  · have q := I.base.tups b xs e
    rw [upd_ne (ne _ _ q)]; exact q
  · have q := I.base.frzs b u v e
    rw [upd_ne (ne _ _ q)]; exact q
  · obtain ⟨m, q⟩ := I.base.tbls b ps e
    exact ⟨m, by rw [upd_ne (ne _ _ q)]; exact q⟩
  · rw [upd_ne hL.symm]; exact I.free
  · rw [upd_ne (hc x c e)]; exact I.freeC x c e
  · obtain ⟨q1, q2, q3⟩ := I.pin p q
    exact ⟨q1, by rw [upd_ne (hp p q)]; exact q2, q3⟩
  · by_cases hb : b = a
    · subst hb
      rw [upd_same] at e
      cases e
      exact ho
    · rw [upd_ne hb] at e
      exact (I.hok b u e).stay (fun _ _ _ q => q) (fun c q => by rw [upd_ne (ne _ _ q)]; exact q) fun c xs q => by rw [upd_ne (ne _ _ q)]; exact q
theorem ascP_pairwise {e : Nat -> Int} {p : Array Nat} (h : AscP e p p.size) : p.toList.Pairwise (fun i j => e i <= e j) := by
  rw [List.pairwise_iff_getElem]
  intro i j hi hj hij
  have := h i j hij (by simpa using hj)
  rw [Array.getD_eq_getD_getElem?, Array.getD_eq_getD_getElem?, Array.getElem?_eq_getElem (by simpa using hi), Array.getElem?_eq_getElem (by simpa using hj)] at this
  simpa using this
theorem vals_perm {rs : List Addr} {its : List Value} (h : ∀ i (_ : i < rs.length), its.getD i Value.none = .ref (rs.getD i 0)) : ∀ {ps : List Nat}, (∀ i ∈ ps, i < rs.length) -> Vals (ps.map fun i => V.ref (rs.getD i 0)) (ps.map fun i => its.getD i Value.none)
  | [], _ => .nil
  | i :: ps, q => .cons (h i (q i List.mem_cons_self)) (vals_perm h fun j hj => q j (List.mem_cons_of_mem _ hj))
end
section
variable {prog : Program} {w : World} {A : Around} {E : Value -> Shared -> Prop} {s : Shared}
theorem sorted_few {l : Addr} {vs : List Value} {Q : Value -> Shared -> Prop} (hl : s.heap.IsList l vs.toArray) (h2 : vs.length < 2) (h : Q (.ref (s.heap.objs.size + 1)) { s with heap := sortedAll s.heap vs vs.toArray }) :
    wpAny (model prog w) A (call (.builtin "sorted") [.ref l]) Q E s := by
  refine Calls.call_function_entry kind_sorted plain_sorted entry_sorted (args_sorted1 _) ?_
  unfold Builtin.«sorted»
  refine wpAny_bind (m := checkCount "sorted" 1 1 _) (wpAny_pure ?_)
  refine wpAny_bind (collect_list hl ?_)
  refine wpAny_bind (wpAny_newList ?_)
  have hsz : ((s.heap.push (seqObj "list" #[] 0)).update s.heap.objs.size (Obj.mapSeq (· ++ vs.toArray))).objs.size = s.heap.objs.size + 1 := by
    rw [Heap.size_update, size_push']
  have hoL : (((s.heap.push (seqObj "list" #[] 0)).update s.heap.objs.size (Obj.mapSeq (· ++ vs.toArray))).push (seqObj "list" vs.toArray 0)).get? (s.heap.objs.size + 1) = some (seqObj "list" vs.toArray 0) := by
    rw [<- hsz]; exact Heap.get?_push_size _ rfl
  show wpAny _ _ _ _ _ { s with heap := ((s.heap.push (seqObj "list" #[] 0)).update s.heap.objs.size (Obj.mapSeq (· ++ vs.toArray))).push (seqObj "list" vs.toArray 0) }
  rw [hsz]
  have s2 : vs.toArray.size < 2 := by simpa using h2
  refine wpAny_bind (wpAny_holding (wpAny_call_entry slot_list_sort ⟨_, hoL, rfl⟩ entry_list_sort ?body (args_list_sort _)))
  case body =>
    rw [list_sort_plain]
    refine wpAny_bind (listItems_at hoL rfl ?_)
    refine wpAny_bind (listUpdate_at hoL rfl ?_)
    obtain ⟨e1, ho1⟩ : ∃ e1, (Heap.update (((s.heap.push (seqObj "list" #[] 0)).update s.heap.objs.size (Obj.mapSeq (· ++ vs.toArray))).push (seqObj "list" vs.toArray 0)) (s.heap.objs.size + 1) (Obj.mapSeq fun _ => (#[] : Array Value))).get? (s.heap.objs.size + 1) = some (seqObj "list" #[] e1) := ⟨_, get?_update_seq hoL fun _ => #[]⟩
    refine wpAny_bind (seqEpoch_at ho1 rfl ?_)
    refine wpAny_bind (wpAny_newTuple ?_)
    refine wpAny_bind (wpAny_newList ?_)
    refine wpAny_holding ?_
    dsimp only
    rw [if_pos s2, if_pos s2]
    refine wpAny_bind (wpAny_pure ?_)
    rw [StateT.run_pure]
    refine wpAny_bind (wpAny_pure ?_)
    dsimp only
    refine wpAny_bind (seqEpoch_at (Heap.get?_push_of_some _ (Heap.get?_push_of_some _ ho1)) rfl ?_)
    refine wpAny_bind (listUpdate_at (Heap.get?_push_of_some _ (Heap.get?_push_of_some _ ho1)) rfl ?_ (hsz2 := by rw [Array.size_map]; show (pairsOf vs).size <= _; rw [pairsOf_size, sizeLine_eq]; omega))
    simp only [bne_self_eq_false, Bool.false_eq_true, if_false]
    refine wpAny_pure ⟨_, rfl, wpAny_pure ⟨_, rfl, ?_⟩⟩
    have e : ((vs.toArray.zip vs.toArray).map (·.2)) = vs.toArray := by
      apply Array.ext'
      simp [List.map_snd_zip]
    have h' : Q (.ref (s.heap.objs.size + 1)) { s with heap := sortedAll s.heap vs ((vs.toArray.zip vs.toArray).map (·.2)) } := by rw [e]; exact h
    exact h'
end
theorem map_getD_range {α : Type} {d : α} : ∀ (l : List α), (List.range l.length).map (fun i => l.getD i d) = l := fun l => by
  apply List.ext_getElem
  · simp
  · intro i h1 h2
    simp [List.getD_eq_getElem?_getD, List.getElem?_eq_getElem h2]
def rMax (K : PySem.W.Frag) : List V -> Hp -> VK -> Prop := fun xs H Q => ∃ (p : Addr) (ns : List Int), xs = [.ref p] /\ SqL K H p (ns.map V.int) /\ ns ≠ [] /\ ∀ M, M ∈ ns -> (∀ a, a ∈ ns -> a <= M) -> Q (.int M) H
theorem maxq {X : Cx} {K : PySem.W.Frag} (hK : X.K = K) (hc : X.calm = true := by rfl) : CallR X (.builtin "max") (rMax K) := by
  subst hK
  intro pins s σ H xs us Q I r h
  obtain ⟨p, ns, rfl, hq, hne, q⟩ := h
  obtain ⟨u, rfl, rx⟩ := vals1 r
  cases rx
  obtain ⟨its, rv, pl, hz⟩ := I.list hq
  have hi := intsAre_of rv
  have hlen := hi.length
  have hall := hi.allInts
  have hnum := hi.numsOf
  have hl := pl.isList
  obtain ⟨ys, ey⟩ := hall.items
  rw [ey] at hl
  have e2 : PySem.numsOf (intItems ys).toList = ns := by rw [<- ey]; exact hnum
  rw [nums_intItems] at e2
  have hpos : 0 < ns.length := List.length_pos_iff.mpr hne
  have hys : ys.size = ns.length := by rw [<- e2, List.length_map, Array.length_toList]
  refine max_intList (I.ok.hd hc) hl (by omega) fun v h' tk hv hk => ?_
  obtain ⟨t, rfl⟩ := intItems_at hv
  obtain ⟨h1, h2⟩ := argBest_gt (numAt ys) (ys.size - 1)
  refine ⟨.int _, H, I.kept (t' := tk) hk, ⟨t, rfl⟩, q _ ?_ fun a ha => ?_⟩
  · rw [numAt_eq, <- e2]
    exact PySem.getD_mem (by rw [List.length_map, Array.length_toList]; omega)
  · rw [<- e2] at ha
    obtain ⟨j, hj, rfl⟩ := PySem.mem_getD ha
    rw [List.length_map, Array.length_toList] at hj
    rw [<- numAt_eq]
    exact h2 j (by omega)
end L2
namespace HT
open PySem PyProof.Rows
section
open PySem.SeqAt
open PySem.MeetsSeq PySem.MeetsSeq2 PySem.MeetsSeq3
theorem intsAre_at {vs : List Value} {ns : List Int} (h : IntsAre vs ns) : ∀ {i : Nat}, (vs[i]? = none /\ ns.drop i = []) \/ ∃ a t, vs[i]? = some (.int a t) /\ ns.drop i = a :: ns.drop (i + 1) := by
  induction h with
  | nil => exact fun {i} => .inl ⟨by simp, by simp⟩
  | cons a t h ih =>
    intro i
    cases i with
    | zero => exact .inr ⟨a, t, rfl, rfl⟩
    | succ i => exact ih
theorem rcGt_int (A : Around) (s : Shared) (a : Int) (t : Tok) (c : Int) (u : Tok) (prog : Program) (w : World) (E : Value -> Shared -> Prop) (Q : Value -> Shared -> Prop) (h : Q (.bool (decide (c < a))) s) :
    wpAny (model prog w) A (richCompare .Gt (.int a t) (.int c u)) Q E s :=
  (PyProof.Rows.gt_int h : wpAny (model prog w) A (compareOp .Gt (.int a t) (.int c u)) Q E s)
theorem sizes_lt {items items2 : Array Value} {ns ms : List Int} {i : Nat} (hi : IntsAre items.toList ns) (hj : IntsAre items2.toList ms) (hz : i <= items.size /\ i <= items2.size) (h : i = items.size \/ i = items2.size) : lexLt (ns.drop i) (ms.drop i) = decide (items.size < items2.size) := by
  have z1 : items.size = ns.length := by rw [<- hi.length]; simp
  have z2 : items2.size = ms.length := by rw [<- hj.length]; simp
  have f1 : (ns.drop i).length = items.size - i := by rw [List.length_drop, z1]
  have f2 : (ms.drop i).length = items2.size - i := by rw [List.length_drop, z2]
  cases e1 : ns.drop i with
  | nil =>
    rw [e1, List.length_nil] at f1
    cases e2 : ms.drop i with
    | nil => rw [e2, List.length_nil] at f2; rw [lexLt_nil_nil]; exact (decide_eq_false (by omega)).symm
    | cons c w => rw [e2, List.length_cons] at f2; rw [lexLt_nil_cons]; exact (decide_eq_true (by omega)).symm
  | cons a v =>
    rw [e1, List.length_cons] at f1
    cases e2 : ms.drop i with
    | nil => rw [e2, List.length_nil] at f2; rw [lexLt_cons_nil]; exact (decide_eq_false (by omega)).symm
    | cons c w => rw [e2, List.length_cons] at f2; omega
theorem sizes_gt {items items2 : Array Value} {ns ms : List Int} {i : Nat} (hi : IntsAre items.toList ns) (hj : IntsAre items2.toList ms) (hz : i <= items.size /\ i <= items2.size) (h : i = items.size \/ i = items2.size) : lexLt (ms.drop i) (ns.drop i) = decide (items2.size < items.size) := sizes_lt hj hi ⟨hz.2, hz.1⟩ h.symm
theorem list_lt_loop (l b : Addr) (items items2 : Array Value) (n n2 : Nat) (dd dd2 : Option Addr) (sl sl2 : Array (Option Value)) (ns ms : List Int) (hi : IntsAre items.toList ns) (hj : IntsAre items2.toList ms) : ∀ (k i : Nat), items.size - i = k ->
    Meets (Builtin.«list.__eq__.loop» ⟨[.ref l, .ref b, rawInt i, rawInt 0], []⟩)
      (fun _ R s => s.heap.get? l = some { cls := .type "list", dict := dd, data := .seq items n, slots := sl } /\ s.heap.get? b = some { cls := .type "list", dict := dd2, data := .seq items2 n2, slots := sl2 } /\ (i <= items.size /\ i <= items2.size) /\
        R (.ok (.ret (.bool (lexLt (ns.drop i) (ms.drop i))))) s) := by
  intro k
  induction k with
  | zero =>
    intro i hk prog w A R s ⟨hl, hb, hz, h⟩
    unfold Builtin.«list.__eq__.loop»
    dsimp only
    refine wpAny_bind (listItems_at hl rfl ?_)
    refine wpAny_bind (listItems_at hb rfl ?_)
    rw [show (i : Int).toNat = i from Int.toNat_natCast i, Array.getElem?_eq_none (by omega)]
    refine wpAny_bind (listItems_at hl rfl ?_)
    refine wpAny_bind (listItems_at hb rfl ?_)
    rw [sizes_lt hi hj hz (.inl (by omega))] at h
    exact wpAny_pure h
  | succ k ih =>
    intro i hk prog w A R s ⟨hl, hb, hz, h⟩
    unfold Builtin.«list.__eq__.loop»
    dsimp only
    refine wpAny_bind (listItems_at hl rfl ?_)
    refine wpAny_bind (listItems_at hb rfl ?_)
    rw [show (i : Int).toNat = i from Int.toNat_natCast i]
    rcases intsAre_at hi (i := i) with ⟨e, _⟩ | ⟨a, t, e1, d1⟩
    · rw [Array.getElem?_toList, Array.getElem?_eq_getElem (by omega)] at e; cases e
    rcases intsAre_at hj (i := i) with ⟨e, _⟩ | ⟨c, u, e2, d2⟩
    · rw [Array.getElem?_toList] at e
      rw [e]
      have hge := Array.getElem?_eq_none_iff.mp e
      rw [Array.getElem?_toList] at e1
      rw [e1]
      refine wpAny_bind (listItems_at hl rfl ?_)
      refine wpAny_bind (listItems_at hb rfl ?_)
      rw [sizes_lt hi hj hz (.inr (by omega))] at h
      exact wpAny_pure h
    rw [Array.getElem?_toList] at e1 e2
    rw [e1, e2]
    have l1 := (Array.getElem?_eq_some_iff.mp e1).1
    have l2 := (Array.getElem?_eq_some_iff.mp e2).1
    obtain ⟨e, he, hiff⟩ := eqAt_int A.in1 s a t c u
    refine wpAny_bind (he prog w _ _ ?_)
    rw [d1, d2, lexLt_cons] at h
    cases e with
    | true =>
      rw [if_pos (hiff.mp rfl)] at h
      exact meets_again (S := fun _ R s => s.heap.get? l = some { cls := .type "list", dict := dd, data := .seq items n, slots := sl } /\ s.heap.get? b = some { cls := .type "list", dict := dd2, data := .seq items2 n2, slots := sl2 } /\ (i + 1 <= items.size /\ i + 1 <= items2.size) /\ R (.ok (.ret (.bool (lexLt (ns.drop (i + 1)) (ms.drop (i + 1)))))) s) (show _ = again (.builtin "list.__eq__.loop" ⟨[.ref l, .ref b, rawInt ((i : Int) + 1), rawInt 0], []⟩) from rfl) plain_eq_loop entry_eq_loop (ih (i + 1) (by omega)) prog w A R s ⟨hl, hb, ⟨by omega, by omega⟩, h⟩
    | false =>
      rw [if_neg (fun q => absurd (hiff.mpr (q)) Bool.false_ne_true)] at h
      refine wpAny_bind (listItems_at hl rfl ?_)
      refine wpAny_bind (listItems_at hb rfl ?_)
      rw [e1, e2]
      exact wpAny_bind (rcLt_int A.in1 s a t c u prog w _ _ (wpAny_pure (by simpa using h)))
theorem list_lt_ints (l b : Addr) (items items2 : Array Value) (n n2 : Nat) (dd dd2 : Option Addr) (sl sl2 : Array (Option Value)) (ns ms : List Int) (hi : IntsAre items.toList ns) (hj : IntsAre items2.toList ms) :
    Meets (Builtin.«list.__lt__» ⟨[.ref l, .ref b], []⟩)
      (fun _ R s => s.heap.get? l = some { cls := .type "list", dict := dd, data := .seq items n, slots := sl } /\ s.heap.get? b = some { cls := .type "list", dict := dd2, data := .seq items2 n2, slots := sl2 } /\
        R (.ok (.ret (.bool (lexLt ns ms)))) s) := fun prog w A R s ⟨hl, hb, h⟩ => by
  unfold Builtin.«list.__lt__»
  refine wpAny_bind (wpAny_pure ?_)
  refine wpAny_bind (wpAny_isInstance ⟨_, hb, rfl⟩ AutoSeq1.sub_list_list ?_)
  exact meets_again (S := fun _ R s => s.heap.get? l = some { cls := .type "list", dict := dd, data := .seq items n, slots := sl } /\ s.heap.get? b = some { cls := .type "list", dict := dd2, data := .seq items2 n2, slots := sl2 } /\ (0 <= items.size /\ 0 <= items2.size) /\ R (.ok (.ret (.bool (lexLt (ns.drop 0) (ms.drop 0))))) s) (show _ = again (.builtin "list.__eq__.loop" ⟨[.ref l, .ref b, rawInt ((0 : Nat) : Int), rawInt 0], []⟩) from rfl) plain_eq_loop entry_eq_loop (list_lt_loop l b items items2 n n2 dd dd2 sl sl2 ns ms hi hj _ 0 rfl) prog w A R s ⟨hl, hb, ⟨Nat.zero_le _, Nat.zero_le _⟩, h⟩
theorem lt_listInts {prog : Program} {w : World} {A : Around} {E : Value -> Shared -> Prop} {s : Shared} {l b : Addr} {items items2 : Array Value} {ns ms : List Int} {Q : Value -> Shared -> Prop} (hl : s.heap.IsList l items) (hb : s.heap.IsList b items2) (hi : IntsAre items.toList ns) (hj : IntsAre items2.toList ms)
    (hu : A.units < cLine) (h : Q (.bool (lexLt ns ms)) s) : wpAny (model prog w) A (compareOp .Lt (.ref l) (.ref b)) Q E s := by
  obtain ⟨⟨cls, dd, data, sl⟩, ho, hc, n, hd⟩ := id hl
  obtain ⟨⟨cls2, dd2, data2, sl2⟩, ho2, hc2, n2, hd2⟩ := id hb
  simp only at hc hd hc2 hd2
  subst hc hd hc2 hd2
  exact richCompare_meets_room (op := .Lt) ⟨_, ho, rfl⟩ ⟨_, ho2, rfl⟩ PySem.F.slot_list_lt PySem.F.entry_list_lt (PySem.F.args_list_lt_2 _ _) (list_lt_ints l b items items2 n n2 dd dd2 sl sl2 ns ms hi hj)
    ⟨ho, ho2, show Value.bool (lexLt ns ms) ≠ Value.notImplemented /\ Q (.bool (lexLt ns ms)) s from ⟨(fun x => nomatch x), h⟩⟩ hu
theorem list_gt_loop (l b : Addr) (items items2 : Array Value) (n n2 : Nat) (dd dd2 : Option Addr) (sl sl2 : Array (Option Value)) (ns ms : List Int) (hi : IntsAre items.toList ns) (hj : IntsAre items2.toList ms) : ∀ (k i : Nat), items.size - i = k ->
    Meets (Builtin.«list.__eq__.loop» ⟨[.ref l, .ref b, rawInt i, rawInt 4], []⟩)
      (fun _ R s => s.heap.get? l = some { cls := .type "list", dict := dd, data := .seq items n, slots := sl } /\ s.heap.get? b = some { cls := .type "list", dict := dd2, data := .seq items2 n2, slots := sl2 } /\ (i <= items.size /\ i <= items2.size) /\
        R (.ok (.ret (.bool (lexLt (ms.drop i) (ns.drop i))))) s) := by
  intro k
  induction k with
  | zero =>
    intro i hk prog w A R s ⟨hl, hb, hz, h⟩
    unfold Builtin.«list.__eq__.loop»
    dsimp only
    refine wpAny_bind (listItems_at hl rfl ?_)
    refine wpAny_bind (listItems_at hb rfl ?_)
    rw [show (i : Int).toNat = i from Int.toNat_natCast i, Array.getElem?_eq_none (by omega)]
    refine wpAny_bind (listItems_at hl rfl ?_)
    refine wpAny_bind (listItems_at hb rfl ?_)
    rw [sizes_gt hi hj hz (.inl (by omega))] at h
    exact wpAny_pure h
  | succ k ih =>
    intro i hk prog w A R s ⟨hl, hb, hz, h⟩
    unfold Builtin.«list.__eq__.loop»
    dsimp only
    refine wpAny_bind (listItems_at hl rfl ?_)
    refine wpAny_bind (listItems_at hb rfl ?_)
    rw [show (i : Int).toNat = i from Int.toNat_natCast i]
    rcases intsAre_at hi (i := i) with ⟨e, _⟩ | ⟨a, t, e1, d1⟩
    · rw [Array.getElem?_toList, Array.getElem?_eq_getElem (by omega)] at e; cases e
    rcases intsAre_at hj (i := i) with ⟨e, _⟩ | ⟨c, u, e2, d2⟩
    · rw [Array.getElem?_toList] at e
      rw [e]
      have hge := Array.getElem?_eq_none_iff.mp e
      rw [Array.getElem?_toList] at e1
      rw [e1]
      refine wpAny_bind (listItems_at hl rfl ?_)
      refine wpAny_bind (listItems_at hb rfl ?_)
      rw [sizes_gt hi hj hz (.inr (by omega))] at h
      exact wpAny_pure h
    rw [Array.getElem?_toList] at e1 e2
    rw [e1, e2]
    have l1 := (Array.getElem?_eq_some_iff.mp e1).1
    have l2 := (Array.getElem?_eq_some_iff.mp e2).1
    obtain ⟨e, he, hiff⟩ := eqAt_int A.in1 s a t c u
    refine wpAny_bind (he prog w _ _ ?_)
    rw [d1, d2, lexLt_cons] at h
    cases e with
    | true =>
      rw [if_pos ((hiff.mp rfl).symm)] at h
      exact meets_again (S := fun _ R s => s.heap.get? l = some { cls := .type "list", dict := dd, data := .seq items n, slots := sl } /\ s.heap.get? b = some { cls := .type "list", dict := dd2, data := .seq items2 n2, slots := sl2 } /\ (i + 1 <= items.size /\ i + 1 <= items2.size) /\ R (.ok (.ret (.bool (lexLt (ms.drop (i + 1)) (ns.drop (i + 1)))))) s) (show _ = again (.builtin "list.__eq__.loop" ⟨[.ref l, .ref b, rawInt ((i : Int) + 1), rawInt 4], []⟩) from rfl) plain_eq_loop entry_eq_loop (ih (i + 1) (by omega)) prog w A R s ⟨hl, hb, ⟨by omega, by omega⟩, h⟩
    | false =>
      rw [if_neg (fun q => absurd (hiff.mpr (q.symm)) Bool.false_ne_true)] at h
      refine wpAny_bind (listItems_at hl rfl ?_)
      refine wpAny_bind (listItems_at hb rfl ?_)
      rw [e1, e2]
      exact wpAny_bind (rcGt_int A.in1 s a t c u prog w _ _ (wpAny_pure (by simpa using h)))
theorem list_gt_ints (l b : Addr) (items items2 : Array Value) (n n2 : Nat) (dd dd2 : Option Addr) (sl sl2 : Array (Option Value)) (ns ms : List Int) (hi : IntsAre items.toList ns) (hj : IntsAre items2.toList ms) :
    Meets (Builtin.«list.__gt__» ⟨[.ref l, .ref b], []⟩)
      (fun _ R s => s.heap.get? l = some { cls := .type "list", dict := dd, data := .seq items n, slots := sl } /\ s.heap.get? b = some { cls := .type "list", dict := dd2, data := .seq items2 n2, slots := sl2 } /\
        R (.ok (.ret (.bool (lexLt ms ns)))) s) := fun prog w A R s ⟨hl, hb, h⟩ => by
  unfold Builtin.«list.__gt__»
  refine wpAny_bind (wpAny_pure ?_)
  refine wpAny_bind (wpAny_isInstance ⟨_, hb, rfl⟩ AutoSeq1.sub_list_list ?_)
  exact meets_again (S := fun _ R s => s.heap.get? l = some { cls := .type "list", dict := dd, data := .seq items n, slots := sl } /\ s.heap.get? b = some { cls := .type "list", dict := dd2, data := .seq items2 n2, slots := sl2 } /\ (0 <= items.size /\ 0 <= items2.size) /\ R (.ok (.ret (.bool (lexLt (ms.drop 0) (ns.drop 0))))) s) (show _ = again (.builtin "list.__eq__.loop" ⟨[.ref l, .ref b, rawInt ((0 : Nat) : Int), rawInt 4], []⟩) from rfl) plain_eq_loop entry_eq_loop (list_gt_loop l b items items2 n n2 dd dd2 sl sl2 ns ms hi hj _ 0 rfl) prog w A R s ⟨hl, hb, ⟨Nat.zero_le _, Nat.zero_le _⟩, h⟩
theorem gt_listInts {prog : Program} {w : World} {A : Around} {E : Value -> Shared -> Prop} {s : Shared} {l b : Addr} {items items2 : Array Value} {ns ms : List Int} {Q : Value -> Shared -> Prop} (hl : s.heap.IsList l items) (hb : s.heap.IsList b items2) (hi : IntsAre items.toList ns) (hj : IntsAre items2.toList ms)
    (hu : A.units < cLine) (h : Q (.bool (lexLt ms ns)) s) : wpAny (model prog w) A (compareOp .Gt (.ref l) (.ref b)) Q E s := by
  obtain ⟨⟨cls, dd, data, sl⟩, ho, hc, n, hd⟩ := id hl
  obtain ⟨⟨cls2, dd2, data2, sl2⟩, ho2, hc2, n2, hd2⟩ := id hb
  simp only at hc hd hc2 hd2
  subst hc hd hc2 hd2
  exact richCompare_meets_room (op := .Gt) ⟨_, ho, rfl⟩ ⟨_, ho2, rfl⟩ PySem.F.slot_list_gt PySem.F.entry_list_gt (PySem.F.args_list_gt_2 _ _) (list_gt_ints l b items items2 n n2 dd dd2 sl sl2 ns ms hi hj)
    ⟨ho, ho2, show Value.bool (lexLt ms ns) ≠ Value.notImplemented /\ Q (.bool (lexLt ms ns)) s from ⟨(fun x => nomatch x), h⟩⟩ hu
end
end HT
namespace L2
open PySem PySem.Spec PyProof.Rows
theorem min2_args (a b : Value) : argsOk "min" ⟨[a, b], []⟩ := by unfold argsOk; kernel_rfl
theorem min2_any {prog : Program} {w : World} {A : Around} {E : Value -> Shared -> Prop} {s : Shared} {a b : Value} {k : Bool} {Q : Value -> Shared -> Prop} (hh : A.handled = none)
    (hc : ∀ (h' : Heap) (tk : Nat), (∀ c o, s.heap.get? c = some o -> h'.get? c = some o) -> ∀ (Q' E' : Value -> Shared -> Prop), Q' (.bool k) { s with heap := h', toks := tk } -> wpAny (model prog w) A.in1 (richCompare .Lt b a) Q' E' { s with heap := h', toks := tk })
    (h : ∀ (h' : Heap) (tk : Nat), (∀ c o, s.heap.get? c = some o -> h'.get? c = some o) -> Q (if k = true then b else a) { s with heap := h', toks := tk }) :
    wpAny (model prog w) A (call (.builtin "min") [a, b]) Q E s := by
  have hnm : (toString "min" ++ toString ".loop" : String) = "min.loop" := by decide
  refine PyProof.Rows.kmk_tree F.kind_min F.plain_min F.entry_min (min2_args _ _) ?_
  show wpAny _ A.in1 (Builtin.Builtins.bindParams "min" ["key", "default"] 0 ⟨[], []⟩ >>= _) _ _ s
  refine wpAny_bind (wpAny_of_eq (show Builtin.Builtins.bindParams "min" ["key", "default"] 0 ⟨[], []⟩ = pure [none, none] from rfl) ?_)
  show wpAny _ A.in1 (newTuple [a, b] >>= _) _ _ s
  refine wpAny_bind (wpAny_newTuple ?_)
  have hT : (s.heap.push (seqObj "tuple" #[a, b] 0)).get? s.heap.objs.size = some (seqObj "tuple" #[a, b] 0) := Heap.get?_push_size _ rfl
  have k1 : ∀ c o, s.heap.get? c = some o -> (s.heap.push (seqObj "tuple" #[a, b] 0)).get? c = some o := fun c o e => Heap.get?_push_of_some _ e
  show wpAny _ A.in1 (pyIter (.ref s.heap.objs.size) >>= _) _ _ { s with heap := s.heap.push (seqObj "tuple" #[a, b] 0) }
  have tp : Heap.IsTuple (s.heap.push (seqObj "tuple" #[a, b] 0)) s.heap.objs.size #[a, b] := ⟨_, hT, rfl, _, rfl⟩
  generalize s.heap.push (seqObj "tuple" #[a, b] 0) = h1 at hT k1 tp
  generalize s.heap.objs.size = t at hT tp
  refine wpAny_bind (wpAny_pyIter_tuple (s := { s with heap := h1 }) tp ?_)
  have htI : t ≠ h1.objs.size := Nat.ne_of_lt (Heap.lt_size hT)
  have W := Walks.tuple (prog := prog) (w := w) (A := A.in1) hh h1.objs.size t htI #[a, b]
  have st0 : (h1.push { cls := .type "tuple_iterator", data := .fields #[.ref t, .int 0 0] }).IsTupleIter h1.objs.size t 0 /\ (h1.push { cls := .type "tuple_iterator", data := .fields #[.ref t, .int 0 0] }).IsTuple t #[a, b] := ⟨⟨_, Heap.get?_push_size _ rfl, rfl, rfl⟩, tp.at fun o e => Heap.get?_push_of_some _ e⟩
  have k2 : ∀ c o, c ≠ h1.objs.size -> h1.get? c = some o -> (h1.push { cls := .type "tuple_iterator", data := .fields #[.ref t, .int 0 0] }).get? c = some o := fun c o _ e => Heap.get?_push_of_some _ e
  have nz : (h1.push { cls := .type "tuple_iterator", data := .fields #[.ref t, .int 0 0] }).objs.size = h1.objs.size + 1 := size_push' _ _
  dsimp only
  generalize (h1.push { cls := .type "tuple_iterator", data := .fields #[.ref t, .int 0 0] }) = h2 at st0 k2 nz
  refine wpAny_bind (wpAny_newObj_type ?_)
  rw [hnm]
  refine wpAny_pure ⟨plainId_quiet F.plain_min_loop _, ?_⟩
  have hS : (h2.push { cls := .type "list", data := .seq #[] 0 }).get? h2.objs.size = some { cls := .type "list", data := .seq #[] 0 } := Heap.get?_push_size _ rfl
  have k3 : ∀ c o, h2.get? c = some o -> (h2.push { cls := .type "list", data := .seq #[] 0 }).get? c = some o := fun c o e => Heap.get?_push_of_some _ e
  have hSf : h2.objs.size ∉ [h1.objs.size, t] := by
    have l0 : @LT.lt Nat _ t h1.objs.size := Heap.lt_size hT
    intro hm
    rcases List.mem_cons.mp hm with q | hm
    · omega
    · have q : @Eq Nat h2.objs.size t := List.mem_singleton.mp hm
      omega
  have hSw : h2.objs.size ∉ [h1.objs.size] := fun hm => hSf (List.mem_cons.mpr (.inl (List.mem_singleton.mp hm)))
  have st1 := W.frame 0 _ (h2.push { cls := .type "list", data := .seq #[] 0 }) st0 fun c _ o e => k3 c o e
  have kA : ∀ c o, s.heap.get? c = some o -> c ≠ h1.objs.size /\ c ≠ h2.objs.size /\ (h2.push { cls := .type "list", data := .seq #[] 0 }).get? c = some o := fun c o e => by
    have e1 := k1 c o e
    have l1 : @LT.lt Nat _ c h1.objs.size := Heap.lt_size e1
    have n1 : @Ne Nat c h1.objs.size := by omega
    have n2 : @Ne Nat c h2.objs.size := by omega
    exact ⟨n1, n2, k3 c o (k2 c o n1 e1)⟩
  dsimp only
  generalize (h2.push { cls := .type "list", data := .seq #[] 0 }) = h3 at hS st1 kA
  generalize h2.objs.size = S at hS hSf hSw kA
  generalize h1.objs.size = J at W st1 hSf hSw kA
  refine codeAny_builtin F.entry_min_loop ?_; rw [Around.under_plainId F.plain_min_loop _]
  show wpAny _ A.in1 (seqItems? (.ref S) >>= _) _ _ _; refine wpAny_bind (wpAny_seqItems hS rfl ?_)
  show wpAny _ A.in1 (tryCatch (pyNext (.ref J)) _ >>= _) _ _ _
  refine wpAny_bind (wpAny_tryCatch (W.item 0 _ _ _ (Nat.zero_lt_succ 1) st1 fun v h4 tk4 hv st4 kk4 => ?_))
  obtain rfl : a = v := by injection hv
  have hS4 := kk4 S _ hSw hS
  show wpAny _ A.in1 (updateSeq S (fun _ => #[a, a]) >>= _) _ _ _; refine wpAny_bind (wpAny_updateSeq hS4 rfl ?_); rw [hnm]
  refine wpAny_pure ⟨plainId_quiet F.plain_min_loop _, ?_⟩
  have hS5 := Heap.get?_update_self (Obj.mapSeq fun _ => #[a, a]) hS4 rfl
  have ne : ∀ c ∈ [J, t], S ≠ c := fun c hc q => hSf (q ▸ hc)
  have st5 := W.frame _ _ (h4.update S (Obj.mapSeq fun _ => #[a, a])) st4 fun c hc o e => (Heap.get?_update_other _ _ (ne c hc)).trans e
  have kB : ∀ c o, s.heap.get? c = some o -> c ≠ J /\ c ≠ S /\ (h4.update S (Obj.mapSeq fun _ => #[a, a])).get? c = some o := fun c o e => by
    obtain ⟨n1, n2, e1⟩ := kA c o e
    exact ⟨n1, n2, (Heap.get?_update_other _ _ (Ne.symm n2)).trans (kk4 c o (fun hm => n1 (List.mem_singleton.mp hm)) e1)⟩
  dsimp only
  generalize (h4.update S (Obj.mapSeq fun _ => #[a, a])) = h5 at hS5 st5 kB
  refine codeAny_builtin F.entry_min_loop ?_; rw [Around.under_plainId F.plain_min_loop _]
  show wpAny _ A.in1 (seqItems? (.ref S) >>= _) _ _ _; refine wpAny_bind (wpAny_seqItems hS5 rfl ?_)
  show wpAny _ A.in1 (tryCatch (pyNext (.ref J)) _ >>= _) _ _ _
  refine wpAny_bind (wpAny_tryCatch (W.item 1 _ _ _ (Nat.lt_succ_self 1) st5 fun v h6 tk6 hv st6 kk6 => ?_))
  obtain rfl : b = v := by injection hv
  have hS6 := kk6 S _ hSw hS5
  have kC : ∀ c o, s.heap.get? c = some o -> c ≠ J /\ c ≠ S /\ h6.get? c = some o := fun c o e => by
    obtain ⟨n1, n2, e1⟩ := kB c o e
    exact ⟨n1, n2, kk6 c o (fun hm => n1 (List.mem_singleton.mp hm)) e1⟩
  show wpAny _ A.in1 (tryCatch (holding [b, b] (richCompare .Lt b a >>= _)) _ >>= _) _ _ _
  refine wpAny_bind (wpAny_tryCatch (wpAny_holding (wpAny_bind (hc h6 tk6 (fun c o e => (kC c o e).2.2) _ _ ?_))))
  refine wpAny_bind (wpAny_holding (wpAny_truthy_bool (wpAny_bind (wpAny_letGo (wpAny_pure ?_)))))
  have fin : ∀ (v : Value) (h7 : Heap) (c7 : Nat), h7.get? S = some ⟨.type "list", none, .seq #[v, v] c7, #[]⟩ -> (h7.IsTupleIter J t 2 /\ h7.IsTuple t #[a, b]) -> (∀ c o, s.heap.get? c = some o -> c ≠ J /\ c ≠ S /\ h7.get? c = some o) -> v = (if k = true then b else a) ->
      codeAny (model prog w) A (.builtin "min.loop" ⟨[.ref J, .none, .ref S], []⟩) (fun r s' => match r with | .ok (.ret v) => Q v s' | .ok _ => False | .error e => E e s') { s with heap := h7, toks := tk6 } := fun v h7 c7 hS7 st7 kD hv => by
    refine codeAny_builtin F.entry_min_loop ?_; rw [Around.under_plainId F.plain_min_loop _]
    show wpAny _ A.in1 (seqItems? (.ref S) >>= _) _ _ _; refine wpAny_bind (wpAny_seqItems hS7 rfl ?_)
    show wpAny _ A.in1 (tryCatch (pyNext (.ref J)) _ >>= _) _ _ _
    refine wpAny_bind (wpAny_tryCatch (W.done _ _ _ st7 fun h8 tk8 kk8 => ?_))
    show wpAny _ A.in1 (updateSeq S (fun _ => #[]) >>= _) _ _ _
    refine wpAny_bind (wpAny_updateSeq (kk8 S _ hSw hS7) rfl (wpAny_bind (wpAny_letGo (wpAny_pure ?_))))
    rw [hv]
    exact h _ _ fun c o e => by
      obtain ⟨n1, n2, e1⟩ := kD c o e
      exact (Heap.get?_update_other _ _ (Ne.symm n2)).trans (kk8 c o (fun hm => n1 (List.mem_singleton.mp hm)) e1)
  cases k with
  | true =>
    rw [if_pos rfl]; refine wpAny_bind (wpAny_updateSeq hS6 rfl (wpAny_bind (wpAny_letGo ?_))); rw [hnm]
    refine wpAny_pure ⟨plainId_quiet F.plain_min_loop _, fin b _ _ (Heap.get?_update_self _ hS6 rfl) (W.frame _ _ _ st6 fun c hc o e => (Heap.get?_update_other _ _ (ne c hc)).trans e) (fun c o e => ?_) rfl⟩
    obtain ⟨n1, n2, e1⟩ := kC c o e
    exact ⟨n1, n2, (Heap.get?_update_other _ _ (Ne.symm n2)).trans e1⟩
  | false =>
    rw [if_neg Bool.false_ne_true]; refine wpAny_bind (wpAny_letGo ?_); rw [hnm]
    exact wpAny_pure ⟨plainId_quiet F.plain_min_loop _, fin a _ _ hS6 st6 kC rfl⟩
theorem max2_args (a b : Value) : argsOk "max" ⟨[a, b], []⟩ := by unfold argsOk; kernel_rfl
theorem max2_any {prog : Program} {w : World} {A : Around} {E : Value -> Shared -> Prop} {s : Shared} {a b : Value} {k : Bool} {Q : Value -> Shared -> Prop} (hh : A.handled = none)
    (hc : ∀ (h' : Heap) (tk : Nat), (∀ c o, s.heap.get? c = some o -> h'.get? c = some o) -> ∀ (Q' E' : Value -> Shared -> Prop), Q' (.bool k) { s with heap := h', toks := tk } -> wpAny (model prog w) A.in1 (richCompare .Gt b a) Q' E' { s with heap := h', toks := tk })
    (h : ∀ (h' : Heap) (tk : Nat), (∀ c o, s.heap.get? c = some o -> h'.get? c = some o) -> Q (if k = true then b else a) { s with heap := h', toks := tk }) :
    wpAny (model prog w) A (call (.builtin "max") [a, b]) Q E s := by
  have hnm : (toString "max" ++ toString ".loop" : String) = "max.loop" := by decide
  refine PyProof.Rows.kmk_tree F.kind_max F.plain_max F.entry_max (max2_args _ _) ?_
  show wpAny _ A.in1 (Builtin.Builtins.bindParams "max" ["key", "default"] 0 ⟨[], []⟩ >>= _) _ _ s
  refine wpAny_bind (wpAny_of_eq (show Builtin.Builtins.bindParams "max" ["key", "default"] 0 ⟨[], []⟩ = pure [none, none] from rfl) ?_)
  show wpAny _ A.in1 (newTuple [a, b] >>= _) _ _ s
  refine wpAny_bind (wpAny_newTuple ?_)
  have hT : (s.heap.push (seqObj "tuple" #[a, b] 0)).get? s.heap.objs.size = some (seqObj "tuple" #[a, b] 0) := Heap.get?_push_size _ rfl
  have k1 : ∀ c o, s.heap.get? c = some o -> (s.heap.push (seqObj "tuple" #[a, b] 0)).get? c = some o := fun c o e => Heap.get?_push_of_some _ e
  show wpAny _ A.in1 (pyIter (.ref s.heap.objs.size) >>= _) _ _ { s with heap := s.heap.push (seqObj "tuple" #[a, b] 0) }
  have tp : Heap.IsTuple (s.heap.push (seqObj "tuple" #[a, b] 0)) s.heap.objs.size #[a, b] := ⟨_, hT, rfl, _, rfl⟩
  generalize s.heap.push (seqObj "tuple" #[a, b] 0) = h1 at hT k1 tp
  generalize s.heap.objs.size = t at hT tp
  refine wpAny_bind (wpAny_pyIter_tuple (s := { s with heap := h1 }) tp ?_)
  have htI : t ≠ h1.objs.size := Nat.ne_of_lt (Heap.lt_size hT)
  have W := Walks.tuple (prog := prog) (w := w) (A := A.in1) hh h1.objs.size t htI #[a, b]
  have st0 : (h1.push { cls := .type "tuple_iterator", data := .fields #[.ref t, .int 0 0] }).IsTupleIter h1.objs.size t 0 /\ (h1.push { cls := .type "tuple_iterator", data := .fields #[.ref t, .int 0 0] }).IsTuple t #[a, b] := ⟨⟨_, Heap.get?_push_size _ rfl, rfl, rfl⟩, tp.at fun o e => Heap.get?_push_of_some _ e⟩
  have k2 : ∀ c o, c ≠ h1.objs.size -> h1.get? c = some o -> (h1.push { cls := .type "tuple_iterator", data := .fields #[.ref t, .int 0 0] }).get? c = some o := fun c o _ e => Heap.get?_push_of_some _ e
  have nz : (h1.push { cls := .type "tuple_iterator", data := .fields #[.ref t, .int 0 0] }).objs.size = h1.objs.size + 1 := size_push' _ _
  dsimp only
  generalize (h1.push { cls := .type "tuple_iterator", data := .fields #[.ref t, .int 0 0] }) = h2 at st0 k2 nz
  refine wpAny_bind (wpAny_newObj_type ?_)
  rw [hnm]
  refine wpAny_pure ⟨plainId_quiet F.plain_max_loop _, ?_⟩
  have hS : (h2.push { cls := .type "list", data := .seq #[] 0 }).get? h2.objs.size = some { cls := .type "list", data := .seq #[] 0 } := Heap.get?_push_size _ rfl
  have k3 : ∀ c o, h2.get? c = some o -> (h2.push { cls := .type "list", data := .seq #[] 0 }).get? c = some o := fun c o e => Heap.get?_push_of_some _ e
  have hSf : h2.objs.size ∉ [h1.objs.size, t] := by
    have l0 : @LT.lt Nat _ t h1.objs.size := Heap.lt_size hT
    intro hm
    rcases List.mem_cons.mp hm with q | hm
    · omega
    · have q : @Eq Nat h2.objs.size t := List.mem_singleton.mp hm
      omega
  have hSw : h2.objs.size ∉ [h1.objs.size] := fun hm => hSf (List.mem_cons.mpr (.inl (List.mem_singleton.mp hm)))
  have st1 := W.frame 0 _ (h2.push { cls := .type "list", data := .seq #[] 0 }) st0 fun c _ o e => k3 c o e
  have kA : ∀ c o, s.heap.get? c = some o -> c ≠ h1.objs.size /\ c ≠ h2.objs.size /\ (h2.push { cls := .type "list", data := .seq #[] 0 }).get? c = some o := fun c o e => by
    have e1 := k1 c o e
    have l1 : @LT.lt Nat _ c h1.objs.size := Heap.lt_size e1
    have n1 : @Ne Nat c h1.objs.size := by omega
    have n2 : @Ne Nat c h2.objs.size := by omega
    exact ⟨n1, n2, k3 c o (k2 c o n1 e1)⟩
  dsimp only
  generalize (h2.push { cls := .type "list", data := .seq #[] 0 }) = h3 at hS st1 kA
  generalize h2.objs.size = S at hS hSf hSw kA
  generalize h1.objs.size = J at W st1 hSf hSw kA
  refine codeAny_builtin F.entry_max_loop ?_; rw [Around.under_plainId F.plain_max_loop _]
  show wpAny _ A.in1 (seqItems? (.ref S) >>= _) _ _ _; refine wpAny_bind (wpAny_seqItems hS rfl ?_)
  show wpAny _ A.in1 (tryCatch (pyNext (.ref J)) _ >>= _) _ _ _
  refine wpAny_bind (wpAny_tryCatch (W.item 0 _ _ _ (Nat.zero_lt_succ 1) st1 fun v h4 tk4 hv st4 kk4 => ?_))
  obtain rfl : a = v := by injection hv
  have hS4 := kk4 S _ hSw hS
  show wpAny _ A.in1 (updateSeq S (fun _ => #[a, a]) >>= _) _ _ _; refine wpAny_bind (wpAny_updateSeq hS4 rfl ?_); rw [hnm]
  refine wpAny_pure ⟨plainId_quiet F.plain_max_loop _, ?_⟩
  have hS5 := Heap.get?_update_self (Obj.mapSeq fun _ => #[a, a]) hS4 rfl
  have ne : ∀ c ∈ [J, t], S ≠ c := fun c hc q => hSf (q ▸ hc)
  have st5 := W.frame _ _ (h4.update S (Obj.mapSeq fun _ => #[a, a])) st4 fun c hc o e => (Heap.get?_update_other _ _ (ne c hc)).trans e
  have kB : ∀ c o, s.heap.get? c = some o -> c ≠ J /\ c ≠ S /\ (h4.update S (Obj.mapSeq fun _ => #[a, a])).get? c = some o := fun c o e => by
    obtain ⟨n1, n2, e1⟩ := kA c o e
    exact ⟨n1, n2, (Heap.get?_update_other _ _ (Ne.symm n2)).trans (kk4 c o (fun hm => n1 (List.mem_singleton.mp hm)) e1)⟩
  dsimp only
  generalize (h4.update S (Obj.mapSeq fun _ => #[a, a])) = h5 at hS5 st5 kB
  refine codeAny_builtin F.entry_max_loop ?_; rw [Around.under_plainId F.plain_max_loop _]
  show wpAny _ A.in1 (seqItems? (.ref S) >>= _) _ _ _; refine wpAny_bind (wpAny_seqItems hS5 rfl ?_)
  show wpAny _ A.in1 (tryCatch (pyNext (.ref J)) _ >>= _) _ _ _
  refine wpAny_bind (wpAny_tryCatch (W.item 1 _ _ _ (Nat.lt_succ_self 1) st5 fun v h6 tk6 hv st6 kk6 => ?_))
  obtain rfl : b = v := by injection hv
  have hS6 := kk6 S _ hSw hS5
  have kC : ∀ c o, s.heap.get? c = some o -> c ≠ J /\ c ≠ S /\ h6.get? c = some o := fun c o e => by
    obtain ⟨n1, n2, e1⟩ := kB c o e
    exact ⟨n1, n2, kk6 c o (fun hm => n1 (List.mem_singleton.mp hm)) e1⟩
  show wpAny _ A.in1 (tryCatch (holding [b, b] (richCompare .Gt b a >>= _)) _ >>= _) _ _ _
  refine wpAny_bind (wpAny_tryCatch (wpAny_holding (wpAny_bind (hc h6 tk6 (fun c o e => (kC c o e).2.2) _ _ ?_))))
  refine wpAny_bind (wpAny_holding (wpAny_truthy_bool (wpAny_bind (wpAny_letGo (wpAny_pure ?_)))))
  have fin : ∀ (v : Value) (h7 : Heap) (c7 : Nat), h7.get? S = some ⟨.type "list", none, .seq #[v, v] c7, #[]⟩ -> (h7.IsTupleIter J t 2 /\ h7.IsTuple t #[a, b]) -> (∀ c o, s.heap.get? c = some o -> c ≠ J /\ c ≠ S /\ h7.get? c = some o) -> v = (if k = true then b else a) ->
      codeAny (model prog w) A (.builtin "max.loop" ⟨[.ref J, .none, .ref S], []⟩) (fun r s' => match r with | .ok (.ret v) => Q v s' | .ok _ => False | .error e => E e s') { s with heap := h7, toks := tk6 } := fun v h7 c7 hS7 st7 kD hv => by
    refine codeAny_builtin F.entry_max_loop ?_; rw [Around.under_plainId F.plain_max_loop _]
    show wpAny _ A.in1 (seqItems? (.ref S) >>= _) _ _ _; refine wpAny_bind (wpAny_seqItems hS7 rfl ?_)
    show wpAny _ A.in1 (tryCatch (pyNext (.ref J)) _ >>= _) _ _ _
    refine wpAny_bind (wpAny_tryCatch (W.done _ _ _ st7 fun h8 tk8 kk8 => ?_))
    show wpAny _ A.in1 (updateSeq S (fun _ => #[]) >>= _) _ _ _
    refine wpAny_bind (wpAny_updateSeq (kk8 S _ hSw hS7) rfl (wpAny_bind (wpAny_letGo (wpAny_pure ?_))))
    rw [hv]
    exact h _ _ fun c o e => by
      obtain ⟨n1, n2, e1⟩ := kD c o e
      exact (Heap.get?_update_other _ _ (Ne.symm n2)).trans (kk8 c o (fun hm => n1 (List.mem_singleton.mp hm)) e1)
  cases k with
  | true =>
    rw [if_pos rfl]; refine wpAny_bind (wpAny_updateSeq hS6 rfl (wpAny_bind (wpAny_letGo ?_))); rw [hnm]
    refine wpAny_pure ⟨plainId_quiet F.plain_max_loop _, fin b _ _ (Heap.get?_update_self _ hS6 rfl) (W.frame _ _ _ st6 fun c hc o e => (Heap.get?_update_other _ _ (ne c hc)).trans e) (fun c o e => ?_) rfl⟩
    obtain ⟨n1, n2, e1⟩ := kC c o e
    exact ⟨n1, n2, (Heap.get?_update_other _ _ (Ne.symm n2)).trans e1⟩
  | false =>
    rw [if_neg Bool.false_ne_true]; refine wpAny_bind (wpAny_letGo ?_); rw [hnm]
    exact wpAny_pure ⟨plainId_quiet F.plain_max_loop _, fin a _ _ hS6 st6 kC rfl⟩
section
open PySem.W
def TailEq (e : Nat -> Int) (p : Array Nat) (m q : Nat) : Prop := q + 1 <= m /\ ∀ t, t <= q -> e (p.getD (m - 1 - t) 0) = e (p.getD (m - 1) 0)
theorem rev_at {p : Array Nat} {i j : Nat} (hj : j <= p.size) (k : Nat) : (kas_rev p i j).getD k 0 = if i <= k /\ k < j then p.getD (i + j - 1 - k) 0 else p.getD k 0 := by
  have := getElem?_mirror_all (xs := p) (i := i) (j := j) (k := k) hj
  by_cases z : i <= k /\ k < j
  · rw [if_pos z] at this ⊢; exact getD_of this
  · rw [if_neg z] at this ⊢; exact getD_of this
theorem rev_same {e : Nat -> Int} {p : Array Nat} {m q : Nat} (hm : m <= p.size) (h : TailEq e p m q) (k : Nat) : e ((kas_rev p (m - (q + 1)) m).getD k 0) = e (p.getD k 0) := by
  rw [rev_at hm]
  by_cases z : m - (q + 1) <= k /\ k < m
  · rw [if_pos z]
    have h1 := h.2 (m - 1 - k) (by omega)
    rw [show m - 1 - (m - 1 - k) = k by omega] at h1
    have h2 := h.2 (m - 1 - (m - (q + 1) + m - 1 - k)) (by have := h.1; omega)
    rw [show m - 1 - (m - 1 - (m - (q + 1) + m - 1 - k)) = m - (q + 1) + m - 1 - k by have := h.1; omega] at h2
    rw [h1, h2]
  · rw [if_neg z]
theorem DescP.like {e : Nat -> Int} {p r : Array Nat} {n : Nat} (h : DescP e p n) (hs : ∀ k, k < n -> e (r.getD k 0) = e (p.getD k 0)) : DescP e r n := fun i j hij hj => by
  rw [hs i (by omega), hs j hj]; exact h i j hij hj
theorem DescP.more {e : Nat -> Int} {p : Array Nat} {n : Nat} (h : DescP e p n) (hn : 1 <= n) (q : e (p.getD n 0) <= e (p.getD (n - 1) 0)) : DescP e p (n + 1) := fun i j hij hj => by
  by_cases z : j = n
  · subst z
    by_cases y : i = j - 1
    · subst y; exact q
    · exact Int.le_trans q (h i (j - 1) (by omega) (by omega))
  · exact h i j hij (by omega)
theorem rev_sz (p : Array Nat) (i j : Nat) : (kas_rev p i j).size = p.size := (mirror_perm _ _ _ _).size_eq
theorem run_descT {e : Nat -> Int} {N : Nat} : ∀ f (p : Array Nat) n q, p.size = N -> 1 <= n -> n + f <= N -> DescP e p n -> TailEq e p n q -> ∃ p' m q', kasRun (ltE e) (kas_desc f p n q) = (p', m, q') /\ p'.Perm p /\ n <= m /\ m <= n + f /\ DescP e p' m /\ TailEq e p' m q'
  | 0, p, n, q, _, _, _, h, t => ⟨p, n, q, rfl, Array.Perm.refl _, Nat.le_refl _, Nat.le_refl _, h, t⟩
  | f + 1, p, n, q, hs, hn, hN, h, t => by
    show ∃ p' m q', kasRun (ltE e) (if ltE e (p.getD n 0) (p.getD (n - 1) 0) = true then (if q > 0 then kas_desc f (kas_rev p (n - (q + 1)) n) (n + 1) 0 else kas_desc f p (n + 1) 0) else .ask (p.getD (n - 1) 0) (p.getD n 0) fun d => if d = true then .ret (p, n, q) else kas_desc f p (n + 1) (q + 1)) = (p', m, q') /\ _
    by_cases z : e (p.getD n 0) < e (p.getD (n - 1) 0)
    · rw [if_pos (show ltE e _ _ = true from decide_eq_true z)]
      have h1 := h.more hn (Int.le_of_lt z)
      by_cases y : q > 0
      · rw [if_pos y]
        have hl := rev_same (e := e) (p := p) (m := n) (q := q) (by omega) t
        obtain ⟨p', m, q', a1, a2, a3, a4, a5, a6⟩ := run_descT f (kas_rev p (n - (q + 1)) n) (n + 1) 0 ((rev_sz _ _ _).trans hs) (by omega) (by omega) (h1.like fun k _ => hl k) ⟨by omega, fun t ht => by rw [show t = 0 by omega]; rfl⟩
        exact ⟨p', m, q', a1, a2.trans (mirror_perm _ _ _ _), by omega, by omega, a5, a6⟩
      · rw [if_neg y]
        obtain ⟨p', m, q', a1, a2, a3, a4, a5, a6⟩ := run_descT f p (n + 1) 0 hs (by omega) (by omega) h1 ⟨by omega, fun t ht => by rw [show t = 0 by omega]; rfl⟩
        exact ⟨p', m, q', a1, a2, by omega, by omega, a5, a6⟩
    · rw [if_neg (show ¬ ltE e _ _ = true from fun q => z (of_decide_eq_true q))]
      show ∃ p' m q', kasRun (ltE e) (if ltE e (p.getD (n - 1) 0) (p.getD n 0) = true then .ret (p, n, q) else kas_desc f p (n + 1) (q + 1)) = (p', m, q') /\ _
      by_cases y : e (p.getD (n - 1) 0) < e (p.getD n 0)
      · rw [if_pos (show ltE e _ _ = true from decide_eq_true y)]
        exact ⟨p, n, q, rfl, Array.Perm.refl _, Nat.le_refl _, by omega, h, t⟩
      · rw [if_neg (show ¬ ltE e _ _ = true from fun q => y (of_decide_eq_true q))]
        have eq : e (p.getD n 0) = e (p.getD (n - 1) 0) := by omega
        obtain ⟨p', m, q', a1, a2, a3, a4, a5, a6⟩ := run_descT f p (n + 1) (q + 1) hs (by omega) (by omega) (h.more hn (by omega)) ⟨by have := t.1; omega, fun u hu => by
          rw [show n + 1 - 1 = n by omega]
          by_cases u0 : u = 0
          · subst u0; rfl
          · have := t.2 (u - 1) (by omega)
            rw [show n - 1 - (u - 1) = n - u by omega] at this
            rw [this, eq]⟩
        exact ⟨p', m, q', a1, a2, by omega, by omega, a5, a6⟩
theorem run_descPartT {e : Nat -> Int} {p : Array Nat} {n N : Nat} (hN : N = p.size) (hn : 1 <= n) (hl : n < N) (h : DescP e p (n + 1)) : ∃ r q, kasRun (ltE e) (kas_descPart n N p) = (r, q) /\ q.Perm p /\ 1 <= r /\ r <= N /\ AscP e q r := by
  obtain ⟨p', m, q', a1, a2, a3, a4, a5, a6⟩ := run_descT (e := e) (N := N) (N - (n + 1)) p (n + 1) 0 hN.symm (by omega) (by omega) h ⟨by omega, fun t ht => by rw [show t = 0 by omega]; rfl⟩
  have hs : p'.size = N := by rw [a2.size_eq, hN]
  unfold kas_descPart
  rw [kasRun_bind, a1]
  by_cases z : q' > 0
  · rw [if_pos (show (p', m, q').2.2 > 0 from z)]
    obtain ⟨r, e1, r1, r2, ra⟩ := run_tail3 (e := e) (p := kas_rev p' (m - (q' + 1)) m) (m := m) (N := N) (by omega) (by omega) (by rw [rev_sz, hs]) (a5.like fun k _ => rev_same (by omega) a6 k)
    exact ⟨r, _, e1, (mirror_perm _ _ _ _).trans ((mirror_perm _ _ _ _).trans a2), r1, r2, ra⟩
  · rw [if_neg (show ¬ (p', m, q').2.2 > 0 from z)]
    obtain ⟨r, e1, r1, r2, ra⟩ := run_tail3 (e := e) (p := p') (m := m) (N := N) (by omega) (by omega) hs.symm a5
    exact ⟨r, _, e1, (mirror_perm _ _ _ _).trans a2, r1, r2, ra⟩
theorem run_countT {e : Nat -> Int} {p : Array Nat} {N : Nat} (hN : N = p.size) (h1 : 1 <= N) : ∃ r q, kasRun (ltE e) (kas_count N p) = (r, q) /\ q.Perm p /\ 1 <= r /\ r <= N /\ AscP e q r := by
  obtain ⟨a, b, c, d⟩ := run_asc (e := e) (p := p) (N - 1) 1 (Nat.le_refl _) (fun i j hij hj => by omega)
  unfold kas_count
  rw [kasRun_bind]
  generalize kasRun (ltE e) (kas_asc p (N - 1) 1) = n at *
  by_cases z : (n == N) = true
  · rw [if_pos z]
    exact ⟨n, p, rfl, Array.Perm.refl _, a, by omega, c⟩
  · rw [if_neg z]
    have zn : n ≠ N := fun q => z (by simpa using q)
    have last := d (by omega)
    by_cases y : n > 1
    · rw [if_pos y]
      show ∃ r q, kasRun (ltE e) (if ltE e (p.getD 0 0) (p.getD (n - 1) 0) = true then .ret (n, p) else kas_descPart n N (kas_rev p 0 n)) = (r, q) /\ _
      by_cases x : e (p.getD 0 0) < e (p.getD (n - 1) 0)
      · rw [if_pos (show ltE e _ _ = true from decide_eq_true x)]
        exact ⟨n, p, rfl, Array.Perm.refl _, a, by omega, c⟩
      · rw [if_neg (show ¬ ltE e _ _ = true from fun q => x (of_decide_eq_true q))]
        have all : ∀ k, k < n -> e (p.getD k 0) = e (p.getD 0 0) := fun k hk => by
          by_cases k0 : k = 0
          · rw [k0]
          · have q1 := c 0 k (by omega) hk
            by_cases k1 : k = n - 1
            · rw [k1] at q1 ⊢; omega
            · have q2 := c k (n - 1) (by omega) (by omega); omega
        have ev : ∀ k, k < n + 1 -> e ((kas_rev p 0 n).getD k 0) = e (p.getD k 0) := fun k hk => by
          rw [rev_at (by omega)]
          by_cases w : 0 <= k /\ k < n
          · rw [if_pos w, all _ (by omega), all k w.2]
          · rw [if_neg w]
        have ds : DescP e p (n + 1) := DescP.more (fun i j hij hj => by rw [all i (by omega), all j hj]; exact Int.le_refl _) (by omega) (by omega)
        obtain ⟨r, q, e1, hp, q1, q2, q3⟩ := run_descPartT (e := e) (p := kas_rev p 0 n) (n := n) (N := N) (by rw [rev_sz]; exact hN) (by omega) (by omega) (ds.like fun k hk => ev k hk)
        exact ⟨r, q, e1, hp.trans (mirror_perm _ _ _ _), q1, q2, q3⟩
    · rw [if_neg y]
      have n1 : n = 1 := by omega
      subst n1
      exact run_descPartT hN (by omega) (by omega) (DescP.more (fun i j hij hj => by omega) (Nat.le_refl _) (by omega))
theorem run_sortT {e : Nat -> Int} {n : Nat} (h1 : 1 <= n) : (kasRun (ltE e) (kas_sort n)).Perm (List.toArray (List.range n)) /\ AscP e (kasRun (ltE e) (kas_sort n)) n := by
  have sz : n = (List.toArray (List.range n)).size := by simp
  obtain ⟨r, q, e1, hp, r1, r2, ar⟩ := run_countT (e := e) (p := List.toArray (List.range n)) (N := n) sz h1
  unfold kas_sort
  rw [kasRun_bind, e1]
  by_cases z : r < n
  · rw [if_pos (show (r, q).1 < n from z)]
    have hq : q.size = n := by rw [hp.size_eq]; exact sz.symm
    show (kasRun (ltE e) (kas_bin (n - max r 1) q (max r 1))).Perm _ /\ AscP e (kasRun (ltE e) (kas_bin (n - max r 1) q (max r 1))) n
    rw [show max r 1 = r by omega]
    obtain ⟨b1, b2⟩ := run_bin (e := e) (n - r) q r r1 (by omega) ar
    rw [show r + (n - r) = n by omega] at b2
    exact ⟨b1.trans hp, b2⟩
  · rw [if_neg (show ¬ (r, q).1 < n from z)]
    have : r = n := by omega
    subst this
    exact ⟨hp, ar⟩
end
def rkOf (n : Nat) (lt : Nat -> Nat -> Bool) (i : Nat) : Int := ((List.range n).countP fun j => lt j i : Nat)
structure OrdB (n : Nat) (lt : Nat -> Nat -> Bool) : Prop where
  irr : ∀ i, i < n -> lt i i = false
  tr : ∀ i j k, i < n -> j < n -> k < n -> lt i j = true -> lt j k = true -> lt i k = true
  neg : ∀ i j k, i < n -> j < n -> k < n -> lt i j = false -> lt j k = false -> lt i k = false
theorem rkOf_lt {n : Nat} {lt : Nat -> Nat -> Bool} (o : OrdB n lt) {i j : Nat} (hi : i < n) (hj : j < n) : decide (rkOf n lt i < rkOf n lt j) = lt i j := by
  cases z : lt i j with
  | true =>
    refine decide_eq_true (Int.ofNat_lt.mpr ?_)
    have h1 : ∀ l : List Nat, (∀ x ∈ l, x < n) -> (l.countP fun x => lt x i) <= l.countP fun x => lt x j := fun l hl => by
      induction l with
      | nil => exact Nat.le_refl _
      | cons x l ih =>
        rw [List.countP_cons, List.countP_cons]
        have := ih fun y hy => hl y (List.mem_cons_of_mem _ hy)
        by_cases w : lt x i = true
        · rw [if_pos w, if_pos (o.tr x i j (hl x List.mem_cons_self) hi hj w z)]; omega
        · rw [if_neg w]; split <;> omega
    have h2 : ∀ l : List Nat, (∀ x ∈ l, x < n) -> i ∈ l -> (l.countP fun x => lt x i) < l.countP fun x => lt x j := fun l hl hm => by
      induction l with
      | nil => cases hm
      | cons x l ih =>
        rw [List.countP_cons, List.countP_cons]
        have hl' : ∀ y ∈ l, y < n := fun y hy => hl y (List.mem_cons_of_mem _ hy)
        by_cases e : x = i
        · subst e
          rw [if_neg (by rw [o.irr x hi]; simp), if_pos z]
          have := h1 l hl'
          omega
        · have hm' : i ∈ l := by rcases List.mem_cons.mp hm with q | q; exact absurd q.symm e; exact q
          have := ih hl' hm'
          by_cases w : lt x i = true
          · rw [if_pos w, if_pos (o.tr x i j (hl x List.mem_cons_self) hi hj w z)]; omega
          · rw [if_neg w]; split <;> omega
    exact h2 _ (fun x hx => List.mem_range.mp hx) (List.mem_range.mpr hi)
  | false =>
    refine decide_eq_false fun q => ?_
    have q' := Int.ofNat_lt.mp q
    have h1 : ∀ l : List Nat, (∀ x ∈ l, x < n) -> (l.countP fun x => lt x j) <= l.countP fun x => lt x i := fun l hl => by
      induction l with
      | nil => exact Nat.le_refl _
      | cons x l ih =>
        rw [List.countP_cons, List.countP_cons]
        have := ih fun y hy => hl y (List.mem_cons_of_mem _ hy)
        by_cases w : lt x i = true
        · rw [if_pos w]; split <;> omega
        · rw [if_neg w, if_neg (by rw [o.neg x i j (hl x List.mem_cons_self) hi hj (by simpa using w) z]; simp)]; omega
    have := h1 _ (fun x hx => List.mem_range.mp hx)
    omega
section
open PySem.W
theorem oneLt_list {prog : Program} {w : World} {A : Around} {E : Value -> Shared -> Prop} {s : Shared} (one : Bool) {l b : Addr} {items items2 : Array Value} {ns ms : List Int} {Q : Bool -> Shared -> Prop} (hl : s.heap.IsList l items) (hb : s.heap.IsList b items2) (hi : IntsAre items.toList ns) (hj : IntsAre items2.toList ms)
    (hu : A.units < cLine) (h : Q (HT.lexLt ns ms) s) : wpAny (model prog w) A (oneLt' one (.ref l) (.ref b)) Q E s := by
  cases one with
  | false => exact kat_one _ _ (HT.lt_listInts hl hb hi hj hu h)
  | true =>
    obtain ⟨⟨cls, dd, data, sl⟩, ho, hc, n, hd⟩ := id hl
    obtain ⟨⟨cls2, dd2, data2, sl2⟩, ho2, hc2, n2, hd2⟩ := id hb
    simp only at hc hd hc2 hd2
    subst hc hd hc2 hd2
    rw [oneLt'_eq]
    dsimp only
    rw [if_pos rfl]
    refine wpAny_bind (wpAny_cRoomFor hu ?_)
    refine wpAny_bind (wpAny_callSpecialIfBound?_slot (T := "list") ⟨_, ho, rfl⟩ PySem.F.slot_list_lt ?_)
    refine call_meets PySem.F.slot_list_lt ⟨_, ho, rfl⟩ PySem.F.entry_list_lt (PySem.F.args_list_lt_2 _ _) (HT.list_lt_ints l b items items2 n n2 dd dd2 sl sl2 ns ms hi hj) ⟨ho, ho2, ?_⟩
    exact wpAny_truthy_bool h
end
section
open PySem.W
theorem looks_list {M : Model} {h : Heap} {a : Addr} {items : Array Value} (hl : h.IsList a items) : Looks M h (typeOf (.ref a)) (.type "list") := fun A Q E s k q => by
  obtain ⟨o, ho, hc, _⟩ := hl
  exact wpAny_typeOf (T := "list") ⟨o, k _ _ ho, hc⟩ q
theorem sort_gen {X : Cx} {pins : List (Addr × Obj)} {σ : St} {H : Hp} {s : Shared} {Q : VK} (I : Inv X pins σ H s) {p : Addr} {rs : List Addr} {lt : Nat -> Nat -> Bool} {κ : SortKind} (hq : SqL X.K H p (rs.map V.ref)) (h64 : rs.length < 64) (ord : OrdB rs.length lt)
    (hkind : 2 <= rs.length -> ∀ (s' : Shared), Inv X pins σ H s' -> ∀ (its : List Value), (∀ i, i < rs.length -> its.getD i .none = .ref (rs.getD i 0)) -> its.length = rs.length -> ∀ Q' : SortKind -> Shared -> Prop, Q' κ s' -> wpAny (model X.prog X.w) X.A.in1.in1 (keyKind' its.toArray) Q' (fun _ _ => False) s')
    (hcmp : ∀ (s' : Shared), Inv X pins σ H s' -> ∀ i j, i < rs.length -> j < rs.length -> ∀ C : Bool -> Shared -> Prop, C (lt i j) s' -> wpAny (model X.prog X.w) X.A.in1.in1 (keyLt' κ (.ref (rs.getD i 0)) (.ref (rs.getD j 0))) C (fun _ _ => False) s')
    (q : ∀ (l : Addr) (ps : List Nat), ps.Perm (List.range rs.length) -> ps.Pairwise (fun i j => lt j i = false) -> H l = none -> Q (.ref l) (upd H l (.lst (ps.map fun i => V.ref (rs.getD i 0))))) :
    wpAny (model X.prog X.w) X.A (call (.builtin "sorted") [.ref p]) (EP X pins σ Q) X.xe s := by
  obtain ⟨its, rv, pl, hz⟩ := I.list hq
  have hlen := rv.length
  rw [List.length_map] at hlen
  rcases Nat.lt_or_ge rs.length 2 with h2 | h2
  · refine sorted_few pl.isList (by omega) ?_
    obtain ⟨e, he⟩ := sortedAll_at s.heap its its.toArray
    have I1 : Inv X pins σ H { s with heap := sortedAll s.heap its its.toArray } := I.kept (t' := s.toks) fun b o z => sortedAll_old z
    have nT : H (s.heap.objs.size + 1) = none := I.hok.fresh (Nat.le_succ _)
    have fT := I.fpOk (H' := H) (b := s.heap.objs.size + 1) (Nat.le_succ _) nT
    have I2 := I1.adopt (a := s.heap.objs.size + 1) (o := .lst (rs.map V.ref)) nT ⟨hz, its, e, rv, by rw [he]⟩ (Nat.le_trans I.sz (Nat.le_succ _)) fT.2.1 fT.2.2.2.2.1 fT.2.2.2.2.2
    refine ⟨.ref _, _, I2, rfl, ?_⟩
    have := q _ (List.range rs.length) (List.Perm.refl _) ?_ nT
    · rw [show ((List.range rs.length).map fun i => V.ref (rs.getD i 0)) = rs.map V.ref by
        have z := congrArg (List.map V.ref) (map_getD_range (d := 0) rs)
        rw [List.map_map] at z
        exact z] at this
      exact this
    · rw [List.pairwise_iff_getElem]
      intro i j hi hj hij
      rw [List.length_range] at hj
      omega
  have eIt : ∀ i (_ : i < rs.length), its.getD i Value.none = .ref (rs.getD i 0) := fun i hi => by
    rw [List.getD_eq_getElem?_getD, List.getElem?_eq_getElem (show i < its.length by omega), List.getD_eq_getElem?_getD, List.getElem?_eq_getElem hi]
    exact refs_at rv i (by omega) hi
  obtain ⟨m, hnm, hlk⟩ := I.loc
  have F : Fr X.base X.env.locals s.heap m := ⟨hnm, I.bk, Nat.le_trans I.ok.bsz I.ok.above⟩
  have keepAll : ∀ h, Fr X.base X.env.locals h m -> News X.base X.env.locals h (allNews X.base s.heap X.env.locals) -> ∀ b o, b ≠ X.env.locals -> s.heap.get? b = some o -> h.get? b = some o := fun h F' N' b o hb e => by
    cases z : X.base.get? b with
    | some o' =>
      have := I.bk b o' z
      rw [e] at this; cases this
      exact F'.keep b _ z
    | none => exact (N' (b, o) (mem_allNews hb z e)).1
  refine kat_sorted F news_all pl.isList (by omega) (by omega) fun D e1 h' F' N' lo => ?_
  have N2 : News X.base X.env.locals h' (allNews X.base s.heap X.env.locals) := fun p hp => N' p (List.mem_cons_of_mem _ hp)
  have I0 : Inv X pins σ H { s with heap := h' } := I.butFrame (t' := s.toks) hnm (keepAll h' F' N2) F'.ns
  refine hkind h2 _ I0 its eIt (by omega) _ ?_
  have hn : 0 < its.length := by omega
  refine kasWp_run (n := its.length) (lt := ltE (rkOf rs.length lt)) (fun i j C hi hj hC => ?_) _ (asks_sort hn) ?_
  · unfold kas_ask
    rw [eIt i (by omega), eIt j (by omega)]
    refine hcmp _ I0 i j (by omega) (by omega) C ?_
    rw [<- rkOf_lt ord (show i < rs.length by omega) (show j < rs.length by omega)]
    exact hC
  · obtain ⟨hp, ha⟩ := run_sortT (e := rkOf rs.length lt) (n := its.length) hn
    generalize kasRun (ltE (rkOf rs.length lt)) (kas_sort its.length) = out at hp ha ⊢
    have hp' : out.toList.Perm (List.range rs.length) := by
      have := Array.perm_iff_toList_perm.mp hp
      rw [<- hlen] at this
      exact this
    have hsz : out.size = its.length := by have := hp'.length_eq; rw [List.length_range] at this; rw [<- Array.length_toList, this, hlen]
    rw [<- hsz] at ha
    have hpw : out.toList.Pairwise (fun i j => lt j i = false) := by
      refine List.Pairwise.imp_of_mem (fun {i j} hi hj hij => ?_) (ascP_pairwise ha)
      have i1 := List.mem_range.mp (hp'.mem_iff.mp hi)
      have j1 := List.mem_range.mp (hp'.mem_iff.mp hj)
      rw [<- rkOf_lt ord j1 i1]
      exact decide_eq_false (by omega)
    refine KasFin.intro F' N' (.head fun q hq z => absurd (lo q hq) (by rw [z]; exact Nat.lt_irrefl _)) fun hh c F2 N3 => ?_
    have N4 : News X.base X.env.locals hh (allNews X.base s.heap X.env.locals) := fun p hp => N3 p (List.mem_cons_of_mem _ hp)
    obtain ⟨eD, nDL, nDb⟩ := N3 _ List.mem_cons_self
    have I1 : Inv X pins σ H { s with heap := hh } := I.butFrame (t' := s.toks) hnm (keepAll hh F2 N4) F2.ns
    have hge : s.heap.get? D = none := by
      cases z : s.heap.get? D with
      | none => rfl
      | some o => exact absurd (lo _ (mem_allNews nDL nDb z)) (Nat.lt_irrefl _)
    have nT : H D = none := by
      cases z : H D with
      | none => rfl
      | some o =>
        obtain ⟨ob, e⟩ := (I.hok D o z).ex
        rw [hge] at e; cases e
    have rv' := vals_perm eIt (ps := out.toList) fun i hi => List.mem_range.mp (hp'.mem_iff.mp hi)
    have n0 : D ∉ X.ex -> X.s₀.heap.get? D = none := fun hx => by
      cases z : X.s₀.heap.get? D with
      | none => rfl
      | some o =>
        obtain ⟨ob, e⟩ := I.base.there D o z hx
        rw [hge] at e; cases e
    have I2 := I1.adoptN (a := D) (o := .lst (out.toList.map fun i => V.ref (rs.getD i 0))) nT ⟨?hz, _, c, rv', ?he⟩ n0 nDL ?hc ?hp
    · exact ⟨.ref _, _, I2, rfl, q _ out.toList hp' hpw nT⟩
    case hz =>
      rw [List.length_map, hp'.length_eq, List.length_range]
      exact Nat.le_trans (Nat.le_of_lt h64) (by decide)
    case he => exact eD
    case hc =>
      intro x c e z
      obtain ⟨v, o, ho, _⟩ := I.cell x c e
      rw [z, hge] at ho; cases ho
    case hp =>
      intro p hp z
      have e := (I.pin p hp).1
      rw [z, hge] at e; cases e
end
theorem lex_irr : ∀ a : List Int, HT.lexLt a a = false
  | [] => rfl
  | x :: a => by rw [HT.lexLt_cons, if_pos rfl]; exact lex_irr a
theorem lex_tr : ∀ {a b c : List Int}, HT.lexLt a b = true -> HT.lexLt b c = true -> HT.lexLt a c = true
  | a, b, [], h1, h2 => by cases b <;> cases h2
  | [], _, _ :: _, _, _ => rfl
  | x :: a, [], _, h1, _ => by cases h1
  | x :: a, y :: b, z :: c, h1, h2 => by
    rw [HT.lexLt_cons] at h1 h2 ⊢
    by_cases p : x = y
    · subst p
      rw [if_pos rfl] at h1
      by_cases q : x = z
      · rw [if_pos q] at h2 ⊢; exact lex_tr h1 h2
      · rw [if_neg q] at h2 ⊢; exact h2
    · rw [if_neg p] at h1
      have h1 := of_decide_eq_true h1
      by_cases q : y = z
      · subst q; rw [if_neg p]; exact decide_eq_true h1
      · rw [if_neg q] at h2
        have h2 := of_decide_eq_true h2
        rw [if_neg (by omega)]; exact decide_eq_true (by omega)
theorem lex_tri : ∀ {a b : List Int}, HT.lexLt a b = false -> HT.lexLt b a = false -> a = b
  | [], [], _, _ => rfl
  | [], _ :: _, h, _ => by cases h
  | _ :: _, [], _, h => by cases h
  | x :: a, y :: b, h1, h2 => by
    rw [HT.lexLt_cons] at h1 h2
    by_cases p : x = y
    · subst p
      rw [if_pos rfl] at h1 h2
      rw [lex_tri h1 h2]
    · rw [if_neg p] at h1
      rw [if_neg (fun q => p q.symm)] at h2
      have := of_decide_eq_false h1
      have := of_decide_eq_false h2
      omega
def ltPr (a b : List Int × List Int) : Bool := if a.1 = b.1 then HT.lexLt a.2 b.2 else HT.lexLt a.1 b.1
theorem ltPr_irr (a : List Int × List Int) : ltPr a a = false := by unfold ltPr; rw [if_pos rfl]; exact lex_irr _
theorem ltPr_tr {a b c : List Int × List Int} (h1 : ltPr a b = true) (h2 : ltPr b c = true) : ltPr a c = true := by
  unfold ltPr at h1 h2 ⊢
  by_cases p : a.1 = b.1
  · rw [if_pos p] at h1
    by_cases q : b.1 = c.1
    · rw [if_pos q] at h2; rw [if_pos (p.trans q)]; exact lex_tr h1 h2
    · rw [if_neg q] at h2; rw [p, if_neg q]; exact h2
  · rw [if_neg p] at h1
    by_cases q : b.1 = c.1
    · rw [<- q, if_neg p]; exact h1
    · rw [if_neg q] at h2
      have := lex_tr h1 h2
      by_cases r : a.1 = c.1
      · rw [r, lex_irr] at this; cases this
      · rw [if_neg r]; exact this
theorem ltPr_tri {a b : List Int × List Int} (h1 : ltPr a b = false) (h2 : ltPr b a = false) : a = b := by
  unfold ltPr at h1 h2
  by_cases p : a.1 = b.1
  · rw [if_pos p] at h1; rw [if_pos p.symm] at h2; exact Prod.ext p (lex_tri h1 h2)
  · rw [if_neg p] at h1; rw [if_neg (fun q => p q.symm)] at h2; exact absurd (lex_tri h1 h2) p
theorem ordB_of {α : Type} {lt : α -> α -> Bool} (irr : ∀ a, lt a a = false) (tr : ∀ {a b c}, lt a b = true -> lt b c = true -> lt a c = true) (tri : ∀ {a b}, lt a b = false -> lt b a = false -> a = b) (n : Nat) (f : Nat -> α) : OrdB n fun i j => lt (f i) (f j) := by
  refine ⟨fun i _ => irr _, fun i j k _ _ _ => tr, fun i j k _ _ _ h1 h2 => ?_⟩
  cases z : lt (f i) (f k) with
  | false => rfl
  | true =>
    exfalso
    cases y : lt (f k) (f j) with
    | true => rw [tr z y] at h1; cases h1
    | false => rw [tri h2 y] at h1; rw [z] at h1; cases h1
theorem sorted_one {α : Type} {lt : α -> α -> Bool} (irr : ∀ a, lt a a = false) (tri : ∀ {a b}, lt a b = false -> lt b a = false -> a = b) : ∀ {a b : List α}, a.Perm b -> a.Pairwise (fun x y => lt y x = false) -> b.Pairwise (fun x y => lt y x = false) -> a = b
  | [], b, p, _, _ => by rw [List.Perm.nil_eq p]
  | x :: a, [], p, _, _ => by cases p.length_eq
  | x :: a, y :: b, p, ha, hb => by
    rw [List.pairwise_cons] at ha hb
    have hxy : x = y := by
      have h1 : x ∈ y :: b := p.mem_iff.mp List.mem_cons_self
      have h2 : y ∈ x :: a := p.mem_iff.mpr List.mem_cons_self
      rcases List.mem_cons.mp h1 with q | q
      · exact q
      · rcases List.mem_cons.mp h2 with r | r
        · exact r.symm
        · exact tri (hb.1 x q) (ha.1 y r)
    subst hxy
    rw [sorted_one irr tri ((List.perm_cons x).mp p) ha.2 hb.2]
theorem eqQ_intLs {K : PySem.W.Frag} {H : Hp} {a b : Addr} {ns ms : List Int} (ha : H a = some (.lst (ns.map V.int))) (hb : H b = some (.lst (ms.map V.int))) : EqQ K H 2 (.ref a) (.ref b) (decide (ns = ms)) := by
  by_cases ne : a = b
  · subst ne
    have e : ns.map V.int = ms.map V.int := by rw [ha] at hb; injection hb with hb; injection hb
    have e2 : ns = ms := by
      have := congrArg (List.map fun v => match v with | V.int i => i | _ => 0) e
      simpa [List.map_map, Function.comp_def] using this
    rw [decide_eq_true e2]
    exact .same
  by_cases hl : ns.length = ms.length
  · have := EqQ.lsts (n := 1) (e := fun j => eqV (.int (ns.getD j 0)) (.int (ms.getD j 0))) ne (.of ha) (.of hb) (by rw [List.length_map, List.length_map, hl]) (fun j x y hx hy => by
      rw [List.getElem?_map] at hx hy
      cases e1 : ns[j]? with
      | none => rw [e1] at hx; cases hx
      | some u =>
        cases e2 : ms[j]? with
        | none => rw [e2] at hy; cases hy
        | some v =>
          rw [e1] at hx; rw [e2] at hy
          cases hx; cases hy
          have := EqQ.flat (K := K) (H := H) (n := 1) (x := V.int u) (y := V.int v) rfl rfl
          rw [List.getD_eq_getElem?_getD, List.getD_eq_getElem?_getD, e1, e2]
          exact this)
    have e : ((List.range (ns.map V.int).length).all fun j => eqV (.int (ns.getD j 0)) (.int (ms.getD j 0))) = decide (ns = ms) := by
      rw [Bool.eq_iff_iff, List.all_eq_true, decide_eq_true_eq, List.length_map]
      constructor
      · intro q
        apply List.ext_getElem hl
        intro j h1 h2
        have := q j (List.mem_range.mpr h1)
        rw [List.getD_eq_getElem?_getD, List.getD_eq_getElem?_getD, List.getElem?_eq_getElem h1, List.getElem?_eq_getElem h2] at this
        simpa [eqV] using this
      · rintro rfl j hj
        simp [eqV]
    rw [e] at this
    exact this
  · have e : decide (ns = ms) = false := decide_eq_false fun q => hl (by rw [q])
    rw [e]
    exact .lstsN ne (.of ha) (.of hb) (by rw [List.length_map, List.length_map]; exact hl)
def rSortLL (K : PySem.W.Frag) : List V -> Hp -> VK -> Prop := fun xs H Q => ∃ (p : Addr) (rs : List Addr) (ns : Nat -> List Int), xs = [.ref p] /\ SqL K H p (rs.map V.ref) /\ rs.length < 64 /\ (∀ i, i < rs.length -> SqL K H (rs.getD i 0) ((ns i).map V.int)) /\
  ∀ (l : Addr) (ps : List Nat), ps.Perm (List.range rs.length) -> ps.Pairwise (fun i j => HT.lexLt (ns j) (ns i) = false) -> H l = none -> Q (.ref l) (upd H l (.lst (ps.map fun i => V.ref (rs.getD i 0))))
theorem sortLLq {X : Cx} {K : PySem.W.Frag} {k : Nat} (hK : X.K = K) (hr : Room k X.A) : CallR X (.builtin "sorted") (rSortLL K) := by
  subst hK
  intro pins s σ H xs us Q I r h
  obtain ⟨p, rs, ns, rfl, hq, h64, ht, q⟩ := h
  obtain ⟨u, rfl, rx⟩ := vals1 r
  cases rx
  have hu := hr.units
  refine sort_gen I (κ := oneType') hq h64 (ordB_of lex_irr lex_tr lex_tri rs.length ns) (fun h2 s' I' its hi hl Q' q' => ?_) (fun s' I' i j hi hj C hC => ?_) q
  · refine PySem.W.kas_kind (T := .type "list") (by omega) (fun v hv => ?_) rfl rfl q'
    obtain ⟨i, hi', rfl⟩ := List.getElem_of_mem hv
    have := hi i (by omega)
    rw [List.getD_eq_getElem?_getD, List.getElem?_eq_getElem hi'] at this
    rw [show its[i] = Value.ref (rs.getD i 0) from this]
    obtain ⟨it, _, pl, _⟩ := I'.list (ht i (by omega))
    exact looks_list pl.isList
  · rw [keyLt'_oneType]
    obtain ⟨it, r1, p1, _⟩ := I'.list (ht i hi)
    obtain ⟨it2, r2, p2, _⟩ := I'.list (ht j hj)
    exact oneLt_list true p1.isList p2.isList (intsAre_of r1) (intsAre_of r2) (by show X.A.units + 1 + 1 < cLine; omega) hC
def rSortTL (K : PySem.W.Frag) : List V -> Hp -> VK -> Prop := fun xs H Q => ∃ (p : Addr) (rs : List Addr) (fa ga : Nat -> Addr) (f : Nat -> List Int × List Int), xs = [.ref p] /\ SqL K H p (rs.map V.ref) /\ rs.length < 64 /\ (∀ i, i < rs.length -> SqT K H (rs.getD i 0) [.ref (fa i), .ref (ga i)] /\ H (fa i) = some (.lst ((f i).1.map V.int)) /\ H (ga i) = some (.lst ((f i).2.map V.int))) /\
  ∀ (l : Addr) (ps : List Nat), ps.Perm (List.range rs.length) -> ps.Pairwise (fun i j => ltPr (f j) (f i) = false) -> H l = none -> Q (.ref l) (upd H l (.lst (ps.map fun i => V.ref (rs.getD i 0))))
section
open PySem.W
theorem sortTLq {X : Cx} {K : PySem.W.Frag} {k : Nat} (hK : X.K = K) (hr : Room k X.A) : CallR X (.builtin "sorted") (rSortTL K) := by
  subst hK
  intro pins s σ H xs us Q I r h
  obtain ⟨p, rs, fa, ga, f, rfl, hq, h64, ht, q⟩ := h
  obtain ⟨u, rfl, rx⟩ := vals1 r
  cases rx
  have hu := hr.units
  have tupAt : ∀ (s' : Shared), Inv X pins σ H s' -> ∀ i, i < rs.length -> ∃ o n, s'.heap.get? (rs.getD i 0) = some o /\ o.cls = .type "tuple" /\ o.data = .seq #[.ref (fa i), .ref (ga i)] n := fun s' I' i hi => by
    obtain ⟨it, rt, ⟨o, e, hc, n, hdt⟩, _⟩ := I'.tuple (ht i hi).1
    refine ⟨o, n, e, hc, ?_⟩
    cases rt with
    | cons a b => cases b with
      | cons c d =>
        cases d
        cases a
        cases c
        exact hdt
  refine sort_gen I (κ := tuples' (Value.type "list" != Value.type "tuple")) hq h64 (ordB_of ltPr_irr ltPr_tr ltPr_tri rs.length f) (fun h2 s' I' its hi hl Q' q' => ?_) (fun s' I' i j hi hj C hC => ?_) q
  · have kt : ∀ (vs : List Value) (k : Nat), (∀ i, i < vs.length -> vs.getD i Value.none = .ref (rs.getD (k + i) 0) /\ k + i < rs.length) -> ∃ fs, KatTups s'.heap vs fs /\ fs.length = vs.length /\ ∀ v ∈ fs, ∃ i, i < rs.length /\ v = .ref (fa i) := fun vs => by
      induction vs with
      | nil => exact fun k _ => ⟨[], KatTups.nil, rfl, fun _ z => nomatch z⟩
      | cons v vs ih =>
        intro k hv
        obtain ⟨fs, h1, h2, h3⟩ := ih (k + 1) fun i hi => by
          have := hv (i + 1) (by rw [List.length_cons]; omega)
          rw [List.getD_cons_succ, show k + (i + 1) = k + 1 + i by omega] at this
          exact this
        obtain ⟨e, hk⟩ := hv 0 (by rw [List.length_cons]; omega)
        rw [List.getD_cons_zero] at e
        obtain ⟨o, n, a1, a2, a3⟩ := tupAt s' I' (k + 0) hk
        rw [e]
        refine ⟨.ref (fa (k + 0)) :: fs, KatTups.cons a1 a2 a3 rfl h1, by rw [List.length_cons, List.length_cons, h2], fun v hv => ?_⟩
        rcases List.mem_cons.mp hv with rfl | hv
        · exact ⟨_, hk, rfl⟩
        · exact h3 v hv
    obtain ⟨fs, k1, k2, k3⟩ := kt its 0 fun i hi' => by rw [Nat.zero_add]; exact ⟨hi i (by omega), by omega⟩
    refine kat_kind (T := .type "list") k1 (by omega) (fun v hv => ?_) rfl q'
    obtain ⟨i, hi', rfl⟩ := k3 v hv
    obtain ⟨it, _, pl, _⟩ := I'.list (SqL.of (K := X.K) (ht i hi').2.1)
    exact looks_list pl.isList
  · obtain ⟨o, n, a1, a2, a3⟩ := tupAt s' I' i hi
    obtain ⟨o', n', b1, b2, b3⟩ := tupAt s' I' j hj
    obtain ⟨_, hi1, hi2⟩ := ht i hi
    obtain ⟨_, hj1, hj2⟩ := ht j hj
    obtain ⟨it1, r1, p1, _⟩ := I'.list (SqL.of (K := X.K) hi1)
    obtain ⟨it2, r2, p2, _⟩ := I'.list (SqL.of (K := X.K) hj1)
    obtain ⟨it3, r3, p3, _⟩ := I'.list (SqL.of (K := X.K) hi2)
    obtain ⟨it4, r4, p4, _⟩ := I'.list (SqL.of (K := X.K) hj2)
    have un : X.A.in1.in1.units + 2 < cLine := by show X.A.units + 1 + 1 + 2 < cLine; omega
    have un0 : X.A.in1.in1.units < cLine := by omega
    have q1 := EqQ.at I' (eqQ_intLs (K := X.K) hi1 hj1) (A := X.A.in1.in1) (u := .ref (fa i)) (v := .ref (fa j)) rfl rfl un
    have q2 := EqQ.at I' (eqQ_intLs (K := X.K) hi2 hj2) (A := X.A.in1.in1) (u := .ref (ga i)) (v := .ref (ga j)) rfl rfl un
    unfold ltPr at hC
    refine kat_lt a1 a3 b1 b3 (kat_cons (q1 _ _ _ _ ?_))
    by_cases z : (f i).1 = (f j).1
    · rw [if_pos z] at hC
      rw [decide_eq_true z]
      refine kat_yes (kat_cons (q2 _ _ _ _ ?_))
      by_cases y : (f i).2 = (f j).2
      · rw [decide_eq_true y]
        refine kat_yes (kat_nil ?_)
        rw [y, lex_irr] at hC
        exact hC
      · rw [decide_eq_false y]
        exact kat_no (oneLt_list _ p3.isList p4.isList (intsAre_of r3) (intsAre_of r4) un0 hC)
    · rw [if_neg z] at hC
      rw [decide_eq_false z]
      exact kat_no (oneLt_list _ p1.isList p2.isList (intsAre_of r1) (intsAre_of r2) un0 hC)
end
def rMin2L (K : PySem.W.Frag) : List V -> Hp -> VK -> Prop := fun xs H Q => ∃ a b ns ms, xs = [.ref a, .ref b] /\ SqL K H a (ns.map V.int) /\ SqL K H b (ms.map V.int) /\ Q (.ref (if HT.lexLt ms ns = true then b else a)) H
def rMax2L (K : PySem.W.Frag) : List V -> Hp -> VK -> Prop := fun xs H Q => ∃ a b ns ms, xs = [.ref a, .ref b] /\ SqL K H a (ns.map V.int) /\ SqL K H b (ms.map V.int) /\ Q (.ref (if HT.lexLt ns ms = true then b else a)) H
theorem min2Lq {X : Cx} {K : PySem.W.Frag} {k : Nat} (hK : X.K = K) (hr : Room k X.A) (hc : X.calm = true) : CallR X (.builtin "min") (rMin2L K) := by
  subst hK
  intro pins s σ H xs us Q I r h
  obtain ⟨a, b, ns, ms, rfl, ha, hb, q⟩ := h
  obtain ⟨u, w', rfl, ru, rw'⟩ := vals2 r
  cases ru
  cases rw'
  have hu := hr.units
  refine min2_any (k := HT.lexLt ms ns) (I.ok.hd hc) (fun h' tk kp Q' E' q' => ?_) (fun h' tk kp => ⟨.ref (if HT.lexLt ms ns = true then b else a), H, I.kept (t' := tk) kp, ?_, q⟩)
  · have I1 : Inv X pins σ H { s with heap := h', toks := tk } := I.kept (t' := tk) kp
    obtain ⟨it1, r1, p1, _⟩ := I1.list ha
    obtain ⟨it2, r2, p2, _⟩ := I1.list hb
    exact HT.lt_listInts p2.isList p1.isList (intsAre_of r2) (intsAre_of r1) (by show X.A.units + 1 < cLine; omega) q'
  · split <;> rfl
theorem max2Lq {X : Cx} {K : PySem.W.Frag} {k : Nat} (hK : X.K = K) (hr : Room k X.A) (hc : X.calm = true) : CallR X (.builtin "max") (rMax2L K) := by
  subst hK
  intro pins s σ H xs us Q I r h
  obtain ⟨a, b, ns, ms, rfl, ha, hb, q⟩ := h
  obtain ⟨u, w', rfl, ru, rw'⟩ := vals2 r
  cases ru
  cases rw'
  have hu := hr.units
  refine max2_any (k := HT.lexLt ns ms) (I.ok.hd hc) (fun h' tk kp Q' E' q' => ?_) (fun h' tk kp => ⟨.ref (if HT.lexLt ns ms = true then b else a), H, I.kept (t' := tk) kp, ?_, q⟩)
  · have I1 : Inv X pins σ H { s with heap := h', toks := tk } := I.kept (t' := tk) kp
    obtain ⟨it1, r1, p1, _⟩ := I1.list ha
    obtain ⟨it2, r2, p2, _⟩ := I1.list hb
    exact HT.gt_listInts p2.isList p1.isList (intsAre_of r2) (intsAre_of r1) (by show X.A.units + 1 < cLine; omega) q'
  · split <;> rfl
def rSortTI (K : PySem.W.Frag) : List V -> Hp -> VK -> Prop := fun xs H Q => ∃ (p : Addr) (ns : List Int), xs = [.ref p] /\ SqT K H p (ns.map V.int) /\ ns.length < 64 /\ ∀ (l : Addr) (ms : List Int), ms.Perm ns -> ms.Pairwise (· <= ·) -> H l = none -> Q (.ref l) (upd H l (.lst (ms.map V.int)))
theorem sortTIq {X : Cx} {K : PySem.W.Frag} (hK : X.K = K) : CallR X (.builtin "sorted") (rSortTI K) := by
  subst hK
  intro pins s σ H xs us Q I r h
  obtain ⟨p, ns, rfl, hq, h64, q⟩ := h
  obtain ⟨u, rfl, rx⟩ := vals1 r
  cases rx
  obtain ⟨its, rv, ⟨o, ho, hc, n, hd⟩, hz⟩ := I.tuple hq
  have hi := intsAre_of rv
  have hlen := rv.length
  rw [List.length_map] at hlen
  refine Calls.call_function_entry kind_sorted plain_sorted entry_sorted (args_sorted1 _) ?_
  unfold Builtin.«sorted»
  refine wpAny_bind (m := checkCount "sorted" 1 1 _) (wpAny_pure ?_)
  refine wpAny_bind (wpAny_collect_seq p (.inr rfl) ho hc hd (fun h1 k1 => ?_) (by rw [List.size_toArray, sizeLine_eq]; omega))
  have I1 : Inv X pins σ H { s with heap := h1 } := I.kept (t' := s.toks) k1
  refine wpAny_bind (wpAny_newList ?_ (by show its.length <= _; rw [sizeLine_eq]; omega))
  have hoL : (h1.push (seqObj "list" its.toArray 0)).get? h1.objs.size = some (seqObj "list" its.toArray 0) := Heap.get?_push_size _ rfl
  show wpAny _ _ _ _ _ { s with heap := h1.push (seqObj "list" its.toArray 0) }
  refine wpAny_bind (wpAny_holding (wpAny_call_entry slot_list_sort ⟨_, hoL, rfl⟩ entry_list_sort ?body (args_list_sort _)))
  refine list_sort_tree hoL hi (by omega) fun out ns' a1 a2 a3 => ⟨_, rfl, wpAny_pure ⟨_, rfl, ?_⟩⟩
  obtain ⟨e, he⟩ := sortedHeap_at (out := out) hoL
  have hsl : h1.objs.size < (h1.push (seqObj "list" its.toArray 0)).objs.size := Heap.lt_size hoL
  have kp : ∀ b o, h1.get? b = some o -> (sortedHeap (h1.push (seqObj "list" its.toArray 0)) h1.objs.size its out).get? b = some o := fun b o e1 => by
    have hb := Heap.lt_size e1
    exact (sortedHeap_old (Nat.ne_of_lt hb) (Nat.lt_trans hb hsl)).trans (Heap.get?_push_of_some _ e1)
  have I2 : Inv X pins σ H { s with heap := sortedHeap (h1.push (seqObj "list" its.toArray 0)) h1.objs.size its out } := I1.kept (t' := s.toks) kp
  have nT : H h1.objs.size = none := I1.hok.fresh (Nat.le_refl _)
  have fT := I1.fpOk (H' := H) (b := h1.objs.size) (Nat.le_refl _) nT
  have rv' : Vals (ns'.map V.int) out.toList := vals_ints a1
  have hz' : (ns'.map V.int).length <= sizeLine := by
    rw [List.length_map, a2.length_eq]
    exact Nat.le_trans (Nat.le_of_lt h64) (by decide)
  have I3 := I2.adopt (a := h1.objs.size) (o := .lst (ns'.map V.int)) nT ⟨hz', out.toList, e, rv', by rw [he]⟩ I1.sz fT.2.1 fT.2.2.2.2.1 fT.2.2.2.2.2
  exact ⟨.ref _, _, I3, rfl, q _ ns' a2 a3 nT⟩
end L2
set_option linter.all false
namespace Mw
def tied (ts : List (Nat × Nat)) (p q : Nat) : Bool := ts.any fun t => (t.1 == p && t.2 == q) || (t.1 == q && t.2 == p)
def nbr (n : Nat) (ts : List (Nat × Nat)) (p : Nat) : List Nat := (List.range n).filter fun q => tied ts p q
def webL (n : Nat) (ts : List (Nat × Nat)) : List (List Nat) := (List.range n).map (nbr n ts)
theorem tied_iff {ts : List (Nat × Nat)} {p q : Nat} : tied ts p q = true ↔ ((p, q) ∈ ts \/ (q, p) ∈ ts) := by
  unfold tied
  rw [List.any_eq_true]
  constructor
  · rintro ⟨⟨a, b⟩, h1, h2⟩
    simp only [Bool.or_eq_true, Bool.and_eq_true, beq_iff_eq] at h2
    rcases h2 with ⟨rfl, rfl⟩ | ⟨rfl, rfl⟩
    · exact .inl h1
    · exact .inr h1
  · rintro (h | h)
    · exact ⟨_, h, by simp⟩
    · exact ⟨_, h, by simp⟩
theorem tied_append (a b : List (Nat × Nat)) (p q : Nat) : tied (a ++ b) p q = (tied a p q || tied b p q) := by
  unfold tied; rw [List.any_append]
def okSeq (n : Nat) (ts : List (Nat × Nat)) : Prop := ∀ i t, ts[i]? = some t -> t.1 < n /\ t.2 < n /\ t.1 ≠ t.2 /\ tied (ts.take i) t.1 t.2 = false
theorem mem_nbr {n : Nat} {ts : List (Nat × Nat)} {p q : Nat} : q ∈ nbr n ts p ↔ q < n /\ ((p, q) ∈ ts \/ (q, p) ∈ ts) := by
  unfold nbr; rw [List.mem_filter, List.mem_range, tied_iff]
end Mw
set_option linter.all false
namespace Mw
inductive Walk (g : List (List Nat)) (a : Nat) : Nat -> Nat -> Prop
  | zero : Walk g a 0 a
  | step {k x y : Nat} : Walk g a k x -> y ∈ g.getD x [] -> Walk g a (k + 1) y
def IsD (g : List (List Nat)) (a x : Nat) : Option Nat -> Prop
  | none => ∀ k, ¬ Walk g a k x
  | some d => Walk g a d x /\ ∀ k, Walk g a k x -> d <= k
theorem isD_ex (g : List (List Nat)) (a x : Nat) : ∃ o, IsD g a x o := by
  by_cases h : ∃ k, Walk g a k x
  · obtain ⟨k, hk⟩ := h
    induction k using Nat.strongRecOn with
    | ind k ih =>
      by_cases q : ∃ j, j < k /\ Walk g a j x
      · obtain ⟨j, h1, h2⟩ := q
        exact ih j h1 h2
      · exact ⟨some k, hk, fun j hj => Nat.le_of_not_lt fun z => q ⟨j, z, hj⟩⟩
  · exact ⟨none, fun k hk => h ⟨k, hk⟩⟩
noncomputable def dist (g : List (List Nat)) (a x : Nat) : Option Nat := Classical.choose (isD_ex g a x)
theorem dist_is (g : List (List Nat)) (a x : Nat) : IsD g a x (dist g a x) := Classical.choose_spec (isD_ex g a x)
theorem isD_inj {g : List (List Nat)} {a x : Nat} : ∀ {o p : Option Nat}, IsD g a x o -> IsD g a x p -> o = p
  | none, none, _, _ => rfl
  | none, some d, h, k => absurd k.1 (h d)
  | some d, none, h, k => absurd h.1 (k d)
  | some d, some e, h, k => congrArg some (Nat.le_antisymm (h.2 _ k.1) (k.2 _ h.1))
theorem dist_eq {g : List (List Nat)} {a x : Nat} {o : Option Nat} (h : IsD g a x o) : dist g a x = o := isD_inj (dist_is g a x) h
theorem dist_some {g : List (List Nat)} {a x d : Nat} (h : dist g a x = some d) : Walk g a d x /\ ∀ k, Walk g a k x -> d <= k := by
  have := dist_is g a x
  rw [h] at this
  exact this
theorem dist_none {g : List (List Nat)} {a x : Nat} (h : dist g a x = none) : ∀ k, ¬ Walk g a k x := by
  have := dist_is g a x
  rw [h] at this
  exact this
theorem dist_of_walk {g : List (List Nat)} {a x k : Nat} (h : Walk g a k x) : ∃ d, dist g a x = some d /\ d <= k := by
  cases e : dist g a x with
  | none => exact absurd h (dist_none e k)
  | some d => exact ⟨d, rfl, (dist_some e).2 k h⟩
theorem dist_self (g : List (List Nat)) (a : Nat) : dist g a a = some 0 := dist_eq ⟨.zero, fun _ _ => Nat.zero_le _⟩
theorem walk_zero {g : List (List Nat)} {a x : Nat} (h : Walk g a 0 x) : x = a := by cases h; rfl
theorem walk_succ {g : List (List Nat)} {a x k : Nat} (h : Walk g a (k + 1) x) : ∃ p, Walk g a k p /\ x ∈ g.getD p [] := by
  cases h with | step w m => exact ⟨_, w, m⟩
theorem dist_zero {g : List (List Nat)} {a x : Nat} : dist g a x = some 0 ↔ x = a := by
  constructor
  · intro h; exact walk_zero (dist_some h).1
  · rintro rfl; exact dist_self g x
def Inn (g : List (List Nat)) : Prop := ∀ x y, y ∈ g.getD x [] -> y < g.length
def Symm (g : List (List Nat)) : Prop := ∀ x y, y ∈ g.getD x [] -> x ∈ g.getD y []
theorem walk_lt {g : List (List Nat)} (h : Inn g) {a : Nat} (ha : a < g.length) {k x : Nat} (w : Walk g a k x) : x < g.length := by
  cases w with
  | zero => exact ha
  | step _ m => exact h _ _ m
theorem walk_append {g : List (List Nat)} {a b x j k : Nat} (w : Walk g a j b) (v : Walk g b k x) : Walk g a (j + k) x := by
  induction v with
  | zero => exact w
  | step _ m ih => exact .step ih m
theorem walk_cons {g : List (List Nat)} {a b x k : Nat} (m : b ∈ g.getD a []) (v : Walk g b k x) : Walk g a (k + 1) x := by
  have := walk_append (.step .zero m) v
  rw [Nat.add_comm] at this
  exact this
theorem walk_symm {g : List (List Nat)} (h : Symm g) {a x k : Nat} (w : Walk g a k x) : Walk g x k a := by
  induction w with
  | zero => exact .zero
  | step _ m ih => exact walk_cons (h _ _ m) ih
theorem dist_lt {g : List (List Nat)} (h : Inn g) {a : Nat} (ha : a < g.length) {x d : Nat} (e : dist g a x = some d) : x < g.length := walk_lt h ha (dist_some e).1
theorem dist_step {g : List (List Nat)} {a x y d : Nat} (e : dist g a x = some d) (m : y ∈ g.getD x []) : ∃ f, dist g a y = some f /\ f <= d + 1 := dist_of_walk (.step (dist_some e).1 m)
theorem dist_pred {g : List (List Nat)} {a x d : Nat} (e : dist g a x = some (d + 1)) : ∃ p, dist g a p = some d /\ x ∈ g.getD p [] := by
  obtain ⟨w, l⟩ := dist_some e
  obtain ⟨p, wp, m⟩ := walk_succ w
  refine ⟨p, dist_eq ⟨wp, fun k wk => ?_⟩, m⟩
  have := l _ (.step wk m)
  omega
theorem dist_level {g : List (List Nat)} {a x d : Nat} (e : dist g a x = some d) : ∀ s, s <= d -> ∃ y, dist g a y = some s := by
  induction d generalizing x with
  | zero => intro s hs; exact ⟨x, by rw [show s = 0 by omega]; exact e⟩
  | succ d ih =>
    intro s hs
    by_cases z : s = d + 1
    · subst z; exact ⟨x, e⟩
    · obtain ⟨p, hp, _⟩ := dist_pred e
      exact ih hp s (by omega)
theorem nodup_lt_len : ∀ (n : Nat) (l : List Nat), l.Nodup -> (∀ x ∈ l, x < n) -> l.length <= n
  | 0, l, _, h => by
    cases l with
    | nil => exact Nat.le_refl _
    | cons x l => exact absurd (h x List.mem_cons_self) (by omega)
  | n + 1, l, nd, h => by
    by_cases m : n ∈ l
    · have e := List.length_erase_of_mem m
      have := nodup_lt_len n (l.erase n) (nd.erase n) fun x hx => by
        rw [List.Nodup.mem_erase_iff nd] at hx
        have := h x hx.2
        have := hx.1
        omega
      omega
    · have := nodup_lt_len n l nd fun x hx => by
        have := h x hx
        have : x ≠ n := fun z => m (z ▸ hx)
        omega
      omega
def mark (s : Nat) (c : (Nat -> Option Nat) × List Nat) (o : Nat) : (Nat -> Option Nat) × List Nat :=
  if c.1 o = none then (fun x => if x = o then some s else c.1 x, c.2 ++ [o]) else c
theorem mark_fold (s : Nat) : ∀ (L : List Nat) (c : (Nat -> Option Nat) × List Nat),
    (∀ x, (L.foldl (mark s) c).1 x = if c.1 x = none /\ x ∈ L then some s else c.1 x) /\ ∀ x, x ∈ (L.foldl (mark s) c).2 ↔ x ∈ c.2 \/ (x ∈ L /\ c.1 x = none)
  | [], c => ⟨fun x => by simp, fun x => by simp⟩
  | o :: L, c => by
    obtain ⟨h1, h2⟩ := mark_fold s L (mark s c o)
    rw [List.foldl_cons]
    by_cases e : c.1 o = none
    · have em : mark s c o = (fun x => if x = o then some s else c.1 x, c.2 ++ [o]) := by unfold mark; rw [if_pos e]
      rw [em] at h1 h2 ⊢
      refine ⟨fun x => ?_, fun x => ?_⟩
      · rw [h1 x]
        by_cases hx : x = o
        · subst hx; simp [e]
        · simp [hx]
      · rw [h2 x]
        by_cases hx : x = o
        · subst hx; simp [e]
        · simp [hx]
    · have em : mark s c o = c := by unfold mark; rw [if_neg e]
      rw [em] at h1 h2 ⊢
      refine ⟨fun x => ?_, fun x => ?_⟩
      · rw [h1 x]
        by_cases hx : x = o
        · subst hx; simp [e]
        · simp [hx]
      · rw [h2 x]
        by_cases hx : x = o
        · subst hx; simp [e]
        · simp [hx]
structure Bfs (g : List (List Nat)) (a s : Nat) (t : Nat -> Option Nat) (R : List Nat) : Prop where
  told : ∀ x d, t x = some d ↔ dist g a x = some d /\ d <= s
  ring : ∀ x, x ∈ R ↔ dist g a x = some s
theorem bfs_start (g : List (List Nat)) (a : Nat) : Bfs g a 0 (fun x => if x = a then some 0 else none) [a] := by
  refine ⟨fun x d => ?_, fun x => ?_⟩
  · constructor
    · intro h
      by_cases hx : x = a
      · rw [if_pos hx] at h; cases h; subst hx; exact ⟨dist_self g x, Nat.le_refl _⟩
      · rw [if_neg hx] at h; cases h
    · rintro ⟨h, hd⟩
      have : d = 0 := by omega
      subst this
      rw [if_pos (dist_zero.mp h)]
  · rw [List.mem_singleton]; exact dist_zero.symm
theorem bfs_step {g : List (List Nat)} {a s : Nat} {t : Nat -> Option Nat} {R : List Nat} (h : Bfs g a s t R) :
    Bfs g a (s + 1) ((R.flatMap fun p => g.getD p []).foldl (mark (s + 1)) (t, [])).1 ((R.flatMap fun p => g.getD p []).foldl (mark (s + 1)) (t, [])).2 := by
  obtain ⟨h1, h2⟩ := mark_fold (s + 1) (R.flatMap fun p => g.getD p []) (t, [])
  have key : ∀ x, (x ∈ (R.flatMap fun p => g.getD p []) /\ t x = none) ↔ dist g a x = some (s + 1) := by
    intro x
    constructor
    · rintro ⟨hx, hn⟩
      rw [List.mem_flatMap] at hx
      obtain ⟨p, hp, m⟩ := hx
      obtain ⟨f, hf, hl⟩ := dist_step ((h.ring p).mp hp) m
      by_cases z : f <= s
      · have := (h.told x f).mpr ⟨hf, z⟩
        rw [hn] at this; cases this
      · rw [hf, show f = s + 1 by omega]
    · intro e
      obtain ⟨p, hp, m⟩ := dist_pred e
      refine ⟨List.mem_flatMap.mpr ⟨p, (h.ring p).mpr hp, m⟩, ?_⟩
      cases q : t x with
      | none => rfl
      | some d =>
        have := (h.told x d).mp q
        rw [e] at this
        obtain ⟨z, _⟩ := this
        injection z with z
        omega
  refine ⟨fun x d => ?_, fun x => ?_⟩
  · rw [h1 x]
    constructor
    · intro e
      split at e
      · rename_i c
        injection e with e
        subst e
        exact ⟨(key x).mp ⟨c.2, c.1⟩, Nat.le_refl _⟩
      · have := (h.told x d).mp e
        exact ⟨this.1, by omega⟩
    · rintro ⟨e, hd⟩
      by_cases z : d <= s
      · have q := (h.told x d).mpr ⟨e, z⟩
        rw [if_neg (fun c => by have := c.1; rw [show ((t, ([] : List Nat)).1 x) = t x from rfl, q] at this; cases this)]
        exact q
      · have : d = s + 1 := by omega
        subst this
        obtain ⟨c1, c2⟩ := (key x).mpr e
        rw [if_pos ⟨c2, c1⟩]
  · rw [h2 x]
    rw [<- key x]
    simp
theorem bfs_end {g : List (List Nat)} {a s : Nat} {t : Nat -> Option Nat} (h : Bfs g a s t []) : ∀ x, t x = dist g a x := by
  intro x
  have none_s : ∀ y, dist g a y ≠ some s := fun y e => by have := (h.ring y).mpr e; simp at this
  cases e : dist g a x with
  | none =>
    cases q : t x with
    | none => rfl
    | some d => have := ((h.told x d).mp q).1; rw [e] at this; cases this
  | some d =>
    by_cases z : d <= s
    · exact (h.told x d).mpr ⟨e, z⟩
    · obtain ⟨y, hy⟩ := dist_level e s (by omega)
      exact absurd hy (none_s y)
theorem countP_lt {p q : Nat -> Bool} : ∀ {l : List Nat}, (∀ x ∈ l, p x = true -> q x = true) -> (∃ x ∈ l, q x = true /\ p x = false) -> l.countP p < l.countP q
  | [], _, h => by obtain ⟨x, hx, _⟩ := h; simp at hx
  | y :: l, h1, h2 => by
    have le : ∀ {l : List Nat}, (∀ x ∈ l, p x = true -> q x = true) -> l.countP p <= l.countP q := fun {l} h => List.countP_mono_left h
    rw [List.countP_cons, List.countP_cons]
    obtain ⟨x, hx, hq, hp⟩ := h2
    have h1' : ∀ x ∈ l, p x = true -> q x = true := fun x hx => h1 x (List.mem_cons_of_mem _ hx)
    rcases List.mem_cons.mp hx with rfl | hx
    · rw [hq, hp]
      have := le h1'
      simp
      omega
    · have := countP_lt h1' ⟨x, hx, hq, hp⟩
      have := h1 y List.mem_cons_self
      cases ep : p y with
      | false => simp; split <;> omega
      | true => rw [this ep]; simp; omega
def left (n : Nat) (t : Nat -> Option Nat) : Nat := (List.range n).countP fun x => (t x).isNone
theorem left_step {n s : Nat} {t : Nat -> Option Nat} {L : List Nat} (hL : ∀ x ∈ L, x < n) (hne : (L.foldl (mark s) (t, [])).2 ≠ []) : left n (L.foldl (mark s) (t, [])).1 < left n t := by
  obtain ⟨h1, h2⟩ := mark_fold s L (t, [])
  unfold left
  refine countP_lt (fun x hx e => ?_) ?_
  · rw [h1 x] at e
    split at e
    · simp at e
    · exact e
  · obtain ⟨x, hx⟩ := List.exists_mem_of_ne_nil _ hne
    have q := (h2 x).mp hx
    simp at q
    refine ⟨x, List.mem_range.mpr (hL x q.1), by simp [q.2], ?_⟩
    rw [h1 x, if_pos ⟨q.2, q.1⟩]
    rfl
noncomputable def lies (g : List (List Nat)) (a b x : Nat) : Bool :=
  match dist g a b, dist g a x, dist g b x with
  | some d, some e, some f => decide (e + f = d)
  | _, _, _ => false
noncomputable def betw (g : List (List Nat)) (a b : Nat) : List Nat := (List.range g.length).filter (lies g a b)
noncomputable def mids (g : List (List Nat)) (a b c : Nat) : List Nat := (List.range g.length).filter fun x => lies g a b x && (lies g b c x && lies g a c x)
theorem webL_getD {n : Nat} {ts : List (Nat × Nat)} {p : Nat} (h : p < n) : (webL n ts).getD p [] = nbr n ts p := by
  unfold webL
  rw [List.getD_eq_getElem?_getD, List.getElem?_map, List.getElem?_range h]
  rfl
theorem webL_getD_ge {n : Nat} {ts : List (Nat × Nat)} {p : Nat} (h : ¬ p < n) : (webL n ts).getD p [] = [] := by
  unfold webL
  rw [List.getD_eq_getElem?_getD, List.getElem?_eq_none (by simpa using h)]
  rfl
theorem webL_length (n : Nat) (ts : List (Nat × Nat)) : (webL n ts).length = n := by unfold webL; rw [List.length_map, List.length_range]
theorem webL_mem {n : Nat} {ts : List (Nat × Nat)} {x y : Nat} : y ∈ (webL n ts).getD x [] ↔ x < n /\ y < n /\ ((x, y) ∈ ts \/ (y, x) ∈ ts) := by
  by_cases hx : x < n
  · rw [webL_getD hx, mem_nbr]
    simp [hx]
  · rw [webL_getD_ge hx]
    simp [hx]
def norm (t : Nat × Nat) : Nat × Nat := if t.1 <= t.2 then t else (t.2, t.1)
structure Good (n : Nat) (ts : List (Nat × Nat)) : Prop where
  inn : ∀ t ∈ ts, t.1 < n /\ t.2 < n /\ t.1 ≠ t.2
  nd : (ts.map norm).Nodup
theorem norm_swap (a b : Nat) : norm (a, b) = norm (b, a) := by
  unfold norm
  by_cases h : a <= b
  · by_cases h' : b <= a
    · have : a = b := by omega
      subst this; rfl
    · rw [if_pos h, if_neg h']
  · rw [if_neg h, if_pos (by show b <= a; omega)]
theorem Good.seq {n : Nat} {ts : List (Nat × Nat)} (h : Good n ts) : okSeq n ts := by
  intro i t ht
  obtain ⟨q1, q2, q3⟩ := h.inn t (List.mem_of_getElem? ht)
  refine ⟨q1, q2, q3, ?_⟩
  cases e : tied (ts.take i) t.1 t.2 with
  | false => rfl
  | true =>
    exfalso
    rw [tied_iff] at e
    have key : ∀ u, u ∈ ts.take i -> norm u = norm t -> False := by
      intro u hu en
      obtain ⟨j, hj, eu⟩ := List.getElem_of_mem hu
      rw [List.length_take] at hj
      rw [List.getElem_take] at eu
      obtain ⟨hi, et⟩ := List.getElem?_eq_some_iff.mp ht
      have hj' : j < (ts.map norm).length := by rw [List.length_map]; omega
      have hi' : i < (ts.map norm).length := by rw [List.length_map]; omega
      have := (List.getElem_inj (i := j) (j := i) (h₀ := hj') (h₁ := hi') h.nd).mp (by rw [List.getElem_map, List.getElem_map, eu, et, en])
      omega
    rcases e with e | e
    · exact key _ e rfl
    · exact key _ e (norm_swap _ _)
end Mw
set_option linter.all false
namespace Mw
def pcF : Nat -> Nat -> Nat
  | 0, _ => 0
  | f + 1, n => n % 2 + pcF f (n / 2)
def pc (n : Nat) : Nat := pcF n n
theorem pcF_le : ∀ (f n : Nat), n <= f -> ∀ f', n <= f' -> pcF f n = pcF f' n := by
  intro f
  induction f with
  | zero =>
    intro n hn f' _
    have : n = 0 := by omega
    subst this
    have z : ∀ f, pcF f 0 = 0 := by
      intro f
      induction f with
      | zero => rfl
      | succ f ih => show 0 % 2 + pcF f (0 / 2) = 0; rw [show (0 / 2) = 0 from rfl, ih]
    rw [z, z]
  | succ f ih =>
    intro n hn f' hf'
    cases f' with
    | zero =>
      have : n = 0 := by omega
      subst this
      have z : ∀ f, pcF f 0 = 0 := by
        intro f
        induction f with
        | zero => rfl
        | succ f ih => show 0 % 2 + pcF f (0 / 2) = 0; rw [show (0 / 2) = 0 from rfl, ih]
      rw [z, z]
    | succ f' =>
      show n % 2 + pcF f (n / 2) = n % 2 + pcF f' (n / 2)
      by_cases h0 : n = 0
      · subst h0; rw [ih 0 (by omega) f' (by omega)]
      · rw [ih (n / 2) (by omega) f' (by omega)]
theorem pc_zero : pc 0 = 0 := rfl
theorem pc_eq (n : Nat) : pc n = n % 2 + pc (n / 2) := by
  cases n with
  | zero => rfl
  | succ n =>
    show (n + 1) % 2 + pcF n ((n + 1) / 2) = _
    rw [pcF_le n ((n + 1) / 2) (by omega) _ (Nat.le_refl _)]
    rfl
theorem xor_m2 (a b : Nat) : (a ^^^ b) % 2 = (a % 2 + b % 2) % 2 := by
  have h := @Nat.xor_mod_two_eq_one a b
  have ha := Nat.mod_two_eq_zero_or_one a
  have hb := Nat.mod_two_eq_zero_or_one b
  have hx := Nat.mod_two_eq_zero_or_one (a ^^^ b)
  rcases ha with ha | ha <;> rcases hb with hb | hb <;> rcases hx with hx | hx <;> simp [ha, hb, hx] at h ⊢
theorem and_m2 (a b : Nat) : (a &&& b) % 2 = (a % 2) * (b % 2) := by
  have h := @Nat.and_mod_two_eq_one a b
  have ha := Nat.mod_two_eq_zero_or_one a
  have hb := Nat.mod_two_eq_zero_or_one b
  have hx := Nat.mod_two_eq_zero_or_one (a &&& b)
  rcases ha with ha | ha <;> rcases hb with hb | hb <;> rcases hx with hx | hx <;> simp [ha, hb, hx] at h ⊢
theorem or_m2 (a b : Nat) : (a ||| b) % 2 = (a % 2) + (b % 2) - (a % 2) * (b % 2) := by
  have h := @Nat.or_mod_two_eq_one a b
  have ha := Nat.mod_two_eq_zero_or_one a
  have hb := Nat.mod_two_eq_zero_or_one b
  have hx := Nat.mod_two_eq_zero_or_one (a ||| b)
  rcases ha with ha | ha <;> rcases hb with hb | hb <;> rcases hx with hx | hx <;> simp [ha, hb, hx] at h ⊢
theorem bin_ind {p : Nat -> Nat -> Prop} (h0 : p 0 0) (hs : ∀ a b, p (a / 2) (b / 2) -> p a b) : ∀ (n a b : Nat), a <= n -> b <= n -> p a b := by
  intro n
  induction n with
  | zero => intro a b ha hb; rw [show a = 0 by omega, show b = 0 by omega]; exact h0
  | succ n ih => intro a b ha hb; exact hs a b (ih _ _ (by omega) (by omega))
theorem bin2 {p : Nat -> Nat -> Prop} (h0 : p 0 0) (hs : ∀ a b, p (a / 2) (b / 2) -> p a b) (a b : Nat) : p a b := bin_ind h0 hs (a + b) a b (by omega) (by omega)
theorem or_sum (a b : Nat) : (a ^^^ b) + (a &&& b) = a ||| b := by
  refine bin2 (p := fun a b => (a ^^^ b) + (a &&& b) = a ||| b) rfl (fun a b ih => ?_) a b
  rw [<- Nat.xor_div_two, <- Nat.and_div_two, <- Nat.or_div_two] at ih
  have h1 := xor_m2 a b
  have h2 := and_m2 a b
  have h3 := or_m2 a b
  have ha := Nat.mod_two_eq_zero_or_one a
  have hb := Nat.mod_two_eq_zero_or_one b
  rcases ha with ha | ha <;> rcases hb with hb | hb <;> rw [ha, hb] at h1 h2 h3 <;> omega
theorem pc_sum (a b : Nat) : pc (a ^^^ b) + 2 * pc (a &&& b) = pc a + pc b := by
  refine bin2 (p := fun a b => pc (a ^^^ b) + 2 * pc (a &&& b) = pc a + pc b) rfl (fun a b ih => ?_) a b
  rw [pc_eq (a ^^^ b), pc_eq (a &&& b), pc_eq a, pc_eq b, Nat.xor_div_two, Nat.and_div_two]
  have h1 := xor_m2 a b
  have h2 := and_m2 a b
  have ha := Nat.mod_two_eq_zero_or_one a
  have hb := Nat.mod_two_eq_zero_or_one b
  rcases ha with ha | ha <;> rcases hb with hb | hb <;> rw [ha, hb] at h1 h2 ⊢ <;> omega
theorem pc_pos : ∀ (n : Nat), pc n = 0 -> n = 0 := by
  intro n
  induction n using Nat.strongRecOn with
  | _ n ih =>
    intro h
    rw [pc_eq] at h
    by_cases z : n = 0
    · exact z
    · have := ih (n / 2) (by omega) (by omega)
      omega
def ud (a b : Nat) : Nat := pc (a ^^^ b)
theorem ud_self (a : Nat) : ud a a = 0 := by unfold ud; rw [Nat.xor_self]; rfl
theorem ud_zero {a b : Nat} (h : ud a b = 0) : a = b := by
  have := pc_pos _ h
  apply Nat.eq_of_testBit_eq
  intro i
  have e := congrArg (fun x => x.testBit i) this
  simp only [Nat.testBit_xor, Nat.zero_testBit] at e
  cases ha : a.testBit i <;> cases hb : b.testBit i <;> simp [ha, hb] at e ⊢
theorem ud_comm (a b : Nat) : ud a b = ud b a := by unfold ud; rw [Nat.xor_comm]
theorem xor_mid (a b c : Nat) : (a ^^^ b) ^^^ (b ^^^ c) = a ^^^ c := by
  apply Nat.eq_of_testBit_eq
  intro i
  simp only [Nat.testBit_xor]
  cases a.testBit i <;> cases b.testBit i <;> cases c.testBit i <;> rfl
def amid (a b x : Nat) : Prop := (a ^^^ x) &&& (x ^^^ b) = 0
instance (a b x : Nat) : Decidable (amid a b x) := inferInstanceAs (Decidable (_ = _))
theorem ud_tri (a b c : Nat) : ud a c <= ud a b + ud b c := by
  have h := pc_sum (a ^^^ b) (b ^^^ c)
  rw [xor_mid] at h
  unfold ud
  omega
theorem ud_amid (a b x : Nat) : ud a x + ud x b = ud a b ↔ amid a b x := by
  have h := pc_sum (a ^^^ x) (x ^^^ b)
  rw [xor_mid] at h
  unfold ud amid
  constructor
  · intro e; exact pc_pos _ (by omega)
  · intro e; rw [e] at h; have : pc 0 = 0 := rfl; omega
theorem amid_bit {a b x : Nat} : amid a b x ↔ ∀ i, a.testBit i = b.testBit i -> x.testBit i = a.testBit i := by
  unfold amid
  constructor
  · intro h i e
    have q := congrArg (fun z => z.testBit i) h
    simp only [Nat.testBit_xor, Nat.testBit_and, Nat.zero_testBit] at q
    rw [<- e] at q
    cases ha : a.testBit i <;> cases hx : x.testBit i <;> simp [ha, hx] at q ⊢
  · intro h
    apply Nat.eq_of_testBit_eq
    intro i
    simp only [Nat.testBit_xor, Nat.testBit_and, Nat.zero_testBit]
    have q := h i
    cases ha : a.testBit i <;> cases hb : b.testBit i <;> cases hx : x.testBit i <;> simp [ha, hb, hx] at q ⊢
theorem amid_right (a b : Nat) : amid a b b := amid_bit.mpr fun _ e => e.symm
def maj (a b c : Nat) : Nat := a &&& b ||| b &&& c ||| a &&& c
theorem maj_bit (a b c i : Nat) : (maj a b c).testBit i = (a.testBit i && b.testBit i || b.testBit i && c.testBit i || a.testBit i && c.testBit i) := by
  unfold maj; simp only [Nat.testBit_or, Nat.testBit_and]
theorem maj_amid1 (a b c : Nat) : amid a b (maj a b c) := by
  rw [amid_bit]; intro i e; rw [maj_bit, <- e]; cases a.testBit i <;> cases c.testBit i <;> rfl
theorem maj_amid2 (a b c : Nat) : amid b c (maj a b c) := by
  rw [amid_bit]; intro i e; rw [maj_bit, <- e]; cases a.testBit i <;> cases b.testBit i <;> rfl
theorem maj_amid3 (a b c : Nat) : amid a c (maj a b c) := by
  rw [amid_bit]; intro i e; rw [maj_bit, <- e]; cases a.testBit i <;> cases b.testBit i <;> rfl
theorem maj_uniq {a b c x : Nat} (h1 : amid a b x) (h2 : amid b c x) (h3 : amid a c x) : x = maj a b c := by
  rw [amid_bit] at h1 h2 h3
  apply Nat.eq_of_testBit_eq
  intro i
  rw [maj_bit]
  have q1 := h1 i; have q2 := h2 i; have q3 := h3 i
  cases ha : a.testBit i <;> cases hb : b.testBit i <;> cases hc : c.testBit i <;> simp_all
structure Iso (B : List Nat) : Prop where
  nd : B.Nodup
  step : ∀ a ∈ B, ∀ b ∈ B, a ≠ b -> ∃ c ∈ B, ud a c = 1 /\ amid a b c
structure Med (B : List Nat) : Prop extends Iso B where
  med : ∀ a ∈ B, ∀ b ∈ B, ∀ c ∈ B, maj a b c ∈ B
theorem Med.perm {B C : List Nat} (h : Med B) (p : C.Perm B) : Med C :=
  ⟨⟨p.nodup_iff.mpr h.nd, fun a ha b hb ne => by
    obtain ⟨c, hc, q⟩ := h.step a (p.mem_iff.mp ha) b (p.mem_iff.mp hb) ne
    exact ⟨c, p.mem_iff.mpr hc, q⟩⟩, fun a ha b hb c hc => p.mem_iff.mpr (h.med a (p.mem_iff.mp ha) b (p.mem_iff.mp hb) c (p.mem_iff.mp hc))⟩
theorem med_one : Med [0] := ⟨⟨by simp, fun a ha b hb ne => by simp at ha hb; omega⟩, fun a ha b hb c hc => by simp at ha hb hc; subst ha hb hc; decide⟩
def Conv (B H : List Nat) : Prop := (∀ x ∈ H, x ∈ B) /\ ∀ x ∈ H, ∀ y ∈ H, ∀ z ∈ B, amid x y z -> z ∈ H
def up (k x : Nat) : Nat := x + 2 ^ k
theorem up_bit {k x : Nat} (h : x < 2 ^ k) (i : Nat) : (up k x).testBit i = if i = k then true else x.testBit i := by
  unfold up
  rw [show x + 2 ^ k = 2 ^ k * 1 + x by omega, Nat.two_pow_add_eq_or_of_lt h, Nat.testBit_or, Nat.mul_one, Nat.testBit_two_pow]
  by_cases e : i = k
  · subst e; simp
  · have : ¬ k = i := fun z => e z.symm
    simp [e, this]
theorem low_bit {k x : Nat} (h : x < 2 ^ k) : x.testBit k = false := Nat.testBit_lt_two_pow h
theorem pc_two (k : Nat) : pc (2 ^ k) = 1 := by
  induction k with
  | zero => rfl
  | succ k ih => rw [pc_eq, show 2 ^ (k + 1) / 2 = 2 ^ k by rw [Nat.pow_succ]; omega, ih, show 2 ^ (k + 1) % 2 = 0 by rw [Nat.pow_succ]; omega]
theorem ud_up {k x : Nat} (h : x < 2 ^ k) : ud x (up k x) = 1 := by
  unfold ud
  rw [show x ^^^ up k x = 2 ^ k from ?_, pc_two]
  apply Nat.eq_of_testBit_eq
  intro i
  rw [Nat.testBit_xor, up_bit h, Nat.testBit_two_pow]
  by_cases e : i = k
  · subst e; simp [low_bit h]
  · have : ¬ k = i := fun z => e z.symm
    simp [e, this]
theorem ud_up2 {k x y : Nat} (hx : x < 2 ^ k) (hy : y < 2 ^ k) : ud (up k x) (up k y) = ud x y := by
  unfold ud
  congr 1
  apply Nat.eq_of_testBit_eq
  intro i
  rw [Nat.testBit_xor, up_bit hx, up_bit hy, Nat.testBit_xor]
  by_cases e : i = k
  · subst e; simp [low_bit hx, low_bit hy]
  · simp [e]
theorem Med.grow {B H : List Nat} {k : Nat} (h : Med B) (hk : ∀ x ∈ B, x < 2 ^ k) (hH : Conv B H) (nH : H.Nodup) : Med (B ++ H.map (up k)) /\ ∀ x ∈ B ++ H.map (up k), x < 2 ^ (k + 1) := by
  have hHk : ∀ x ∈ H, x < 2 ^ k := fun x hx => hk x (hH.1 x hx)
  have cases_ : ∀ {p : Nat -> Prop}, (∀ x ∈ B, p x) -> (∀ x ∈ H, p (up k x)) -> ∀ x ∈ B ++ H.map (up k), p x := fun h1 h2 x hx => by
    rcases List.mem_append.mp hx with q | q
    · exact h1 x q
    · rw [List.mem_map] at q
      obtain ⟨y, hy, rfl⟩ := q
      exact h2 y hy
  have inl : ∀ {x}, x ∈ B -> x ∈ B ++ H.map (up k) := fun q => List.mem_append.mpr (.inl q)
  have inr : ∀ {x}, x ∈ H -> up k x ∈ B ++ H.map (up k) := fun q => List.mem_append.mpr (.inr (List.mem_map.mpr ⟨_, q, rfl⟩))
  refine ⟨⟨⟨?_, ?_⟩, ?_⟩, ?_⟩
  · rw [List.nodup_append]
    refine ⟨h.nd, ?_, fun a ha b hb => ?_⟩
    · refine List.pairwise_map.mpr (nH.imp fun {a b} ne e => ne ?_)
      unfold up at e
      omega
    · rw [List.mem_map] at hb
      obtain ⟨y, _, rfl⟩ := hb
      have := hk a ha
      unfold up
      omega
  · refine cases_ (fun a ha => cases_ (fun b hb ne => ?_) fun b hb ne => ?_) fun a ha => cases_ (fun b hb ne => ?_) fun b hb ne => ?_
    · obtain ⟨c, hc, q⟩ := h.step a ha b hb ne
      exact ⟨c, inl hc, q⟩
    · by_cases e : a = b
      · subst e
        exact ⟨up k a, inr hb, ud_up (hk a ha), amid_right _ _⟩
      · obtain ⟨c, hc, q1, q2⟩ := h.step a ha b (hH.1 b hb) e
        refine ⟨c, inl hc, q1, ?_⟩
        rw [amid_bit] at q2 ⊢
        intro i ei
        rw [up_bit (hHk b hb)] at ei
        by_cases z : i = k
        · subst z
          rw [low_bit (hk a ha)] at ei
          simp at ei
        · rw [if_neg z] at ei
          exact q2 i ei
    · refine ⟨a, inl (hH.1 a ha), by rw [ud_comm]; exact ud_up (hHk a ha), ?_⟩
      rw [amid_bit]
      intro i ei
      rw [up_bit (hHk a ha)] at ei ⊢
      by_cases z : i = k
      · subst z
        rw [low_bit (hk b hb)] at ei
        simp at ei
      · rw [if_neg z]
    · have e : a ≠ b := fun e => ne (by rw [e])
      obtain ⟨c, hc, q1, q2⟩ := h.step a (hH.1 a ha) b (hH.1 b hb) e
      have hcH := hH.2 a ha b hb c hc q2
      refine ⟨up k c, inr hcH, by rw [ud_up2 (hHk a ha) (hHk c hcH)]; exact q1, ?_⟩
      rw [amid_bit] at q2 ⊢
      intro i ei
      rw [up_bit (hHk a ha), up_bit (hHk b hb)] at ei
      rw [up_bit (hHk a ha), up_bit (hHk c hcH)]
      by_cases z : i = k
      · rw [if_pos z, if_pos z]
      · rw [if_neg z, if_neg z] at ei ⊢
        exact q2 i ei
  · -- what two of three have
    have low : ∀ a ∈ B, ∀ b ∈ B, ∀ c ∈ B, ∀ a' b' c', (∀ i, i ≠ k -> a'.testBit i = a.testBit i) -> (∀ i, i ≠ k -> b'.testBit i = b.testBit i) -> (∀ i, i ≠ k -> c'.testBit i = c.testBit i) ->
        (maj a' b' c').testBit k = false -> maj a' b' c' ∈ B ++ H.map (up k) := fun a ha b hb c hc a' b' c' h1 h2 h3 h4 => by
      have : maj a' b' c' = maj a b c := by
        apply Nat.eq_of_testBit_eq
        intro i
        by_cases z : i = k
        · subst z; rw [h4, maj_bit, low_bit (hk a ha), low_bit (hk b hb), low_bit (hk c hc)]; rfl
        · rw [maj_bit, maj_bit, h1 i z, h2 i z, h3 i z]
      rw [this]
      exact inl (h.med a ha b hb c hc)
    have high : ∀ a ∈ B, ∀ b ∈ B, ∀ c ∈ B, ∀ a' b' c', (∀ i, i ≠ k -> a'.testBit i = a.testBit i) -> (∀ i, i ≠ k -> b'.testBit i = b.testBit i) -> (∀ i, i ≠ k -> c'.testBit i = c.testBit i) ->
        (maj a' b' c').testBit k = true -> maj a b c ∈ H -> maj a' b' c' ∈ B ++ H.map (up k) := fun a ha b hb c hc a' b' c' h1 h2 h3 h4 hm => by
      have : maj a' b' c' = up k (maj a b c) := by
        apply Nat.eq_of_testBit_eq
        intro i
        rw [up_bit (hHk _ hm)]
        by_cases z : i = k
        · subst z; rw [h4, if_pos rfl]
        · rw [if_neg z, maj_bit, maj_bit, h1 i z, h2 i z, h3 i z]
      rw [this]
      exact inr hm
    have ub : ∀ x ∈ H, ∀ i, i ≠ k -> (up k x).testBit i = x.testBit i := fun x hx i hi => by rw [up_bit (hHk x hx), if_neg hi]
    have uk : ∀ x ∈ H, (up k x).testBit k = true := fun x hx => by rw [up_bit (hHk x hx), if_pos rfl]
    have lk : ∀ x ∈ B, x.testBit k = false := fun x hx => low_bit (hk x hx)
    have ll : ∀ x : Nat, ∀ i, i ≠ k -> x.testBit i = x.testBit i := fun _ _ _ => rfl
    have hb_ := hH.1
    refine cases_ (fun a ha => cases_ (fun b hb => cases_ (fun c hc => ?_) fun c hc => ?_) fun b hb => cases_ (fun c hc => ?_) fun c hc => ?_) fun a ha => cases_ (fun b hb => cases_ (fun c hc => ?_) fun c hc => ?_) fun b hb => cases_ (fun c hc => ?_) fun c hc => ?_
    · exact inl (h.med a ha b hb c hc)
    · exact low a ha b hb c (hb_ c hc) _ _ _ (ll a) (ll b) (ub c hc) (by rw [maj_bit, lk a ha, lk b hb]; simp)
    · exact low a ha b (hb_ b hb) c hc _ _ _ (ll a) (ub b hb) (ll c) (by rw [maj_bit, lk a ha, lk c hc]; simp)
    · exact high a ha b (hb_ b hb) c (hb_ c hc) _ _ _ (ll a) (ub b hb) (ub c hc) (by rw [maj_bit, uk b hb, uk c hc]; simp) (hH.2 b hb c hc _ (h.med a ha b (hb_ b hb) c (hb_ c hc)) (maj_amid2 a b c))
    · exact low a (hb_ a ha) b hb c hc _ _ _ (ub a ha) (ll b) (ll c) (by rw [maj_bit, lk b hb, lk c hc]; simp)
    · exact high a (hb_ a ha) b hb c (hb_ c hc) _ _ _ (ub a ha) (ll b) (ub c hc) (by rw [maj_bit, uk a ha, uk c hc]; simp) (hH.2 a ha c hc _ (h.med a (hb_ a ha) b hb c (hb_ c hc)) (maj_amid3 a b c))
    · exact high a (hb_ a ha) b (hb_ b hb) c hc _ _ _ (ub a ha) (ub b hb) (ll c) (by rw [maj_bit, uk a ha, uk b hb]; simp) (hH.2 a ha b hb _ (h.med a (hb_ a ha) b (hb_ b hb) c hc) (maj_amid1 a b c))
    · exact high a (hb_ a ha) b (hb_ b hb) c (hb_ c hc) _ _ _ (ub a ha) (ub b hb) (ub c hc) (by rw [maj_bit, uk a ha, uk b hb]; simp) (hH.2 a ha b hb _ (h.med a (hb_ a ha) b (hb_ b hb) c (hb_ c hc)) (maj_amid1 a b c))
  · refine cases_ (fun x hx => ?_) fun x hx => ?_
    · have := hk x hx
      rw [Nat.pow_succ]
      omega
    · have := hHk x hx
      unfold up
      rw [Nat.pow_succ]
      omega
def hullB (B : List Nat) (lo hi : Nat) : List Nat := B.filter fun x => decide (x &&& lo = lo) && decide (x ||| hi = hi)
theorem sub_lo {x lo : Nat} : x &&& lo = lo ↔ ∀ i, lo.testBit i = true -> x.testBit i = true := by
  constructor
  · intro h i e
    have q := congrArg (fun z => z.testBit i) h
    simp only [Nat.testBit_and] at q
    rw [e] at q
    simpa using q
  · intro h
    apply Nat.eq_of_testBit_eq
    intro i
    rw [Nat.testBit_and]
    cases e : lo.testBit i with
    | false => simp
    | true => rw [h i e]; rfl
theorem sub_hi {x hi : Nat} : x ||| hi = hi ↔ ∀ i, x.testBit i = true -> hi.testBit i = true := by
  constructor
  · intro h i e
    have q := congrArg (fun z => z.testBit i) h
    simp only [Nat.testBit_or] at q
    rw [e] at q
    simpa using q.symm
  · intro h
    apply Nat.eq_of_testBit_eq
    intro i
    rw [Nat.testBit_or]
    cases e : x.testBit i with
    | false => simp
    | true => rw [h i e]; rfl
theorem mem_hullB {B : List Nat} {lo hi x : Nat} : x ∈ hullB B lo hi ↔ x ∈ B /\ (∀ i, lo.testBit i = true -> x.testBit i = true) /\ ∀ i, x.testBit i = true -> hi.testBit i = true := by
  unfold hullB
  rw [List.mem_filter, Bool.and_eq_true, decide_eq_true_eq, decide_eq_true_eq, sub_lo, sub_hi]
theorem hullB_conv (B : List Nat) (lo hi : Nat) : Conv B (hullB B lo hi) := by
  refine ⟨fun x hx => (mem_hullB.mp hx).1, fun x hx y hy z hz h => ?_⟩
  obtain ⟨_, hx1, hx2⟩ := mem_hullB.mp hx
  obtain ⟨_, hy1, hy2⟩ := mem_hullB.mp hy
  rw [amid_bit] at h
  refine mem_hullB.mpr ⟨hz, fun i e => by rw [h i (by rw [hx1 i e, hy1 i e])]; exact hx1 i e, fun i e => ?_⟩
  cases q : hi.testBit i with
  | true => rfl
  | false =>
    have h1 : x.testBit i = false := by
      cases u : x.testBit i with
      | false => rfl
      | true => have := hx2 i u; rw [q] at this; cases this
    have h2 : y.testBit i = false := by
      cases u : y.testBit i with
      | false => rfl
      | true => have := hy2 i u; rw [q] at this; cases this
    have := h i (by rw [h1, h2])
    rw [e, h1] at this
    cases this
def IsWeb (g : List (List Nat)) (B : List Nat) : Prop := g.length = B.length /\ ∀ x y, y ∈ g.getD x [] ↔ x < B.length /\ y < B.length /\ ud (B.getD x 0) (B.getD y 0) = 1
theorem IsWeb.inn {g : List (List Nat)} {B : List Nat} (h : IsWeb g B) : Inn g := fun x y q => by rw [h.1]; exact ((h.2 x y).mp q).2.1
theorem IsWeb.symm {g : List (List Nat)} {B : List Nat} (h : IsWeb g B) : Symm g := fun x y q => by
  obtain ⟨q1, q2, q3⟩ := (h.2 x y).mp q
  exact (h.2 y x).mpr ⟨q2, q1, by rw [ud_comm]; exact q3⟩
theorem getD_mem {B : List Nat} {x : Nat} (h : x < B.length) : B.getD x 0 ∈ B := by
  rw [List.getD_eq_getElem?_getD, List.getElem?_eq_getElem h]; exact List.getElem_mem h
theorem mem_getD {B : List Nat} {v : Nat} (h : v ∈ B) : ∃ x, x < B.length /\ B.getD x 0 = v := by
  obtain ⟨x, hx, e⟩ := List.getElem_of_mem h
  exact ⟨x, hx, by rw [List.getD_eq_getElem?_getD, List.getElem?_eq_getElem hx]; exact e⟩
theorem getD_inj {B : List Nat} (h : B.Nodup) {x y : Nat} (hx : x < B.length) (hy : y < B.length) (e : B.getD x 0 = B.getD y 0) : x = y := by
  rw [List.getD_eq_getElem?_getD, List.getD_eq_getElem?_getD, List.getElem?_eq_getElem hx, List.getElem?_eq_getElem hy] at e
  exact (List.getElem_inj h).mp e
theorem walk_ud {g : List (List Nat)} {B : List Nat} (h : IsWeb g B) {a k x : Nat} (w : Walk g a k x) : ud (B.getD a 0) (B.getD x 0) <= k := by
  induction w with
  | zero => rw [ud_self]; exact Nat.le_refl _
  | @step k p y w m ih =>
    have := ud_tri (B.getD a 0) (B.getD p 0) (B.getD y 0)
    have := ((h.2 p y).mp m).2.2
    omega
theorem ud_walk {g : List (List Nat)} {B : List Nat} (h : IsWeb g B) (i : Iso B) : ∀ (d a b : Nat), a < B.length -> b < B.length -> ud (B.getD a 0) (B.getD b 0) = d -> Walk g a d b
  | 0, a, b, ha, hb, e => by rw [getD_inj i.nd ha hb (ud_zero e)]; exact .zero
  | d + 1, a, b, ha, hb, e => by
    obtain ⟨c, hc, q1, q2⟩ := i.step _ (getD_mem ha) _ (getD_mem hb) (fun z => by rw [z, ud_self] at e; omega)
    obtain ⟨x, hx, rfl⟩ := mem_getD hc
    have q3 := (ud_amid _ _ _).mpr q2
    exact walk_cons ((h.2 a x).mpr ⟨ha, hx, q1⟩) (ud_walk h i d x b hx hb (by omega))
theorem dist_ud {g : List (List Nat)} {B : List Nat} (h : IsWeb g B) (i : Iso B) {a b : Nat} (ha : a < B.length) (hb : b < B.length) : dist g a b = some (ud (B.getD a 0) (B.getD b 0)) :=
  dist_eq ⟨ud_walk h i _ a b ha hb rfl, fun k w => walk_ud h w⟩
theorem lies_amid {g : List (List Nat)} {B : List Nat} (h : IsWeb g B) (i : Iso B) {a b x : Nat} (ha : a < B.length) (hb : b < B.length) (hx : x < B.length) : lies g a b x = decide (amid (B.getD a 0) (B.getD b 0) (B.getD x 0)) := by
  unfold lies
  rw [dist_ud h i ha hb, dist_ud h i ha hx, dist_ud h i hb hx]
  show decide _ = decide _
  rw [decide_eq_decide, <- ud_amid, ud_comm (B.getD b 0)]
theorem range_filter_one {n m : Nat} (hm : m < n) {f : Nat -> Bool} (hf : ∀ x, x < n -> (f x = true ↔ x = m)) : (List.range n).filter f = [m] := by
  have e : (List.range n).filter f = (List.range n).filter fun x => x == m := List.filter_congr fun x hx => by
    rw [List.mem_range] at hx
    rw [Bool.eq_iff_iff, hf x hx, beq_iff_eq]
  rw [e]
  clear e hf
  induction n with
  | zero => omega
  | succ n ih =>
    rw [List.range_succ, List.filter_append]
    by_cases z : m = n
    · subst z
      have : (List.range m).filter (fun x => x == m) = [] := by
        rw [List.filter_eq_nil_iff]
        intro x hx
        rw [List.mem_range] at hx
        simp
        omega
      rw [this]
      simp
    · rw [ih (by omega)]
      have : ¬ n = m := fun q => z q.symm
      simp [this]
theorem mids_maj {g : List (List Nat)} {B : List Nat} (h : IsWeb g B) (i : Med B) {a b c m : Nat} (ha : a < B.length) (hb : b < B.length) (hc : c < B.length) (hm : m < B.length)
    (e : B.getD m 0 = maj (B.getD a 0) (B.getD b 0) (B.getD c 0)) : mids g a b c = [m] := by
  unfold mids
  rw [h.1]
  refine range_filter_one hm fun x hx => ?_
  rw [lies_amid h i.toIso ha hb hx, lies_amid h i.toIso hb hc hx, lies_amid h i.toIso ha hc hx, Bool.and_eq_true, Bool.and_eq_true, decide_eq_true_eq, decide_eq_true_eq, decide_eq_true_eq]
  constructor
  · rintro ⟨q1, q2, q3⟩
    exact getD_inj i.nd hx hm (by rw [e]; exact maj_uniq q1 q2 q3)
  · rintro rfl
    rw [e]
    exact ⟨maj_amid1 _ _ _, maj_amid2 _ _ _, maj_amid3 _ _ _⟩
end Mw
set_option linter.all false
namespace Mw
def rowT (B : List Nat) (a m : Nat) : List (Nat × Nat) := ((List.range m).filter fun i => decide (ud (B.getD a 0) (B.getD (a + 1 + i) 0) = 1)).map fun i => (a, a + 1 + i)
def tiesB (B : List Nat) (k : Nat) : List (Nat × Nat) := (List.range k).flatMap fun a => rowT B a (B.length - (a + 1))
def ltT (s t : Nat × Nat) : Prop := s.1 < t.1 \/ (s.1 = t.1 /\ s.2 < t.2)
theorem mem_rowT {B : List Nat} {a m : Nat} {t : Nat × Nat} : t ∈ rowT B a m ↔ t.1 = a /\ a < t.2 /\ t.2 < a + 1 + m /\ ud (B.getD t.1 0) (B.getD t.2 0) = 1 := by
  unfold rowT
  rw [List.mem_map]
  constructor
  · rintro ⟨i, hi, rfl⟩
    rw [List.mem_filter, List.mem_range, decide_eq_true_eq] at hi
    exact ⟨rfl, by show a < a + 1 + i; omega, by show a + 1 + i < _; omega, hi.2⟩
  · rintro ⟨rfl, h1, h2, h3⟩
    have e : t.1 + 1 + (t.2 - (t.1 + 1)) = t.2 := by omega
    refine ⟨t.2 - (t.1 + 1), ?_, by rw [e]⟩
    rw [List.mem_filter, List.mem_range, decide_eq_true_eq, e]
    exact ⟨by omega, h3⟩
theorem mem_tiesB {B : List Nat} {k : Nat} {t : Nat × Nat} (hk : k <= B.length) : t ∈ tiesB B k ↔ t.1 < k /\ t.1 < t.2 /\ t.2 < B.length /\ ud (B.getD t.1 0) (B.getD t.2 0) = 1 := by
  unfold tiesB
  rw [List.mem_flatMap]
  constructor
  · rintro ⟨a, ha, h⟩
    rw [List.mem_range] at ha
    obtain ⟨rfl, h1, h2, h3⟩ := mem_rowT.mp h
    exact ⟨ha, h1, by omega, h3⟩
  · rintro ⟨h0, h1, h2, h3⟩
    exact ⟨t.1, List.mem_range.mpr h0, mem_rowT.mpr ⟨rfl, h1, by omega, h3⟩⟩
theorem rowT_sorted (B : List Nat) (a m : Nat) : (rowT B a m).Pairwise ltT := by
  unfold rowT
  rw [List.pairwise_map]
  refine (List.Pairwise.filter _ List.pairwise_lt_range).imp fun {i j} h => .inr ⟨rfl, ?_⟩
  show a + 1 + i < a + 1 + j
  omega
theorem tiesB_succ (B : List Nat) (k : Nat) : tiesB B (k + 1) = tiesB B k ++ rowT B k (B.length - (k + 1)) := by
  unfold tiesB
  rw [List.range_succ, List.flatMap_append]
  simp
theorem tiesB_sorted (B : List Nat) : ∀ k, k <= B.length -> (tiesB B k).Pairwise ltT
  | 0, _ => by unfold tiesB; simp
  | k + 1, h => by
    rw [tiesB_succ, List.pairwise_append]
    refine ⟨tiesB_sorted B k (by omega), rowT_sorted _ _ _, fun s hs t ht => .inl ?_⟩
    have := (mem_tiesB (by omega)).mp hs
    have := mem_rowT.mp ht
    omega
theorem tiesB_len (B : List Nat) : ∀ k, (tiesB B k).length <= k * B.length
  | 0 => by unfold tiesB; simp
  | k + 1 => by
    rw [tiesB_succ, List.length_append, Nat.succ_mul]
    have := tiesB_len B k
    have : (rowT B k (B.length - (k + 1))).length <= B.length := by
      unfold rowT
      rw [List.length_map]
      refine Nat.le_trans (List.length_filter_le _ _) ?_
      rw [List.length_range]
      omega
    omega
theorem tiesB_good (B : List Nat) : Good B.length (tiesB B B.length) := by
  refine ⟨fun t ht => ?_, ?_⟩
  · have := (mem_tiesB (Nat.le_refl _)).mp ht
    exact ⟨this.1, this.2.2.1, by omega⟩
  · have e : (tiesB B B.length).map norm = tiesB B B.length := by
      have : (tiesB B B.length).map norm = (tiesB B B.length).map id := List.map_congr_left fun t ht => by
        have := (mem_tiesB (Nat.le_refl _)).mp ht
        unfold norm
        rw [if_pos (by omega)]
        rfl
      rw [this, List.map_id]
    rw [e, List.nodup_iff_pairwise_ne]
    refine (tiesB_sorted B _ (Nat.le_refl _)).imp fun {s t} h e => ?_
    subst e
    rcases h with h | h <;> omega
theorem tiesB_web (B : List Nat) : IsWeb (webL B.length (tiesB B B.length)) B := by
  refine ⟨webL_length _ _, fun x y => ?_⟩
  rw [webL_mem]
  constructor
  · rintro ⟨hx, hy, h | h⟩
    · exact ⟨hx, hy, ((mem_tiesB (Nat.le_refl _)).mp h).2.2.2⟩
    · exact ⟨hx, hy, by rw [ud_comm]; exact ((mem_tiesB (Nat.le_refl _)).mp h).2.2.2⟩
  · rintro ⟨hx, hy, h⟩
    refine ⟨hx, hy, ?_⟩
    by_cases e : x < y
    · exact .inl ((mem_tiesB (Nat.le_refl _)).mpr ⟨hx, e, hy, h⟩)
    · have : x ≠ y := by
        rintro rfl
        rw [ud_self] at h
        cases h
      exact .inr ((mem_tiesB (Nat.le_refl _)).mpr ⟨hy, by show y < x; omega, hx, by rw [ud_comm]; exact h⟩)
end Mw
set_option linter.all false
namespace Mw
def mk (B : List Nat) (t : Nat × Nat) : Nat := B.getD t.1 0 ^^^ B.getD t.2 0
def marksF (B : List Nat) (ts : List (Nat × Nat)) : List Nat := ts.foldl (fun ms t => if mk B t ∈ ms then ms else ms ++ [mk B t]) []
def clsT (B : List Nat) (ts : List (Nat × Nat)) (m : Nat) : List (Nat × Nat) := ts.filter fun t => decide (mk B t = m)
theorem marksF_take {B : List Nat} {ts : List (Nat × Nat)} {i : Nat} {t : Nat × Nat} (e : ts[i]? = some t) : marksF B (ts.take (i + 1)) = if mk B t ∈ marksF B (ts.take i) then marksF B (ts.take i) else marksF B (ts.take i) ++ [mk B t] := by
  unfold marksF
  rw [List.take_add_one, e, List.foldl_append]
  rfl
theorem mem_marksF {B : List Nat} {m : Nat} : ∀ {ts : List (Nat × Nat)}, m ∈ marksF B ts ↔ ∃ t ∈ ts, mk B t = m := by
  have aux : ∀ (ts : List (Nat × Nat)) (ms : List Nat), m ∈ ts.foldl (fun ms t => if mk B t ∈ ms then ms else ms ++ [mk B t]) ms ↔ m ∈ ms \/ ∃ t ∈ ts, mk B t = m := by
    intro ts
    induction ts with
    | nil => intro ms; simp
    | cons t ts ih =>
      intro ms
      rw [List.foldl_cons, ih]
      by_cases h : mk B t ∈ ms
      · rw [if_pos h]
        constructor
        · rintro (q | ⟨u, hu, e⟩)
          · exact .inl q
          · exact .inr ⟨u, List.mem_cons_of_mem _ hu, e⟩
        · rintro (q | ⟨u, hu, e⟩)
          · exact .inl q
          · rcases List.mem_cons.mp hu with rfl | hu
            · exact .inl (e ▸ h)
            · exact .inr ⟨u, hu, e⟩
      · rw [if_neg h]
        constructor
        · rintro (q | ⟨u, hu, e⟩)
          · rcases List.mem_append.mp q with q | q
            · exact .inl q
            · exact .inr ⟨t, List.mem_cons_self, (List.mem_singleton.mp q).symm⟩
          · exact .inr ⟨u, List.mem_cons_of_mem _ hu, e⟩
        · rintro (q | ⟨u, hu, e⟩)
          · exact .inl (List.mem_append.mpr (.inl q))
          · rcases List.mem_cons.mp hu with rfl | hu
            · exact .inl (List.mem_append.mpr (.inr (by simp [e])))
            · exact .inr ⟨u, hu, e⟩
  intro ts
  unfold marksF
  rw [aux]
  simp
theorem marksF_nodup (B : List Nat) (ts : List (Nat × Nat)) : (marksF B ts).Nodup := by
  have aux : ∀ (ts : List (Nat × Nat)) (ms : List Nat), ms.Nodup -> (ts.foldl (fun ms t => if mk B t ∈ ms then ms else ms ++ [mk B t]) ms).Nodup := by
    intro ts
    induction ts with
    | nil => intro ms h; exact h
    | cons t ts ih =>
      intro ms h
      rw [List.foldl_cons]
      refine ih _ ?_
      by_cases q : mk B t ∈ ms
      · rw [if_pos q]; exact h
      · rw [if_neg q, List.nodup_append]
        refine ⟨h, by simp, fun a ha b hb => ?_⟩
        have : b = mk B t := by simpa using hb
        subst this
        rintro rfl
        exact q ha
  exact aux ts [] List.nodup_nil
theorem marksF_len (B : List Nat) (ts : List (Nat × Nat)) : (marksF B ts).length <= ts.length := by
  have aux : ∀ (ts : List (Nat × Nat)) (ms : List Nat), (ts.foldl (fun ms t => if mk B t ∈ ms then ms else ms ++ [mk B t]) ms).length <= ms.length + ts.length := by
    intro ts
    induction ts with
    | nil => intro ms; simp
    | cons t ts ih =>
      intro ms
      rw [List.foldl_cons]
      refine Nat.le_trans (ih _) ?_
      by_cases q : mk B t ∈ ms
      · rw [if_pos q, List.length_cons]; omega
      · rw [if_neg q, List.length_cons, List.length_append, List.length_singleton]; omega
  have := aux ts []
  unfold marksF
  simpa using this
theorem cls_first {B : List Nat} {ts : List (Nat × Nat)} (nd : ts.Nodup) {i : Nat} {t : Nat × Nat} (e : ts[i]? = some t) : ∃ u, (clsT B ts (mk B t))[0]? = some u /\ (u = t ↔ mk B t ∉ marksF B (ts.take i)) /\ u ∈ ts := by
  have hi := (List.getElem?_eq_some_iff.mp e).1
  have split : ts = ts.take i ++ t :: ts.drop (i + 1) := by
    have h := (List.take_append_drop i ts).symm
    rw [List.drop_eq_getElem_cons hi, (List.getElem?_eq_some_iff.mp e).2] at h
    exact h
  have hf : clsT B ts (mk B t) = (ts.take i).filter (fun o => decide (mk B o = mk B t)) ++ t :: (ts.drop (i + 1)).filter fun o => decide (mk B o = mk B t) := by
    have : clsT B ts (mk B t) = (ts.take i ++ t :: ts.drop (i + 1)).filter fun o => decide (mk B o = mk B t) := by rw [<- split]; rfl
    rw [this, List.filter_append, List.filter_cons_of_pos (by simp)]
  by_cases h : mk B t ∈ marksF B (ts.take i)
  · obtain ⟨u, hu, eu⟩ := mem_marksF.mp h
    have hm : u ∈ (ts.take i).filter (fun o => decide (mk B o = mk B t)) := List.mem_filter.mpr ⟨hu, by simpa using eu⟩
    have hp : 0 < ((ts.take i).filter (fun o => decide (mk B o = mk B t))).length := List.length_pos_of_mem hm
    refine ⟨((ts.take i).filter (fun o => decide (mk B o = mk B t)))[0], by rw [hf, List.getElem?_append_left hp, List.getElem?_eq_getElem hp], ?_, ?_⟩
    · constructor
      · intro q
        exfalso
        have h1 : t ∈ ts.take i := (List.mem_filter.mp (q ▸ List.getElem_mem hp)).1
        rw [split, List.nodup_append] at nd
        exact nd.2.2 t h1 t List.mem_cons_self rfl
      · intro q; exact absurd h q
    · exact List.mem_of_mem_take (List.mem_filter.mp (List.getElem_mem hp)).1
  · have hn : (ts.take i).filter (fun o => decide (mk B o = mk B t)) = [] := by
      rw [List.filter_eq_nil_iff]
      intro u hu z
      exact h (mem_marksF.mpr ⟨u, hu, by simpa using z⟩)
    refine ⟨t, by rw [hf, hn]; rfl, ⟨fun _ => h, fun _ => rfl⟩, List.mem_of_getElem? e⟩
theorem ltT_irr {s : Nat × Nat} (h : ltT s s) : False := by rcases h with h | h <;> omega
theorem ltT_asym {s t : Nat × Nat} (h : ltT s t) (h' : ltT t s) : False := by rcases h with h | h <;> rcases h' with h' | h' <;> omega
theorem sorted_ext : ∀ {l m : List (Nat × Nat)}, l.Pairwise ltT -> m.Pairwise ltT -> (∀ t, t ∈ l ↔ t ∈ m) -> l = m
  | [], [], _, _, _ => rfl
  | [], b :: m, _, _, h => absurd ((h b).mpr List.mem_cons_self) (by simp)
  | a :: l, [], _, _, h => absurd ((h a).mp List.mem_cons_self) (by simp)
  | a :: l, b :: m, hl, hm, h => by
    obtain ⟨hl1, hl2⟩ := List.pairwise_cons.mp hl
    obtain ⟨hm1, hm2⟩ := List.pairwise_cons.mp hm
    have e : a = b := by
      rcases List.mem_cons.mp ((h a).mp List.mem_cons_self) with q | q
      · exact q
      · rcases List.mem_cons.mp ((h b).mpr List.mem_cons_self) with r | r
        · exact r.symm
        · exact absurd (hm1 a q) (fun z => ltT_asym z (hl1 b r))
    subst e
    congr 1
    refine sorted_ext hl2 hm2 fun t => ⟨fun q => ?_, fun q => ?_⟩
    · rcases List.mem_cons.mp ((h t).mp (List.mem_cons_of_mem _ q)) with r | r
      · subst r; exact absurd (hl1 t q) ltT_irr
      · exact r
    · rcases List.mem_cons.mp ((h t).mpr (List.mem_cons_of_mem _ q)) with r | r
      · subst r; exact absurd (hm1 t q) ltT_irr
      · exact r
def rowG (g : List (List Nat)) (p : Nat) : List (Nat × Nat) := ((g.getD p []).filter fun q => decide (p < q)).map fun q => (p, q)
def tiesG (g : List (List Nat)) (k : Nat) : List (Nat × Nat) := (List.range k).flatMap (rowG g)
theorem tiesG_succ (g : List (List Nat)) (k : Nat) : tiesG g (k + 1) = tiesG g k ++ rowG g k := by
  unfold tiesG
  rw [List.range_succ, List.flatMap_append]
  simp
theorem mem_rowG {g : List (List Nat)} {p : Nat} {t : Nat × Nat} : t ∈ rowG g p ↔ t.1 = p /\ t.2 ∈ g.getD p [] /\ p < t.2 := by
  unfold rowG
  rw [List.mem_map]
  constructor
  · rintro ⟨q, hq, rfl⟩
    rw [List.mem_filter, decide_eq_true_eq] at hq
    exact ⟨rfl, hq⟩
  · rintro ⟨rfl, h⟩
    exact ⟨t.2, List.mem_filter.mpr ⟨h.1, decide_eq_true h.2⟩, rfl⟩
theorem mem_tiesG {g : List (List Nat)} {k : Nat} {t : Nat × Nat} : t ∈ tiesG g k ↔ t.1 < k /\ t.2 ∈ g.getD t.1 [] /\ t.1 < t.2 := by
  unfold tiesG
  rw [List.mem_flatMap]
  constructor
  · rintro ⟨p, hp, h⟩
    obtain ⟨rfl, h⟩ := mem_rowG.mp h
    exact ⟨List.mem_range.mp hp, h⟩
  · rintro ⟨h1, h2⟩
    exact ⟨t.1, List.mem_range.mpr h1, mem_rowG.mpr ⟨rfl, h2⟩⟩
def Rising (g : List (List Nat)) : Prop := ∀ p, (g.getD p []).Pairwise (· < ·)
theorem tiesG_sorted {g : List (List Nat)} (h : Rising g) : ∀ k, (tiesG g k).Pairwise ltT
  | 0 => by unfold tiesG; simp
  | k + 1 => by
    rw [tiesG_succ, List.pairwise_append]
    refine ⟨tiesG_sorted h k, ?_, fun s hs t ht => .inl ?_⟩
    · unfold rowG
      rw [List.pairwise_map]
      exact ((h k).filter _).imp fun {a b} q => .inr ⟨rfl, q⟩
    · have := (mem_tiesG.mp hs).1
      have := (mem_rowG.mp ht).1
      omega
theorem tiesG_eq {g : List (List Nat)} {B : List Nat} (h : IsWeb g B) (r : Rising g) : tiesG g g.length = tiesB B B.length := by
  refine sorted_ext (tiesG_sorted r _) (tiesB_sorted B _ (Nat.le_refl _)) fun t => ?_
  rw [mem_tiesG, mem_tiesB (Nat.le_refl _), h.1, h.2]
  constructor
  · rintro ⟨h1, ⟨_, h2, h3⟩, h4⟩; exact ⟨h1, h4, h2, h3⟩
  · rintro ⟨h1, h4, h2, h3⟩; exact ⟨h1, ⟨h1, h2, h3⟩, h4⟩
theorem webL_rising (n : Nat) (ts : List (Nat × Nat)) : Rising (webL n ts) := by
  intro p
  by_cases h : p < n
  · rw [webL_getD h]
    unfold nbr
    exact List.Pairwise.filter _ List.pairwise_lt_range
  · rw [webL_getD_ge h]
    exact .nil
theorem one_bit {m n : Nat} (hm : pc m = 1) (hn : pc n = 1) (ne : m ≠ n) : m &&& n = 0 := by
  have h := pc_sum m n
  have : pc (m ^^^ n) ≠ 0 := fun z => ne (ud_zero z)
  exact pc_pos _ (by omega)
theorem pc_single {m : Nat} (hm : pc m = 1) (x : Nat) : pc (x ^^^ m) + 2 * pc (x &&& m) = pc x + 1 := by
  have := pc_sum x m
  omega
theorem one_class {a b c d : Nat} (h1 : ud a b = 1) (h2 : ud c d = 1) : ud a c + ud b d ≠ ud a d + ud b c ↔ a ^^^ b = c ^^^ d := by
  have e1 : ud b c = pc ((a ^^^ c) ^^^ (a ^^^ b)) := by
    unfold ud
    congr 1
    apply Nat.eq_of_testBit_eq
    intro i
    simp only [Nat.testBit_xor]
    cases a.testBit i <;> cases b.testBit i <;> cases c.testBit i <;> rfl
  have e2 : ud a d = pc ((a ^^^ c) ^^^ (c ^^^ d)) := by unfold ud; rw [xor_mid]
  have e3 : ud b d = pc (((a ^^^ c) ^^^ (a ^^^ b)) ^^^ (c ^^^ d)) := by
    unfold ud
    congr 1
    apply Nat.eq_of_testBit_eq
    intro i
    simp only [Nat.testBit_xor]
    cases a.testBit i <;> cases b.testBit i <;> cases c.testBit i <;> cases d.testBit i <;> rfl
  have e0 : ud a c = pc (a ^^^ c) := rfl
  rw [e0, e1, e2, e3]
  unfold ud at h1 h2
  generalize a ^^^ b = m at *
  generalize c ^^^ d = n at *
  generalize a ^^^ c = x at *
  by_cases e : m = n
  · subst e
    refine ⟨fun _ => rfl, fun _ => ?_⟩
    have q1 := pc_single h1 x
    have q2 : x ^^^ m ^^^ m = x := by rw [Nat.xor_assoc, Nat.xor_self, Nat.xor_zero]
    rw [q2]
    omega
  · refine ⟨fun z => absurd ?_ z, fun z => absurd z e⟩
    have q0 := one_bit h1 h2 e
    have q1 := pc_single h1 x
    have q2 := pc_single h2 x
    have q3 := pc_single h2 (x ^^^ m)
    have q4 : (x ^^^ m) &&& n = x &&& n := by
      apply Nat.eq_of_testBit_eq
      intro i
      have z := congrArg (fun y => y.testBit i) q0
      simp only [Nat.testBit_xor, Nat.testBit_and, Nat.zero_testBit] at z ⊢
      cases hx : x.testBit i <;> cases hm' : m.testBit i <;> cases hn' : n.testBit i <;> simp_all
    rw [q4] at q3
    omega
theorem nearer {a b x : Nat} (h1 : ud a b = 1) : (ud a x < ud b x ↔ x &&& (a ^^^ b) = a &&& (a ^^^ b)) /\ (ud b x < ud a x ↔ ¬ x &&& (a ^^^ b) = a &&& (a ^^^ b)) := by
  have e1 : ud b x = pc ((a ^^^ x) ^^^ (a ^^^ b)) := by
    unfold ud
    congr 1
    apply Nat.eq_of_testBit_eq
    intro i
    simp only [Nat.testBit_xor]
    cases a.testBit i <;> cases b.testBit i <;> cases x.testBit i <;> rfl
  have e2 : x &&& (a ^^^ b) = a &&& (a ^^^ b) ↔ (a ^^^ x) &&& (a ^^^ b) = 0 := by
    constructor
    · intro h
      apply Nat.eq_of_testBit_eq
      intro i
      have z := congrArg (fun y => y.testBit i) h
      simp only [Nat.testBit_xor, Nat.testBit_and, Nat.zero_testBit] at z ⊢
      cases ha : a.testBit i <;> cases hb : b.testBit i <;> cases hx : x.testBit i <;> simp_all
    · intro h
      apply Nat.eq_of_testBit_eq
      intro i
      have z := congrArg (fun y => y.testBit i) h
      simp only [Nat.testBit_xor, Nat.testBit_and, Nat.zero_testBit] at z ⊢
      cases ha : a.testBit i <;> cases hb : b.testBit i <;> cases hx : x.testBit i <;> simp_all
  have q := pc_single h1 (a ^^^ x)
  rw [e2]
  have e3 : ud a x = pc (a ^^^ x) := rfl
  have le : pc ((a ^^^ x) &&& (a ^^^ b)) <= 1 := by
    have := pc_sum ((a ^^^ x)) (a ^^^ b)
    have z : pc ((a ^^^ x) &&& (a ^^^ b)) <= pc (a ^^^ b) := by
      have w := pc_sum ((a ^^^ x) &&& (a ^^^ b)) (a ^^^ b)
      have w2 : (a ^^^ x) &&& (a ^^^ b) &&& (a ^^^ b) = (a ^^^ x) &&& (a ^^^ b) := by rw [Nat.and_assoc, Nat.and_self]
      rw [w2] at w
      omega
    unfold ud at h1
    omega
  constructor
  · constructor
    · intro h; exact pc_pos _ (by omega)
    · intro h; rw [h] at q; have : pc 0 = 0 := rfl; omega
  · constructor
    · intro h z; rw [z] at q; have : pc 0 = 0 := rfl; omega
    · intro h
      have : pc ((a ^^^ x) &&& (a ^^^ b)) ≠ 0 := fun z => h (pc_pos _ z)
      omega
end Mw
set_option linter.all false
namespace Mw
def sideB (B : List Nat) (m x : Nat) : Bool := decide (B.getD x 0 &&& m = B.getD 0 0 &&& m)
def firstH (B : List Nat) (m : Nat) : List Nat := (List.range B.length).filter fun x => sideB B m x
def secondH (B : List Nat) (m : Nat) : List Nat := (List.range B.length).filter fun x => !sideB B m x
def rowB (B : List Nat) (ms : List Nat) (x : Nat) : List Nat := ms.map fun m => if sideB B m x = true then 0 else 1
theorem and_two {m : Nat} (h : pc m = 1) (x : Nat) : x &&& m = 0 \/ x &&& m = m := by
  by_cases e : x &&& m = m
  · exact .inr e
  · have w := pc_sum (x &&& m) m
    have w2 : x &&& m &&& m = x &&& m := by rw [Nat.and_assoc, Nat.and_self]
    rw [w2] at w
    by_cases z : pc (x &&& m) = 0
    · exact .inl (pc_pos _ z)
    · have one : pc (x &&& m) = 1 := by omega
      have q := one_bit one h e
      rw [w2] at q
      exact .inl q
theorem side_flip {m : Nat} (h : pc m = 1) {x a b : Nat} (ne : ¬ a &&& m = b &&& m) : x &&& m = a &&& m ↔ ¬ x &&& m = b &&& m := by
  have h1 := and_two h x
  have h2 := and_two h a
  have h3 := and_two h b
  generalize x &&& m = X at *
  generalize a &&& m = Y at *
  generalize b &&& m = Z at *
  omega
theorem near_side {B : List Nat} {t : Nat × Nat} (h : ud (B.getD t.1 0) (B.getD t.2 0) = 1) (x : Nat) :
    (ud (B.getD t.1 0) (B.getD x 0) < ud (B.getD t.2 0) (B.getD x 0) ↔ B.getD x 0 &&& mk B t = B.getD t.1 0 &&& mk B t) /\
    (ud (B.getD t.2 0) (B.getD x 0) < ud (B.getD t.1 0) (B.getD x 0) ↔ ¬ B.getD x 0 &&& mk B t = B.getD t.1 0 &&& mk B t) := nearer h
end Mw
set_option linter.all false
namespace Mw
end Mw
set_option linter.all false
namespace Mw
def hullP (B : List Nat) (lo hi : Nat) : List Nat := (List.range B.length).filter fun x => decide (B.getD x 0 &&& lo = lo) && decide (B.getD x 0 ||| hi = hi)
theorem range_getD (B : List Nat) : (List.range B.length).map (fun x => B.getD x 0) = B := by
  apply List.ext_getElem?
  intro j
  rw [List.getElem?_map]
  by_cases h : j < B.length
  · rw [List.getElem?_range h, List.getElem?_eq_getElem h]
    show some (B.getD j 0) = _
    rw [List.getD_eq_getElem?_getD, List.getElem?_eq_getElem h]
    rfl
  · rw [List.getElem?_eq_none (by simpa using h), List.getElem?_eq_none (by omega)]
    rfl
theorem hullP_len (B : List Nat) (lo hi : Nat) : (hullP B lo hi).length <= B.length := by
  unfold hullP
  refine Nat.le_trans (List.length_filter_le _ _) ?_
  rw [List.length_range]
  exact Nat.le_refl _
def LoOk (B S : List Nat) (lo : Nat) : Prop := ∀ i, lo.testBit i = true ↔ ∀ s ∈ S, (B.getD s 0).testBit i = true
def HiOk (B S : List Nat) (hi : Nat) : Prop := ∀ i, hi.testBit i = true ↔ ∃ s ∈ S, (B.getD s 0).testBit i = true
theorem mem_hullP {B : List Nat} {lo hi x : Nat} : x ∈ hullP B lo hi ↔ x < B.length /\ (∀ i, lo.testBit i = true -> (B.getD x 0).testBit i = true) /\ ∀ i, (B.getD x 0).testBit i = true -> hi.testBit i = true := by
  unfold hullP
  rw [List.mem_filter, List.mem_range, Bool.and_eq_true, decide_eq_true_eq, decide_eq_true_eq, sub_lo, sub_hi]
theorem hullP_has {B S : List Nat} {lo hi : Nat} (h1 : LoOk B S lo) (h2 : HiOk B S hi) {s : Nat} (hs : s ∈ S) (hn : s < B.length) : s ∈ hullP B lo hi :=
  mem_hullP.mpr ⟨hn, fun i e => (h1 i).mp e s hs, fun i e => (h2 i).mpr ⟨s, hs, e⟩⟩
def ClosedP (B R : List Nat) : Prop := ∀ a ∈ R, ∀ b ∈ R, ∀ x, x < B.length -> amid (B.getD a 0) (B.getD b 0) (B.getD x 0) -> x ∈ R
theorem hullP_closed (B : List Nat) (lo hi : Nat) : ClosedP B (hullP B lo hi) := by
  intro a ha b hb x hx h
  obtain ⟨_, a1, a2⟩ := mem_hullP.mp ha
  obtain ⟨_, b1, b2⟩ := mem_hullP.mp hb
  rw [amid_bit] at h
  refine mem_hullP.mpr ⟨hx, fun i e => by rw [h i (by rw [a1 i e, b1 i e])]; exact a1 i e, fun i e => ?_⟩
  cases q : hi.testBit i with
  | true => rfl
  | false =>
    have f : ∀ {y : Nat}, (∀ i, (B.getD y 0).testBit i = true -> hi.testBit i = true) -> (B.getD y 0).testBit i = false := fun {y} hy => by
      cases u : (B.getD y 0).testBit i with
      | false => rfl
      | true => have := hy i u; rw [q] at this; cases this
    have := h i (by rw [f a2, f b2])
    rw [e, f a2] at this
    cases this
end Mw
set_option linter.all false
namespace Mw
def rb (B ms : List Nat) (x k : Nat) : Nat := (rowB B ms x).getD k 0
def numB (B ms S : List Nat) (s0 : Nat) : List Nat := (List.range ms.length).filter fun k => S.all fun s => decide (rb B ms s k = rb B ms s0 k)
def hullQ (B ms S : List Nat) (s0 : Nat) : List Nat := (List.range B.length).filter fun x => (numB B ms S s0).all fun k => decide (rb B ms x k = rb B ms s0 k)
theorem rb_eq {B ms : List Nat} {k m : Nat} (e : ms[k]? = some m) (x : Nat) : rb B ms x k = if sideB B m x = true then 0 else 1 := by
  unfold rb rowB
  rw [List.getD_eq_getElem?_getD, List.getElem?_map, e]
  rfl
theorem rb_side {B ms : List Nat} {k m : Nat} (e : ms[k]? = some m) (x y : Nat) : rb B ms x k = rb B ms y k ↔ sideB B m x = sideB B m y := by
  rw [rb_eq e, rb_eq e]
  cases sideB B m x <;> cases sideB B m y <;> simp
theorem side_eq {B : List Nat} {m : Nat} (h : pc m = 1) (x y : Nat) : sideB B m x = sideB B m y ↔ B.getD x 0 &&& m = B.getD y 0 &&& m := by
  unfold sideB
  rw [decide_eq_decide]
  have h1 := and_two h (B.getD x 0)
  have h2 := and_two h (B.getD y 0)
  have h3 := and_two h (B.getD 0 0)
  generalize B.getD x 0 &&& m = X at *
  generalize B.getD y 0 &&& m = Y at *
  generalize B.getD 0 0 &&& m = Z at *
  omega
theorem one_two {m i : Nat} (h : pc m = 1) (hb : m.testBit i = true) : m = 2 ^ i := by
  refine Decidable.byContradiction fun ne => ?_
  have := one_bit h (pc_two i) ne
  have q := congrArg (fun z => z.testBit i) this
  simp only [Nat.testBit_and, Nat.testBit_two_pow, Nat.zero_testBit, hb] at q
  simp at q
theorem mark_pc {B : List Nat} {m : Nat} (h : m ∈ marksF B (tiesB B B.length)) : pc m = 1 := by
  obtain ⟨t, ht, e⟩ := mem_marksF.mp h
  rw [<- e]
  exact ((mem_tiesB (Nat.le_refl _)).mp ht).2.2.2
theorem bit_mark {B : List Nat} (iso : Iso B) {i : Nat} : ∀ (d a b : Nat), a < B.length -> b < B.length -> ud (B.getD a 0) (B.getD b 0) = d -> (B.getD a 0).testBit i ≠ (B.getD b 0).testBit i -> 2 ^ i ∈ marksF B (tiesB B B.length)
  | 0, a, b, ha, hb, e, ne => absurd (congrArg (fun z => z.testBit i) (ud_zero e)) ne
  | d + 1, a, b, ha, hb, e, ne => by
    obtain ⟨c, hc, q1, q2⟩ := iso.step _ (getD_mem ha) _ (getD_mem hb) (fun z => by rw [z, ud_self] at e; omega)
    obtain ⟨x, hx, rfl⟩ := mem_getD hc
    by_cases z : (B.getD x 0).testBit i = (B.getD a 0).testBit i
    · have q3 := (ud_amid _ _ _).mpr q2
      exact bit_mark iso d x b hx hb (by omega) (by rw [z]; exact ne)
    · have hm : (B.getD a 0 ^^^ B.getD x 0).testBit i = true := by
        rw [Nat.testBit_xor]
        generalize (B.getD a 0).testBit i = u at z ⊢
        generalize (B.getD x 0).testBit i = v at z ⊢
        cases u <;> cases v <;> first | rfl | exact absurd rfl z
      rw [<- one_two q1 hm]
      have hax : a ≠ x := by rintro rfl; rw [ud_self] at q1; cases q1
      rw [mem_marksF]
      by_cases q : a < x
      · exact ⟨(a, x), (mem_tiesB (Nat.le_refl _)).mpr ⟨ha, q, hx, q1⟩, rfl⟩
      · exact ⟨(x, a), (mem_tiesB (Nat.le_refl _)).mpr ⟨hx, by show x < a; omega, ha, by rw [ud_comm]; exact q1⟩, Nat.xor_comm _ _⟩
theorem and_two_bit {x y i : Nat} : x &&& 2 ^ i = y &&& 2 ^ i ↔ x.testBit i = y.testBit i := by
  constructor
  · intro h
    have q := congrArg (fun z => z.testBit i) h
    simpa [Nat.testBit_and, Nat.testBit_two_pow] using q
  · intro h
    apply Nat.eq_of_testBit_eq
    intro j
    rw [Nat.testBit_and, Nat.testBit_and, Nat.testBit_two_pow]
    by_cases e : i = j
    · subst e; rw [h]
    · simp [e]
theorem hullQ_eq {B S : List Nat} (iso : Iso B) {s0 lo hi : Nat} (hS : ∀ s ∈ S, s < B.length) (h0 : s0 ∈ S) (hlo : LoOk B S lo) (hhi : HiOk B S hi) : hullQ B (marksF B (tiesB B B.length)) S s0 = hullP B lo hi := by
  unfold hullQ hullP
  refine List.filter_congr fun x hx => ?_
  rw [List.mem_range] at hx
  rw [Bool.eq_iff_iff, List.all_eq_true, Bool.and_eq_true, decide_eq_true_eq, decide_eq_true_eq, sub_lo, sub_hi]
  have hs0 := hS s0 h0
  have key : (∀ k ∈ numB B (marksF B (tiesB B B.length)) S s0, decide (rb B (marksF B (tiesB B B.length)) x k = rb B (marksF B (tiesB B B.length)) s0 k) = true) ↔
      ∀ i, (∀ s ∈ S, (B.getD s 0).testBit i = (B.getD s0 0).testBit i) -> (B.getD x 0).testBit i = (B.getD s0 0).testBit i := by
    constructor
    · intro h i hall
      refine Decidable.byContradiction fun ne => ?_
      have hm := bit_mark iso _ x s0 hx hs0 rfl ne
      obtain ⟨k, hk, ek⟩ := List.getElem_of_mem hm
      have ek' : (marksF B (tiesB B B.length))[k]? = some (2 ^ i) := by rw [List.getElem?_eq_getElem hk, ek]
      have hpc := mark_pc hm
      have hk' : k ∈ numB B (marksF B (tiesB B B.length)) S s0 := by
        unfold numB
        rw [List.mem_filter, List.mem_range, List.all_eq_true]
        refine ⟨hk, fun s hs => ?_⟩
        rw [decide_eq_true_eq, rb_side ek', side_eq hpc, and_two_bit]
        exact hall s hs
      have := h k hk'
      rw [decide_eq_true_eq, rb_side ek', side_eq hpc, and_two_bit] at this
      exact ne this
    · intro h k hk
      unfold numB at hk
      rw [List.mem_filter, List.mem_range, List.all_eq_true] at hk
      obtain ⟨hk1, hk2⟩ := hk
      have ek' : (marksF B (tiesB B B.length))[k]? = some (marksF B (tiesB B B.length))[k] := List.getElem?_eq_getElem hk1
      have hpc := mark_pc (List.getElem_mem hk1)
      rw [decide_eq_true_eq, rb_side ek', side_eq hpc]
      have hbit : ∀ i, (marksF B (tiesB B B.length))[k].testBit i = true -> (B.getD x 0).testBit i = (B.getD s0 0).testBit i := fun i hi' => h i fun s hs => by
        have := hk2 s hs
        rw [decide_eq_true_eq, rb_side ek', side_eq hpc, one_two hpc hi', and_two_bit] at this
        exact this
      apply Nat.eq_of_testBit_eq
      intro i
      rw [Nat.testBit_and, Nat.testBit_and]
      cases e : (marksF B (tiesB B B.length))[k].testBit i with
      | false => simp
      | true => rw [hbit i e]
  rw [key]
  constructor
  · intro h
    refine ⟨fun i e => ?_, fun i e => ?_⟩
    · have := (hlo i).mp e
      rw [h i fun s hs => by rw [this s hs, this s0 h0], this s0 h0]
    · refine Decidable.byContradiction fun ne => ?_
      have no : ∀ s ∈ S, (B.getD s 0).testBit i = false := fun s hs => by
        cases q : (B.getD s 0).testBit i with
        | false => rfl
        | true => exact absurd ((hhi i).mpr ⟨s, hs, q⟩) ne
      have := h i fun s hs => by rw [no s hs, no s0 h0]
      rw [no s0 h0, e] at this
      cases this
  · rintro ⟨h1, h2⟩ i hall
    cases e : (B.getD s0 0).testBit i with
    | true =>
      exact h1 i ((hlo i).mpr fun s hs => by rw [hall s hs, e])
    | false =>
      cases q : (B.getD x 0).testBit i with
      | false => rfl
      | true =>
        obtain ⟨s, hs, z⟩ := (hhi i).mp (h2 i q)
        rw [hall s hs, e] at z
        cases z
end Mw
set_option linter.all false
namespace Mw
end Mw
set_option linter.all false
namespace Mw
theorem pc_one_two {m : Nat} (h : pc m = 1) : ∃ i, m = 2 ^ i := by
  obtain ⟨i, hi⟩ : ∃ i, m.testBit i = true := by
    apply Classical.byContradiction
    intro z
    have : m = 0 := Nat.eq_of_testBit_eq fun i => by
      rw [Nat.zero_testBit]
      cases e : m.testBit i with
      | false => rfl
      | true => exact absurd ⟨i, e⟩ z
    rw [this] at h
    exact absurd h (by decide)
  exact ⟨i, one_two h hi⟩
end Mw
set_option linter.all false
namespace Mw
def goM (B Pe : List Nat) (x : Nat) : Nat := ((List.range B.length).map fun y => Pe.getD y 0 * ud (B.getD x 0) (B.getD y 0)).sum
def inM (Pe l : List Nat) : Nat := (l.map fun y => Pe.getD y 0).sum
theorem tie_mark {B : List Nat} {a x : Nat} (ha : a < B.length) (hx : x < B.length) (q1 : ud (B.getD a 0) (B.getD x 0) = 1) : B.getD a 0 ^^^ B.getD x 0 ∈ marksF B (tiesB B B.length) := by
  have hax : a ≠ x := by rintro rfl; rw [ud_self] at q1; cases q1
  rw [mem_marksF]
  by_cases q : a < x
  · exact ⟨(a, x), (mem_tiesB (Nat.le_refl _)).mpr ⟨ha, q, hx, q1⟩, rfl⟩
  · exact ⟨(x, a), (mem_tiesB (Nat.le_refl _)).mpr ⟨hx, by show x < a; omega, ha, by rw [ud_comm]; exact q1⟩, Nat.xor_comm _ _⟩
def opp (B Pe : List Nat) (x m : Nat) : Nat := inM Pe (if sideB B m x = true then secondH B m else firstH B m)
def own (B Pe : List Nat) (x m : Nat) : Nat := inM Pe (if sideB B m x = true then firstH B m else secondH B m)
end Mw
set_option linter.all false
namespace Mw
def ch : Nat -> Nat -> Nat
  | _, 0 => 1
  | 0, _ + 1 => 0
  | n + 1, k + 1 => ch n k + ch n (k + 1)
theorem ch_zero (n : Nat) : ch n 0 = 1 := by cases n <;> rfl
theorem ch_lt : ∀ {n k : Nat}, n < k -> ch n k = 0
  | n, 0, h => by omega
  | 0, k + 1, _ => rfl
  | n + 1, k + 1, h => by
    show ch n k + ch n (k + 1) = 0
    rw [ch_lt (by omega), ch_lt (by omega)]
theorem ch_pos : ∀ {n k : Nat}, k <= n -> 0 < ch n k
  | n, 0, _ => by rw [ch_zero]; decide
  | 0, k + 1, h => by omega
  | n + 1, k + 1, h => by
    show 0 < ch n k + ch n (k + 1)
    have := ch_pos (n := n) (k := k) (by omega)
    omega
theorem ch_step : ∀ (n k : Nat), ch n (k + 1) * (k + 1) + ch n k * k = ch n k * n
  | 0, 0 => rfl
  | 0, k + 1 => by show 0 * _ + 0 * _ = 0 * 0; simp
  | n + 1, 0 => by
    have := ch_step n 0
    rw [ch_zero] at this
    have e : ch (n + 1) (0 + 1) = ch n 0 + ch n 1 := rfl
    rw [ch_zero (n + 1), e, ch_zero]
    simp at this ⊢
    omega
  | n + 1, k + 1 => by
    have h1 := ch_step n k
    have h2 := ch_step n (k + 1)
    show (ch n (k + 1) + ch n (k + 2)) * (k + 2) + (ch n k + ch n (k + 1)) * (k + 1) = (ch n k + ch n (k + 1)) * (n + 1)
    generalize ch n k = a at *
    generalize ch n (k + 1) = b at *
    generalize ch n (k + 2) = c at *
    have e1 : b * (k + 1) + a * k = a * n := h1
    have e2 : c * (k + 1 + 1) + b * (k + 1) = b * n := h2
    have x1 : (b + c) * (k + 2) = b * (k + 1) + b + c * (k + 1 + 1) := by
      rw [Nat.add_mul, Nat.mul_succ b (k + 1)]
    have x2 : (a + b) * (k + 1) = a * k + a + b * (k + 1) := by rw [Nat.add_mul, Nat.mul_succ a k]
    have x3 : (a + b) * (n + 1) = a * n + a + (b * n + b) := by rw [Nat.add_mul, Nat.mul_succ, Nat.mul_succ]
    rw [x1, x2, x3]
    omega
theorem ch_bound : ∀ (n k : Nat), ch n k <= 2 ^ n
  | n, 0 => by rw [ch_zero]; exact Nat.one_le_two_pow
  | 0, k + 1 => by show 0 <= _; exact Nat.zero_le _
  | n + 1, k + 1 => by
    show ch n k + ch n (k + 1) <= _
    have h1 := ch_bound n k
    have h2 := ch_bound n (k + 1)
    rw [Nat.pow_succ]
    omega
def subs : Nat -> List Nat -> List (List Nat)
  | 0, _ => [[]]
  | _ + 1, [] => []
  | d + 1, m :: ms => (subs d ms).map (m :: ·) ++ subs (d + 1) ms
theorem subs_mem : ∀ {d : Nat} {ms S : List Nat}, S ∈ subs d ms -> S.Sublist ms
  | 0, ms, S, h => by
    have : S = [] := by simpa [subs] using h
    rw [this]
    exact List.nil_sublist _
  | d + 1, [], S, h => by simp [subs] at h
  | d + 1, m :: ms, S, h => by
    rcases List.mem_append.mp (show S ∈ (subs d ms).map (m :: ·) ++ subs (d + 1) ms from h) with q | q
    · obtain ⟨T, hT, rfl⟩ := List.mem_map.mp q
      exact (subs_mem hT).cons₂ m
    · exact (subs_mem q).cons m
theorem subs_all {p : Nat -> Bool} : ∀ (d : Nat) (ms : List Nat), ((subs d ms).filter fun S => S.all p).length = ch (ms.filter p).length d
  | 0, ms => by rw [ch_zero]; simp only [subs]; rfl
  | d + 1, [] => rfl
  | d + 1, m :: ms => by
    show (((subs d ms).map (m :: ·) ++ subs (d + 1) ms).filter fun S => S.all p).length = _
    rw [List.filter_append, List.length_append, subs_all (d + 1) ms, List.filter_map, List.length_map]
    cases h : p m with
    | true =>
      rw [List.filter_cons_of_pos h, List.length_cons]
      show _ = ch _ d + ch _ (d + 1)
      rw [<- subs_all d ms]
      congr 2
      refine List.filter_congr fun S _ => ?_
      show (m :: S).all p = S.all p
      rw [List.all_cons, h, Bool.true_and]
    | false =>
      rw [List.filter_cons_of_neg (by rw [h]; decide)]
      have e : (subs d ms).filter ((fun S => S.all p) ∘ fun x => m :: x) = [] := by
        rw [List.filter_eq_nil_iff]
        intro S _
        show ¬ (m :: S).all p = true
        rw [List.all_cons, h]
        simp
      rw [e]
      simp
def full (S : List Nat) : Nat := S.foldl (· ||| ·) 0
theorem full_bit (i : Nat) : ∀ (S : List Nat) (a : Nat), (S.foldl (· ||| ·) a).testBit i = true ↔ a.testBit i = true \/ ∃ m ∈ S, m.testBit i = true
  | [], a => by simp
  | m :: S, a => by
    rw [List.foldl_cons, full_bit i S, Nat.testBit_or, Bool.or_eq_true]
    constructor
    · rintro ((h | h) | ⟨q, hq, e⟩)
      · exact .inl h
      · exact .inr ⟨m, List.mem_cons_self, h⟩
      · exact .inr ⟨q, List.mem_cons_of_mem _ hq, e⟩
    · rintro (h | ⟨q, hq, e⟩)
      · exact .inl (.inl h)
      · rcases List.mem_cons.mp hq with rfl | hq
        · exact .inl (.inr e)
        · exact .inr ⟨q, hq, e⟩
theorem full_mem {S : List Nat} {i : Nat} : (full S).testBit i = true ↔ ∃ m ∈ S, m.testBit i = true := by
  unfold full
  rw [full_bit]
  simp
def Sub (u f : Nat) : Prop := ∀ i, u.testBit i = true -> f.testBit i = true
theorem Sub.xor {u v f : Nat} (h1 : Sub u f) (h2 : Sub v f) : Sub (u ^^^ v) f := fun i hi => by
  rw [Nat.testBit_xor] at hi
  cases a : u.testBit i with
  | true => exact h1 i a
  | false =>
    cases b : v.testBit i with
    | true => exact h2 i b
    | false => rw [a, b] at hi; cases hi
def Valid (B : List Nat) (x : Nat) (S : List Nat) : Prop := (∀ m ∈ S, x &&& m = 0) /\ ∀ u, Sub u (full S) -> x ^^^ u ∈ B
def Down (B : List Nat) (o y m : Nat) : Prop := y ^^^ m ∈ B /\ y &&& m ≠ o &&& m
theorem two_bits {u : Nat} (h : 2 <= pc u) : ∃ i j, i ≠ j /\ u.testBit i = true /\ u.testBit j = true := by
  have hu : u ≠ 0 := fun e => by rw [e] at h; simp [pc_zero] at h
  obtain ⟨i, hi⟩ := Nat.exists_testBit_of_ne_zero hu
  have hv : u ^^^ 2 ^ i ≠ 0 := fun e => by
    have : u = 2 ^ i := Nat.eq_of_testBit_eq fun k => by
      have q := congrArg (fun z => Nat.testBit z k) e
      simp only [Nat.testBit_xor, Nat.zero_testBit] at q
      revert q
      cases u.testBit k <;> cases (2 ^ i).testBit k <;> simp
    rw [this, pc_two] at h
    omega
  obtain ⟨j, hj⟩ := Nat.exists_testBit_of_ne_zero hv
  rw [Nat.testBit_xor, Nat.testBit_two_pow] at hj
  by_cases e : i = j
  · subst e
    rw [hi, decide_eq_true rfl] at hj
    cases hj
  · rw [decide_eq_false e] at hj
    exact ⟨i, j, e, hi, by simpa using hj⟩
theorem pc_less {u i : Nat} (h : u.testBit i = true) : pc (u ^^^ 2 ^ i) < pc u := by
  have q := pc_sum u (2 ^ i)
  have e : u &&& 2 ^ i = 2 ^ i := Nat.eq_of_testBit_eq fun k => by
    rw [Nat.testBit_and, Nat.testBit_two_pow]
    by_cases z : i = k
    · subst z; rw [h]; simp
    · rw [decide_eq_false z]; simp
  rw [e, pc_two] at q
  omega
theorem down_all {B S : List Nat} {o y : Nat} (med : Med B) (ho : o ∈ B) (hy : y ∈ B) (hS : ∀ m ∈ S, pc m = 1) (h : ∀ m ∈ S, Down B o y m) : ∀ (n u : Nat), pc u <= n -> Sub u (full S) -> y ^^^ u ∈ B := by
  have bit : ∀ i, (full S).testBit i = true -> 2 ^ i ∈ S := fun i hi => by
    obtain ⟨m, hm, e⟩ := full_mem.mp hi
    obtain ⟨k, rfl⟩ := pc_one_two (hS m hm)
    rw [Nat.testBit_two_pow] at e
    rw [<- of_decide_eq_true e]
    exact hm
  have opp : ∀ i, (full S).testBit i = true -> y.testBit i ≠ o.testBit i := fun i hi e => by
    refine (h _ (bit i hi)).2 (Nat.eq_of_testBit_eq fun k => ?_)
    rw [Nat.testBit_and, Nat.testBit_and, Nat.testBit_two_pow]
    by_cases z : i = k
    · subst z; rw [e]
    · rw [decide_eq_false z]; simp
  intro n
  induction n with
  | zero =>
    intro u hu _
    have : u = 0 := pc_pos u (by omega)
    rw [this, Nat.xor_zero]
    exact hy
  | succ n ih =>
    intro u hu sub
    by_cases h2 : 2 <= pc u
    · obtain ⟨i, j, ne, hi, hj⟩ := two_bits h2
      have sa : Sub (u ^^^ 2 ^ j) (full S) := sub.xor fun k hk => by
        rw [Nat.testBit_two_pow] at hk
        rw [<- of_decide_eq_true hk]
        exact sub j hj
      have sb : Sub (u ^^^ 2 ^ i) (full S) := sub.xor fun k hk => by
        rw [Nat.testBit_two_pow] at hk
        rw [<- of_decide_eq_true hk]
        exact sub i hi
      have ma := ih _ (by have := pc_less hj; omega) sa
      have mb := ih _ (by have := pc_less hi; omega) sb
      have mm := med.med _ ma _ mb _ ho
      have e : maj (y ^^^ (u ^^^ 2 ^ j)) (y ^^^ (u ^^^ 2 ^ i)) o = y ^^^ u := Nat.eq_of_testBit_eq fun k => by
        rw [maj_bit]
        simp only [Nat.testBit_xor, Nat.testBit_two_pow]
        by_cases zi : i = k
        · subst zi
          have q := opp i (sub i hi)
          rw [hi, decide_eq_true rfl, decide_eq_false (Ne.symm ne)]
          revert q
          cases y.testBit i <;> cases o.testBit i <;> simp
        · by_cases zj : j = k
          · subst zj
            have q := opp j (sub j hj)
            rw [hj, decide_eq_true rfl, decide_eq_false ne]
            revert q
            cases y.testBit j <;> cases o.testBit j <;> simp
          · rw [decide_eq_false zi, decide_eq_false zj]
            cases y.testBit k <;> cases u.testBit k <;> cases o.testBit k <;> rfl
      rw [<- e]
      exact mm
    · by_cases h0 : pc u = 0
      · have : u = 0 := pc_pos u h0
        rw [this, Nat.xor_zero]
        exact hy
      · obtain ⟨i, rfl⟩ := pc_one_two (show pc u = 1 by omega)
        exact (h _ (bit i (sub i (by rw [Nat.testBit_two_pow]; simp)))).1
def tip (o : Nat) (S : List Nat) : Nat := full (S.filter fun m => decide (o &&& m = 0))
theorem tip_sub (o : Nat) (S : List Nat) : Sub (tip o S) (full S) := fun i hi => by
  obtain ⟨m, hm, e⟩ := full_mem.mp hi
  exact full_mem.mpr ⟨m, (List.mem_filter.mp hm).1, e⟩
theorem tip_bit {o : Nat} {S : List Nat} (hS : ∀ m ∈ S, pc m = 1) {i : Nat} (hi : (full S).testBit i = true) : (tip o S).testBit i = !o.testBit i := by
  obtain ⟨m, hm, e⟩ := full_mem.mp hi
  obtain ⟨k, rfl⟩ := pc_one_two (hS m hm)
  rw [Nat.testBit_two_pow] at e
  have ek := of_decide_eq_true e
  subst ek
  have and0 : o &&& 2 ^ k = 0 ↔ o.testBit k = false := by
    constructor
    · intro h
      have := congrArg (fun z => Nat.testBit z k) h
      simp only [Nat.testBit_and, Nat.testBit_two_pow, Nat.zero_testBit] at this
      simpa using this
    · intro h
      refine Nat.eq_of_testBit_eq fun q => ?_
      rw [Nat.testBit_and, Nat.testBit_two_pow, Nat.zero_testBit]
      by_cases z : k = q
      · subst z; rw [h]; rfl
      · rw [decide_eq_false z]; simp
  cases c : o.testBit k with
  | false => exact full_mem.mpr ⟨_, List.mem_filter.mpr ⟨hm, decide_eq_true (and0.mpr c)⟩, by rw [Nat.testBit_two_pow]; simp⟩
  | true =>
    cases d : (tip o S).testBit k with
    | false => rfl
    | true =>
      obtain ⟨m', hm', e'⟩ := full_mem.mp d
      obtain ⟨h1, h2⟩ := List.mem_filter.mp hm'
      obtain ⟨k', rfl⟩ := pc_one_two (hS m' h1)
      rw [Nat.testBit_two_pow] at e'
      have := of_decide_eq_true e'
      subst this
      have z := and0.mp (of_decide_eq_true h2)
      rw [c] at z
      cases z
theorem valid_down {B S : List Nat} {o x : Nat} (hS : ∀ m ∈ S, pc m = 1) (h : Valid B x S) : x ^^^ tip o S ∈ B /\ ∀ m ∈ S, Down B o (x ^^^ tip o S) m := by
  refine ⟨h.2 _ (tip_sub o S), fun m hm => ?_⟩
  obtain ⟨k, rfl⟩ := pc_one_two (hS m hm)
  have hk : (full S).testBit k = true := full_mem.mpr ⟨_, hm, by rw [Nat.testBit_two_pow]; simp⟩
  refine ⟨?_, fun e => ?_⟩
  · rw [Nat.xor_assoc]
    refine h.2 _ ((tip_sub o S).xor fun i hi => ?_)
    rw [Nat.testBit_two_pow] at hi
    rw [<- of_decide_eq_true hi]
    exact hk
  · have e2 := congrArg (fun z => Nat.testBit z k) e
    have x0 := congrArg (fun z => Nat.testBit z k) (h.1 _ hm)
    simp only [Nat.testBit_and, Nat.testBit_xor, Nat.testBit_two_pow, Nat.zero_testBit] at e2 x0
    rw [tip_bit hS hk] at e2
    revert e2 x0
    cases x.testBit k <;> cases o.testBit k <;> simp
theorem down_valid {B S : List Nat} {o y : Nat} (med : Med B) (ho : o ∈ B) (hy : y ∈ B) (hS : ∀ m ∈ S, pc m = 1) (h : ∀ m ∈ S, Down B o y m) : y ^^^ tip o S ∈ B /\ Valid B (y ^^^ tip o S) S := by
  have key := down_all med ho hy hS h
  refine ⟨key _ _ (Nat.le_refl _) (tip_sub o S), fun m hm => ?_, fun u hu => ?_⟩
  · obtain ⟨k, rfl⟩ := pc_one_two (hS m hm)
    have hk : (full S).testBit k = true := full_mem.mpr ⟨_, hm, by rw [Nat.testBit_two_pow]; simp⟩
    have ne := (h _ hm).2
    refine Nat.eq_of_testBit_eq fun i => ?_
    rw [Nat.testBit_and, Nat.testBit_xor, Nat.testBit_two_pow, Nat.zero_testBit]
    by_cases z : k = i
    · subst z
      rw [tip_bit hS hk]
      have q : y.testBit k ≠ o.testBit k := fun e => ne (Nat.eq_of_testBit_eq fun i => by
        rw [Nat.testBit_and, Nat.testBit_and, Nat.testBit_two_pow]
        by_cases z : k = i
        · subst z; rw [e]
        · rw [decide_eq_false z]; simp)
      revert q
      cases y.testBit k <;> cases o.testBit k <;> simp
    · rw [decide_eq_false z]; simp
  · rw [Nat.xor_assoc]
    exact key _ _ (Nat.le_refl _) ((tip_sub o S).xor hu)
theorem sub_lenN : ∀ {l m : List Nat}, l.Nodup -> (∀ x ∈ l, x ∈ m) -> l.length <= m.length
  | [], _, _, _ => Nat.zero_le _
  | x :: l, m, nd, h => by
    rw [List.nodup_cons] at nd
    have hx := h x List.mem_cons_self
    have ih := sub_lenN (l := l) (m := m.erase x) nd.2 fun y hy => by
      have ne : y ≠ x := fun e => nd.1 (e ▸ hy)
      exact (List.mem_erase_of_ne ne).mpr (h y (List.mem_cons_of_mem _ hy))
    rw [List.length_erase_of_mem hx] at ih
    have := List.length_pos_of_mem hx
    rw [List.length_cons]
    omega
theorem xor_cancel (a c : Nat) : (a ^^^ c) ^^^ c = a := by rw [Nat.xor_assoc, Nat.xor_self, Nat.xor_zero]
theorem map_xor_nodup {l : List Nat} (h : l.Nodup) (c : Nat) : (l.map (· ^^^ c)).Nodup := by
  rw [List.nodup_iff_pairwise_ne, List.pairwise_map]
  rw [List.nodup_iff_pairwise_ne] at h
  refine h.imp fun {a b} ne e => ne ?_
  have := congrArg (· ^^^ c) e
  simpa only [xor_cancel] using this
open Classical in
theorem valid_count {B S : List Nat} {o : Nat} (med : Med B) (ho : o ∈ B) (hS : ∀ m ∈ S, pc m = 1) : (B.filter fun x => decide (Valid B x S)).length = (B.filter fun y => decide (∀ m ∈ S, Down B o y m)).length := by
  have n1 : (B.filter fun x => decide (Valid B x S)).Nodup := med.nd.filter _
  have n2 : (B.filter fun y => decide (∀ m ∈ S, Down B o y m)).Nodup := med.nd.filter _
  apply Nat.le_antisymm
  · have := sub_lenN (map_xor_nodup n1 (tip o S)) (m := B.filter fun y => decide (∀ m ∈ S, Down B o y m)) fun z hz => by
      obtain ⟨x, hx, rfl⟩ := List.mem_map.mp hz
      obtain ⟨h1, h2⟩ := List.mem_filter.mp hx
      obtain ⟨q1, q2⟩ := valid_down (o := o) hS (of_decide_eq_true h2)
      exact List.mem_filter.mpr ⟨q1, decide_eq_true q2⟩
    rw [List.length_map] at this
    exact this
  · have := sub_lenN (map_xor_nodup n2 (tip o S)) (m := B.filter fun x => decide (Valid B x S)) fun z hz => by
      obtain ⟨y, hy, rfl⟩ := List.mem_map.mp hz
      obtain ⟨h1, h2⟩ := List.mem_filter.mp hy
      obtain ⟨q1, q2⟩ := down_valid med ho h1 hS (of_decide_eq_true h2)
      exact List.mem_filter.mpr ⟨q1, decide_eq_true q2⟩
    rw [List.length_map] at this
    exact this
theorem len_sum {α : Type} (f : α -> Bool) : ∀ l : List α, (l.filter f).length = (l.map fun x => if f x then 1 else 0).sum
  | [] => rfl
  | x :: l => by
    rw [List.map_cons, List.sum_cons, <- len_sum f l, List.filter_cons]
    cases f x <;> simp
    omega
theorem sum_add2 {α : Type} (f g : α -> Nat) : ∀ l : List α, (l.map fun x => f x + g x).sum = (l.map f).sum + (l.map g).sum
  | [] => rfl
  | x :: l => by rw [List.map_cons, List.sum_cons, List.map_cons, List.sum_cons, List.map_cons, List.sum_cons, sum_add2 f g l]; omega
theorem sum_swap2 {α β : Type} (g : α -> β -> Nat) (M : List β) : ∀ L : List α, (L.map fun y => (M.map fun m => g y m).sum).sum = (M.map fun m => (L.map fun y => g y m).sum).sum
  | [] => by
    show 0 = _
    induction M with
    | nil => rfl
    | cons m M ih => rw [List.map_cons, List.sum_cons, <- ih]; rfl
  | y :: L => by
    rw [List.map_cons, List.sum_cons, sum_swap2 g M L, <- sum_add2]
    congr 1
theorem swap_count {α β : Type} (p : α -> β -> Bool) (L : List α) (M : List β) : (L.map fun x => (M.filter (p x)).length).sum = (M.map fun m => (L.filter fun x => p x m).length).sum := by
  have h := sum_swap2 (fun x m => if p x m then 1 else 0) M L
  have e1 : (L.map fun x => (M.filter (p x)).length) = L.map fun y => (M.map fun m => if p y m then 1 else 0).sum := List.map_congr_left fun x _ => len_sum _ _
  have e2 : (M.map fun m => (L.filter fun x => p x m).length) = M.map fun m => (L.map fun y => if p y m then 1 else 0).sum := List.map_congr_left fun m _ => len_sum _ _
  rw [e1, e2]
  exact h
open Classical in
theorem cubes_two {B ms : List Nat} {o : Nat} (med : Med B) (ho : o ∈ B) (hm : ∀ m ∈ ms, pc m = 1) (d : Nat) : (B.map fun x => ((subs d ms).filter fun S => decide (Valid B x S)).length).sum = (B.map fun y => ch (ms.filter fun m => decide (Down B o y m)).length d).sum := by
  rw [swap_count (fun x S => decide (Valid B x S))]
  have e : ((subs d ms).map fun S => (B.filter fun x => decide (Valid B x S)).length) = (subs d ms).map fun S => (B.filter fun y => S.all fun m => decide (Down B o y m)).length := by
    refine List.map_congr_left fun S hS => ?_
    rw [valid_count med ho fun m h => hm m ((subs_mem hS).mem h)]
    congr 1
    refine List.filter_congr fun y _ => ?_
    rw [Bool.eq_iff_iff, decide_eq_true_eq, List.all_eq_true]
    exact ⟨fun h m hm => decide_eq_true (h m hm), fun h m hm => of_decide_eq_true (h m hm)⟩
  have sw := swap_count (α := Nat) (β := List Nat) (fun y S => S.all fun m => decide (Down B o y m)) B (subs d ms)
  rw [e]
  refine sw.symm.trans ?_
  congr 1
  exact List.map_congr_left fun y _ => subs_all d ms
theorem ud_flip {o y m : Nat} (hm : pc m = 1) : ud o (y ^^^ m) < ud o y ↔ y &&& m ≠ o &&& m := by
  obtain ⟨k, rfl⟩ := pc_one_two hm
  unfold ud
  have s := pc_sum (o ^^^ y) (2 ^ k)
  rw [Nat.xor_assoc, pc_two] at s
  have bitk : ∀ z : Nat, z &&& 2 ^ k = if z.testBit k then 2 ^ k else 0 := fun z => Nat.eq_of_testBit_eq fun i => by
    rw [Nat.testBit_and, Nat.testBit_two_pow]
    by_cases e : k = i
    · subst e
      cases c : z.testBit k <;> simp
    · rw [decide_eq_false e]
      cases z.testBit k <;> simp [e]
  have kk : (2 ^ k : Nat) ≠ 0 := Nat.pos_iff_ne_zero.mp (Nat.pow_pos (by decide))
  rw [bitk] at s
  rw [bitk y, bitk o]
  rw [Nat.testBit_xor] at s
  cases a : o.testBit k <;> cases b : y.testBit k <;> simp [a, b, pc_two, pc_zero, kk] at s ⊢ <;> omega
open Classical in
theorem near_down {B : List Nat} {g : List (List Nat)} (iso : Iso B) (hg : IsWeb g B) (nd : ∀ p, (g.getD p []).Nodup) {x : Nat} (hx : x < B.length) :
    ((g.getD x []).filter fun z => decide (ud (B.getD 0 0) (B.getD z 0) < ud (B.getD 0 0) (B.getD x 0))).length = ((marksF B (tiesB B B.length)).filter fun m => decide (Down B (B.getD 0 0) (B.getD x 0) m)).length := by
  have row : ∀ z, z ∈ g.getD x [] ↔ z < B.length /\ ud (B.getD x 0) (B.getD z 0) = 1 := fun z => by
    rw [hg.2 x z]
    exact ⟨fun h => h.2, fun h => ⟨hx, h⟩⟩
  have back : ∀ z : Nat, B.getD x 0 ^^^ (B.getD x 0 ^^^ B.getD z 0) = B.getD z 0 := fun z => by rw [<- Nat.xor_assoc, Nat.xor_self, Nat.zero_xor]
  have n1 : (((g.getD x []).filter fun z => decide (ud (B.getD 0 0) (B.getD z 0) < ud (B.getD 0 0) (B.getD x 0))).map fun z => B.getD x 0 ^^^ B.getD z 0).Nodup := by
    rw [List.nodup_iff_pairwise_ne, List.pairwise_map]
    have := (nd x).filter fun z => decide (ud (B.getD 0 0) (B.getD z 0) < ud (B.getD 0 0) (B.getD x 0))
    refine List.Pairwise.imp_of_mem ?_ this
    intro a b ha hb ne e
    have q := congrArg (fun z => B.getD x 0 ^^^ z) e
    simp only [back] at q
    exact ne (getD_inj iso.nd ((row a).mp (List.mem_filter.mp ha).1).1 ((row b).mp (List.mem_filter.mp hb).1).1 q)
  have n2 : ((marksF B (tiesB B B.length)).filter fun m => decide (Down B (B.getD 0 0) (B.getD x 0) m)).Nodup := (marksF_nodup B _).filter _
  apply Nat.le_antisymm
  · have := sub_lenN n1 (m := (marksF B (tiesB B B.length)).filter fun m => decide (Down B (B.getD 0 0) (B.getD x 0) m)) fun m hm => by
      obtain ⟨z, hz, rfl⟩ := List.mem_map.mp hm
      obtain ⟨h1, h2⟩ := List.mem_filter.mp hz
      obtain ⟨h3, h4⟩ := (row z).mp h1
      have mk := tie_mark hx h3 h4
      refine List.mem_filter.mpr ⟨mk, decide_eq_true ⟨by rw [back]; exact getD_mem h3, ?_⟩⟩
      have q := of_decide_eq_true h2
      rw [<- back z] at q
      exact (ud_flip h4).mp q
    rw [List.length_map] at this
    exact this
  · have := sub_lenN n2 (m := ((g.getD x []).filter fun z => decide (ud (B.getD 0 0) (B.getD z 0) < ud (B.getD 0 0) (B.getD x 0))).map fun z => B.getD x 0 ^^^ B.getD z 0) fun m hm => by
      obtain ⟨h1, h2⟩ := List.mem_filter.mp hm
      have d : Down B (B.getD 0 0) (B.getD x 0) m := of_decide_eq_true h2
      obtain ⟨z, hz, ez⟩ := mem_getD d.1
      have p1 := mark_pc h1
      have e1 : B.getD x 0 ^^^ B.getD z 0 = m := by rw [ez, <- Nat.xor_assoc, Nat.xor_self, Nat.zero_xor]
      refine List.mem_map.mpr ⟨z, List.mem_filter.mpr ⟨(row z).mpr ⟨hz, by unfold ud; rw [e1]; exact p1⟩, decide_eq_true ?_⟩, e1⟩
      rw [ez]
      exact (ud_flip p1).mpr d.2
    rw [List.length_map] at this
    exact this
end Mw
set_option linter.all false
namespace Mw
structure Mv (B C O : List Nat) : Prop where
  len : C.length = B.length
  ol : O.length = B.length
  pm : O.Perm (List.range B.length)
  eq : ∀ x, x < B.length -> C.getD (O.getD x 0) 0 = B.getD x 0
theorem perm_sum {a b : List Nat} (p : a.Perm b) : a.sum = b.sum := by
  induction p with
  | nil => rfl
  | cons x _ ih => simp only [List.sum_cons, ih]
  | swap x y l => simp only [List.sum_cons]; omega
  | trans _ _ i j => exact i.trans j
def mvB (B O : List Nat) : List Nat := (List.range B.length).map fun y => B.getD (O.idxOf y) 0
theorem getD_lt {l : List Nat} {x : Nat} (h : x < l.length) : l.getD x 0 = l[x] := by rw [List.getD_eq_getElem?_getD, List.getElem?_eq_getElem h]; rfl
theorem Mv.make {B O : List Nat} (p : O.Perm (List.range B.length)) : Mv B (mvB B O) O := by
  have hl : O.length = B.length := by rw [p.length_eq, List.length_range]
  refine ⟨by unfold mvB; rw [List.length_map, List.length_range], hl, p, fun x hx => ?_⟩
  have hx' : x < O.length := by omega
  have hm : O[x] < B.length := List.mem_range.mp (p.mem_iff.mp (List.getElem_mem hx'))
  rw [getD_lt hx']
  unfold mvB
  rw [List.getD_eq_getElem?_getD, List.getElem?_map, List.getElem?_range hm]
  have nd : O.Nodup := p.nodup_iff.mpr List.nodup_range
  show B.getD (O.idxOf O[x]) 0 = _
  rw [nd.idxOf_getElem]
section
variable {B C O : List Nat} (h : Mv B C O)
include h
theorem Mv.lt {x : Nat} (hx : x < B.length) : O.getD x 0 < B.length := by
  have hx' : x < O.length := by rw [h.ol]; exact hx
  rw [getD_lt hx']
  exact List.mem_range.mp (h.pm.mem_iff.mp (List.getElem_mem hx'))
theorem Mv.inj {x y : Nat} (hx : x < B.length) (hy : y < B.length) (e : O.getD x 0 = O.getD y 0) : x = y :=
  getD_inj (h.pm.nodup_iff.mpr List.nodup_range) (by rw [h.ol]; exact hx) (by rw [h.ol]; exact hy) e
theorem Mv.sur {y : Nat} (hy : y < B.length) : ∃ x, x < B.length /\ O.getD x 0 = y := by
  obtain ⟨x, hx, e⟩ := mem_getD (h.pm.mem_iff.mpr (List.mem_range.mpr hy))
  exact ⟨x, by rw [<- h.ol]; exact hx, e⟩
theorem Mv.rng : ((List.range B.length).map fun x => O.getD x 0).Perm (List.range B.length) := by
  have e : ((List.range B.length).map fun x => O.getD x 0) = O := by
    rw [<- h.ol]; exact range_getD O
  rw [e]; exact h.pm
theorem Mv.sum (f : Nat -> Nat) : ((List.range B.length).map f).sum = ((List.range B.length).map fun x => f (O.getD x 0)).sum := by
  have := perm_sum (h.rng.map f)
  rw [List.map_map] at this
  exact this.symm
theorem Mv.bits : C.Perm B := by
  have e1 := range_getD C
  have e2 := range_getD B
  rw [h.len] at e1
  rw [<- e1]
  refine (h.rng.map fun x => C.getD x 0).symm.trans ?_
  rw [List.map_map]
  rw [show (List.range B.length).map ((fun x => C.getD x 0) ∘ fun x => O.getD x 0) = (List.range B.length).map (fun x => B.getD x 0) from List.map_congr_left fun x hx => h.eq x (List.mem_range.mp hx)]
  rw [e2]
theorem Mv.mem {v : Nat} : v ∈ C ↔ v ∈ B := h.bits.mem_iff
theorem Mv.med (m : Med B) : Med C := m.perm h.bits
theorem Mv.ud {x y : Nat} (hx : x < B.length) (hy : y < B.length) : ud (C.getD (O.getD x 0) 0) (C.getD (O.getD y 0) 0) = ud (B.getD x 0) (B.getD y 0) := by rw [h.eq x hx, h.eq y hy]
theorem Mv.tied {ts : List (Nat × Nat)} (ht : ∀ t ∈ ts, t.1 < B.length /\ t.2 < B.length) {p q : Nat} (hp : p < B.length) (hq : q < B.length) : tied (ts.map fun t => (O.getD t.1 0, O.getD t.2 0)) (O.getD p 0) (O.getD q 0) = tied ts p q := by
  rw [Bool.eq_iff_iff, tied_iff, tied_iff]
  have key : ∀ {a b : Nat}, a < B.length -> b < B.length -> ((O.getD a 0, O.getD b 0) ∈ ts.map (fun t => (O.getD t.1 0, O.getD t.2 0)) ↔ (a, b) ∈ ts) := fun {a b} ha hb => by
    rw [List.mem_map]
    constructor
    · rintro ⟨⟨x, y⟩, hm, e⟩
      injection e with e1 e2
      obtain ⟨h1, h2⟩ := ht _ hm
      rw [<- h.inj h1 ha e1, <- h.inj h2 hb e2]
      exact hm
    · exact fun hm => ⟨_, hm, rfl⟩
  rw [key hp hq, key hq hp]
theorem Mv.ok {ts : List (Nat × Nat)} (hok : okSeq B.length ts) : okSeq B.length (ts.map fun t => (O.getD t.1 0, O.getD t.2 0)) := by
  intro i t e
  rw [List.getElem?_map] at e
  cases ei : ts[i]? with
  | none => rw [ei] at e; cases e
  | some u =>
    rw [ei] at e
    cases e
    obtain ⟨h1, h2, h3, h4⟩ := hok i u ei
    refine ⟨h.lt h1, h.lt h2, fun q => h3 (h.inj h1 h2 q), ?_⟩
    show Mw.tied ((ts.map fun t => (O.getD t.1 0, O.getD t.2 0)).take i) (O.getD u.1 0) (O.getD u.2 0) = false
    rw [<- List.map_take, h.tied (fun t ht => ?_) h1 h2, h4]
    obtain ⟨j, hj, rfl⟩ := List.getElem_of_mem (List.mem_of_mem_take ht)
    obtain ⟨q1, q2, _⟩ := hok j ts[j] (List.getElem?_eq_getElem hj)
    exact ⟨q1, q2⟩
theorem Mv.web {ts : List (Nat × Nat)} (ht : ∀ t ∈ ts, t.1 < B.length /\ t.2 < B.length) (hw : IsWeb (webL B.length ts) B) : IsWeb (webL B.length (ts.map fun t => (O.getD t.1 0, O.getD t.2 0))) C := by
  have row : ∀ (us : List (Nat × Nat)) (x y : Nat), y ∈ (webL B.length us).getD x [] ↔ x < B.length /\ y < B.length /\ Mw.tied us x y = true := fun us x y => by
    unfold webL
    by_cases hx : x < B.length
    · rw [List.getD_eq_getElem?_getD, List.getElem?_map, List.getElem?_range hx]
      show y ∈ nbr B.length us x ↔ _
      unfold nbr
      rw [List.mem_filter, List.mem_range]
      exact ⟨fun q => ⟨hx, q⟩, fun q => q.2⟩
    · rw [List.getD_eq_getElem?_getD, List.getElem?_eq_none (by rw [List.length_map, List.length_range]; omega)]
      simp [hx]
  refine ⟨by unfold webL; rw [List.length_map, List.length_range, h.len], fun x' y' => ?_⟩
  rw [row, h.len]
  constructor
  · rintro ⟨hx, hy, q⟩
    obtain ⟨x, hx1, rfl⟩ := h.sur hx
    obtain ⟨y, hy1, rfl⟩ := h.sur hy
    rw [h.tied ht hx1 hy1] at q
    exact ⟨hx, hy, by rw [h.ud hx1 hy1]; exact ((hw.2 x y).mp ((row ts x y).mpr ⟨hx1, hy1, q⟩)).2.2⟩
  · rintro ⟨hx, hy, q⟩
    obtain ⟨x, hx1, rfl⟩ := h.sur hx
    obtain ⟨y, hy1, rfl⟩ := h.sur hy
    rw [h.ud hx1 hy1] at q
    refine ⟨hx, hy, ?_⟩
    rw [h.tied ht hx1 hy1]
    exact ((row ts x y).mp ((hw.2 x y).mpr ⟨hx1, hy1, q⟩)).2.2
theorem Mv.mark {m : Nat} : m ∈ marksF C (tiesB C C.length) ↔ m ∈ marksF B (tiesB B B.length) := by
  have tie : ∀ (D : List Nat), m ∈ marksF D (tiesB D D.length) ↔ ∃ a b, a ∈ D /\ b ∈ D /\ Mw.ud a b = 1 /\ a ^^^ b = m := fun D => by
    rw [mem_marksF]
    constructor
    · rintro ⟨t, ht, e⟩
      obtain ⟨h1, h2, h3, h4⟩ := (mem_tiesB (Nat.le_refl _)).mp ht
      exact ⟨_, _, getD_mem h1, getD_mem h3, h4, e⟩
    · rintro ⟨a, b, ha, hb, q, e⟩
      obtain ⟨x, hx, rfl⟩ := mem_getD ha
      obtain ⟨y, hy, rfl⟩ := mem_getD hb
      have := tie_mark hx hy q
      rw [e] at this
      exact mem_marksF.mp this
  rw [tie C, tie B]
  constructor
  · rintro ⟨a, b, ha, hb, q⟩; exact ⟨a, b, h.mem.mp ha, h.mem.mp hb, q⟩
  · rintro ⟨a, b, ha, hb, q⟩; exact ⟨a, b, h.mem.mpr ha, h.mem.mpr hb, q⟩
theorem Mv.marks : (marksF C (tiesB C C.length)).Perm (marksF B (tiesB B B.length)) :=
  (List.perm_ext_iff_of_nodup (marksF_nodup _ _) (marksF_nodup _ _)).mpr fun m => h.mark
theorem Mv.go {Pe Pf : List Nat} (hp : ∀ x, x < B.length -> Pf.getD (O.getD x 0) 0 = Pe.getD x 0) {x : Nat} (hx : x < B.length) : goM C Pf (O.getD x 0) = goM B Pe x := by
  unfold goM
  rw [h.len, h.sum]
  congr 1
  refine List.map_congr_left fun y hy => ?_
  have hy' := List.mem_range.mp hy
  show Pf.getD (O.getD y 0) 0 * _ = _
  rw [hp y hy', h.ud hx hy']
open Classical in
theorem Mv.cubes (med : Med B) (hn : 1 <= B.length) (d : Nat) :
    (C.map fun y => ch ((marksF C (tiesB C C.length)).filter fun m => decide (Down C (C.getD 0 0) y m)).length d).sum = (B.map fun y => ch ((marksF B (tiesB B B.length)).filter fun m => decide (Down B (B.getD 0 0) y m)).length d).sum := by
  have o1 : C.getD 0 0 ∈ B := h.mem.mp (getD_mem (by rw [h.len]; omega))
  have o2 : B.getD 0 0 ∈ B := getD_mem (by omega)
  have hm : ∀ m ∈ marksF B (tiesB B B.length), pc m = 1 := fun m hm => mark_pc hm
  have dn : ∀ y m, Down C (C.getD 0 0) y m ↔ Down B (C.getD 0 0) y m := fun y m => by unfold Down; rw [h.mem]
  have e1 : (C.map fun y => ch ((marksF C (tiesB C C.length)).filter fun m => decide (Down C (C.getD 0 0) y m)).length d) = C.map fun y => ch ((marksF B (tiesB B B.length)).filter fun m => decide (Down B (C.getD 0 0) y m)).length d := by
    refine List.map_congr_left fun y _ => ?_
    have := (h.marks.filter fun m => decide (Down C (C.getD 0 0) y m)).length_eq
    rw [this]
    congr 2
    exact List.filter_congr fun m _ => by rw [Bool.eq_iff_iff, decide_eq_true_eq, decide_eq_true_eq, dn]
  rw [e1, perm_sum (h.bits.map fun y => ch ((marksF B (tiesB B B.length)).filter fun m => decide (Down B (C.getD 0 0) y m)).length d)]
  rw [<- cubes_two med o1 hm d, <- cubes_two med o2 hm d]
theorem Mv.side {m : Nat} (hm : pc m = 1) (hn : 1 <= B.length) : (∀ x, x < B.length -> sideB C m (O.getD x 0) = sideB B m x) \/ ∀ x, x < B.length -> sideB C m (O.getD x 0) = !sideB B m x := by
  have key : ∀ x, x < B.length -> (sideB C m (O.getD x 0) = true ↔ B.getD x 0 &&& m = C.getD 0 0 &&& m) := fun x hx => by unfold sideB; rw [decide_eq_true_eq, h.eq x hx]
  by_cases e : C.getD 0 0 &&& m = B.getD 0 0 &&& m
  · refine .inl fun x hx => ?_
    rw [Bool.eq_iff_iff, key x hx, e]
    unfold sideB
    rw [decide_eq_true_eq]
  · refine .inr fun x hx => ?_
    rw [Bool.eq_iff_iff, key x hx, side_flip hm e]
    unfold sideB
    simp
theorem Mv.lo {S : List Nat} {lo : Nat} (hS : ∀ s ∈ S, s < B.length) (l : LoOk B S lo) : LoOk C (S.map fun s => O.getD s 0) lo := fun i => by
  rw [l i]
  constructor
  · rintro q s' hs'
    obtain ⟨s, hs, rfl⟩ := List.mem_map.mp hs'
    rw [h.eq s (hS s hs)]; exact q s hs
  · intro q s hs
    have := q _ (List.mem_map.mpr ⟨s, hs, rfl⟩)
    rw [h.eq s (hS s hs)] at this
    exact this
theorem Mv.hi {S : List Nat} {hi : Nat} (hS : ∀ s ∈ S, s < B.length) (l : HiOk B S hi) : HiOk C (S.map fun s => O.getD s 0) hi := fun i => by
  rw [l i]
  constructor
  · rintro ⟨s, hs, q⟩
    exact ⟨_, List.mem_map.mpr ⟨s, hs, rfl⟩, by rw [h.eq s (hS s hs)]; exact q⟩
  · rintro ⟨s', hs', q⟩
    obtain ⟨s, hs, rfl⟩ := List.mem_map.mp hs'
    rw [h.eq s (hS s hs)] at q
    exact ⟨s, hs, q⟩
theorem Mv.hull {lo hi : Nat} : (∀ y, y ∈ hullP C lo hi ↔ ∃ x ∈ hullP B lo hi, O.getD x 0 = y) /\ (hullP C lo hi).Perm ((hullP B lo hi).map fun x => O.getD x 0) := by
  have mm : ∀ y, y ∈ hullP C lo hi ↔ ∃ x ∈ hullP B lo hi, O.getD x 0 = y := fun y => by
    rw [mem_hullP, h.len]
    constructor
    · rintro ⟨hy, q⟩
      obtain ⟨x, hx, rfl⟩ := h.sur hy
      rw [h.eq x hx] at q
      exact ⟨x, mem_hullP.mpr ⟨hx, q⟩, rfl⟩
    · rintro ⟨x, hx, rfl⟩
      obtain ⟨hx, q⟩ := mem_hullP.mp hx
      rw [h.eq x hx]
      exact ⟨h.lt hx, q⟩
  refine ⟨mm, (List.perm_ext_iff_of_nodup (show (hullP C lo hi).Nodup from List.nodup_range.filter _) ?_).mpr fun y => by rw [mm y, List.mem_map]⟩
  rw [List.nodup_iff_pairwise_ne, List.pairwise_map]
  have nd : (hullP B lo hi).Nodup := List.nodup_range.filter _
  rw [List.nodup_iff_pairwise_ne] at nd
  refine List.Pairwise.imp_of_mem ?_ nd
  intro a b ha hb ne e
  exact ne (h.inj (mem_hullP.mp ha).1 (mem_hullP.mp hb).1 e)
end
theorem cl_xor (a b m : Nat) : (a ^^^ (a &&& m)) ^^^ (b ^^^ (b &&& m)) = (a ^^^ b) ^^^ ((a ^^^ b) &&& m) := Nat.eq_of_testBit_eq fun k => by
  simp only [Nat.testBit_xor, Nat.testBit_and]
  cases a.testBit k <;> cases b.testBit k <;> cases m.testBit k <;> rfl
theorem marks_few : ∀ (ms S : List Nat), ms.Nodup -> (∀ m ∈ ms, pc m = 1) -> (∀ m ∈ ms, ∃ a ∈ S, ∃ b ∈ S, a ^^^ b = m) -> S ≠ [] -> ms.length + 1 <= S.length
  | [], S, _, _, _, h => by have := List.length_pos_iff.mpr h; rw [List.length_nil]; omega
  | m :: ms, S, nd, hp, hm, h => by
    obtain ⟨a, ha, b, hb, e⟩ := hm m List.mem_cons_self
    have pm := hp m List.mem_cons_self
    have m0 : m ≠ 0 := fun z => by rw [z, pc_zero] at pm; cases pm
    have ne : b ≠ a := fun z => m0 (by rw [<- e, z, Nat.xor_self])
    have be : b ∈ S.erase a := (List.mem_erase_of_ne ne).mpr hb
    have cab : a ^^^ (a &&& m) = b ^^^ (b &&& m) := by
      have := cl_xor a b m
      rw [e, Nat.and_self, Nat.xor_self] at this
      exact Nat.eq_of_testBit_eq fun k => by
        have := congrArg (fun z => Nat.testBit z k) this
        simp only [Nat.testBit_xor, Nat.zero_testBit] at this ⊢
        revert this
        generalize (a.testBit k ^^ (a &&& m).testBit k) = u
        generalize (b.testBit k ^^ (b &&& m).testBit k) = v
        cases u <;> cases v <;> simp
    have inn : ∀ x ∈ S, (x ^^^ (x &&& m)) ∈ (S.erase a).map fun x => x ^^^ (x &&& m) := fun x hx => by
      by_cases z : x = a
      · rw [z, cab]; exact List.mem_map_of_mem be
      · exact List.mem_map_of_mem ((List.mem_erase_of_ne z).mpr hx)
    rw [List.nodup_cons] at nd
    have := marks_few ms ((S.erase a).map fun x => x ^^^ (x &&& m)) nd.2 (fun n hn => hp n (List.mem_cons_of_mem _ hn)) (fun n hn => by
      obtain ⟨c, hc, d, hd, e2⟩ := hm n (List.mem_cons_of_mem _ hn)
      refine ⟨_, inn c hc, _, inn d hd, ?_⟩
      rw [cl_xor, e2, one_bit (hp n (List.mem_cons_of_mem _ hn)) pm (fun z => nd.1 (z ▸ hn)), Nat.xor_zero]) (fun z => by
      have := inn a ha; rw [z] at this; cases this)
    rw [List.length_map, List.length_erase_of_mem ha] at this
    rw [List.length_cons]
    omega
theorem marks_lt (B : List Nat) (h : 1 <= B.length) : (marksF B (tiesB B B.length)).length + 1 <= B.length :=
  marks_few _ B (marksF_nodup _ _) (fun m hm => mark_pc hm) (fun m hm => by
    obtain ⟨t, ht, e⟩ := mem_marksF.mp hm
    obtain ⟨h1, h2, h3, h4⟩ := (mem_tiesB (Nat.le_refl _)).mp ht
    exact ⟨_, getD_mem h1, _, getD_mem h3, e⟩) (fun z => by rw [z] at h; cases h)
theorem up_one : ∀ {a b : List Nat}, a.Pairwise (· < ·) -> b.Pairwise (· < ·) -> (∀ x, x ∈ a ↔ x ∈ b) -> a = b
  | [], [], _, _, _ => rfl
  | [], y :: b, _, _, h => by have := (h y).mpr List.mem_cons_self; cases this
  | x :: a, [], _, _, h => by have := (h x).mp List.mem_cons_self; cases this
  | x :: a, y :: b, ha, hb, h => by
    rw [List.pairwise_cons] at ha hb
    have e : x = y := by
      rcases List.mem_cons.mp ((h x).mp List.mem_cons_self) with q | q
      · exact q
      · rcases List.mem_cons.mp ((h y).mpr List.mem_cons_self) with r | r
        · exact r.symm
        · have := hb.1 x q; have := ha.1 y r; omega
    subst e
    rw [up_one ha.2 hb.2 fun z => ?_]
    constructor
    · intro q
      rcases List.mem_cons.mp ((h z).mp (List.mem_cons_of_mem _ q)) with r | r
      · subst r; exact absurd (ha.1 z q) (Nat.lt_irrefl _)
      · exact r
    · intro q
      rcases List.mem_cons.mp ((h z).mpr (List.mem_cons_of_mem _ q)) with r | r
      · subst r; exact absurd (hb.1 z q) (Nat.lt_irrefl _)
      · exact r
theorem sort_to {ms : List Int} {S R : List Nat} (hp : ms.Perm (S.map Int.ofNat)) (hs : ms.Pairwise (· <= ·)) (nd : S.Nodup) (hR : R.Pairwise (· < ·)) (h : ∀ x, x ∈ S ↔ x ∈ R) : ms = R.map Int.ofNat := by
  have pos : ∀ z ∈ ms, 0 <= z := fun z hz => by
    obtain ⟨x, _, rfl⟩ := List.mem_map.mp (hp.mem_iff.mp hz)
    exact Int.natCast_nonneg x
  have n1 : ms.Nodup := hp.nodup_iff.mpr (by
    rw [List.nodup_iff_pairwise_ne, List.pairwise_map]
    exact List.Pairwise.imp (fun ne e => ne (Int.ofNat.inj e)) nd)
  have up : (ms.map Int.toNat).Pairwise (· < ·) := by
    rw [List.pairwise_map]
    rw [List.nodup_iff_pairwise_ne] at n1
    refine List.Pairwise.imp_of_mem ?_ (hs.and n1)
    intro a b ha hb ⟨h1, h2⟩
    have := pos a ha
    have := pos b hb
    omega
  have e := up_one up hR fun x => by
    rw [<- h x, List.mem_map]
    constructor
    · rintro ⟨z, hz, rfl⟩
      obtain ⟨y, hy, rfl⟩ := List.mem_map.mp (hp.mem_iff.mp hz)
      exact hy
    · intro hx
      exact ⟨Int.ofNat x, hp.mem_iff.mpr (List.mem_map_of_mem hx), rfl⟩
  rw [<- e, List.map_map]
  conv => lhs; rw [<- List.map_id ms]
  refine List.map_congr_left fun z hz => ?_
  have := pos z hz
  show z = ((z.toNat : Nat) : Int)
  omega
section
variable {B C O : List Nat} (h : Mv B C O)
include h
theorem Mv.mapN {L : List Nat} (hL : ∀ x ∈ L, x < B.length) (nd : L.Nodup) : (L.map fun x => O.getD x 0).Nodup := by
  rw [List.nodup_iff_pairwise_ne, List.pairwise_map]
  rw [List.nodup_iff_pairwise_ne] at nd
  refine List.Pairwise.imp_of_mem ?_ nd
  intro a b ha hb ne e
  exact ne (h.inj (hL a ha) (hL b hb) e)
theorem Mv.pick {p q : Nat -> Bool} (e : ∀ x, x < B.length -> q (O.getD x 0) = p x) : ∀ y, (y ∈ ((List.range B.length).filter p).map fun x => O.getD x 0) ↔ y ∈ (List.range C.length).filter q := fun y => by
  rw [List.mem_map, List.mem_filter, List.mem_range, h.len]
  constructor
  · rintro ⟨x, hx, rfl⟩
    obtain ⟨h1, h2⟩ := List.mem_filter.mp hx
    have h1 := List.mem_range.mp h1
    exact ⟨h.lt h1, by rw [e x h1]; exact h2⟩
  · rintro ⟨hy, hq⟩
    obtain ⟨x, hx, rfl⟩ := h.sur hy
    exact ⟨x, List.mem_filter.mpr ⟨List.mem_range.mpr hx, by rw [<- e x hx]; exact hq⟩, rfl⟩
theorem Mv.pickP {p q : Nat -> Bool} (e : ∀ x, x < B.length -> q (O.getD x 0) = p x) : (((List.range B.length).filter p).map fun x => O.getD x 0).Perm ((List.range C.length).filter q) :=
  (List.perm_ext_iff_of_nodup (h.mapN (fun x hx => List.mem_range.mp (List.mem_filter.mp hx).1) (List.nodup_range.filter _)) (List.nodup_range.filter _)).mpr (h.pick e)
end
theorem lohiP (B : List Nat) : ∀ S : List Nat, S ≠ [] -> ∃ lo hi, LoOk B S lo /\ HiOk B S hi
  | [], h => absurd rfl h
  | [s], _ => ⟨B.getD s 0, B.getD s 0, fun i => by simp, fun i => by simp⟩
  | s :: t :: S, _ => by
    obtain ⟨lo, hi, h1, h2⟩ := lohiP B (t :: S) (by simp)
    refine ⟨B.getD s 0 &&& lo, B.getD s 0 ||| hi, fun i => ?_, fun i => ?_⟩
    · rw [Nat.testBit_and, Bool.and_eq_true, h1 i]
      constructor
      · rintro ⟨a, b⟩ x hx
        rcases List.mem_cons.mp hx with rfl | hx
        · exact a
        · exact b x hx
      · exact fun h => ⟨h s (List.mem_cons_self ..), fun x hx => h x (List.mem_cons_of_mem _ hx)⟩
    · rw [Nat.testBit_or, Bool.or_eq_true, h2 i]
      constructor
      · rintro (a | ⟨x, hx, a⟩)
        · exact ⟨s, List.mem_cons_self .., a⟩
        · exact ⟨x, List.mem_cons_of_mem _ hx, a⟩
      · rintro ⟨x, hx, a⟩
        rcases List.mem_cons.mp hx with rfl | hx
        · exact .inl a
        · exact .inr ⟨x, hx, a⟩
theorem gate_one {B R : List Nat} (med : Med B) (hc : ClosedP B R) (hR : ∀ r ∈ R, r < B.length) {x m q : Nat} (hx : x < B.length) (hm : m ∈ R) (hle : ∀ r ∈ R, ud (B.getD x 0) (B.getD m 0) <= ud (B.getD x 0) (B.getD r 0)) (hq : q ∈ R) (hqe : ∀ r ∈ R, ud (B.getD x 0) (B.getD q 0) <= ud (B.getD x 0) (B.getD r 0)) : m = q := by
  have hM := med.med _ (getD_mem hx) _ (getD_mem (hR q hq)) _ (getD_mem (hR m hm))
  obtain ⟨z, hz, eq'⟩ := mem_getD hM
  have a1 := maj_amid1 (B.getD x 0) (B.getD q 0) (B.getD m 0)
  have a2 := maj_amid2 (B.getD x 0) (B.getD q 0) (B.getD m 0)
  have a3 := maj_amid3 (B.getD x 0) (B.getD q 0) (B.getD m 0)
  rw [<- eq'] at a1 a2 a3
  have hzR := hc q hq m hm z hz a2
  have l1 := hle z hzR
  have l2 := (ud_amid _ _ _).mpr a3
  have l3 : ud (B.getD z 0) (B.getD m 0) = 0 := by omega
  have l4 := (ud_amid _ _ _).mpr a1
  have l5 := hqe z hzR
  have l6 : ud (B.getD z 0) (B.getD q 0) = 0 := by omega
  have e : B.getD m 0 = B.getD q 0 := (ud_zero l3).symm.trans (ud_zero l6)
  exact getD_inj med.toIso.nd (hR m hm) (hR q hq) e
end Mw
namespace K50
open PySem L2 Mw
def top (i : Nat) : Stmt := PySem.Challenge.pw_middleweb_k50_whole_by_other_numbers.main.body.getD i (.Pass ⟨0, 0, 0, 0⟩)
abbrev sfars_from : Stmt := top 1
theorem scfars_from : FnScope ["web", "start", "told", "reached", "steps", "newly", "place", "other"] ["web", "start"] (defScope sfars_from) := ⟨rfl, rfl, rfl, by decide +kernel, rfl, by decide +kernel, by decide +kernel⟩
abbrev sfars : Stmt := top 2
theorem scfars : FnScope ["web"] ["web"] (defScope sfars) := ⟨rfl, rfl, rfl, by decide +kernel, rfl, by decide +kernel, by decide +kernel⟩
abbrev sbetween_by : Stmt := top 3
theorem scbetween_by : FnScope ["from_a", "from_b", "b", "reached"] ["from_a", "from_b", "b"] (defScope sbetween_by) := ⟨rfl, rfl, rfl, by decide +kernel, rfl, by decide +kernel, by decide +kernel⟩
abbrev sbetween : Stmt := top 4
theorem scbetween : FnScope ["web", "a", "b"] ["web", "a", "b"] (defScope sbetween) := ⟨rfl, rfl, rfl, by decide +kernel, rfl, by decide +kernel, by decide +kernel⟩
abbrev sbetweens : Stmt := top 5
theorem scbetweens : FnScope ["web", "lengths"] ["web"] (defScope sbetweens) := ⟨rfl, rfl, rfl, by decide +kernel, rfl, by decide +kernel, by decide +kernel⟩
abbrev sin_all_three : Stmt := top 6
theorem scin_all_three : FnScope ["first", "second", "third"] ["first", "second", "third"] (defScope sin_all_three) := ⟨rfl, rfl, rfl, by decide +kernel, rfl, by decide +kernel, by decide +kernel⟩
abbrev smiddles : Stmt := top 7
theorem scmiddles : FnScope ["web", "a", "b", "c"] ["web", "a", "b", "c"] (defScope smiddles) := ⟨rfl, rfl, rfl, by decide +kernel, rfl, by decide +kernel, by decide +kernel⟩
abbrev sis_whole : Stmt := top 13
theorem scis_whole : FnScope ["thing"] ["thing"] (defScope sis_whole) := ⟨rfl, rfl, rfl, by decide +kernel, rfl, by decide +kernel, by decide +kernel⟩
abbrev sis_whole_within : Stmt := top 14
theorem scis_whole_within : FnScope ["thing", "least", "most"] ["thing", "least", "most"] (defScope sis_whole_within) := ⟨rfl, rfl, rfl, by decide +kernel, rfl, by decide +kernel, by decide +kernel⟩
abbrev scheck_number : Stmt := top 15
theorem sccheck_number : FnScope ["thing", "least", "most"] ["thing", "least", "most"] (defScope scheck_number) := ⟨rfl, rfl, rfl, by decide +kernel, rfl, by decide +kernel, by decide +kernel⟩
abbrev scheck_tie : Stmt := top 16
theorem sccheck_tie : FnScope ["many", "tie", "place"] ["many", "tie"] (defScope scheck_tie) := ⟨rfl, rfl, rfl, by decide +kernel, rfl, by decide +kernel, by decide +kernel⟩
abbrev stied_places : Stmt := top 17
theorem sctied_places : FnScope ["marks"] ["marks"] (defScope stied_places) := ⟨rfl, rfl, rfl, by decide +kernel, rfl, by decide +kernel, by decide +kernel⟩
abbrev sweb_of : Stmt := top 18
theorem scweb_of : FnScope ["many", "ties", "marks", "tie"] ["many", "ties"] (defScope sweb_of) := ⟨rfl, rfl, rfl, by decide +kernel, rfl, by decide +kernel, by decide +kernel⟩
abbrev sties_of : Stmt := top 19
theorem scties_of : FnScope ["web", "ties", "place", "tied"] ["web"] (defScope sties_of) := ⟨rfl, rfl, rfl, by decide +kernel, rfl, by decide +kernel, by decide +kernel⟩
abbrev sare_in_one_class : Stmt := top 21
theorem scare_in_one_class : FnScope ["lengths", "tie", "other", "straight", "crossed"] ["lengths", "tie", "other"] (defScope sare_in_one_class) := ⟨rfl, rfl, rfl, by decide +kernel, rfl, by decide +kernel, by decide +kernel⟩
abbrev sclasses : Stmt := top 22
theorem scclasses : FnScope ["web", "lengths", "ties", "found", "tie", "alike"] ["web"] (defScope sclasses) := ⟨rfl, rfl, rfl, by decide +kernel, rfl, by decide +kernel, by decide +kernel⟩
abbrev shalves_by : Stmt := top 23
theorem schalves_by : FnScope ["web", "tie", "from_a", "from_b", "nearer_a", "nearer_b"] ["web", "tie"] (defScope shalves_by) := ⟨rfl, rfl, rfl, by decide +kernel, rfl, by decide +kernel, by decide +kernel⟩
abbrev shalves : Stmt := top 24
theorem schalves : FnScope ["web"] ["web"] (defScope shalves) := ⟨rfl, rfl, rfl, by decide +kernel, rfl, by decide +kernel, by decide +kernel⟩
abbrev sbit_rows : Stmt := top 25
theorem scbit_rows : FnScope ["web", "seconds"] ["web"] (defScope sbit_rows) := ⟨rfl, rfl, rfl, by decide +kernel, rfl, by decide +kernel, by decide +kernel⟩
abbrev smiddle : Stmt := top 26
theorem scmiddle : FnScope ["web", "a", "b", "c"] ["web", "a", "b", "c"] (defScope smiddle) := ⟨rfl, rfl, rfl, by decide +kernel, rfl, by decide +kernel, by decide +kernel⟩
abbrev sgoing_to : Stmt := top 28
theorem scgoing_to : FnScope ["web", "people", "x", "from_x"] ["web", "people", "x"] (defScope sgoing_to) := ⟨rfl, rfl, rfl, by decide +kernel, rfl, by decide +kernel, by decide +kernel⟩
abbrev speople_in : Stmt := top 29
theorem scpeople_in : FnScope ["people", "half"] ["people", "half"] (defScope speople_in) := ⟨rfl, rfl, rfl, by decide +kernel, rfl, by decide +kernel, by decide +kernel⟩
abbrev sgathered : Stmt := top 30
theorem scgathered : FnScope ["web", "people", "goings", "least", "places", "sides"] ["web", "people"] (defScope sgathered) := ⟨rfl, rfl, rfl, by decide +kernel, rfl, by decide +kernel, by decide +kernel⟩
abbrev schoices : Stmt := top 32
theorem scchoices : FnScope ["many", "picked", "told", "k"] ["many", "picked"] (defScope schoices) := ⟨rfl, rfl, rfl, by decide +kernel, rfl, by decide +kernel, by decide +kernel⟩
abbrev scube_counts : Stmt := top 33
theorem sccube_counts : FnScope ["web", "from_first", "nearer"] ["web"] (defScope scube_counts) := ⟨rfl, rfl, rfl, by decide +kernel, rfl, by decide +kernel, by decide +kernel⟩
abbrev sagreed_classes : Stmt := top 35
theorem scagreed_classes : FnScope ["rows"] ["rows"] (defScope sagreed_classes) := ⟨rfl, rfl, rfl, by decide +kernel, rfl, by decide +kernel, by decide +kernel⟩
abbrev shull : Stmt := top 36
theorem schull : FnScope ["web", "some", "rows", "first", "numbers"] ["web", "some"] (defScope shull) := ⟨rfl, rfl, rfl, by decide +kernel, rfl, by decide +kernel, by decide +kernel⟩
abbrev sgate : Stmt := top 37
theorem scgate : FnScope ["web", "part", "x", "from_x"] ["web", "part", "x"] (defScope sgate) := ⟨rfl, rfl, rfl, by decide +kernel, rfl, by decide +kernel, by decide +kernel⟩
abbrev stold_apart : Stmt := top 39
theorem sctold_apart : FnScope ["web", "from_first"] ["web"] (defScope stold_apart) := ⟨rfl, rfl, rfl, by decide +kernel, rfl, by decide +kernel, by decide +kernel⟩
abbrev stold_bad : Stmt := top 40
theorem sctold_bad : FnScope ["web", "lying", "c", "b", "a", "found"] ["web"] (defScope stold_bad) := ⟨rfl, rfl, rfl, by decide +kernel, rfl, by decide +kernel, by decide +kernel⟩
abbrev slooked : Stmt := top 41
theorem sclooked : FnScope ["web"] ["web"] (defScope slooked) := ⟨rfl, rfl, rfl, by decide +kernel, rfl, by decide +kernel, by decide +kernel⟩
abbrev s_law_mixed : Stmt := top 43
theorem sc_law_mixed : FnScope ["_law_number", "_law_k"] ["_law_number", "_law_k"] (defScope s_law_mixed) := ⟨rfl, rfl, rfl, by decide +kernel, rfl, by decide +kernel, by decide +kernel⟩
abbrev s_law_cell : Stmt := top 44
theorem sc_law_cell : FnScope ["_law_script", "_law_k", "_law_seed"] ["_law_script", "_law_k"] (defScope s_law_cell) := ⟨rfl, rfl, rfl, by decide +kernel, rfl, by decide +kernel, by decide +kernel⟩
abbrev s_law_pen : Stmt := top 45
theorem sc_law_pen : FnScope ["_law_script"] ["_law_script"] (defScope s_law_pen) := ⟨rfl, rfl, rfl, by decide +kernel, rfl, by decide +kernel, by decide +kernel⟩
abbrev s_law_take : Stmt := top 46
theorem sc_law_take : FnScope ["_law_pen_here", "_law_many", "_law_found"] ["_law_pen_here", "_law_many"] (defScope s_law_take) := ⟨rfl, rfl, rfl, by decide +kernel, rfl, by decide +kernel, by decide +kernel⟩
abbrev s_law_hull : Stmt := top 47
theorem sc_law_hull : FnScope ["_law_bits_here", "_law_some_here", "_law_both", "_law_either", "_law_x"] ["_law_bits_here", "_law_some_here"] (defScope s_law_hull) := ⟨rfl, rfl, rfl, by decide +kernel, rfl, by decide +kernel, by decide +kernel⟩
abbrev s_law_some : Stmt := top 48
theorem sc_law_some : FnScope ["_law_pen_here", "_law_bits_here", "_law_way", "_law_mask", "_law_some_here"] ["_law_pen_here", "_law_bits_here"] (defScope s_law_some) := ⟨rfl, rfl, rfl, by decide +kernel, rfl, by decide +kernel, by decide +kernel⟩
abbrev s_law_bits : Stmt := top 49
theorem sc_law_bits : FnScope ["_law_pen_here", "_law_most", "_law_bits_here", "_law_k", "_law_part", "_law_found", "_law_x"] ["_law_pen_here", "_law_most"] (defScope s_law_bits) := ⟨rfl, rfl, rfl, by decide +kernel, rfl, by decide +kernel, by decide +kernel⟩
abbrev s_law_unlike : Stmt := top 50
theorem sc_law_unlike : FnScope ["_law_one", "_law_other", "_law_left", "_law_count"] ["_law_one", "_law_other"] (defScope s_law_unlike) := ⟨rfl, rfl, rfl, by decide +kernel, rfl, by decide +kernel, by decide +kernel⟩
abbrev s_law_ties : Stmt := top 51
theorem sc_law_ties : FnScope ["_law_bits_here", "_law_found", "_law_a"] ["_law_bits_here"] (defScope s_law_ties) := ⟨rfl, rfl, rfl, by decide +kernel, rfl, by decide +kernel, by decide +kernel⟩
abbrev s_law_pieces : Stmt := top 52
theorem sc_law_pieces : FnScope ["_law_cuts", "_law_order", "_law_found", "_law_first", "_law_second", "_law_one", "_law_other"] ["_law_cuts", "_law_order"] (defScope s_law_pieces) := ⟨rfl, rfl, rfl, by decide +kernel, rfl, by decide +kernel, by decide +kernel⟩
abbrev s_law_cuts_alike : Stmt := top 53
theorem sc_law_cuts_alike : FnScope ["_law_web", "_law_moved_web", "_law_order", "_law_same", "_law_cuts"] ["_law_web", "_law_moved_web", "_law_order"] (defScope s_law_cuts_alike) := ⟨rfl, rfl, rfl, by decide +kernel, rfl, by decide +kernel, by decide +kernel⟩
abbrev s_law_parts_alike : Stmt := top 54
theorem sc_law_parts_alike : FnScope ["_law_pen_here", "_law_web", "_law_moved_web", "_law_order", "_law_some_here", "_law_part", "_law_named", "_law_x", "_law_a", "_law_b", "_law_c"] ["_law_pen_here", "_law_web", "_law_moved_web", "_law_order"] (defScope s_law_parts_alike) := ⟨rfl, rfl, rfl, by decide +kernel, rfl, by decide +kernel, by decide +kernel⟩
abbrev s_law_going_alike : Stmt := top 55
theorem sc_law_going_alike : FnScope ["_law_pen_here", "_law_web", "_law_moved_web", "_law_order", "_law_people", "_law_moved", "_law_x", "_law_going", "_law_best", "_law_sides", "_law_answer"] ["_law_pen_here", "_law_web", "_law_moved_web", "_law_order"] (defScope s_law_going_alike) := ⟨rfl, rfl, rfl, by decide +kernel, rfl, by decide +kernel, by decide +kernel⟩
abbrev slaw : Stmt := top 56
theorem sclaw : FnScope ["_law_script", "_law_pen_here", "_law_bits_here", "_law_order", "_law_x", "_law_web", "_law_moved_web"] ["_law_script"] (defScope slaw) := ⟨rfl, rfl, rfl, by decide +kernel, rfl, by decide +kernel, by decide +kernel⟩
structure Txt (K : PySem.W.Frag) (mg : Str -> Option Value) (tMOST_PLACES : Tok) (cLam : Addr) : Prop where
  dfars_from : DefAt K mg "fars_from" sfars_from
  dfars : DefAt K mg "fars" sfars
  dbetween_by : DefAt K mg "between_by" sbetween_by
  dbetween : DefAt K mg "between" sbetween
  dbetweens : DefAt K mg "betweens" sbetweens
  din_all_three : DefAt K mg "in_all_three" sin_all_three
  dmiddles : DefAt K mg "middles" smiddles
  dis_whole : DefAt K mg "is_whole" sis_whole
  dis_whole_within : DefAt K mg "is_whole_within" sis_whole_within
  dcheck_number : DefAt K mg "check_number" scheck_number
  dcheck_tie : DefAt K mg "check_tie" scheck_tie
  dtied_places : DefAt K mg "tied_places" stied_places
  dweb_of : DefAt K mg "web_of" sweb_of
  dties_of : DefAt K mg "ties_of" sties_of
  dare_in_one_class : DefAt K mg "are_in_one_class" sare_in_one_class
  dclasses : DefAt K mg "classes" sclasses
  dhalves_by : DefAt K mg "halves_by" shalves_by
  dhalves : DefAt K mg "halves" shalves
  dbit_rows : DefAt K mg "bit_rows" sbit_rows
  dmiddle : DefAt K mg "middle" smiddle
  dgoing_to : DefAt K mg "going_to" sgoing_to
  dpeople_in : DefAt K mg "people_in" speople_in
  dgathered : DefAt K mg "gathered" sgathered
  dchoices : DefAt K mg "choices" schoices
  dcube_counts : DefAt K mg "cube_counts" scube_counts
  dagreed_classes : DefAt K mg "agreed_classes" sagreed_classes
  dhull : DefAt K mg "hull" shull
  dgate : DefAt K mg "gate" sgate
  dtold_apart : DefAt K mg "told_apart" stold_apart
  dtold_bad : DefAt K mg "told_bad" stold_bad
  dlooked : DefAt K mg "looked" slooked
  d_law_mixed : DefAt K mg "_law_mixed" s_law_mixed
  d_law_cell : DefAt K mg "_law_cell" s_law_cell
  d_law_pen : DefAt K mg "_law_pen" s_law_pen
  d_law_take : DefAt K mg "_law_take" s_law_take
  d_law_hull : DefAt K mg "_law_hull" s_law_hull
  d_law_some : DefAt K mg "_law_some" s_law_some
  d_law_bits : DefAt K mg "_law_bits" s_law_bits
  d_law_unlike : DefAt K mg "_law_unlike" s_law_unlike
  d_law_ties : DefAt K mg "_law_ties" s_law_ties
  d_law_pieces : DefAt K mg "_law_pieces" s_law_pieces
  d_law_cuts_alike : DefAt K mg "_law_cuts_alike" s_law_cuts_alike
  d_law_parts_alike : DefAt K mg "_law_parts_alike" s_law_parts_alike
  d_law_going_alike : DefAt K mg "_law_going_alike" s_law_going_alike
  dlaw : DefAt K mg "law" slaw
  z_len : mg "len" = none
  z_isinstance : mg "isinstance" = none
  z_int : mg "int" = none
  z_bool : mg "bool" = none
  z_list : mg "list" = none
  z_tuple : mg "tuple" = none
  z_range : mg "range" = none
  z_enumerate : mg "enumerate" = none
  z_sorted : mg "sorted" = none
  z_min : mg "min" = none
  z_max : mg "max" = none
  z_all : mg "all" = none
  z_sum : mg "sum" = none
  k_MOST_PLACES : mg "MOST_PLACES" = some (.int 24 tMOST_PLACES)
  lam : ∃ (f : Addr) (fd : FuncData), Fun K "gate" "gate" sgate f fd /\ mg "gate" = some (.ref f) /\ fd.code = .ref cLam
section
variable {P : Program} {w : World} {K : PySem.W.Frag} {mg : Str -> Option Value} {base : Heap} {tMOST_PLACES : Tok} {cLam pLam : Addr}
theorem kit_int_int : PySem.W.kitOne K (.type "int") (.type "int") = some true := by kernel_rfl
theorem kit_int_bool : PySem.W.kitOne K (.type "int") (.type "bool") = some false := by kernel_rfl
def spWh : Sp := fun vs H Q _ => ∃ i : Int, vs = [.int i] /\ Q (.bl true) H
theorem Cis_whole (T : Txt K mg tMOST_PLACES cLam) : Callee P w K mg base 1 "is_whole" ["thing"] spWh := by
  refine mkCallee T.dis_whole scis_whole (fun _ _ _ _ _ _ us hl => match us, hl with | [_], _ => rfl) (fun vs H Q E h => ?_) (fun f cdv A outer s H vs Q E hr h => ?_)
  · obtain ⟨i, rfl, _⟩ := h; rfl
  · obtain ⟨i, rfl, q⟩ := h
    refine ⟨_, (pss_one (ps_ret (pe_and (pe_callB (isiq (K := K) rfl) rfl T.z_isinstance bt_isinstance (pa_cons (pv 0) (pa_cons (pe_bltn (v := .ty "int") rfl T.z_int bt_int rfl) pa_nil))) (pe_one (pe_not (pe_callB (isiq (K := K) rfl) rfl T.z_isinstance bt_isinstance (pa_cons (pv 0) (pa_cons (pe_bltn (v := .ty "bool") rfl T.z_bool bt_bool rfl) pa_nil)))))))), ?_⟩
    refine ⟨_, rfl, _, "int", .type "int", true, rfl, .int i, kit_int_int, true, rfl, iteT ?_⟩
    exact ⟨_, rfl, _, "bool", .type "int", false, rfl, .int i, kit_int_bool, false, rfl, q⟩
def spWithin : Sp := fun vs H Q _ => ∃ i lo hi : Int, vs = [.int i, .int lo, .int hi] /\ Q (.bl (decide (lo <= i) && decide (i <= hi))) H
theorem Cis_whole_within (T : Txt K mg tMOST_PLACES cLam) : Callee P w K mg base 2 "is_whole_within" ["thing", "least", "most"] spWithin := by
  have Cis_whole := Cis_whole (P := P) (w := w) (base := base) T
  refine mkCallee T.dis_whole_within scis_whole_within (fun _ _ _ _ _ _ us hl => match us, hl with | [_, _, _], _ => rfl) (fun vs H Q E h => ?_) (fun f cdv A outer s H vs Q E hr h => ?_)
  · obtain ⟨i, lo, hi, rfl, _⟩ := h; rfl
  · obtain ⟨i, lo, hi, rfl, q⟩ := h
    refine ⟨_, (pss_one (ps_ret (pe_and (pe_fn Cis_whole hr rfl (pa_cons (pv 0) pa_nil)) (pe_one (pe_chain op_le op_le (pv 1) (pv 0) (pv 2)))))), ?_⟩
    refine ⟨_, rfl, i, rfl, true, rfl, iteT ?_⟩
    refine ⟨_, rfl, _, rfl, lo, i, rfl, rfl, _, rfl, ?_⟩
    by_cases h1 : lo <= i
    · rw [decide_eq_true h1] at q ⊢
      exact iteT ⟨_, rfl, i, hi, rfl, rfl, q⟩
    · rw [decide_eq_false h1] at q ⊢
      exact iteF q
def spNumber : Sp := fun vs H Q _ => ∃ i lo hi : Int, vs = [.int i, .int lo, .int hi] /\ lo <= i /\ i <= hi /\ Q .non H
theorem Ccheck_number (T : Txt K mg tMOST_PLACES cLam) : Callee P w K mg base 3 "check_number" ["thing", "least", "most"] spNumber := by
  have Cis_whole_within := Cis_whole_within (P := P) (w := w) (base := base) T
  refine mkCallee T.dcheck_number sccheck_number (fun _ _ _ _ _ _ us hl => match us, hl with | [_, _, _], _ => rfl) (fun vs H Q E h => ?_) (fun f cdv A outer s H vs Q E hr h => ?_)
  · obtain ⟨i, lo, hi, rfl, _⟩ := h; rfl
  · obtain ⟨i, lo, hi, rfl, h1, h2, q⟩ := h
    refine ⟨_, (pss_one (ps_if (pt_not (pt_val (pe_fn Cis_whole_within hr rfl (pa_cons (pv 0) (pa_cons (pv 1) (pa_cons (pv 2) pa_nil)))))) pss_never pss_nil)), ?_⟩
    refine ⟨_, rfl, _, rfl, _, rfl, i, lo, hi, rfl, _, rfl, ?_⟩
    rw [decide_eq_true h1, decide_eq_true h2]
    exact q
end
section
variable {P : Program} {w : World} {K : PySem.W.Frag} {mg : Str -> Option Value} {base : Heap} {tMOST_PLACES : Tok} {cLam pLam : Addr}
theorem kit_tup_tup : PySem.W.kitOne K (.type "tuple") (.type "tuple") = some true := by kernel_rfl
theorem kit_list_list : PySem.W.kitOne K (.type "list") (.type "list") = some true := by kernel_rfl
def spTie : Sp := fun vs H Q _ => ∃ (n : Int) (t : Addr) (a b : Int), vs = [.int n, .ref t] /\ H t = some (.tup [.int a, .int b]) /\ (0 <= a /\ a < n) /\ (0 <= b /\ b < n) /\ a ≠ b /\ Q .non H
theorem Ccheck_tie (T : Txt K mg tMOST_PLACES cLam) : Callee P w K mg base 4 "check_tie" ["many", "tie"] spTie := by
  have Ccheck_number := Ccheck_number (P := P) (w := w) (base := base) T
  refine mkCallee T.dcheck_tie sccheck_tie (fun _ _ _ _ _ _ us hl => match us, hl with | [_, _], _ => rfl) (fun vs H Q E h => ?_) (fun f cdv A outer s H vs Q E hr h => ?_)
  · obtain ⟨n, t, a, b, rfl, _⟩ := h; rfl
  · obtain ⟨n, t, a, b, rfl, ht, ha, hb, hne, q⟩ := h
    have hS : SqT K H t [.int a, .int b] := SqT.of ht
    refine ⟨_, (pss_cons (ps_if (PW.pt (pw_or (pt_not (pt_val (pe_callB (isiq (K := K) rfl) rfl T.z_isinstance bt_isinstance (pa_cons (pv 1) (pa_cons (pe_bltn (v := .ty "tuple") rfl T.z_tuple bt_tuple rfl) pa_nil))))) (pw_or1 (pt_cmpR op_ne (pe_callB (lenq (K := K) rfl) rfl T.z_len bt_len (pa_cons (pv 1) pa_nil)) pe_int (nomark _))))) pss_never pss_nil) (pss_cons (ps_for PassesOwn.never rfl (pit (K := K) rfl (pv 1)) (pg_name (i := 2) sccheck_tie.nd rfl (.inl rfl)) (pss_one (ps_expr (pe_fn Ccheck_number hr rfl (pa_cons (pv 2) (pa_cons pe_int (pa_cons (pe_op op_sub (pv 0) pe_int) pa_nil))))))) (pss_one (ps_if (pt_cmpR op_eq (pe_ix (ixt (K := K) rfl) (pv 1) pe_int (fun _ _ => rfl)) (pe_ix (ixt (K := K) rfl) (pv 1) pe_int (fun _ _ => rfl)) (nomark _)) pss_never pss_nil)))), ?_⟩
    refine ⟨_, rfl, _, "tuple", .type "tuple", true, rfl, .tup ht, kit_tup_tup, true, rfl, iteF ?_⟩
    refine ⟨_, rfl, t, _, rfl, .inr hS, rfl, _, rfl, iteNS rfl ?_⟩
    refine ⟨_, rfl, t, rfl, ⟨_, hS⟩, for_tup (xs := [.int a, .int b]) (fun i σ H' => ∃ v, σ = [some (.int n), some (.ref t), v] /\ H' = H) ⟨_, rfl, rfl⟩ (fun i σ H' _ ⟨_, _, e⟩ => by rw [e]; exact hS) ?_ ?_⟩
    · rintro i x σ H' hi ⟨v, rfl, rfl⟩
      obtain ⟨z, rfl, hz⟩ : ∃ z, x = V.int z /\ 0 <= z /\ z < n := by
        match i, hi with
        | 0, hi => exact ⟨a, by simpa using hi.symm, ha⟩
        | 1, hi => exact ⟨b, by simpa using hi.symm, hb⟩
        | i + 2, hi => simp at hi
      exact ⟨_, rfl, _, rfl, _, _, rfl, rfl, z, 0, n - 1, rfl, by omega, by omega, _, rfl, rfl⟩
    · rintro σ H' ⟨v, rfl, rfl⟩
      refine ⟨_, rfl, t, _, 0, _, rfl, rfl, hS, rfl, _, rfl, t, _, 1, _, rfl, rfl, hS, rfl, rfl, _, rfl, ?_⟩
      rw [decide_eq_false (by intro z; injection z with z; exact hne z)]
      exact iteF q
def idx (bs : List Bool) : List V := ((List.range bs.length).filter fun q => bs.getD q false).map fun q : Nat => V.int (q : Int)
def spTied (K : PySem.W.Frag) : Sp := fun vs H Q _ => ∃ (l : Addr) (bs : List Bool), vs = [.ref l] /\ SqL K H l (bs.map V.bl) /\ bs.length <= 100 /\ ∀ t H', H t = none -> H' t = some (.tup (idx bs)) -> Same H H' -> Q (.ref t) H'
theorem Ctied_places (T : Txt K mg tMOST_PLACES cLam) : Callee P w K mg base 1 "tied_places" ["marks"] (spTied K) := by
  refine mkCallee T.dtied_places sctied_places (fun _ _ _ _ _ _ us hl => match us, hl with | [_], _ => rfl) (fun vs H Q E h => ?_) (fun f cdv A outer s H vs Q E hr h => ?_)
  · obtain ⟨l, bs, rfl, _⟩ := h; rfl
  · obtain ⟨l, bs, rfl, hS, hl, k⟩ := h
    refine ⟨_, (pss_one (ps_ret (pe_callTy (tupq (K := K) rfl) rfl T.z_tuple bt_tuple (pa_cons (pe_lc (NB := ["place", "is_tied"]) (nt := 2) (fr := []) rfl (by kernel_rfl) (pi_enum (K := K) rfl rfl T.z_enumerate (pa_cons (pv 0) pa_nil)) (fun _ _ _ _ _ => (pgt (K := K) (n := 2) rfl rfl (pgs_cons (pg_name (i := 0) (show List.Nodup (["place", "is_tied"] : List Str) by decide +kernel) rfl (.inl rfl)) (pgs_cons (pg_name (i := 1) (show List.Nodup (["place", "is_tied"] : List Str) by decide +kernel) rfl (.inl rfl)) pgs_nil)))) (fun _ _ _ _ _ => (pts_one (pt_val (pv 1)))) (fun _ _ _ _ _ => (pv 0))) pa_nil)))), ?_⟩
    refine ⟨_, rfl, l, rfl, ⟨_, hS⟩, lc_enum (xs := bs.map V.bl) (fun i σ ys H' => (∃ v1 v2, σ = [v1, v2]) /\ i <= bs.length /\ ys = ((List.range i).filter fun q => bs.getD q false).map (fun q : Nat => V.int (q : Int)) /\ Same H H')
      ⟨⟨_, _, rfl⟩, Nat.zero_le _, rfl, Same.refl H⟩ (fun i σ ys H' _ p => p.2.2.2.seq hS) (fun i σ ys H' p => ?_) ?_ ?_⟩
    · rw [p.2.2.1, List.length_map]
      have h1 := List.length_filter_le (fun q => bs.getD q false) (List.range i)
      rw [List.length_range] at h1
      exact Nat.lt_of_le_of_lt (Nat.le_trans h1 (Nat.le_trans p.2.1 hl)) (by decide)
    · rintro i x t σ ys H' hi ⟨⟨v1, v2, rfl⟩, hib, rfl, hs⟩ ht
      rw [List.getElem?_map] at hi
      cases eb : bs[i]? with
      | none => rw [eb] at hi; cases hi
      | some b =>
        rw [eb] at hi
        cases hi
        have hlt : i < bs.length := (List.getElem?_eq_some_iff.mp eb).1
        refine ⟨t, _, rfl, SqT.of upd_same, rfl, _, _, rfl, _, _, rfl, rfl, _, rfl, b, rfl, ?_⟩
        have eg : bs.getD i false = b := by rw [List.getD_eq_getElem?_getD, eb]; rfl
        have er : (List.range (i + 1)).filter (fun q => bs.getD q false) = (List.range i).filter (fun q => bs.getD q false) ++ (if b = true then [i] else []) := by
          rw [List.range_succ, List.filter_append]
          congr 1
          cases b with
          | true => rw [List.filter_cons_of_pos (by simpa using eg)]; rfl
          | false => rw [List.filter_cons_of_neg (by rw [eg]; exact Bool.false_ne_true)]; rfl
        cases b with
        | true =>
          refine iteT ⟨_, rfl, ⟨_, _, rfl⟩, hlt, ?_, hs.updr ht⟩
          rw [er, List.map_append]
          rfl
        | false =>
          refine iteF ⟨⟨_, _, rfl⟩, hlt, ?_, hs.updr ht⟩
          rw [er, List.map_append]
          simp
    · rintro σ ys H' ⟨_, _, rfl, hs⟩ D hD
      refine ⟨D, _, rfl, .inl ⟨SqL.of upd_same, fun t ht => ?_⟩⟩
      rw [List.length_map] at *
      exact k t _ ((hs.updr hD).free ht) upd_same ((hs.updr hD).updr ht)
end
section
variable {P : Program} {w : World} {K : PySem.W.Frag} {mg : Str -> Option Value} {base : Heap} {tMOST_PLACES : Tok} {cLam pLam : Addr}
def TieV (H : Hp) (v : V) (t : Nat × Nat) : Prop := ∃ r, v = .ref r /\ H r = some (.tup [.int (t.1 : Int), .int (t.2 : Int)])
def RowV (H : Hp) (v : V) (row : List Nat) : Prop := ∃ r, v = .ref r /\ H r = some (.tup (row.map fun q : Nat => V.int (q : Int)))
def TiesAt (H : Hp) (l : Addr) (ts : List (Nat × Nat)) : Prop := ∃ xs, H l = some (.lst xs) /\ Paired (TieV H) xs ts
def WebAt (H : Hp) (a : Addr) (g : List (List Nat)) : Prop := ∃ xs, H a = some (.tup xs) /\ Paired (RowV H) xs g
theorem paired_mono {α β : Type} {F G : α -> β -> Prop} (h : ∀ a b, F a b -> G a b) {l : List α} {m : List β} (p : Paired F l m) : Paired G l m := Paired.mapP p h
theorem paired_at {α β : Type} {F : α -> β -> Prop} : ∀ {l : List α} {m : List β}, Paired F l m -> ∀ (i : Nat) (a : α), l[i]? = some a -> ∃ b, m[i]? = some b /\ F a b
  | _, _, .nil, i, a, h => by simp at h
  | _, _, .cons r t, 0, a, h => by simp at h; subst h; exact ⟨_, rfl, r⟩
  | _, _, .cons r t, i + 1, a, h => by simp at h; obtain ⟨b, q1, q2⟩ := paired_at t i a h; exact ⟨b, by simpa using q1, q2⟩
theorem paired_append {α β : Type} {F : α -> β -> Prop} : ∀ {l l' : List α} {m m' : List β}, Paired F l m -> Paired F l' m' -> Paired F (l ++ l') (m ++ m')
  | _, _, _, _, .nil, s => s
  | _, _, _, _, .cons r t, s => .cons r (paired_append t s)
theorem TieV.mono {H H' : Hp} (s : Same H H') {v : V} {t : Nat × Nat} (h : TieV H v t) : TieV H' v t := let ⟨r, e, q⟩ := h; ⟨r, e, s _ _ q⟩
theorem RowV.mono {H H' : Hp} (s : Same H H') {v : V} {t : List Nat} (h : RowV H v t) : RowV H' v t := let ⟨r, e, q⟩ := h; ⟨r, e, s _ _ q⟩
theorem TiesAt.mono {H H' : Hp} (s : Same H H') {l : Addr} {ts : List (Nat × Nat)} (h : TiesAt H l ts) : TiesAt H' l ts := let ⟨xs, e, q⟩ := h; ⟨xs, s _ _ e, paired_mono (fun _ _ => TieV.mono s) q⟩
theorem WebAt.mono {H H' : Hp} (s : Same H H') {l : Addr} {g : List (List Nat)} (h : WebAt H l g) : WebAt H' l g := let ⟨xs, e, q⟩ := h; ⟨xs, s _ _ e, paired_mono (fun _ _ => RowV.mono s) q⟩
structure MarksAt (H : Hp) (D : Addr) (rs : List Addr) (n : Nat) (M : Nat -> Nat -> Bool) : Prop where
  ls : H D = some (.lst (rs.map V.ref))
  len : rs.length = n
  nd : rs.Nodup
  row : ∀ (p : Nat) (r : Addr), rs[p]? = some r -> H r = some (.lst ((List.range n).map fun q => V.bl (M p q)))
theorem atI_map {f : Nat -> V} {n q : Nat} (h : q < n) : atI ((List.range n).map f) (q : Int) = some (f q) := atI_nat (by rw [List.getElem?_map, List.getElem?_range h]; rfl)
theorem ixN_lt {n q : Nat} (h : q < n) : ixN n (q : Int) = some q := by
  unfold ixN
  rw [if_pos (Int.natCast_nonneg _), if_pos (by omega), Int.toNat_natCast]
theorem map_set {f : Nat -> Bool} {n q : Nat} : ((List.range n).map fun j => V.bl (f j)).set q (.bl true) = (List.range n).map fun j => V.bl (f j || j == q) := by
  apply List.ext_getElem?
  intro j
  rw [List.getElem?_set, List.getElem?_map, List.getElem?_map]
  by_cases hj : j < n
  · rw [List.getElem?_range hj, List.length_map, List.length_range]
    by_cases e : q = j
    · subst e
      simp [hj]
    · have e' : (j == q) = false := by simpa using fun z => e z.symm
      simp [e, e']
  · rw [List.getElem?_eq_none (by simpa using hj), List.length_map, List.length_range]
    by_cases e : q = j
    · subst e
      simp [hj]
    · simp [e]
theorem MarksAt.put {H : Hp} {D : Addr} {rs : List Addr} {n : Nat} {M : Nat -> Nat -> Bool} (h : MarksAt H D rs n M) {a b : Nat} {r : Addr} (er : rs[a]? = some r) (hb : b < n) :
    MarksAt (upd H r (.lst (((List.range n).map fun q => V.bl (M a q)).set b (.bl true)))) D rs n (fun p q => M p q || (p == a && q == b)) := by
  have hr := h.row a r er
  have nD : D ≠ r := by
    intro e
    subst e
    have z := h.ls
    rw [hr] at z
    have z' := HO.lst.inj (Option.some.inj z)
    have hl : rs.length = n := h.len
    cases rs with
    | nil => simp at er
    | cons r0 rs =>
      cases n with
      | zero => simp at hl
      | succ n => rw [List.range_succ_eq_map] at z'; simp at z'
  refine ⟨by rw [upd_ne nD]; exact h.ls, h.len, h.nd, fun p r' e' => ?_⟩
  by_cases hp : p = a
  · subst hp
    rw [er] at e'
    cases e'
    rw [upd_same, map_set]
    simp
  · have ne : r' ≠ r := by
      rintro rfl
      obtain ⟨h1, e1⟩ := List.getElem?_eq_some_iff.mp er
      obtain ⟨h2, e2⟩ := List.getElem?_eq_some_iff.mp e'
      exact hp ((List.getElem_inj h.nd).mp (e2.trans e1.symm))
    rw [upd_ne ne, h.row p r' e']
    have : (p == a) = false := by simpa using hp
    simp [this]
def spWeb : Sp := fun vs H Q _ => ∃ (n : Nat) (l : Addr) (ts : List (Nat × Nat)), vs = [.int (n : Int), .ref l] /\ 1 <= n /\ n <= 24 /\ TiesAt H l ts /\ okSeq n ts /\ ∀ a H', H a = none -> WebAt H' a (webL n ts) -> Same H H' -> Q (.ref a) H'
theorem Cweb_of (T : Txt K mg tMOST_PLACES cLam) : Callee P w K mg base 5 "web_of" ["many", "ties"] spWeb := by
  have Ccheck_number := Ccheck_number (P := P) (w := w) (base := base) T
  have Ccheck_tie := Ccheck_tie (P := P) (w := w) (base := base) T
  have Ctied_places := Ctied_places (P := P) (w := w) (base := base) T
  refine mkCallee T.dweb_of scweb_of (fun _ _ _ _ _ _ us hl => match us, hl with | [_, _], _ => rfl) (fun vs H Q E h => ?_) (fun f cdv A outer s H vs Q E hr h => ?_)
  · obtain ⟨n, l, ts, rfl, _⟩ := h; rfl
  · obtain ⟨n, l, ts, rfl, h1, h24, ⟨xs, hl, hp⟩, hok, k⟩ := h
    refine ⟨_, (pss_cons (ps_expr (pe_fn Ccheck_number hr rfl (pa_cons (pv 0) (pa_cons pe_int (pa_cons (pe_glob (v := .int 24) rfl T.k_MOST_PLACES ⟨_, rfl⟩) pa_nil))))) (pss_cons (ps_if (pt_not (pt_val (pe_callB (isiq (K := K) rfl) rfl T.z_isinstance bt_isinstance (pa_cons (pv 1) (pa_cons (pe_bltn (v := .ty "list") rfl T.z_list bt_list rfl) pa_nil))))) pss_never pss_nil) (pss_cons (ps_setLC (NB := ["place", "many"]) (nt := 1) (fr := [0]) rfl (by kernel_rfl) (i := 2) scweb_of.nd rfl rfl (pi_range1 rfl T.z_range (pa_cons (pv 0) pa_nil)) (fun _ _ _ _ _ => (pg_name (i := 0) (show List.Nodup (["place", "many"] : List Str) by decide +kernel) rfl (.inl rfl))) (fun _ _ _ _ _ => pts_nil) (fun _ _ _ _ _ => (pe_op op_rep (pe_lst (pa_cons pe_bl pa_nil)) (pv 1)))) (pss_cons (ps_for PassesOwn.never rfl (pil (K := K) rfl (pv 1)) (pg_name (i := 3) scweb_of.nd rfl (.inl rfl)) (pss_cons (ps_expr (pe_fn Ccheck_tie hr rfl (pa_cons (pv 0) (pa_cons (pv 3) pa_nil)))) (pss_cons (ps_if (pt_val (pe_ix (ixl (K := K) rfl) (pe_ix (ixl (K := K) rfl) (pv 2) (pe_ix (ixt (K := K) rfl) (pv 3) pe_int (fun _ _ => rfl)) (fun _ _ => rfl)) (pe_ix (ixt (K := K) rfl) (pv 3) pe_int (fun _ _ => rfl)) (fun _ _ => rfl))) pss_never pss_nil) (pss_cons (ps_asg pe_bl (pg_sub (pe_ix (ixl (K := K) rfl) (pv 2) (pe_ix (ixt (K := K) rfl) (pv 3) pe_int (fun _ _ => rfl)) (fun _ _ => rfl)) (pe_ix (ixt (K := K) rfl) (pv 3) pe_int (fun _ _ => rfl)) set_list)) (pss_one (ps_asg pe_bl (pg_sub (pe_ix (ixl (K := K) rfl) (pv 2) (pe_ix (ixt (K := K) rfl) (pv 3) pe_int (fun _ _ => rfl)) (fun _ _ => rfl)) (pe_ix (ixt (K := K) rfl) (pv 3) pe_int (fun _ _ => rfl)) set_list))))))) (pss_one (ps_ret (pe_callTy (tupq (K := K) rfl) rfl T.z_tuple bt_tuple (pa_cons (pe_lc (NB := ["row"]) (nt := 1) (fr := []) rfl (by kernel_rfl) (pil (K := K) rfl (pv 2)) (fun _ _ _ _ _ => (pg_name (i := 0) (show List.Nodup (["row"] : List Str) by decide +kernel) rfl (.inl rfl))) (fun _ _ _ _ _ => pts_nil) (fun _ _ _ _ _ => (pe_fn Ctied_places hr rfl (pa_cons (pv 0) pa_nil)))) pa_nil)))))))), ?_⟩
    refine ⟨_, rfl, n, 1, 24, rfl, by omega, by omega, ?_⟩
    refine ⟨_, rfl, _, "list", .type "list", true, rfl, .lst hl, kit_list_list, true, rfl, iteF ?_⟩
    refine ⟨_, rfl, (n : Int), rfl, by omega, by omega, lc_range (Pv := fun i σ' ys H' => (∃ v, σ' = [v, some (.int (n : Int))]) /\ i <= n /\ ∃ rs : List Addr, ys = rs.map V.ref /\ rs.length = i /\ rs.Nodup /\
        (∀ (p : Nat) (r : Addr), rs[p]? = some r -> H' r = some (.lst ((List.range n).map fun q => V.bl false)) /\ H r = none) /\ Same H H') ⟨⟨_, rfl⟩, Nat.zero_le _, [], rfl, rfl, List.nodup_nil, fun p r e => by simp at e, Same.refl H⟩ (fun i σ' ys H' p => ?_) ?_ ?_⟩
    · obtain ⟨_, hi, rs, rfl, e, _⟩ := p
      rw [List.length_map, e]
      exact Nat.lt_of_le_of_lt (Nat.le_trans hi h24) (by decide)
    · rintro i σ' ys H' hi ⟨⟨v, rfl⟩, _, rs, rfl, hlen, hnd, hrow, hs⟩
      refine lcN ?_
      refine ⟨by show 1 <= sizeLine; decide, fun p1 hp1 => ⟨_, rfl, p1, n, [.bl false], rfl, rfl, upd_same, by omega, by omega, ?_, fun p2 hp2 => ?_⟩⟩
      · rw [Int.toNat_natCast]
        show 1 * n <= sizeLine
        exact Nat.le_trans (by omega : 1 * n <= 24) (by decide)
      · have s1 := hs.updr (o := .lst [.bl false]) hp1
        have s2 := s1.updr (o := .lst (List.replicate ((n : Int)).toNat [V.bl false]).flatten) hp2
        have er : (List.replicate ((n : Int)).toNat [V.bl false]).flatten = (List.range n).map fun q => V.bl false := by
          rw [Int.toNat_natCast]
          simp [List.map_const']
        refine ⟨⟨_, rfl⟩, by omega, rs ++ [p2], by simp, by simp [hlen], ?_, fun p r e => ?_, s2⟩
        · rw [List.nodup_append]
          refine ⟨hnd, by simp, fun a ha b hb => ?_⟩
          have : b = p2 := by simpa using hb
          subst this
          rintro rfl
          obtain ⟨j, hj, e⟩ := List.getElem_of_mem ha
          have q := (hrow j a (by rw [List.getElem?_eq_getElem hj, e])).1
          have q2 : upd H' p1 (.lst [.bl false]) a = some _ := (Same.new hp1) _ _ q
          rw [hp2] at q2
          cases q2
        · by_cases hlt : p < rs.length
          · rw [List.getElem?_append_left hlt] at e
            obtain ⟨q1, q2⟩ := hrow p r e
            exact ⟨(Same.new hp2) _ _ ((Same.new hp1) _ _ q1), q2⟩
          · have ep : p = rs.length := by
              have := (List.getElem?_eq_some_iff.mp e).1
              simp at this
              omega
            subst ep
            simp at e
            subst e
            exact ⟨by rw [upd_same, er], s1.free hp2⟩
    · rintro σ' ys H1 ⟨_, _, rs, rfl, hlen, hnd, hrow, hs1⟩ D hD
      have nD : H D = none := hs1.free hD
      have hs2 : Same H (upd H1 D (.lst (rs.map V.ref))) := hs1.updr hD
      have M0 : MarksAt (upd H1 D (.lst (rs.map V.ref))) D rs n (fun p q => tied ([] : List (Nat × Nat)) p q) := ⟨upd_same, by rw [hlen, Int.toNat_natCast], hnd, fun p r e => (Same.new hD) _ _ (hrow p r e).1⟩
      refine ⟨_, rfl, l, rfl, ⟨_, SqL.of (hs2 _ _ hl)⟩, for_list (xs := xs) (fun i σ H' => (∃ v, σ = [some (.int (n : Int)), some (.ref l), some (.ref D), v]) /\ MarksAt H' D rs n (fun p q => tied (ts.take i) p q) /\ Same H H')
        ⟨⟨_, rfl⟩, M0, hs2⟩ (fun i σ H' _ p => SqL.of (p.2.2 _ _ hl)) ?_ ?_⟩
      · rintro i x σ H2 hi ⟨⟨v, rfl⟩, M, hs⟩
        obtain ⟨⟨a, b⟩, et, r, rfl, hr0⟩ := paired_at hp i x hi
        obtain ⟨ha, hb, hne, hnt⟩ := hok i _ et
        dsimp only at ha hb hne hnt hr0
        have hr2 := hs _ _ hr0
        have hT : SqT K H2 r [.int (a : Int), .int (b : Int)] := SqT.of hr2
        obtain ⟨ra, ea⟩ : ∃ ra, rs[a]? = some ra := ⟨_, List.getElem?_eq_getElem (by rw [M.len]; exact ha)⟩
        obtain ⟨rb, eb⟩ : ∃ rb, rs[b]? = some rb := ⟨_, List.getElem?_eq_getElem (by rw [M.len]; exact hb)⟩
        have aD : ∀ (j : Nat) (rj : Addr), rs[j]? = some rj -> atI (rs.map V.ref) (j : Int) = some (.ref rj) := fun j rj e => atI_nat (by rw [List.getElem?_map, e]; rfl)
        refine ⟨_, rfl, _, rfl, n, r, a, b, rfl, hr2, ⟨by omega, by omega⟩, ⟨by omega, by omega⟩, by omega, ?_⟩
        refine ⟨_, rfl, _, rfl, r, _, 0, _, rfl, rfl, hT, rfl, D, _, a, _, rfl, rfl, SqL.of M.ls, aD a ra ea, _, rfl, r, _, 1, _, rfl, rfl, hT, rfl, ra, _, b, _, rfl, rfl, SqL.of (M.row a ra ea), atI_map hb, _, rfl, ?_⟩
        rw [hnt]
        refine iteF ?_
        refine ⟨_, rfl, _, rfl, r, _, 0, _, rfl, rfl, hT, rfl, D, _, a, _, rfl, rfl, SqL.of M.ls, aD a ra ea, _, rfl, r, _, 1, _, rfl, rfl, hT, rfl, ra, _, b, b, rfl, rfl, M.row a ra ea, ixN_lt (by simpa using hb), ?_⟩
        have M1 := M.put ea hb
        have nra : H ra = none := (hrow a ra ea).2
        have nrb : H rb = none := (hrow b rb eb).2
        have hs3 := hs.of_upd (o := .lst (((List.range n).map fun q => V.bl (tied (ts.take i) a q)).set b (.bl true))) nra
        have hT3 : SqT K (upd H2 ra (.lst (((List.range n).map fun q => V.bl (tied (ts.take i) a q)).set b (.bl true)))) r [.int (a : Int), .int (b : Int)] := SqT.of (hs3 _ _ hr0)
        refine ⟨_, rfl, _, rfl, r, _, 1, _, rfl, rfl, hT3, rfl, D, _, b, _, rfl, rfl, SqL.of M1.ls, aD b rb eb, _, rfl, r, _, 0, _, rfl, rfl, hT3, rfl, rb, _, a, a, rfl, rfl, M1.row b rb eb, ixN_lt (by simpa using ha), ?_⟩
        have M2 := M1.put eb ha
        refine ⟨⟨_, rfl⟩, ?_, hs3.of_upd nrb⟩
        have em : (fun p q => tied (ts.take (i + 1)) p q) = fun p q => ((tied (ts.take i) p q || (p == a && q == b)) || (p == b && q == a)) := by
          funext p q
          rw [List.take_add_one, et, tied_append, Bool.or_assoc]
          congr 1
          simp only [Option.toList_some, tied, List.any_cons, List.any_nil, Bool.or_false]
          rw [Bool.eq_iff_iff]
          simp only [Bool.or_eq_true, Bool.and_eq_true, beq_iff_eq]
          constructor
          · rintro (⟨z1, z2⟩ | ⟨z1, z2⟩)
            · exact .inl ⟨z1.symm, z2.symm⟩
            · exact .inr ⟨z2.symm, z1.symm⟩
          · rintro (⟨z1, z2⟩ | ⟨z1, z2⟩)
            · exact .inl ⟨z1.symm, z2.symm⟩
            · exact .inr ⟨z2.symm, z1.symm⟩
        rw [em]
        exact M2
      · rintro σ H2 ⟨⟨v, rfl⟩, M, hs⟩
        have etk : ts.take xs.length = ts := by rw [hp.length]; exact List.take_length
        rw [etk] at M
        refine ⟨_, rfl, D, rfl, ⟨_, SqL.of M.ls⟩, lc_list (xs := rs.map V.ref) (fun i σ' ys H' => (∃ v, σ' = [v]) /\ i <= n /\ Paired (RowV H') ys ((webL n ts).take i) /\ Same H2 H') ⟨⟨_, rfl⟩, Nat.zero_le _, .nil, Same.refl H2⟩ (fun i σ' ys H' _ p => SqL.of (p.2.2.2 _ _ M.ls)) (fun i σ' ys H' p => ?_) ?_ ?_⟩
        · rw [p.2.2.1.length, List.length_take]
          exact Nat.lt_of_le_of_lt (Nat.le_trans (Nat.min_le_left _ _) (Nat.le_trans p.2.1 h24)) (by decide)
        · rintro i x σ' ys H3 hi ⟨⟨v, rfl⟩, _, hpr, hs3⟩
          rw [List.getElem?_map] at hi
          cases er : rs[i]? with
          | none => rw [er] at hi; cases hi
          | some r =>
            rw [er] at hi
            cases hi
            have hin : i < n := by rw [<- M.len]; exact (List.getElem?_eq_some_iff.mp er).1
            refine lcN ?_
            refine ⟨_, rfl, r, (List.range n).map (fun q => tied ts i q), rfl, SqL.of ?_, by simp; omega, fun t H4 ht ht4 hs4 => ?_⟩
            · rw [List.map_map]
              exact hs3 _ _ (M.row i r er)
            · refine ⟨⟨_, rfl⟩, hin, ?_, hs3.trans hs4⟩
              have ew : (webL n ts).take (i + 1) = (webL n ts).take i ++ [nbr n ts i] := by
                rw [List.take_add_one]
                congr 1
                unfold webL
                rw [List.getElem?_map, List.getElem?_range hin]
                rfl
              rw [ew]
              refine paired_append (paired_mono (fun _ _ => RowV.mono hs4) hpr) (.cons ⟨t, rfl, ?_⟩ .nil)
              rw [ht4]
              congr 2
              unfold idx nbr
              rw [List.length_map, List.length_range]
              congr 1
              refine List.filter_congr fun q hq => ?_
              rw [List.mem_range] at hq
              rw [List.getD_eq_getElem?_getD, List.getElem?_map, List.getElem?_range hq]
              rfl
        · rintro σ' ys H3 ⟨_, _, hpr, hs3⟩ D2 hD2
          refine ⟨D2, _, rfl, .inl ⟨SqL.of upd_same, fun t ht => ?_⟩⟩
          have hs4 : Same H3 (upd (upd H3 D2 (.lst ys)) t (.tup ys)) := (Same.new hD2).updr ht
          refine k t _ ((hs.trans hs3).free ((Same.new hD2).free ht)) ⟨ys, upd_same, ?_⟩ ((hs.trans hs3).trans hs4)
          have e2 : (webL n ts).take (rs.map V.ref).length = webL n ts := by
            rw [List.length_map, M.len]
            exact List.take_of_length_le (by simp [webL])
          rw [e2] at hpr
          exact paired_mono (fun _ _ => RowV.mono hs4) hpr
end
section
variable {P : Program} {w : World} {K : PySem.W.Frag} {mg : Str -> Option Value} {base : Heap} {tMOST_PLACES : Tok} {cLam pLam : Addr}
def spMixed : Sp := fun vs H Q _ => ∃ n k : Int, vs = [.int n, .int k] /\ ∀ r : Int, Q (.int r) H
theorem C_law_mixed (T : Txt K mg tMOST_PLACES cLam) : Callee P w K mg base 1 "_law_mixed" ["_law_number", "_law_k"] spMixed := by
  refine mkCallee T.d_law_mixed sc_law_mixed (fun _ _ _ _ _ _ us hl => match us, hl with | [_, _], _ => rfl) (fun vs H Q E h => ?_) (fun f cdv A outer s H vs Q E hr h => ?_)
  · obtain ⟨n, k, rfl, _⟩ := h; rfl
  · obtain ⟨n, k, rfl, q⟩ := h
    refine ⟨_, (pss_cons (ps_set (i := 0) sc_law_mixed.nd rfl (.inl rfl) (pe_op op_mod (pe_op op_mul (pe_op op_add (pe_op op_add (pe_op op_mod (pv 0) pe_int) (pe_op op_mul pe_int (pv 1))) pe_int) pe_int) pe_int)) (pss_cons (ps_set (i := 0) sc_law_mixed.nd rfl (.inl rfl) (pe_op op_mod (pe_op op_add (pe_op op_mul (pv 0) (pv 0)) (pe_op op_mul pe_int (pv 1))) pe_int)) (pss_one (ps_ret (pe_op op_mod (pe_op op_mul (pv 0) (pe_op op_add (pe_op op_mod (pv 0) pe_int) pe_int)) pe_int))))), ?_⟩
    refine ⟨_, rfl, _, _, rfl, rfl, (by show (0 : Int) < _; decide), _, rfl, _, _, rfl, rfl, .inl ⟨by decide, by decide⟩, _, _, rfl, rfl, _, _, rfl, rfl, _, _, rfl, rfl, .inr ⟨by decide, by decide⟩, _, _, rfl, rfl, (by show (0 : Int) < _; decide), ?_⟩
    refine ⟨_, rfl, _, rfl, _, _, rfl, rfl, .inl ⟨by omega, by omega⟩, _, rfl, _, _, rfl, rfl, .inl ⟨by decide, by decide⟩, _, _, rfl, rfl, _, _, rfl, rfl, (by show (0 : Int) < _; decide), ?_⟩
    exact ⟨_, rfl, _, rfl, _, _, rfl, rfl, (by show (0 : Int) < _; decide), _, _, rfl, rfl, _, _, rfl, rfl, .inl ⟨by omega, by omega⟩, _, _, rfl, rfl, (by show (0 : Int) < _; decide), q _⟩
def spCell (K : PySem.W.Frag) : Sp := fun vs H Q _ => ∃ (a : Addr) (ns : List Int) (k : Nat), vs = [.ref a, .int (k : Int)] /\ SqL K H a (ns.map V.int) /\ ns.length <= 63 /\ k < 1000000000 /\ ∀ r : Int, Q (.int r) H
theorem C_law_cell (T : Txt K mg tMOST_PLACES cLam) : Callee P w K mg base 2 "_law_cell" ["_law_script", "_law_k"] (spCell K) := by
  have C_law_mixed := C_law_mixed (P := P) (w := w) (base := base) T
  refine mkCallee T.d_law_cell sc_law_cell (fun _ _ _ _ _ _ us hl => match us, hl with | [_, _], _ => rfl) (fun vs H Q E h => ?_) (fun f cdv A outer s H vs Q E hr h => ?_)
  · obtain ⟨a, ns, k, rfl, _⟩ := h; rfl
  · obtain ⟨a, ns, k, rfl, hS, hlen, hk, q⟩ := h
    have at_ : ∀ j : Nat, j < ns.length -> ∃ z, atI (ns.map V.int) (j : Int) = some (.int z) := fun j hj => ⟨ns[j], atI_nat (by simp [hj])⟩
    refine ⟨_, (pss_cons (ps_if (pt_cmpR op_lt (pv 1) (pe_callB (lenq (K := K) rfl) rfl T.z_len bt_len (pa_cons (pv 0) pa_nil)) (nomark _)) (pss_one (ps_ret (pe_ix (ixl (K := K) rfl) (pv 0) (pv 1) (fun _ _ => rfl)))) pss_nil) (pss_cons (ps_set (i := 2) sc_law_cell.nd rfl (.inl rfl) (pe_op op_add pe_int (pv 1))) (pss_cons (ps_if (pt_cmpR op_gt (pe_callB (lenq (K := K) rfl) rfl T.z_len bt_len (pa_cons (pv 0) pa_nil)) pe_int (nomark _)) (pss_one (ps_set (i := 2) sc_law_cell.nd rfl (.inl rfl) (pe_op op_add (pv 2) (pe_op op_mul (pe_op op_mod (pe_ix (ixl (K := K) rfl) (pv 0) (pe_op op_mod (pv 1) (pe_callB (lenq (K := K) rfl) rfl T.z_len bt_len (pa_cons (pv 0) pa_nil))) (fun _ _ => rfl)) (pe_op op_pow pe_int pe_int)) (pe_op op_add (pe_op op_fdiv (pv 1) (pe_callB (lenq (K := K) rfl) rfl T.z_len bt_len (pa_cons (pv 0) pa_nil))) pe_int))))) pss_nil) (pss_one (ps_ret (pe_fn C_law_mixed hr rfl (pa_cons (pv 2) (pa_cons (pv 1) pa_nil)))))))), ?_⟩
    refine ⟨_, rfl, _, rfl, a, _, rfl, .inl hS, _, _, rfl, rfl, _, rfl, ite2 (fun h => ?_) (fun h => ?_)⟩
    · have h' := of_decide_eq_true h
      rw [List.length_map] at h'
      obtain ⟨z, hz⟩ := at_ k (by omega)
      exact ⟨_, rfl, _, rfl, a, _, _, _, rfl, rfl, hS, hz, q z⟩
    · refine ⟨_, rfl, _, _, rfl, rfl, ?_⟩
      refine ⟨_, rfl, a, _, rfl, .inl hS, _, _, rfl, rfl, _, rfl, ite2 (fun h2 => ?_) (fun h2 => ?_)⟩
      · have h3 := of_decide_eq_true h2
        rw [List.length_map] at h3
        have hm : ((k : Int) % ((ns.map V.int).length : Int)) = ((k % ns.length : Nat) : Int) := by rw [List.length_map]; rfl
        obtain ⟨z, hz⟩ := at_ (k % ns.length) (Nat.mod_lt _ (by omega))
        obtain ⟨e, he, hd2⟩ : ∃ e : Nat, e = k / ns.length /\ e <= k := ⟨_, rfl, Nat.div_le_self _ _⟩
        have hd : ((k : Int) / ((ns.map V.int).length : Int)) = (e : Int) := by rw [List.length_map, he]; rfl
        refine ⟨_, rfl, _, rfl, _, rfl, _, rfl, a, _, rfl, .inl hS, _, _, rfl, rfl, (by rw [List.length_map]; omega), a, _, _, .int z, rfl, rfl, hS, (by rw [hm]; exact hz), _, _, rfl, rfl, ⟨by decide, by decide, by decide⟩, _, _, rfl, rfl, (by show (0 : Int) < _; decide),
          _, rfl, _, rfl, a, _, rfl, .inl hS, _, _, rfl, rfl, ⟨by rw [List.length_map]; omega, by rw [List.length_map]; omega⟩, _, _, rfl, rfl, _, _, rfl, rfl, .inr ⟨by rw [hd]; omega, by rw [hd]; omega⟩, _, _, rfl, rfl, ?_⟩
        exact ⟨_, rfl, _, rfl, _, _, rfl, q⟩
      · exact ⟨_, rfl, _, rfl, _, _, rfl, q⟩
def PenAt (K : PySem.W.Frag) (a : Addr) (ns : List Int) (H : Hp) (p : Addr) (n : Nat) : Prop := ∃ (k : Nat) (v c b : Int), H p = some (.lst [.ref a, .int (k : Int), .int v, .int c, .int b]) /\ SqL K H a (ns.map V.int) /\ ns.length <= 63 /\ k <= n /\ (b = 0 \/ b = 1) /\ a ≠ p
theorem sqL_ne {H : Hp} {a p : Addr} {o : HO} {xs : List V} (h : SqL K H a xs) (ne : a ≠ p) : SqL K (upd H p o) a xs := by
  rcases h with (h | ⟨u, h⟩) | h
  · exact .inl (.inl (by rw [upd_ne ne]; exact h))
  · exact .inl (.inr ⟨u, by rw [upd_ne ne]; exact h⟩)
  · exact .inr h
theorem PenAt.mono {a : Addr} {ns : List Int} {H H' : Hp} {p : Addr} {n m : Nat} (h : PenAt K a ns H p n) (s : Same H H') (hm : n <= m) : PenAt K a ns H' p m := by
  obtain ⟨k, v, c, b, h1, h2, h3, h4, h5, h6⟩ := h
  exact ⟨k, v, c, b, s _ _ h1, s.seq h2, h3, by omega, h5, h6⟩
theorem SameB.free {a : Addr} {ns : List Int} {H H' : Hp} {p : Addr} {n : Nat} (s : SameB p H H') (hp : PenAt K a ns H' p n) {t : Addr} (h : H' t = none) : H t = none := by
  cases e : H t with
  | none => rfl
  | some o =>
    by_cases ht : t = p
    · subst ht
      obtain ⟨_, _, _, _, h1, _⟩ := hp
      rw [h] at h1
      cases h1
    · rw [s t o e ht] at h
      cases h
def spPen (K : PySem.W.Frag) : Sp := fun vs H Q _ => ∃ (a : Addr) (ns : List Int), vs = [.ref a] /\ SqL K H a (ns.map V.int) /\ ns.length <= 63 /\ ∀ p H', H p = none -> PenAt K a ns H' p 1 -> Same H H' -> Q (.ref p) H'
end
section
variable {P : Program} {w : World} {K : PySem.W.Frag} {mg : Str -> Option Value} {base : Heap} {tMOST_PLACES : Tok} {cLam pLam : Addr}
theorem C_law_pen (T : Txt K mg tMOST_PLACES cLam) : Callee P w K mg base 3 "_law_pen" ["_law_script"] (spPen K) := by
  have C_law_cell := C_law_cell (P := P) (w := w) (base := base) T
  refine mkCallee T.d_law_pen sc_law_pen (fun _ _ _ _ _ _ us hl => match us, hl with | [_], _ => rfl) (fun vs H Q E h => ?_) (fun f cdv A outer s H vs Q E hr h => ?_)
  · obtain ⟨a, ns, rfl, _⟩ := h; rfl
  · obtain ⟨a, ns, rfl, hS, hlen, k⟩ := h
    refine ⟨_, (pss_one (ps_ret (pe_lstK (K := K) rfl (pa_cons (pv 0) (pa_cons pe_int (pa_cons pe_int (pa_cons pe_int (pa_cons (pe_op op_mod (pe_fn C_law_cell hr rfl (pa_cons (pv 0) (pa_cons pe_int pa_nil))) pe_int) pa_nil)))))))), ?_⟩
    refine ⟨_, rfl, _, rfl, a, ns, 0, rfl, hS, hlen, by decide, fun r => ⟨_, _, rfl, rfl, (by show (0 : Int) < _; decide), (by show 5 <= sizeLine; decide), fun p hp lp => ?_⟩⟩
    refine k p _ hp ⟨1, 0, 0, _, upd_same, sqL_ne hS (hS.ne_new hp lp), hlen, Nat.le_refl _, ?_, hS.ne_new hp lp⟩ (Same.new hp)
    show r % 2 = 0 \/ r % 2 = 1
    omega
def spTake (K : PySem.W.Frag) : Sp := fun vs H Q _ => ∃ (p : Addr) (m n : Nat) (a : Addr) (ns : List Int), vs = [.ref p, .int (m : Int)] /\ PenAt K a ns H p n /\ n < 100000000 /\ 0 < m /\ m < 1073741824 /\ ∀ (r : Nat) H', r < m -> PenAt K a ns H' p (n + 1) -> SameB p H H' -> Q (.int (r : Int)) H'
theorem C_law_take (T : Txt K mg tMOST_PLACES cLam) : Callee P w K mg base 3 "_law_take" ["_law_pen_here", "_law_many"] (spTake K) := by
  have C_law_cell := C_law_cell (P := P) (w := w) (base := base) T
  have C_law_mixed := C_law_mixed (P := P) (w := w) (base := base) T
  refine mkCallee T.d_law_take sc_law_take (fun _ _ _ _ _ _ us hl => match us, hl with | [_, _], _ => rfl) (fun vs H Q E h => ?_) (fun f cdv A outer s H vs Q E hr h => ?_)
  · obtain ⟨p, m, n, a, ns, rfl, _⟩ := h; rfl
  · obtain ⟨p, m, n, a, ns, rfl, ⟨k, v, c, b, hp, hS, hlen, hk, hb, hne⟩, hn, hm, hm2, q⟩ := h
    refine ⟨_, (pss_cons (ps_if (pt_cmpR op_eq (pe_ix (ixl (K := K) rfl) (pv 0) pe_int (fun _ _ => rfl)) pe_int (nomark _)) (pss_cons (ps_asg (pe_fn C_law_cell hr rfl (pa_cons (pe_ix (ixl (K := K) rfl) (pv 0) pe_int (fun _ _ => rfl)) (pa_cons (pe_ix (ixl (K := K) rfl) (pv 0) pe_int (fun _ _ => rfl)) pa_nil))) (pg_sub (pv 0) pe_int set_list)) (pss_cons (ps_if (pt_cmpR op_eq (pe_ix (ixl (K := K) rfl) (pv 0) pe_int (fun _ _ => rfl)) pe_int (nomark _)) (pss_one (ps_asg (pe_fn C_law_mixed hr rfl (pa_cons (pe_ix (ixl (K := K) rfl) (pv 0) pe_int (fun _ _ => rfl)) (pa_cons (pe_ix (ixl (K := K) rfl) (pv 0) pe_int (fun _ _ => rfl)) pa_nil))) (pg_sub (pv 0) pe_int set_list))) pss_nil) (pss_cons (ps_asg (pe_ix (ixl (K := K) rfl) (pe_lst (pa_cons pe_int (pa_cons pe_int pa_nil))) (pe_ix (ixl (K := K) rfl) (pv 0) pe_int (fun _ _ => rfl)) (fun _ _ => rfl)) (pg_sub (pv 0) pe_int set_list)) (pss_one (ps_asg (pe_op op_add (pe_ix (ixl (K := K) rfl) (pv 0) pe_int (fun _ _ => rfl)) pe_int) (pg_sub (pv 0) pe_int set_list)))))) pss_nil) (pss_cons (ps_asg (pe_op op_sub (pe_ix (ixl (K := K) rfl) (pv 0) pe_int (fun _ _ => rfl)) pe_int) (pg_sub (pv 0) pe_int set_list)) (pss_cons (ps_set (i := 2) sc_law_take.nd rfl (.inl rfl) (pe_op op_mod (pe_ix (ixl (K := K) rfl) (pv 0) pe_int (fun _ _ => rfl)) (pv 1))) (pss_cons (ps_asg (pe_op op_fdiv (pe_ix (ixl (K := K) rfl) (pv 0) pe_int (fun _ _ => rfl)) (pv 1)) (pg_sub (pv 0) pe_int set_list)) (pss_one (ps_ret (pv 2))))))), ?_⟩
    have fin : ∀ (H2 : Hp) (k2 : Nat) (v2 c2 : Int), H2 p = some (.lst [.ref a, .int (k2 : Int), .int v2, .int c2, .int b]) -> SqL K H2 a (ns.map V.int) -> k2 <= n + 1 -> SameB p H H2 ->
        ∀ (x y : Int), Q (.int (v2 % m)) (upd (upd H2 p (.lst [.ref a, .int (k2 : Int), .int v2, .int x, .int b])) p (.lst [.ref a, .int (k2 : Int), .int y, .int x, .int b])) := by
      intro H2 k2 v2 c2 h1 h2 h3 h4 x y
      obtain ⟨r, hr1⟩ : ∃ r : Nat, (r : Int) = v2 % m := ⟨(v2 % m).toNat, Int.toNat_of_nonneg (Int.emod_nonneg _ (by omega))⟩
      have hr2 : r < m := by
        have := Int.emod_lt_of_pos v2 (show (0 : Int) < m by omega)
        omega
      rw [<- hr1]
      refine q r _ hr2 ⟨k2, y, x, b, upd_same, sqL_ne (sqL_ne h2 hne) hne, hlen, h3, hb, hne⟩ fun d o e nd => ?_
      rw [upd_ne nd, upd_ne nd]
      exact h4 d o e nd
    refine ⟨_, rfl, p, _, 3, _, rfl, rfl, SqL.of hp, rfl, rfl, _, rfl, ite2 (fun hc => ?_) (fun hc => ?_)⟩
    · -- the next cell
      refine ⟨_, rfl, p, _, 0, _, rfl, rfl, SqL.of hp, rfl, _, rfl, p, _, 1, _, rfl, rfl, SqL.of hp, rfl, a, ns, k, rfl, hS, hlen, by omega, fun r1 => ?_⟩
      refine ⟨_, rfl, p, _, 2, 2, rfl, rfl, hp, rfl, ?_⟩
      have e1 : upd H p (.lst [.ref a, .int (k : Int), .int r1, .int c, .int b]) p = some (.lst [.ref a, .int (k : Int), .int r1, .int c, .int b]) := upd_same
      have s1 : SameB p H (upd H p (.lst [.ref a, .int (k : Int), .int r1, .int c, .int b])) := fun d o e nd => by rw [upd_ne nd]; exact e
      have q1 : SqL K (upd H p (.lst [.ref a, .int (k : Int), .int r1, .int c, .int b])) a (ns.map V.int) := sqL_ne hS hne
      have fill : ∀ (H2 : Hp) (v2 : Int), H2 p = some (.lst [.ref a, .int (k : Int), .int v2, .int c, .int b]) -> SqL K H2 a (ns.map V.int) -> SameB p H H2 -> ∀ l, H2 l = none -> ∀ z x y : Int,
          Q (.int (v2 % m)) (upd (upd (upd (upd (upd H2 l (.lst [.int 40, .int 1])) p (.lst [.ref a, .int (k : Int), .int v2, .int z, .int b])) p (.lst [.ref a, .int ((k : Int) + 1), .int v2, .int z, .int b])) p (.lst [.ref a, .int ((k : Int) + 1), .int v2, .int x, .int b])) p (.lst [.ref a, .int ((k : Int) + 1), .int y, .int x, .int b])) := by
        intro H2 v2 h1 h2 h3 l hl z x y
        have nl : p ≠ l := ne_of_none h1 hl
        refine fin _ (k + 1) v2 z upd_same (sqL_ne (sqL_ne ?_ hne) hne) (by omega) (fun d o e nd => ?_) x y
        · rcases h2 with (h2 | ⟨u, h2⟩) | h2
          · exact .inl (.inl ((Same.new hl) _ _ h2))
          · exact .inl (.inr ⟨u, (Same.new hl) _ _ h2⟩)
          · exact .inr h2
        · rw [upd_ne nd, upd_ne nd]
          exact (Same.new hl) _ _ (h3 d o e nd)
      have at4 : ∃ z : Int, atI [V.int 40, V.int 1] b = some (.int z) := by
        rcases hb with rfl | rfl
        · exact ⟨40, rfl⟩
        · exact ⟨1, rfl⟩
      obtain ⟨z, hz⟩ := at4
      refine ⟨_, rfl, p, _, 4, _, rfl, rfl, SqL.of e1, rfl, rfl, _, rfl, ite2 (fun hb1 => ?_) (fun hb1 => ?_)⟩
      · refine ⟨_, rfl, p, _, 2, _, rfl, rfl, SqL.of e1, rfl, _, rfl, p, _, 1, _, rfl, rfl, SqL.of e1, rfl, _, _, rfl, fun r2 => ?_⟩
        refine ⟨_, rfl, p, _, 2, 2, rfl, rfl, e1, rfl, ?_⟩
        have e2 : upd (upd H p (.lst [.ref a, .int (k : Int), .int r1, .int c, .int b])) p (.lst [.ref a, .int (k : Int), .int r2, .int c, .int b]) p = some (.lst [.ref a, .int (k : Int), .int r2, .int c, .int b]) := upd_same
        refine ⟨by show 2 <= sizeLine; decide, fun l hl => ?_⟩
        have e3 := (Same.new (o := .lst [.int 40, .int 1]) hl) _ _ e2
        refine ⟨_, rfl, p, _, 4, _, rfl, rfl, SqL.of e3, rfl, l, _, b, _, rfl, rfl, SqL.of upd_same, hz, _, rfl, p, _, 3, 3, rfl, rfl, e3, rfl, ?_⟩
        refine ⟨_, rfl, p, _, 1, _, rfl, rfl, SqL.of upd_same, rfl, _, _, rfl, rfl, _, rfl, p, _, 1, 1, rfl, rfl, upd_same, rfl, ?_⟩
        refine ⟨_, rfl, p, _, 3, _, rfl, rfl, SqL.of upd_same, rfl, _, _, rfl, rfl, _, rfl, p, _, 3, 3, rfl, rfl, upd_same, rfl, ?_⟩
        refine ⟨_, rfl, p, _, 2, _, rfl, rfl, SqL.of upd_same, rfl, _, rfl, _, _, rfl, rfl, (show (0 : Int) < m by omega), ?_⟩
        refine ⟨_, rfl, p, _, 2, _, rfl, rfl, SqL.of upd_same, rfl, _, rfl, _, _, rfl, rfl, ⟨by omega, by omega⟩, _, rfl, p, _, 2, 2, rfl, rfl, upd_same, rfl, ?_⟩
        refine ⟨_, rfl, ?_⟩
        exact fill _ r2 e2 (sqL_ne q1 hne) (fun d o e nd => by rw [upd_ne nd]; exact s1 d o e nd) l hl z _ _
      · refine ⟨by show 2 <= sizeLine; decide, fun l hl => ?_⟩
        have e3 := (Same.new (o := .lst [.int 40, .int 1]) hl) _ _ e1
        refine ⟨_, rfl, p, _, 4, _, rfl, rfl, SqL.of e3, rfl, l, _, b, _, rfl, rfl, SqL.of upd_same, hz, _, rfl, p, _, 3, 3, rfl, rfl, e3, rfl, ?_⟩
        refine ⟨_, rfl, p, _, 1, _, rfl, rfl, SqL.of upd_same, rfl, _, _, rfl, rfl, _, rfl, p, _, 1, 1, rfl, rfl, upd_same, rfl, ?_⟩
        refine ⟨_, rfl, p, _, 3, _, rfl, rfl, SqL.of upd_same, rfl, _, _, rfl, rfl, _, rfl, p, _, 3, 3, rfl, rfl, upd_same, rfl, ?_⟩
        refine ⟨_, rfl, p, _, 2, _, rfl, rfl, SqL.of upd_same, rfl, _, rfl, _, _, rfl, rfl, (show (0 : Int) < m by omega), ?_⟩
        refine ⟨_, rfl, p, _, 2, _, rfl, rfl, SqL.of upd_same, rfl, _, rfl, _, _, rfl, rfl, ⟨by omega, by omega⟩, _, rfl, p, _, 2, 2, rfl, rfl, upd_same, rfl, ?_⟩
        refine ⟨_, rfl, ?_⟩
        exact fill _ r1 e1 q1 s1 l hl z _ _
    · refine ⟨_, rfl, p, _, 3, _, rfl, rfl, SqL.of hp, rfl, _, _, rfl, rfl, _, rfl, p, _, 3, 3, rfl, rfl, hp, rfl, ?_⟩
      refine ⟨_, rfl, p, _, 2, _, rfl, rfl, SqL.of upd_same, rfl, _, rfl, _, _, rfl, rfl, (show (0 : Int) < m by omega), ?_⟩
      refine ⟨_, rfl, p, _, 2, _, rfl, rfl, SqL.of upd_same, rfl, _, rfl, _, _, rfl, rfl, ⟨by omega, by omega⟩, _, rfl, p, _, 2, 2, rfl, rfl, upd_same, rfl, ?_⟩
      refine ⟨_, rfl, ?_⟩
      exact fin H k v c hp hS (by omega) SameB.refl _ _
end
section
variable {P : Program} {w : World} {K : PySem.W.Frag} {mg : Str -> Option Value} {base : Heap} {tMOST_PLACES : Tok} {cLam pLam : Addr}
theorem pen_lst {a : Addr} {ns : List Int} {H : Hp} {p : Addr} {n : Nat} (h : PenAt K a ns H p n) : ∃ xs, H p = some (.lst xs) := let ⟨_, _, _, _, h, _⟩ := h; ⟨_, h⟩
theorem penlt {a : Addr} {ns : List Int} {H : Hp} {p : Addr} {n m : Nat} (h : PenAt K a ns H p n) (e : n <= m) : PenAt K a ns H p m := h.mono (Same.refl H) e
def Off (K : PySem.W.Frag) (a : Addr) (ns : List Int) (l : Addr) : Prop := ∀ (H : Hp) (o : HO), SqL K H a (ns.map V.int) -> SqL K (upd H l o) a (ns.map V.int)
theorem SqL.off {H : Hp} {a l : Addr} {ns : List Int} (h : SqL K H a (ns.map V.int)) (hl : H l = none) : Off K a ns l := by
  rcases h with (h | ⟨u, h⟩) | h
  · exact fun H' o q => sqL_ne q (by rintro rfl; rw [hl] at h; cases h)
  · exact fun H' o q => sqL_ne q (by rintro rfl; rw [hl] at h; cases h)
  · exact fun H' o _ => .inr h
theorem PenAt.off {a l : Addr} {ns : List Int} {H : Hp} {p : Addr} {n : Nat} (h : PenAt K a ns H p n) (hl : H l = none) : Off K a ns l := let ⟨_, _, _, _, _, h, _⟩ := h; SqL.off h hl
theorem PenAt.put {a l : Addr} {ns : List Int} {H : Hp} {p : Addr} {n : Nat} {o : HO} (h : PenAt K a ns H p n) (hl : Off K a ns l) (ne : l ≠ p) : PenAt K a ns (upd H l o) p n := by
  obtain ⟨k, v, c, b, h1, h2, h3, h4, h5, h6⟩ := h
  exact ⟨k, v, c, b, by rw [upd_ne ne.symm]; exact h1, hl _ _ h2, h3, h4, h5, h6⟩
theorem PenAt.ne {a l : Addr} {ns : List Int} {H : Hp} {p : Addr} {n : Nat} (h : PenAt K a ns H p n) (hl : H l = none) : l ≠ p := by
  obtain ⟨xs, e⟩ := pen_lst h
  rintro rfl
  rw [hl] at e
  cases e
section
variable {a0 : Addr} {ns : List Int}
theorem SameB.tup {H H' : Hp} {p r : Addr} {n : Nat} {xs : List V} (s : SameB p H H') (hp : PenAt K a0 ns H p n) (h : H r = some (.tup xs)) : H' r = some (.tup xs) := by
  obtain ⟨ys, e⟩ := pen_lst hp
  exact s r _ h (by rintro rfl; rw [e] at h; cases h)
theorem RowV.monoB {H H' : Hp} {p : Addr} {n : Nat} (s : SameB p H H') (hp : PenAt K a0 ns H p n) {v : V} {t : List Nat} (h : RowV H v t) : RowV H' v t := let ⟨r, e, q⟩ := h; ⟨r, e, SameB.tup s hp q⟩
theorem WebAt.monoB {H H' : Hp} {p : Addr} {n : Nat} (s : SameB p H H') (hp : PenAt K a0 ns H p n) {l : Addr} {g : List (List Nat)} (h : WebAt H l g) : WebAt H' l g := let ⟨xs, e, q⟩ := h; ⟨xs, SameB.tup s hp e, paired_mono (fun _ _ => RowV.monoB s hp) q⟩
end
theorem TieV.putL {H : Hp} {l : Addr} {xs : List V} {o : HO} (hl : H l = some (.lst xs)) {v : V} {t : Nat × Nat} (h : TieV H v t) : TieV (upd H l o) v t := let ⟨r, e, q⟩ := h; ⟨r, e, by rw [upd_ne (by rintro rfl; rw [hl] at q; cases q)]; exact q⟩
theorem SameB.upd {p a : Addr} {H H' : Hp} {o : HO} (s : SameB p H H') (h : H a = none) : SameB p H (L2.upd H' a o) := fun b u e n => by rw [upd_ne (ne_of_none e h)]; exact s b u e n
end
section
variable {P : Program} {w : World} {K : PySem.W.Frag} {mg : Str -> Option Value} {base : Heap} {tMOST_PLACES : Tok} {cLam pLam : Addr}
def optV : Option Nat -> V
  | none => .non
  | some d => .int (d : Int)
def optL (n : Nat) (t : Nat -> Option Nat) : List V := (List.range n).map fun x => optV (t x)
theorem optL_len (n : Nat) (t : Nat -> Option Nat) : (optL n t).length = n := by unfold optL; rw [List.length_map, List.length_range]
theorem optL_at {n : Nat} {t : Nat -> Option Nat} {x : Nat} (h : x < n) : atI (optL n t) (x : Int) = some (optV (t x)) := atI_nat (by unfold optL; rw [List.getElem?_map, List.getElem?_range h]; rfl)
theorem optL_set {n : Nat} {t : Nat -> Option Nat} {o s : Nat} : (optL n t).set o (.int (s : Int)) = optL n (fun x => if x = o then some s else t x) := by
  unfold optL
  apply List.ext_getElem?
  intro j
  rw [List.getElem?_set, List.getElem?_map, List.getElem?_map]
  by_cases hj : j < n
  · rw [List.getElem?_range hj, List.length_map, List.length_range]
    by_cases e : o = j
    · subst e
      simp [hj, optV]
    · have e' : ¬ j = o := fun z => e z.symm
      simp [e, e']
  · rw [List.getElem?_eq_none (by simpa using hj), List.length_map, List.length_range]
    by_cases e : o = j
    · subst e
      simp [hj]
    · simp [e]
theorem optL_congr {n : Nat} {t u : Nat -> Option Nat} (h : ∀ x, t x = u x) : optL n t = optL n u := by
  rw [show t = u from funext h]
theorem optL_none (n : Nat) : (List.replicate n [V.non]).flatten = optL n fun _ => none := by
  unfold optL
  simp [optV, List.map_const']
def natL (l : List Nat) : List V := l.map fun q : Nat => V.int (q : Int)
theorem natL_len (l : List Nat) : (natL l).length = l.length := by unfold natL; rw [List.length_map]
theorem natL_snoc (l : List Nat) (q : Nat) : natL l ++ [.int (q : Int)] = natL (l ++ [q]) := by unfold natL; rw [List.map_append]; rfl
theorem natL_get {l : List Nat} {i : Nat} {x : V} (h : (natL l)[i]? = some x) : ∃ q, l[i]? = some q /\ x = .int (q : Int) := by
  unfold natL at h
  rw [List.getElem?_map] at h
  cases e : l[i]? with
  | none => rw [e] at h; cases h
  | some q => rw [e] at h; cases h; exact ⟨q, rfl, rfl⟩
theorem natL_at {l : List Nat} {i q : Nat} (h : l[i]? = some q) : atI (natL l) (i : Int) = some (.int (q : Int)) := atI_nat (by unfold natL; rw [List.getElem?_map, h]; rfl)
theorem natL_ints (l : List Nat) : natL l = (l.map Int.ofNat).map V.int := by unfold natL; rw [List.map_map]; rfl
theorem WebAt.row {H : Hp} {a : Addr} {g : List (List Nat)} (h : WebAt H a g) : ∃ xs, H a = some (.tup xs) /\ xs.length = g.length /\ ∀ p, p < g.length -> ∃ r, atI xs (p : Int) = some (.ref r) /\ H r = some (.tup (natL (g.getD p []))) := by
  obtain ⟨xs, h1, h2⟩ := h
  refine ⟨xs, h1, h2.length, fun p hp => ?_⟩
  obtain ⟨v, ev, r, rfl, hr⟩ : ∃ v, xs[p]? = some v /\ RowV H v (g.getD p []) := by
    have aux : ∀ {l : List V} {m : List (List Nat)}, Paired (RowV H) l m -> ∀ (i : Nat), i < m.length -> ∃ v, l[i]? = some v /\ RowV H v (m.getD i []) := by
      intro l m hp
      induction hp with
      | nil => intro i hi; simp at hi
      | cons r t ih =>
        intro i hi
        cases i with
        | zero => exact ⟨_, rfl, r⟩
        | succ i =>
          simp at hi
          obtain ⟨v, q1, q2⟩ := ih i hi
          exact ⟨v, by simpa using q1, by simpa using q2⟩
    exact aux h2 p hp
  exact ⟨r, atI_nat ev, hr⟩
theorem left_mark {n s : Nat} : ∀ (L : List Nat) (c : (Nat -> Option Nat) × List Nat), (∀ x ∈ L, x < n) -> (L.foldl (mark s) c).2.length + left n (L.foldl (mark s) c).1 <= c.2.length + left n c.1
  | [], c, _ => Nat.le_refl _
  | o :: L, c, h => by
    rw [List.foldl_cons]
    refine Nat.le_trans (left_mark L _ fun x hx => h x (List.mem_cons_of_mem _ hx)) ?_
    unfold mark
    by_cases e : c.1 o = none
    · rw [if_pos e]
      have : left n (fun x => if x = o then some s else c.1 x) < left n c.1 := by
        unfold left
        refine countP_lt (fun x hx q => ?_) ⟨o, List.mem_range.mpr (h o List.mem_cons_self), by simp [e], by simp⟩
        by_cases z : x = o
        · subst z; simp at q
        · simpa [z] using q
      show (c.2 ++ [o]).length + left n (fun x => if x = o then some s else c.1 x) <= _
      rw [List.length_append]
      show c.2.length + 1 + _ <= _
      omega
    · rw [if_neg e]
      exact Nat.le_refl _
theorem left_le (n : Nat) (t : Nat -> Option Nat) : left n t <= n := by
  unfold left
  have := List.countP_le_length (p := fun x => (t x).isNone) (l := List.range n)
  rw [List.length_range] at this
  exact this
theorem take_flat {α : Type} {f : Nat -> List α} {l : List Nat} {i q : Nat} (h : l[i]? = some q) : (l.take (i + 1)).flatMap f = (l.take i).flatMap f ++ f q := by
  rw [List.take_add_one, h, List.flatMap_append]
  simp
def spFrom : Sp := fun vs H Q _ => ∃ (wa : Addr) (a : Nat) (g : List (List Nat)), vs = [.ref wa, .int (a : Int)] /\ WebAt H wa g /\ Inn g /\ a < g.length /\ g.length <= 1000 /\
  ∀ l H', H l = none -> H' l = some (.lst (optL g.length (dist g a))) -> Same H H' -> Q (.ref l) H'
theorem Cfars_from (T : Txt K mg tMOST_PLACES cLam) : Callee P w K mg base 1 "fars_from" ["web", "start"] spFrom := by
  refine mkCallee T.dfars_from scfars_from (fun _ _ _ _ _ _ us hl => match us, hl with | [_, _], _ => rfl) (fun vs H Q E h => ?_) (fun f cdv A outer s H vs Q E hr h => ?_)
  · obtain ⟨wa, a, g, rfl, _⟩ := h; rfl
  · obtain ⟨wa, a, g, rfl, hw, hinn, ha, h1000, k⟩ := h
    obtain ⟨ws, hws, hwl, hrow⟩ := hw.row
    generalize hn : g.length = n at *
    refine ⟨_, (pss_cons (ps_set (i := 2) scfars_from.nd rfl (.inl rfl) (pe_op op_rep (pe_lst (pa_cons pe_non pa_nil)) (pe_callB (lenq (K := K) rfl) rfl T.z_len bt_len (pa_cons (pv 0) pa_nil)))) (pss_cons (ps_asg pe_int (pg_sub (pv 2) (pv 1) set_list)) (pss_cons (ps_set (i := 3) scfars_from.nd rfl (.inl rfl) (pe_lst (pa_cons (pv 1) pa_nil))) (pss_cons (ps_set (i := 4) scfars_from.nd rfl (.inl rfl) pe_int) (pss_cons (ps_while PassesOwn.never (pt_truth (pv 3) (by intro _; rfl)) (pss_cons (ps_set (i := 4) scfars_from.nd rfl (.inl rfl) (pe_op op_add (pv 4) pe_int)) (pss_cons (ps_set (i := 5) scfars_from.nd rfl (.inl rfl) (pe_lst pa_nil)) (pss_cons (ps_for PassesOwn.never rfl (pil (K := K) rfl (pv 3)) (pg_name (i := 6) scfars_from.nd rfl (.inl rfl)) (pss_one (ps_for PassesOwn.never rfl (pit (K := K) rfl (pe_ix (ixt (K := K) rfl) (pv 0) (pv 6) (fun _ _ => rfl))) (pg_name (i := 7) scfars_from.nd rfl (.inl rfl)) (pss_one (ps_if (pt_cmpR op_isN (pe_ix (ixl (K := K) rfl) (pv 2) (pv 7) (fun _ _ => rfl)) pe_non (nomark _)) (pss_cons (ps_asg (pv 4) (pg_sub (pv 2) (pv 7) set_list)) (pss_one (ps_expr (bm (K := K) rfl PySem.F.plainAttrs_list PySem.F.slot_list_append PySem.F.type_list_append mt_append (pv 5) (pa_cons (pv 7) pa_nil))))) pss_nil))))) (pss_one (ps_set (i := 3) scfars_from.nd rfl (.inl rfl) (pv 5))))))) (pss_one (ps_ret (pv 2)))))))), ?_⟩
    refine ⟨by show 1 <= sizeLine; decide, fun p1 hp1 => ⟨_, rfl, wa, ws, rfl, .inr (SqT.of ((Same.new hp1) _ _ hws)), p1, ((ws.length : Nat) : Int), [.non], rfl, rfl, upd_same, by omega, by omega, ?_, fun tl htl => ?_⟩⟩
    · rw [Int.toNat_natCast, hwl]
      show 1 * n <= sizeLine
      exact Nat.le_of_lt (small1000 (by omega))
    rw [Int.toNat_natCast, hwl, optL_none]
    have sA := (Same.new (o := .lst [.non]) hp1).updr (o := .lst (optL n fun _ => none)) htl
    have ntl : H tl = none := (Same.new hp1).free htl
    refine ⟨_, rfl, _, rfl, tl, _, (a : Int), a, rfl, rfl, upd_same, ixN_lt (by rw [optL_len]; exact ha), ?_⟩
    rw [show (V.int 0) = .int ((0 : Nat) : Int) from rfl, optL_set]
    have sB := sA.of_upd (o := .lst (optL n fun x => if x = a then some 0 else none)) ntl
    refine ⟨_, rfl, by show 1 <= sizeLine; decide, fun r0 hr0 => ?_⟩
    have sC := sB.updr (o := .lst [.int (a : Int)]) hr0
    have etl : upd (upd (upd (upd H p1 (.lst [.non])) tl (.lst (optL n fun _ => none))) tl (.lst (optL n fun x => if x = a then some 0 else none))) r0 (.lst [.int (a : Int)]) tl = some (.lst (optL n fun x => if x = a then some 0 else none)) := (Same.new hr0) _ _ upd_same
    have nr0 : tl ≠ r0 := ne_of_none upd_same hr0
    refine ⟨fun m σ H' => ∃ (st : Nat) (t : Nat -> Option Nat) (R : List Nat) (rl : Addr) (v5 v6 v7 : Option V), σ = [some (.ref wa), some (.int (a : Int)), some (.ref tl), some (.ref rl), some (.int (st : Int)), v5, v6, v7] /\
        H' tl = some (.lst (optL n t)) /\ H' rl = some (.lst (natL R)) /\ Bfs g a st t R /\ tl ≠ rl /\ Same H H' /\ m = 2 * left n t + (if R = [] then 0 else 1),
      ⟨_, 0, _, [a], r0, _, _, _, rfl, etl, upd_same, bfs_start g a, nr0, sC, rfl⟩, ?_⟩
    · rintro m σ H1 ⟨st, t, R, rl, v5, v6, v7, rfl, htl1, hrl1, hb, hne, hs, rfl⟩
      refine ⟨_, rfl, !(natL R).isEmpty, .inl ⟨_, SqL.of hrl1, rfl⟩, ite2 (fun hc => ⟨_, fun _ _ z => z, ?_⟩) (fun hc => ?_)⟩
      · have hR : R ≠ [] := by rintro rfl; simp [natL] at hc
        have hlt : ∀ x ∈ R, x < n := fun x hx => by have := dist_lt hinn (by rw [hn]; exact ha) ((hb.ring x).mp hx); omega
        refine ⟨_, rfl, _, _, rfl, rfl, by show 0 <= sizeLine; decide, fun nw hnw => ?_⟩
        have nwt : nw ≠ tl := fun e => by rw [e, htl1] at hnw; cases hnw
        have nwr : nw ≠ rl := fun e => by rw [e, hrl1] at hnw; cases hnw
        have nnw : H nw = none := hs.free hnw
        have s2 := Same.new (o := .lst []) hnw
        refine ⟨_, rfl, rl, rfl, ⟨_, SqL.of (s2 _ _ hrl1)⟩, for_list (xs := natL R) (fun i σ H' => (∃ v6 v7, σ = [some (.ref wa), some (.int (a : Int)), some (.ref tl), some (.ref rl), some (.int ((st : Int) + 1)), some (.ref nw), v6, v7]) /\
            H' tl = some (.lst (optL n (((R.take i).flatMap fun p => g.getD p []).foldl (mark (st + 1)) (t, [])).1)) /\ H' nw = some (.lst (natL (((R.take i).flatMap fun p => g.getD p []).foldl (mark (st + 1)) (t, [])).2)) /\ H' rl = some (.lst (natL R)) /\ Same H H')
          ⟨⟨_, _, rfl⟩, s2 _ _ htl1, upd_same, s2 _ _ hrl1, hs.trans s2⟩ (fun i σ H' _ p => SqL.of p.2.2.2.1) ?_ ?_⟩
        · rintro i x σ H2 hi ⟨⟨u6, u7, rfl⟩, ht2, hn2, hr2, hs2⟩
          obtain ⟨p, ep, rfl⟩ := natL_get hi
          have hpn := hlt p (List.mem_of_getElem? ep)
          obtain ⟨ra, era, hra⟩ := hrow p (by omega)
          have hLi : ∀ x ∈ (R.take i).flatMap (fun p => g.getD p []), x < n := fun x hx => by
            rw [List.mem_flatMap] at hx
            obtain ⟨q, _, hq⟩ := hx
            have := hinn q x hq; omega
          refine ⟨_, rfl, _, rfl, wa, _, _, _, rfl, rfl, SqT.of (hs2 _ _ hws), era, ra, rfl, ⟨_, SqT.of (hs2 _ _ hra)⟩, for_tup (xs := natL (g.getD p [])) (fun j σ H' => (∃ v7, σ = [some (.ref wa), some (.int (a : Int)), some (.ref tl), some (.ref rl), some (.int ((st : Int) + 1)), some (.ref nw), some (.int (p : Int)), v7]) /\
              H' tl = some (.lst (optL n (((R.take i).flatMap (fun p => g.getD p []) ++ (g.getD p []).take j).foldl (mark (st + 1)) (t, [])).1)) /\ H' nw = some (.lst (natL (((R.take i).flatMap (fun p => g.getD p []) ++ (g.getD p []).take j).foldl (mark (st + 1)) (t, [])).2)) /\ H' rl = some (.lst (natL R)) /\ Same H H')
            ⟨⟨_, rfl⟩, by rw [List.take_zero, List.append_nil]; exact ht2, by rw [List.take_zero, List.append_nil]; exact hn2, hr2, hs2⟩ (fun j σ H' _ q => SqT.of (q.2.2.2.2 _ _ hra)) ?_ ?_⟩
          · rintro j y σ H3 hj ⟨⟨u7, rfl⟩, ht3, hn3, hr3, hs3⟩
            obtain ⟨o, eo, rfl⟩ := natL_get hj
            have hon : o < n := by have := hinn p o (List.mem_of_getElem? eo); omega
            have hL : ∀ x ∈ (R.take i).flatMap (fun p => g.getD p []) ++ (g.getD p []).take j, x < n := fun x hx => by
              rcases List.mem_append.mp hx with z | z
              · exact hLi x z
              · have := hinn p x (List.mem_of_mem_take z); omega
            have ef : ((R.take i).flatMap (fun p => g.getD p []) ++ (g.getD p []).take (j + 1)).foldl (mark (st + 1)) (t, []) = mark (st + 1) (((R.take i).flatMap (fun p => g.getD p []) ++ (g.getD p []).take j).foldl (mark (st + 1)) (t, [])) o := by
              rw [List.take_add_one, eo, <- List.append_assoc, List.foldl_append]; rfl
            have hbd := left_mark (s := st + 1) _ (t, []) hL
            have hl0 := left_le n t
            rw [ef]
            generalize hc3 : ((R.take i).flatMap (fun p => g.getD p []) ++ (g.getD p []).take j).foldl (mark (st + 1)) (t, []) = c at *
            refine ⟨_, rfl, _, rfl, tl, _, _, _, rfl, rfl, SqL.of ht3, optL_at hon, rfl, _, rfl, ?_⟩
            by_cases z : c.1 o = none
            · rw [show mark (st + 1) c o = (fun x => if x = o then some (st + 1) else c.1 x, c.2 ++ [o]) by unfold mark; rw [if_pos z], z]
              refine iteDT rfl ?_
              refine ⟨_, rfl, _, rfl, _, rfl, tl, _, (o : Int), o, rfl, rfl, ht3, ixN_lt (by rw [optL_len]; exact hon), ?_⟩
              have est : (V.int ((st : Int) + 1)) = .int ((st + 1 : Nat) : Int) := rfl
              rw [est, optL_set]
              refine ⟨_, rfl, .inl ⟨rfl, _, SqL.of (by rw [upd_ne nwt]; exact hn3)⟩, _, rfl, nw, _, _, rfl, rfl, by rw [upd_ne nwt]; exact hn3, ?_, ⟨_, rfl⟩, ?_, ?_, ?_, ?_⟩
              · rw [natL_len]
                have : c.2.length <= 1000 := by simp at hbd; omega
                exact small1000 this
              · rw [upd_ne nwt.symm, upd_same]
              · rw [upd_same, natL_snoc]
              · rw [upd_ne nwr.symm, upd_ne hne.symm]; exact hr3
              · exact (hs3.of_upd ntl).of_upd nnw
            · obtain ⟨d, ed⟩ : ∃ d, c.1 o = some d := by
                cases q : c.1 o with
                | none => exact absurd q z
                | some d => exact ⟨d, rfl⟩
              rw [show mark (st + 1) c o = c by unfold mark; rw [if_neg z], ed]
              exact iteDF (by intro q; cases q) ⟨⟨_, rfl⟩, ht3, hn3, hr3, hs3⟩
          · rintro σ H3 ⟨⟨u7, rfl⟩, ht3, hn3, hr3, hs3⟩
            have e1 : (g.getD p []).take (natL (g.getD p [])).length = g.getD p [] := by rw [natL_len, List.take_length]
            rw [e1, <- take_flat (f := fun p => g.getD p []) ep] at ht3 hn3
            exact ⟨⟨_, _, rfl⟩, ht3, hn3, hr3, hs3⟩
        · rintro σ H2 ⟨⟨u6, u7, rfl⟩, ht2, hn2, hr2, hs2⟩
          have e1 : R.take (natL R).length = R := by rw [natL_len, List.take_length]
          rw [e1] at ht2 hn2
          refine ⟨_, rfl, _, ?_, st + 1, _, _, nw, _, _, _, rfl, ht2, hn2, bfs_step hb, nwt.symm, hs2, rfl⟩
          have hL : ∀ x ∈ R.flatMap (fun p => g.getD p []), x < n := fun x hx => by
            rw [List.mem_flatMap] at hx
            obtain ⟨q, _, hq⟩ := hx
            have := hinn q x hq; omega
          have hle := left_mark (s := st + 1) _ (t, []) hL
          rw [if_neg hR]
          by_cases z : ((R.flatMap fun p => g.getD p []).foldl (mark (st + 1)) (t, [])).2 = []
          · rw [if_pos z]
            have hle2 : _ + left n _ <= 0 + left n t := hle
            omega
          · rw [if_neg z]
            have := left_step hL z
            omega
      · have hR : R = [] := by
          cases R with
          | nil => rfl
          | cons x R => exact absurd rfl hc
        subst hR
        have he := bfs_end hb
        rw [optL_congr he] at htl1
        exact ⟨_, rfl, k tl H1 ntl htl1 hs⟩
end
section
variable {P : Program} {w : World} {K : PySem.W.Frag} {mg : Str -> Option Value} {base : Heap} {tMOST_PLACES : Tok} {cLam pLam : Addr}
structure TabAt (H : Hp) (l : Addr) (rs : List Addr) (n : Nat) (f : Nat -> Nat -> Option Nat) : Prop where
  ls : H l = some (.lst (rs.map V.ref))
  len : rs.length = n
  nd : rs.Nodup
  out : l ∉ rs
  row : ∀ (p : Nat) (r : Addr), rs[p]? = some r -> H r = some (.lst (optL n (f p)))
theorem TabAt.mono {H H' : Hp} {l : Addr} {rs : List Addr} {n : Nat} {f : Nat -> Nat -> Option Nat} (h : TabAt H l rs n f) (s : Same H H') : TabAt H' l rs n f := ⟨s _ _ h.ls, h.len, h.nd, h.out, fun p r e => s _ _ (h.row p r e)⟩
theorem TabAt.at {H : Hp} {l : Addr} {rs : List Addr} {n : Nat} {f : Nat -> Nat -> Option Nat} (h : TabAt H l rs n f) {a : Nat} (ha : a < n) : ∃ r, atI (rs.map V.ref) (a : Int) = some (.ref r) /\ H r = some (.lst (optL n (f a))) := by
  have e : rs[a]? = some (rs[a]'(by rw [h.len]; exact ha)) := List.getElem?_eq_getElem _
  exact ⟨_, atI_nat (by rw [List.getElem?_map, e]; rfl), h.row a _ e⟩
def spFars : Sp := fun vs H Q _ => ∃ (wa : Addr) (g : List (List Nat)), vs = [.ref wa] /\ WebAt H wa g /\ Inn g /\ g.length <= 1000 /\
  ∀ l rs H', H l = none -> (∀ r ∈ rs, H r = none) -> TabAt H' l rs g.length (dist g) -> Same H H' -> Q (.ref l) H'
theorem Cfars (T : Txt K mg tMOST_PLACES cLam) : Callee P w K mg base 2 "fars" ["web"] spFars := by
  have Cfars_from := Cfars_from (P := P) (w := w) (base := base) T
  refine mkCallee T.dfars scfars (fun _ _ _ _ _ _ us hl => match us, hl with | [_], _ => rfl) (fun vs H Q E h => ?_) (fun f cdv A outer s H vs Q E hr h => ?_)
  · obtain ⟨wa, g, rfl, _⟩ := h; rfl
  · obtain ⟨wa, g, rfl, hw, hinn, h1000, k⟩ := h
    obtain ⟨ws, hws, hwl, _⟩ := hw.row
    refine ⟨_, (pss_one (ps_ret (pe_lc (NB := ["place", "web"]) (nt := 1) (fr := [0]) rfl (by kernel_rfl) (pi_range1 rfl T.z_range (pa_cons (pe_callB (lenq (K := K) rfl) rfl T.z_len bt_len (pa_cons (pv 0) pa_nil)) pa_nil)) (fun _ _ _ _ _ => (pg_name (i := 0) (show List.Nodup (["place", "web"] : List Str) by decide +kernel) rfl (.inl rfl))) (fun _ _ _ _ _ => pts_nil) (fun _ _ _ _ _ => (pe_fn Cfars_from hr rfl (pa_cons (pv 1) (pa_cons (pv 0) pa_nil))))))), ?_⟩
    refine ⟨_, rfl, wa, ws, rfl, .inr (SqT.of hws), ((g.length : Nat) : Int), congrArg (fun z => [V.int ((z : Nat) : Int)]) hwl, by omega, by omega, lc_range0 (Pv := fun i σ' ys H' => (∃ v, σ' = [v, some (.ref wa)]) /\ i <= g.length /\ ∃ rs : List Addr, ys = rs.map V.ref /\ rs.length = i /\ rs.Nodup /\
        (∀ r ∈ rs, H r = none) /\ (∀ (p : Nat) (r : Addr), rs[p]? = some r -> H' r = some (.lst (optL g.length (dist g p)))) /\ Same H H')
      ⟨⟨_, rfl⟩, Nat.zero_le _, [], rfl, rfl, List.nodup_nil, fun r hr => absurd hr (by simp), fun p r e => by simp at e, Same.refl H⟩ (fun i σ' ys H' p => ?_) ?_ ?_⟩
    · obtain ⟨_, hi, rs, rfl, e, _⟩ := p
      rw [List.length_map, e]
      exact small1000 (by omega)
    · rintro i σ' ys H1 hi ⟨⟨v, rfl⟩, _, rs, rfl, hlen, hnd, hnone, hrow, hs⟩
      refine lcN ?_
      refine ⟨_, rfl, _, rfl, wa, i, g, rfl, hw.mono hs, hinn, hi, h1000, fun l H2 nl hl hs2 => ⟨⟨_, rfl⟩, by omega, rs ++ [l], by simp, by simp [hlen], ?_, ?_, ?_, hs.trans hs2⟩⟩
      · rw [List.nodup_append]
        refine ⟨hnd, by simp, fun a ha b hb => ?_⟩
        have : b = l := by simpa using hb
        subst this
        rintro rfl
        obtain ⟨j, hj, e⟩ := List.getElem_of_mem ha
        have q := hrow j a (by rw [List.getElem?_eq_getElem hj, e])
        rw [nl] at q
        cases q
      · intro r hr
        rcases List.mem_append.mp hr with z | z
        · exact hnone r z
        · have : r = l := by simpa using z
          subst this
          exact hs.free nl
      · intro p r e
        by_cases hlt : p < rs.length
        · rw [List.getElem?_append_left hlt] at e
          exact hs2 _ _ (hrow p r e)
        · have ep : p = rs.length := by
            have := (List.getElem?_eq_some_iff.mp e).1
            simp at this
            omega
          subst ep
          simp at e
          subst e
          rw [hlen]
          exact hl
    · rintro σ' ys H1 ⟨_, _, rs, rfl, hlen, hnd, hnone, hrow, hs⟩ D hD
      refine k D rs _ (hs.free hD) hnone ⟨upd_same, hlen, hnd, fun z => ?_, fun p r e => (Same.new hD) _ _ (hrow p r e)⟩ (hs.updr hD)
      obtain ⟨j, hj, e⟩ := List.getElem_of_mem z
      have q := hrow j D (by rw [List.getElem?_eq_getElem hj, e])
      rw [hD] at q
      cases q
theorem filter_take_succ {α : Type} {l : List α} {f : α -> Bool} {j : Nat} {x : α} (h : l[j]? = some x) : (l.take (j + 1)).filter f = (l.take j).filter f ++ (if f x = true then [x] else []) := by
  rw [List.take_add_one, h, List.filter_append]
  congr 1
  cases e : f x <;> simp [e]
end
section
variable {P : Program} {w : World} {K : PySem.W.Frag} {mg : Str -> Option Value} {base : Heap} {tMOST_PLACES : Tok} {cLam pLam : Addr}
theorem natL_flat (l : List Nat) : (natL l).all flatV = true := by
  unfold natL
  rw [List.all_map, List.all_eq_true]
  intro x _
  rfl
theorem natL_in (x : Nat) (l : List Nat) : inV (.int (x : Int)) (natL l) = decide (x ∈ l) := by
  unfold inV natL
  rw [Bool.eq_iff_iff, List.any_map, List.any_eq_true, decide_eq_true_eq]
  constructor
  · rintro ⟨y, hy, e⟩
    have e' : (((y : Nat) : Int) == (x : Int)) = true := e
    rw [beq_iff_eq] at e'
    have : y = x := by omega
    exact this ▸ hy
  · intro h
    exact ⟨x, h, by show (((x : Nat) : Int) == (x : Int)) = true; simp⟩
def spBetw : Sp := fun vs H Q _ => ∃ (wa : Addr) (a b : Nat) (g : List (List Nat)), vs = [.ref wa, .int (a : Int), .int (b : Int)] /\ WebAt H wa g /\ Inn g /\ Symm g /\ a < g.length /\ b < g.length /\ g.length <= 1000 /\
  ∀ l H', H l = none -> H' l = some (.lst (natL (betw g a b))) -> Same H H' -> Q (.ref l) H'
theorem range_filter_succ (f : Nat -> Bool) (i : Nat) : (List.range (i + 1)).filter f = (List.range i).filter f ++ (if f i = true then [i] else []) := by
  rw [List.range_succ, List.filter_append]
  congr 1
  cases e : f i <;> simp [e]
def spBy : Sp := fun vs H Q _ => ∃ (fa fb : Addr) (a b : Nat) (g : List (List Nat)), vs = [.ref fa, .ref fb, .int (b : Int)] /\ H fa = some (.lst (optL g.length (dist g a))) /\ H fb = some (.lst (optL g.length (dist g b))) /\ Symm g /\ a < g.length /\ b < g.length /\ g.length <= 1000 /\
  ∀ l H', H l = none -> H' l = some (.lst (natL (betw g a b))) -> Same H H' -> Q (.ref l) H'
theorem Cbetween_by (T : Txt K mg tMOST_PLACES cLam) : Callee P w K mg base 1 "between_by" ["from_a", "from_b", "b"] spBy := by
  refine mkCallee T.dbetween_by scbetween_by (fun _ _ _ _ _ _ us hl => match us, hl with | [_, _, _], _ => rfl) (fun vs H Q E h => ?_) (fun f cdv A outer s H vs Q E hr h => ?_)
  · obtain ⟨fa, fb, a, b, g, rfl, _⟩ := h; rfl
  · obtain ⟨fa, fb, a, b, g, rfl, hfa2, hfb, hsym, ha, hb, h1000, k⟩ := h
    refine ⟨_, (pss_cons (ps_if (pt_cmpR op_isN (pe_ix (ixl (K := K) rfl) (pv 0) (pv 2) (fun _ _ => rfl)) pe_non (nomark _)) (pss_one (ps_ret (pe_lst pa_nil))) pss_nil) (pss_cons (ps_setLC (NB := ["x", "from_a"]) (nt := 1) (fr := [0]) rfl (by kernel_rfl) (i := 3) scbetween_by.nd rfl rfl (pi_range1 rfl T.z_range (pa_cons (pe_callB (lenq (K := K) rfl) rfl T.z_len bt_len (pa_cons (pv 0) pa_nil)) pa_nil)) (fun _ _ _ _ _ => (pg_name (i := 0) (show List.Nodup (["x", "from_a"] : List Str) by decide +kernel) rfl (.inl rfl))) (fun _ _ _ _ _ => (pts_one (pt_cmpR op_notN (pe_ix (ixl (K := K) rfl) (pv 1) (pv 0) (fun _ _ => rfl)) pe_non (nomark _)))) (fun _ _ _ _ _ => (pv 0))) (pss_one (ps_ret (pe_lc (NB := ["x", "from_a", "from_b", "b"]) (nt := 1) (fr := [0, 1, 2]) rfl (by kernel_rfl) (pil (K := K) rfl (pv 3)) (fun _ _ _ _ _ => (pg_name (i := 0) (show List.Nodup (["x", "from_a", "from_b", "b"] : List Str) by decide +kernel) rfl (.inl rfl))) (fun _ _ _ _ _ => (pts_one (pt_cmpR op_eq (pe_op op_add (pe_ix (ixl (K := K) rfl) (pv 1) (pv 0) (fun _ _ => rfl)) (pe_ix (ixl (K := K) rfl) (pv 2) (pv 0) (fun _ _ => rfl))) (pe_ix (ixl (K := K) rfl) (pv 1) (pv 3) (fun _ _ => rfl)) (nomark _)))) (fun _ _ _ _ _ => (pv 0))))))), ?_⟩
    have s12 := Same.refl H
    refine ⟨_, rfl, _, rfl, fa, _, _, _, rfl, rfl, SqL.of hfa2, optL_at hb, rfl, _, rfl, ?_⟩
    cases ed : dist g a b with
    | none =>
      refine iteDT rfl ⟨by show 0 <= sizeLine; decide, fun l hl => k l _ (s12.free hl) ?_ (s12.updr hl)⟩
      have e : betw g a b = [] := by
        unfold betw
        rw [List.filter_eq_nil_iff]
        intro x _
        unfold lies
        rw [ed]
        simp
      rw [upd_same, e]
      rfl
    | some d =>
      refine iteDF (by intro z; cases z) ?_
      refine ⟨_, rfl, fa, _, rfl, .inl (SqL.of hfa2), ((g.length : Nat) : Int), congrArg (fun z => [V.int ((z : Nat) : Int)]) (optL_len _ _), by omega, by omega, lc_range0 (Pv := fun i σ' ys H' => (∃ v, σ' = [v, some (.ref fa)]) /\ i <= g.length /\ ys = natL ((List.range i).filter fun x => (dist g a x).isSome) /\ H = H')
        ⟨⟨_, rfl⟩, Nat.zero_le _, rfl, rfl⟩ (fun i σ' ys H' p => ?_) ?_ ?_⟩
      · rw [p.2.2.1, natL_len]
        refine small1000 (Nat.le_trans (List.length_filter_le _ _) ?_)
        rw [List.length_range]
        have := p.2.1
        omega
      · rintro i σ' ys H' hi ⟨⟨v, rfl⟩, _, rfl, rfl⟩
        refine ⟨_, rfl, _, rfl, fa, _, _, _, rfl, rfl, SqL.of hfa2, optL_at hi, rfl, _, rfl, ?_⟩
        rw [range_filter_succ]
        cases e : dist g a i with
        | none => exact iteNS rfl ⟨⟨_, rfl⟩, by omega, by simp, rfl⟩
        | some x => exact iteNT (by intro z; cases z) ⟨_, rfl, ⟨_, rfl⟩, by omega, by rw [natL_snoc]; rfl, rfl⟩
      · rintro σ' ys H' ⟨_, _, rfl, rfl⟩ D hD
        have s3 := Same.new (o := .lst (natL ((List.range g.length).filter fun x => (dist g a x).isSome))) hD
        refine ⟨_, rfl, D, rfl, ⟨_, SqL.of upd_same⟩, lc_list (xs := natL ((List.range g.length).filter fun x => (dist g a x).isSome)) (fun i σ' ys H' => (∃ v, σ' = [v, some (.ref fa), some (.ref fb), some (.int (b : Int))]) /\
            ys = natL ((((List.range g.length).filter fun x => (dist g a x).isSome).take i).filter (lies g a b)) /\ H' = upd H D (.lst (natL ((List.range g.length).filter fun x => (dist g a x).isSome))))
          ⟨⟨_, rfl⟩, rfl, rfl⟩ (fun i σ' ys H' _ p => by rw [p.2.2]; exact SqL.of upd_same) (fun i σ' ys H' p => ?_) ?_ ?_⟩
        · rw [p.2.1, natL_len]
          refine small1000 (Nat.le_trans (List.length_filter_le _ _) ?_)
          rw [List.length_take]
          refine Nat.le_trans (Nat.min_le_right _ _) (Nat.le_trans (List.length_filter_le _ _) ?_)
          rw [List.length_range]
          exact h1000
        · rintro i x σ' ys H' hi ⟨⟨v, rfl⟩, rfl, rfl⟩
          obtain ⟨x, ex, rfl⟩ := natL_get hi
          have hx := List.mem_of_getElem? ex
          rw [List.mem_filter, List.mem_range] at hx
          obtain ⟨e, ee⟩ := Option.isSome_iff_exists.mp hx.2
          obtain ⟨f, ef⟩ : ∃ f, dist g b x = some f := by
            obtain ⟨f, q, _⟩ := dist_of_walk (walk_append (walk_symm hsym (dist_some ed).1) (dist_some ee).1)
            exact ⟨f, q⟩
          refine ⟨_, rfl, _, rfl, fa, _, _, _, rfl, rfl, SqL.of (s3 _ _ hfa2), optL_at hx.1, _, rfl, _, rfl, fb, _, _, _, rfl, rfl, SqL.of (s3 _ _ hfb), optL_at hx.1, ?_⟩
          rw [ee, ef]
          refine ⟨_, _, rfl, rfl, _, rfl, _, rfl, fa, _, _, _, rfl, rfl, SqL.of (s3 _ _ hfa2), optL_at hb, ?_⟩
          rw [ed, filter_take_succ ex]
          have el : lies g a b x = decide (e + f = d) := by unfold lies; rw [ed, ee, ef]
          rw [el]
          refine ⟨rfl, _, rfl, ?_⟩
          by_cases z : e + f = d
          · refine iteDT (by show V.int ((e : Int) + (f : Int)) = V.int (d : Int); congr 1; omega) ⟨_, rfl, ⟨_, rfl⟩, ?_, rfl⟩
            rw [if_pos (decide_eq_true z)]
            exact natL_snoc _ _
          · refine iteDF (by intro y; have y' : V.int ((e : Int) + (f : Int)) = V.int (d : Int) := y; injection y' with y'; omega) ⟨⟨_, rfl⟩, ?_, rfl⟩
            rw [if_neg (by simpa using z), List.append_nil]
        · rintro σ' ys H' ⟨_, rfl, rfl⟩ D2 hD2
          refine k D2 _ ((s12.trans s3).free hD2) ?_ ((s12.trans s3).updr hD2)
          rw [upd_same, natL_len, List.take_length, List.filter_filter]
          congr 3
          unfold betw
          refine List.filter_congr fun x _ => ?_
          unfold lies
          rw [ed]
          cases dist g a x <;> simp
theorem Cbetween (T : Txt K mg tMOST_PLACES cLam) : Callee P w K mg base 2 "between" ["web", "a", "b"] spBetw := by
  have Cfars_from := Cfars_from (P := P) (w := w) (base := base) T
  have Cbetween_by := Cbetween_by (P := P) (w := w) (base := base) T
  refine mkCallee T.dbetween scbetween (fun _ _ _ _ _ _ us hl => match us, hl with | [_, _, _], _ => rfl) (fun vs H Q E h => ?_) (fun f cdv A outer s H vs Q E hr h => ?_)
  · obtain ⟨wa, a, b, g, rfl, _⟩ := h; rfl
  · obtain ⟨wa, a, b, g, rfl, hw, hinn, hsym, ha, hb, h1000, k⟩ := h
    refine ⟨_, (pss_one (ps_ret (pe_fn Cbetween_by hr rfl (pa_cons (pe_fn Cfars_from hr rfl (pa_cons (pv 0) (pa_cons (pv 1) pa_nil))) (pa_cons (pe_fn Cfars_from hr rfl (pa_cons (pv 0) (pa_cons (pv 2) pa_nil))) (pa_cons (pv 2) pa_nil)))))), ?_⟩
    refine ⟨_, rfl, _, rfl, wa, a, g, rfl, hw, hinn, ha, h1000, fun fa H1 nfa hfa s1 => ?_⟩
    refine ⟨_, rfl, _, rfl, wa, b, g, rfl, hw.mono s1, hinn, hb, h1000, fun fb H2 nfb hfb s2 => ?_⟩
    have s12 := s1.trans s2
    exact ⟨_, rfl, fa, fb, a, b, g, rfl, s2 _ _ hfa, hfb, hsym, ha, hb, h1000, fun l H3 nl hl s3 => k l H3 (s12.free nl) hl (s12.trans s3)⟩
def spMids : Sp := fun vs H Q _ => ∃ (wa : Addr) (a b c : Nat) (g : List (List Nat)), vs = [.ref wa, .int (a : Int), .int (b : Int), .int (c : Int)] /\ WebAt H wa g /\ Inn g /\ Symm g /\ a < g.length /\ b < g.length /\ c < g.length /\ g.length <= 1000 /\
  ∀ l H', H l = none -> H' l = some (.lst (natL (mids g a b c))) -> Same H H' -> Q (.ref l) H'
theorem mem_betw {g : List (List Nat)} {a b x : Nat} (h : x < g.length) : decide (x ∈ betw g a b) = lies g a b x := by
  unfold betw
  rw [Bool.eq_iff_iff, decide_eq_true_eq, List.mem_filter, List.mem_range]
  exact ⟨fun z => z.2, fun z => ⟨h, z⟩⟩
theorem betw_lt {g : List (List Nat)} {a b x : Nat} (h : x ∈ betw g a b) : x < g.length := by
  unfold betw at h
  rw [List.mem_filter, List.mem_range] at h
  exact h.1
theorem betw_len (g : List (List Nat)) (a b : Nat) : (betw g a b).length <= g.length := by
  unfold betw
  refine Nat.le_trans (List.length_filter_le _ _) ?_
  rw [List.length_range]
  exact Nat.le_refl _
def spInThree : Sp := fun vs H Q _ => ∃ (l1 l2 l3 : Addr) (a b c : Nat) (g : List (List Nat)), vs = [.ref l1, .ref l2, .ref l3] /\ H l1 = some (.lst (natL (betw g a b))) /\ H l2 = some (.lst (natL (betw g b c))) /\ H l3 = some (.lst (natL (betw g a c))) /\ g.length <= 1000 /\
  ∀ l H', H l = none -> H' l = some (.lst (natL (mids g a b c))) -> Same H H' -> Q (.ref l) H'
theorem Cin_all_three (T : Txt K mg tMOST_PLACES cLam) : Callee P w K mg base 1 "in_all_three" ["first", "second", "third"] spInThree := by
  refine mkCallee T.din_all_three scin_all_three (fun _ _ _ _ _ _ us hl => match us, hl with | [_, _, _], _ => rfl) (fun vs H Q E h => ?_) (fun f cdv A outer s H vs Q E hr h => ?_)
  · obtain ⟨l1, l2, l3, a, b, c, g, rfl, _⟩ := h; rfl
  · obtain ⟨l1, l2, l3, a, b, c, g, rfl, h1', h2', h3, h1000, k⟩ := h
    have sA := Same.refl H
    refine ⟨_, (pss_one (ps_ret (pe_lc (NB := ["x", "second", "third"]) (nt := 1) (fr := [1, 2]) rfl (by kernel_rfl) (pil (K := K) rfl (pv 0)) (fun _ _ _ _ _ => (pg_name (i := 0) (show List.Nodup (["x", "second", "third"] : List Str) by decide +kernel) rfl (.inl rfl))) (fun _ _ _ _ _ => (pts_one (PW.pt (pw_and (pt_cmpR (inq (K := K) rfl) (pv 0) (pv 1) rfl) (pw_and1 (pt_cmpR (inq (K := K) rfl) (pv 0) (pv 2) rfl)))))) (fun _ _ _ _ _ => (pv 0))))), ?_⟩
    refine ⟨_, rfl, l1, rfl, ⟨_, SqL.of h1'⟩, lc_list (xs := natL (betw g a b)) (fun i σ' ys H' => (∃ v, σ' = [v, some (.ref l2), some (.ref l3)]) /\ ys = natL (((betw g a b).take i).filter fun x => lies g b c x && lies g a c x) /\ H' = H)
      ⟨⟨_, rfl⟩, rfl, rfl⟩ (fun i σ' ys H' _ p => by rw [p.2.2]; exact SqL.of h1') (fun i σ' ys H' p => ?_) ?_ ?_⟩
    · rw [p.2.1, natL_len]
      refine small1000 (Nat.le_trans (List.length_filter_le _ _) ?_)
      rw [List.length_take]
      exact Nat.le_trans (Nat.min_le_right _ _) (Nat.le_trans (betw_len g a b) h1000)
    · rintro i x σ' ys H' hi ⟨⟨v, rfl⟩, rfl, rfl⟩
      obtain ⟨x, ex, rfl⟩ := natL_get hi
      have hx := betw_lt (List.mem_of_getElem? ex)
      rw [filter_take_succ ex]
      refine ⟨_, rfl, _, rfl, l2, _, rfl, .inl (SqL.of h2'), rfl, natL_flat _, _, rfl, ?_⟩
      rw [if_neg Bool.false_ne_true, natL_in, mem_betw hx]
      cases q1 : lies g b c x with
      | false => exact iteF (iteF ⟨⟨_, rfl⟩, by simp, rfl⟩)
      | true =>
        refine iteT ⟨_, rfl, _, rfl, l3, _, rfl, .inl (SqL.of h3), rfl, natL_flat _, _, rfl, ?_⟩
        rw [if_neg Bool.false_ne_true, natL_in, mem_betw hx]
        cases q2 : lies g a c x with
        | false => exact iteF ⟨⟨_, rfl⟩, by simp, rfl⟩
        | true => exact iteT ⟨_, rfl, ⟨_, rfl⟩, by rw [natL_snoc]; rfl, rfl⟩
    · rintro σ' ys H' ⟨_, rfl, rfl⟩ D hD
      refine k D _ (sA.free hD) ?_ (sA.updr hD)
      rw [upd_same, natL_len, List.take_length]
      unfold betw mids
      rw [List.filter_filter]
      congr 3
      refine List.filter_congr fun x _ => ?_
      rw [Bool.and_comm]
theorem Cmiddles (T : Txt K mg tMOST_PLACES cLam) : Callee P w K mg base 3 "middles" ["web", "a", "b", "c"] spMids := by
  have Cbetween := Cbetween (P := P) (w := w) (base := base) T
  have Cin_all_three := Cin_all_three (P := P) (w := w) (base := base) T
  refine mkCallee T.dmiddles scmiddles (fun _ _ _ _ _ _ us hl => match us, hl with | [_, _, _, _], _ => rfl) (fun vs H Q E h => ?_) (fun f cdv A outer s H vs Q E hr h => ?_)
  · obtain ⟨wa, a, b, c, g, rfl, _⟩ := h; rfl
  · obtain ⟨wa, a, b, c, g, rfl, hw, hinn, hsym, ha, hb, hc, h1000, k⟩ := h
    refine ⟨_, (pss_one (ps_ret (pe_fn Cin_all_three hr rfl (pa_cons (pe_fn Cbetween hr rfl (pa_cons (pv 0) (pa_cons (pv 1) (pa_cons (pv 2) pa_nil)))) (pa_cons (pe_fn Cbetween hr rfl (pa_cons (pv 0) (pa_cons (pv 2) (pa_cons (pv 3) pa_nil)))) (pa_cons (pe_fn Cbetween hr rfl (pa_cons (pv 0) (pa_cons (pv 1) (pa_cons (pv 3) pa_nil)))) pa_nil)))))), ?_⟩
    refine ⟨_, rfl, _, rfl, _, rfl, wa, a, b, g, rfl, hw, hinn, hsym, ha, hb, h1000, fun l1 H1 n1 h1 s1 => ?_⟩
    refine ⟨_, rfl, _, rfl, _, rfl, wa, b, c, g, rfl, hw.mono s1, hinn, hsym, hb, hc, h1000, fun l2 H2 n2 h2 s2 => ?_⟩
    refine ⟨_, rfl, _, rfl, _, rfl, wa, a, c, g, rfl, (hw.mono s1).mono s2, hinn, hsym, ha, hc, h1000, fun l3 H3 n3 h3 s3 => ?_⟩
    have sA := (s1.trans s2).trans s3
    exact ⟨l1, l2, l3, a, b, c, g, rfl, s3 _ _ (s2 _ _ h1), s3 _ _ h2, h3, h1000, fun l H4 nl hl s4 => k l H4 (sA.free nl) hl (sA.trans s4)⟩
end
section
variable {P : Program} {w : World} {K : PySem.W.Frag} {mg : Str -> Option Value} {base : Heap} {tMOST_PLACES : Tok} {cLam pLam : Addr}
theorem xor_nat (a b : Nat) : Builtin.bitXor (a : Int) (b : Int) = ((a ^^^ b : Nat) : Int) := by
  unfold Builtin.bitXor
  rw [or_nat, and_nat]
  have := or_sum a b
  omega
theorem vint_inj {a b : Nat} (h : V.int (a : Int) = V.int (b : Int)) : a = b := by injection h with h; omega
theorem vint {a b : Nat} (h : a = b) : V.int (a : Int) = V.int (b : Int) := by rw [h]
def rNN (f : Nat -> Nat -> Nat) : R2 := fun x y H Q => ∃ i j : Nat, x = .int (i : Int) /\ y = .int (j : Int) /\ Q (.int ((f i j : Nat) : Int)) H
theorem op_andN {X : Cx} : OpR X (binaryOp .BitAnd) (rNN fun a b => a &&& b) := fun pins s σ H x y v u Q I rx ry ⟨i, j, e1, e2, q⟩ => op_and pins s σ H x y v u Q I rx ry ⟨i, j, e1, e2, by show Q (.int (Builtin.bitAnd (i : Int) (j : Int))) H; rw [and_nat]; exact q⟩
theorem op_orN {X : Cx} : OpR X (binaryOp .BitOr) (rNN fun a b => a ||| b) := fun pins s σ H x y v u Q I rx ry ⟨i, j, e1, e2, q⟩ => op_or pins s σ H x y v u Q I rx ry ⟨i, j, e1, e2, by show Q (.int (Builtin.bitOr (i : Int) (j : Int))) H; rw [or_nat]; exact q⟩
theorem op_xorN {X : Cx} : OpR X (binaryOp .BitXor) (rNN fun a b => a ^^^ b) := fun pins s σ H x y v u Q I rx ry ⟨i, j, e1, e2, q⟩ => op_xor pins s σ H x y v u Q I rx ry ⟨i, j, e1, e2, by show Q (.int (Builtin.bitXor (i : Int) (j : Int))) H; rw [xor_nat]; exact q⟩
theorem op_shrN {X : Cx} : OpR X (binaryOp .RShift) (rNN fun a b => a / 2 ^ b) := fun pins s σ H x y v u Q I rx ry ⟨i, j, e1, e2, q⟩ => op_shr pins s σ H x y v u Q I rx ry ⟨i, j, e1, e2, Int.natCast_nonneg _, by
  show Q (.int ((i : Int) / 2 ^ ((j : Int)).toNat)) H
  rw [Int.toNat_natCast, show ((i : Int) / 2 ^ j) = ((i / 2 ^ j : Nat) : Int) by rw [Int.natCast_ediv, Int.natCast_pow]; rfl]
  exact q⟩
def rShl1 : R2 := fun x y H Q => ∃ j : Nat, x = .int 1 /\ y = .int (j : Int) /\ j <= 1000 /\ Q (.int ((2 ^ j : Nat) : Int)) H
theorem op_shlN {X : Cx} : OpR X (binaryOp .LShift) rShl1 := fun pins s σ H x y v u Q I rx ry ⟨j, e1, e2, hj, q⟩ => op_shl pins s σ H x y v u Q I rx ry ⟨1, j, e1, e2, ⟨Int.natCast_nonneg _, by omega, by decide⟩, by
  show Q (.int ((1 : Int) * 2 ^ ((j : Int)).toNat)) H
  rw [Int.toNat_natCast, Int.one_mul, show ((2 : Int) ^ j) = ((2 ^ j : Nat) : Int) by rw [Int.natCast_pow]; rfl]
  exact q⟩
def spUnl : Sp := fun vs H Q _ => ∃ a b : Nat, vs = [.int (a : Int), .int (b : Int)] /\ Q (.int ((ud a b : Nat) : Int)) H
theorem C_law_unlike (T : Txt K mg tMOST_PLACES cLam) : Callee P w K mg base 1 "_law_unlike" ["_law_one", "_law_other"] spUnl := by
  refine mkCallee T.d_law_unlike sc_law_unlike (fun _ _ _ _ _ _ us hl => match us, hl with | [_, _], _ => rfl) (fun vs H Q E h => ?_) (fun f cdv A outer s H vs Q E hr h => ?_)
  · obtain ⟨a, b, rfl, _⟩ := h; rfl
  · obtain ⟨a, b, rfl, q⟩ := h
    refine ⟨_, (pss_cons (ps_set (i := 2) sc_law_unlike.nd rfl (.inl rfl) (pe_op op_xorN (pv 0) (pv 1))) (pss_cons (ps_set (i := 3) sc_law_unlike.nd rfl (.inl rfl) pe_int) (pss_cons (ps_while PassesOwn.never (pt_cmpR op_gt (pv 2) pe_int (nomark _)) (pss_cons (ps_set (i := 3) sc_law_unlike.nd rfl (.inl rfl) (pe_op op_add (pv 3) (pe_op op_mod (pv 2) pe_int))) (pss_one (ps_set (i := 2) sc_law_unlike.nd rfl (.inl rfl) (pe_op op_fdiv (pv 2) pe_int))))) (pss_one (ps_ret (pv 3)))))), ?_⟩
    refine ⟨_, rfl, _, rfl, _, _, rfl, rfl, ?_⟩
    refine ⟨fun m σ H' => ∃ x c : Nat, σ = [some (.int (a : Int)), some (.int (b : Int)), some (.int (x : Int)), some (.int (c : Int))] /\ H' = H /\ c + pc x = ud a b /\ m = x, ⟨_, _, 0, rfl, rfl, by show 0 + pc (a ^^^ b) = ud a b; unfold ud; omega, rfl⟩, ?_⟩
    rintro m σ H1 ⟨x, c, rfl, rfl, hc, rfl⟩
    refine ⟨_, rfl, _, _, rfl, rfl, _, rfl, ite2 (fun h => ⟨_, fun _ _ z => z, ?_⟩) (fun h => ?_)⟩
    · have h' := of_decide_eq_true h
      have hx : 0 < m := by omega
      refine ⟨_, rfl, _, rfl, _, _, rfl, rfl, (by show (0 : Int) < _; decide), _, _, rfl, rfl, ?_⟩
      refine ⟨_, rfl, _, _, rfl, rfl, ⟨by decide, by decide⟩, m / 2, by omega, m / 2, c + m % 2, rfl, rfl, ?_, rfl⟩
      rw [pc_eq] at hc
      omega
    · have h' := of_decide_eq_false (Bool.eq_false_iff.mpr h)
      have hx : m = 0 := by omega
      subst hx
      have : pc 0 = 0 := rfl
      refine ⟨_, rfl, ?_⟩
      rw [show c = ud a b by omega]
      exact q
def spHull : Sp := fun vs H Q _ => ∃ (bl sl : Addr) (B S : List Nat), vs = [.ref bl, .ref sl] /\ H bl = some (.lst (natL B)) /\ H sl = some (.lst (natL S)) /\ S ≠ [] /\ B.length <= 1000 /\
  ∀ l lo hi H', H l = none -> H' l = some (.lst (natL (hullB B lo hi))) -> Same H H' -> Q (.ref l) H'
theorem C_law_hull (T : Txt K mg tMOST_PLACES cLam) : Callee P w K mg base 1 "_law_hull" ["_law_bits_here", "_law_some_here"] spHull := by
  refine mkCallee T.d_law_hull sc_law_hull (fun _ _ _ _ _ _ us hl => match us, hl with | [_, _], _ => rfl) (fun vs H Q E h => ?_) (fun f cdv A outer s H vs Q E hr h => ?_)
  · obtain ⟨bl, sl, B, S, rfl, _⟩ := h; rfl
  · obtain ⟨bl, sl, B, S, rfl, hb, hs, hS, h1000, k⟩ := h
    obtain ⟨s0, hs0⟩ : ∃ s0, S[0]? = some s0 := ⟨_, List.getElem?_eq_getElem (List.length_pos_iff.mpr hS)⟩
    refine ⟨_, (pss_cons (ps_set (i := 2) sc_law_hull.nd rfl (.inr rfl) (pe_ix (ixl (K := K) rfl) (pv 1) pe_int (fun _ _ => rfl))) (pss_cons (ps_set (i := 3) sc_law_hull.nd rfl (.inr rfl) (pe_ix (ixl (K := K) rfl) (pv 1) pe_int (fun _ _ => rfl))) (pss_cons (ps_for PassesOwn.never rfl (pil (K := K) rfl (pv 1)) (pg_name (i := 4) sc_law_hull.nd rfl (.inl rfl)) (pss_cons (ps_set (i := 2) sc_law_hull.nd rfl (.inr rfl) (pe_op op_andN (pv 2) (pv 4))) (pss_one (ps_set (i := 3) sc_law_hull.nd rfl (.inr rfl) (pe_op op_orN (pv 3) (pv 4)))))) (pss_one (ps_ret (pe_lc (NB := ["_law_x", "_law_both", "_law_either"]) (nt := 1) (fr := [2, 3]) rfl (by kernel_rfl) (pil (K := K) rfl (pv 0)) (fun _ _ _ _ _ => (pg_name (i := 0) (show List.Nodup (["_law_x", "_law_both", "_law_either"] : List Str) by decide +kernel) rfl (.inl rfl))) (fun _ _ _ _ _ => (pts_one (PW.pt (pw_and (pt_cmpR op_eq (pe_op op_andN (pv 0) (pv 1)) (pv 1) (nomark _)) (pw_and1 (pt_cmpR op_eq (pe_op op_orN (pv 0) (pv 2)) (pv 2) (nomark _))))))) (fun _ _ _ _ _ => (pv 0)))))))), ?_⟩
    refine ⟨_, rfl, sl, _, 0, _, rfl, rfl, SqL.of hs, natL_at hs0, ?_⟩
    refine ⟨_, rfl, sl, _, 0, _, rfl, rfl, SqL.of hs, natL_at hs0, ?_⟩
    refine ⟨_, rfl, sl, rfl, ⟨_, SqL.of hs⟩, for_list (xs := natL S) (fun i σ H' => (∃ (lo hi : Nat) (v : Option V), σ = [some (.ref bl), some (.ref sl), some (.int (lo : Int)), some (.int (hi : Int)), v]) /\ H' = H)
      ⟨⟨_, _, _, rfl⟩, rfl⟩ (fun i σ H' _ p => by rw [p.2]; exact SqL.of hs) ?_ ?_⟩
    · rintro i x σ H1 hi ⟨⟨lo, hi', v, rfl⟩, rfl⟩
      obtain ⟨y, _, rfl⟩ := natL_get hi
      refine ⟨_, rfl, _, rfl, _, _, rfl, rfl, ?_⟩
      refine ⟨_, rfl, _, rfl, _, _, rfl, rfl, ?_⟩
      exact ⟨⟨_, _, _, rfl⟩, rfl⟩
    · rintro σ H1 ⟨⟨lo, hi, v, rfl⟩, rfl⟩
      refine ⟨_, rfl, bl, rfl, ⟨_, SqL.of hb⟩, lc_list (xs := natL B) (fun i σ' ys H' => (∃ v, σ' = [v, some (.int (lo : Int)), some (.int (hi : Int))]) /\ ys = natL (hullB (B.take i) lo hi) /\ H' = H1)
        ⟨⟨_, rfl⟩, rfl, rfl⟩ (fun i σ' ys H' _ p => by rw [p.2.2]; exact SqL.of hb) (fun i σ' ys H' p => ?_) ?_ ?_⟩
      · rw [p.2.1, natL_len]
        unfold hullB
        refine small1000 (Nat.le_trans (List.length_filter_le _ _) ?_)
        rw [List.length_take]
        omega
      · rintro i x σ' ys H' hi' ⟨⟨v, rfl⟩, rfl, rfl⟩
        obtain ⟨x, ex, rfl⟩ := natL_get hi'
        have eh : hullB (B.take (i + 1)) lo hi = hullB (B.take i) lo hi ++ (if (decide (x &&& lo = lo) && decide (x ||| hi = hi)) = true then [x] else []) := by
          unfold hullB
          rw [filter_take_succ ex]
        rw [eh]
        refine ⟨_, rfl, _, rfl, _, _, rfl, rfl, ?_⟩
        refine ⟨_, rfl, rfl, _, rfl, ?_⟩
        by_cases z : x &&& lo = lo
        · rw [decide_eq_true z]
          refine iteDT (vint z) ?_
          refine ⟨_, rfl, _, rfl, _, _, rfl, rfl, ?_⟩
          refine ⟨_, rfl, rfl, _, rfl, ?_⟩
          by_cases z2 : x ||| hi = hi
          · rw [decide_eq_true z2]
            refine iteDT (vint z2) ⟨_, rfl, ⟨_, rfl⟩, ?_, rfl⟩
            exact natL_snoc _ _
          · rw [decide_eq_false z2]
            refine iteDF (fun y => z2 (vint_inj y)) ⟨⟨_, rfl⟩, ?_, rfl⟩
            simp
        · rw [decide_eq_false z]
          refine iteDF (fun y => z (vint_inj y)) (iteF ⟨⟨_, rfl⟩, ?_, rfl⟩)
          simp
      · rintro σ' ys H' ⟨_, rfl, rfl⟩ D hD
        refine k D lo hi _ hD ?_ (Same.new hD)
        rw [upd_same, natL_len, List.take_length]
end
section
variable {P : Program} {w : World} {K : PySem.W.Frag} {mg : Str -> Option Value} {base : Heap} {tMOST_PLACES : Tok} {cLam pLam : Addr}
theorem natL_last {B : List Nat} (h : 1 <= B.length) : ∃ z, cutV (natL B) (some (-1)) none = natL [z] := by
  have h1 : HT.sIx (natL B).length 0 (some (-1)) = B.length - 1 := by
    rw [natL_len]
    show (if (-1 : Int) < 0 then ((-1 : Int) + (B.length : Int)).toNat else min (-1 : Int).toNat B.length) = _
    rw [if_pos (by decide)]
    omega
  refine ⟨B[B.length - 1]'(by omega), ?_⟩
  unfold cutV
  rw [h1, HT.sIx_none, natL_len]
  unfold natL
  rw [<- List.map_drop, <- List.map_take, List.drop_eq_getElem_cons (by omega), show B.length - (B.length - 1) = 1 by omega]
  rfl
theorem two24 {n : Nat} (h : n <= 24) : 2 ^ n < 1000000000 := Nat.lt_of_le_of_lt (Nat.pow_le_pow_right (by decide) h) (by decide)
def spSome (K : PySem.W.Frag) : Sp := fun vs H Q _ => ∃ (p bl : Addr) (B : List Nat) (n : Nat) (a : Addr) (ns : List Int), vs = [.ref p, .ref bl] /\ PenAt K a ns H p n /\ n < 10000000 /\ H bl = some (.lst (natL B)) /\ bl ≠ p /\ 1 <= B.length /\ B.length <= 24 /\
  ∀ l S H', S ≠ [] -> H' l = some (.lst (natL S)) -> PenAt K a ns H' p (n + 3) -> SameB p H H' -> Q (.ref l) H'
theorem C_law_some (T : Txt K mg tMOST_PLACES cLam) : Callee P w K mg base 4 "_law_some" ["_law_pen_here", "_law_bits_here"] (spSome K) := by
  have C_law_take := C_law_take (P := P) (w := w) (base := base) T
  refine mkCallee T.d_law_some sc_law_some (fun _ _ _ _ _ _ us hl => match us, hl with | [_, _], _ => rfl) (fun vs H Q E h => ?_) (fun f cdv A outer s H vs Q E hr h => ?_)
  · obtain ⟨p, bl, B, n, a, ns, rfl, _⟩ := h; rfl
  · obtain ⟨p, bl, B, n, a, ns, rfl, pen0, hn, hb, hbp, hB1, hB2, k⟩ := h
    have hBl : (natL B).length = B.length := natL_len B
    refine ⟨_, (pss_cons (ps_set (i := 2) sc_law_some.nd rfl (.inl rfl) (pe_fn C_law_take hr rfl (pa_cons (pv 0) (pa_cons pe_int pa_nil)))) (pss_cons (ps_if (pt_cmpR op_eq (pv 2) pe_int (nomark _)) (pss_one (ps_ret (pe_lst (pa_cons (pe_ix (ixl (K := K) rfl) (pv 1) (pe_fn C_law_take hr rfl (pa_cons (pv 0) (pa_cons (pe_callB (lenq (K := K) rfl) rfl T.z_len bt_len (pa_cons (pv 1) pa_nil)) pa_nil))) (fun _ _ => rfl)) pa_nil)))) pss_nil) (pss_cons (ps_if (pt_cmpR op_eq (pv 2) pe_int (nomark _)) (pss_one (ps_ret (pe_lc (NB := ["_law_k", "_law_pen_here", "_law_bits_here"]) (nt := 1) (fr := [0, 1]) rfl (by kernel_rfl) (pi_range1 rfl T.z_range (pa_cons pe_int pa_nil)) (fun _ _ _ _ _ => (pg_name (i := 0) (show List.Nodup (["_law_k", "_law_pen_here", "_law_bits_here"] : List Str) by decide +kernel) rfl (.inl rfl))) (fun _ _ _ _ _ => pts_nil) (fun _ _ _ _ _ => (pe_ix (ixl (K := K) rfl) (pv 2) (pe_fn C_law_take hr rfl (pa_cons (pv 1) (pa_cons (pe_callB (lenq (K := K) rfl) rfl T.z_len bt_len (pa_cons (pv 2) pa_nil)) pa_nil))) (fun _ _ => rfl)))))) pss_nil) (pss_cons (ps_set (i := 3) sc_law_some.nd rfl (.inr rfl) (pe_fn C_law_take hr rfl (pa_cons (pv 0) (pa_cons (pe_op op_shlN pe_int (pe_callB (lenq (K := K) rfl) rfl T.z_len bt_len (pa_cons (pv 1) pa_nil))) pa_nil)))) (pss_cons (ps_setLC (NB := ["_law_k", "_law_bits_here", "_law_mask"]) (nt := 1) (fr := [1, 3]) rfl (by kernel_rfl) (i := 4) sc_law_some.nd rfl rfl (pi_range1 rfl T.z_range (pa_cons (pe_callB (lenq (K := K) rfl) rfl T.z_len bt_len (pa_cons (pv 1) pa_nil)) pa_nil)) (fun _ _ _ _ _ => (pg_name (i := 0) (show List.Nodup (["_law_k", "_law_bits_here", "_law_mask"] : List Str) by decide +kernel) rfl (.inl rfl))) (fun _ _ _ _ _ => (pts_one (pt_cmpR op_eq (pe_op op_andN (pe_op op_shrN (pv 2) (pv 0)) pe_int) pe_int (nomark _)))) (fun _ _ _ _ _ => (pe_ix (ixl (K := K) rfl) (pv 1) (pv 0) (fun _ _ => rfl)))) (pss_cons (ps_if (pt_cmpR (eqI (K := K) rfl hr) (pv 4) (pe_lst pa_nil) (nomark _)) (pss_one (ps_ret (pe_slice sl_list (pv 1) (po_some (pe_un un_neg pe_int)) po_none))) pss_nil) (pss_one (ps_ret (pv 4))))))))), ?_⟩
    refine ⟨_, rfl, p, 3, n, a, ns, rfl, pen0, by omega, by omega, by omega, fun r1 H1 hr1 pen1 s1 => ?_⟩
    have hb1 := s1 _ _ hb hbp
    refine ⟨_, rfl, rfl, _, rfl, ite2 (fun hc => ?_) (fun hc => ?_)⟩
    · refine ⟨_, rfl, _, rfl, _, rfl, bl, _, rfl, .inl (SqL.of hb1), p, (natL B).length, _, a, ns, rfl, pen1, by omega, by omega, by omega, fun r H2 hr2 pen2 s2 => ?_⟩
      have hb2 := s2 _ _ hb1 hbp
      obtain ⟨q, hq⟩ : ∃ q, B[r]? = some q := ⟨_, List.getElem?_eq_getElem (by omega)⟩
      refine ⟨bl, _, _, _, rfl, rfl, SqL.of hb2, natL_at hq, by show 1 <= sizeLine; decide, fun l hl => ?_⟩
      exact k l [q] _ (by simp) upd_same (pen2.mono (Same.new hl) (by omega)) ((s1.trans s2).trans (Same.new hl).b)
    · refine ⟨_, rfl, rfl, _, rfl, ite2 (fun hc2 => ?_) (fun hc2 => ?_)⟩
      · refine ⟨((2 : Nat) : Int), rfl, by decide, by decide, lc_range0 (n := 2) (Pv := fun j σ' ys H' => (∃ v, σ' = [v, some (.ref p), some (.ref bl)]) /\ j <= 2 /\ (∃ qs : List Nat, ys = natL qs /\ qs.length = j) /\ PenAt K a ns H' p (n + 1 + j) /\ SameB p H H')
          ⟨⟨_, rfl⟩, Nat.zero_le _, ⟨[], rfl, rfl⟩, pen1, s1⟩ (fun j σ' ys H' q => ?_) ?_ ?_⟩
        · obtain ⟨_, hj, ⟨qs, rfl, hl⟩, _⟩ := q
          rw [natL_len]
          exact small1000 (by omega)
        · rintro j σ' ys H2 hj ⟨⟨v, rfl⟩, _, ⟨qs, rfl, hl⟩, pen2, s2⟩
          have hb2 := s2 _ _ hb hbp
          refine lcN ⟨_, rfl, _, rfl, _, rfl, bl, _, rfl, .inl (SqL.of hb2), p, (natL B).length, _, a, ns, rfl, pen2, by omega, by omega, by omega, fun r H3 hr3 pen3 s3 => ?_⟩
          obtain ⟨q, hq⟩ : ∃ q, B[r]? = some q := ⟨_, List.getElem?_eq_getElem (by omega)⟩
          exact ⟨bl, _, _, _, rfl, rfl, SqL.of (s3 _ _ hb2 hbp), natL_at hq, ⟨_, rfl⟩, by omega, ⟨qs ++ [q], natL_snoc _ _, by simp [hl]⟩, pen3, s2.trans s3⟩
        · rintro σ' ys H2 ⟨_, _, ⟨qs, rfl, hl⟩, pen2, s2⟩ D hD
          exact k D qs _ (by intro z; subst z; simp at hl) upd_same (pen2.mono (Same.new hD) (by omega)) (s2.trans (Same.new hD).b)
      · refine ⟨_, rfl, _, rfl, bl, _, rfl, .inl (SqL.of hb1), B.length, rfl, congrArg (fun z => V.int ((z : Nat) : Int)) hBl, by omega, p, 2 ^ B.length, _, a, ns, rfl, pen1, by omega, Nat.pow_pos (by decide), Nat.lt_trans (two24 hB2) (by decide), fun r H2 hr2 pen2 s2 => ?_⟩
        have hb2 := s2 _ _ hb1 hbp
        have s12 := s1.trans s2
        refine ⟨_, rfl, bl, _, rfl, .inl (SqL.of hb2), ((B.length : Nat) : Int), congrArg (fun z => [V.int ((z : Nat) : Int)]) hBl, by omega, by omega, lc_range0 (Pv := fun j σ' ys H' => (∃ v, σ' = [v, some (.ref bl), some (.int (r : Int))]) /\ j <= B.length /\ (∃ qs : List Nat, ys = natL qs /\ qs.length <= j) /\ H' = H2)
          ⟨⟨_, rfl⟩, Nat.zero_le _, ⟨[], rfl, Nat.le_refl _⟩, rfl⟩ (fun j σ' ys H' q => ?_) ?_ ?_⟩
        · obtain ⟨_, hj, ⟨qs, rfl, hl⟩, _⟩ := q
          rw [natL_len]
          exact small1000 (by omega)
        · rintro j σ' ys H3 hj ⟨⟨v, rfl⟩, _, ⟨qs, rfl, hl⟩, rfl⟩
          refine ⟨_, rfl, _, rfl, _, _, rfl, rfl, _, 1, rfl, rfl, rfl, _, rfl, ite2 (fun hd => ?_) (fun hd => ⟨⟨_, rfl⟩, by omega, ⟨qs, rfl, by omega⟩, rfl⟩)⟩
          obtain ⟨q, hq⟩ : ∃ q, B[j]? = some q := ⟨_, List.getElem?_eq_getElem (by omega)⟩
          exact ⟨_, rfl, _, rfl, bl, _, _, _, rfl, rfl, SqL.of hb2, natL_at hq, ⟨_, rfl⟩, by omega, ⟨qs ++ [q], natL_snoc _ _, by simp; omega⟩, rfl⟩
        · rintro σ' ys H3 ⟨_, _, ⟨qs, rfl, hl⟩, rfl⟩ D hD
          have sD := Same.new (o := .lst (natL qs)) hD
          have hD' : upd H3 D (.lst (natL qs)) D = some (.lst (natL qs)) := upd_same
          refine ⟨_, rfl, by show 0 <= sizeLine; decide, fun e he => ?_⟩
          have hDe := (Same.new (o := .lst []) he) _ _ hD'
          have hDe' : upd (upd H3 D (.lst (natL qs))) e (.lst []) D = some (.lst ((qs.map Int.ofNat).map V.int)) := by rw [<- natL_ints]; exact hDe
          have sE := sD.updr (o := .lst []) he
          refine ⟨D, e, _, [], rfl, rfl, SqL.of hDe', SqL.of upd_same, _, rfl, ite2 (fun hz => ?_) (fun hz => ?_)⟩
          · obtain ⟨z, hz⟩ := natL_last hB1
            refine ⟨_, rfl, _, rfl, _, rfl, bl, _, rfl, SqL.of (sE _ _ hb2), fun l hl => ?_⟩
            refine k l [z] _ (by simp) (by rw [upd_same]; exact congrArg (fun t => some (HO.lst t)) hz) (pen2.mono (sE.updr hl) (by omega)) (s12.trans (sE.updr hl).b)
          · refine ⟨_, rfl, k D qs _ (fun z => hz ?_) hDe (pen2.mono sE (by omega)) (s12.trans sE.b)⟩
            subst z
            rfl
end
section
variable {P : Program} {w : World} {K : PySem.W.Frag} {mg : Str -> Option Value} {base : Heap} {tMOST_PLACES : Tok} {cLam pLam : Addr}
theorem natL_insert (F : List Nat) (k x : Nat) : (natL F).take k ++ .int (x : Int) :: (natL F).drop k = natL (F.take k ++ x :: F.drop k) := by
  unfold natL
  rw [List.map_append, List.map_cons, List.map_take, List.map_drop]
theorem insert_perm {F B : List Nat} {i k x : Nat} (h : F.Perm (B.take i)) (e : B[i]? = some x) : (F.take k ++ x :: F.drop k).Perm (B.take (i + 1)) := by
  rw [List.take_add_one, e]
  refine List.perm_middle.trans ?_
  rw [List.take_append_drop]
  exact (List.Perm.cons x h).trans (List.perm_append_comm (l₁ := [x]))
def spBits (K : PySem.W.Frag) : Sp := fun vs H Q _ => ∃ (p : Addr) (m n : Nat) (a : Addr) (ns : List Int), vs = [.ref p, .int (m : Int)] /\ PenAt K a ns H p n /\ n < 1000000 /\ 1 <= m /\ m <= 24 /\
  ∀ l B H', Med B -> 1 <= B.length -> B.length <= m -> H' l = some (.lst (natL B)) -> PenAt K a ns H' p (n + 100) -> H l = none -> l ≠ p -> SameB p H H' -> Q (.ref l) H'
theorem C_law_bits (T : Txt K mg tMOST_PLACES cLam) : Callee P w K mg base 5 "_law_bits" ["_law_pen_here", "_law_most"] (spBits K) := by
  have C_law_take := C_law_take (P := P) (w := w) (base := base) T
  have C_law_some := C_law_some (P := P) (w := w) (base := base) T
  have C_law_hull := C_law_hull (P := P) (w := w) (base := base) T
  refine mkCallee T.d_law_bits sc_law_bits (fun _ _ _ _ _ _ us hl => match us, hl with | [_, _], _ => rfl) (fun vs H Q E h => ?_) (fun f cdv A outer s H vs Q E hr h => ?_)
  · obtain ⟨p, m, n, a, ns, rfl, _⟩ := h; rfl
  · obtain ⟨p, m, n, a, ns, rfl, pen0, hn, hm1, hm2, k⟩ := h
    refine ⟨_, (pss_cons (ps_set (i := 2) sc_law_bits.nd rfl (.inl rfl) (pe_lst (pa_cons pe_int pa_nil))) (pss_cons (ps_for PassesOwn.never rfl (pi_range1 rfl T.z_range (pa_cons (pe_fn C_law_take hr rfl (pa_cons (pv 0) (pa_cons (pv 1) pa_nil))) pa_nil)) (pg_name (i := 3) sc_law_bits.nd rfl (.inr rfl)) (pss_cons (ps_set (i := 4) sc_law_bits.nd rfl (.inl rfl) (pe_fn C_law_hull hr rfl (pa_cons (pv 2) (pa_cons (pe_fn C_law_some hr rfl (pa_cons (pv 0) (pa_cons (pv 2) pa_nil))) pa_nil)))) (pss_one (ps_if (pt_cmpR op_le (pe_op op_add (pe_callB (lenq (K := K) rfl) rfl T.z_len bt_len (pa_cons (pv 2) pa_nil)) (pe_callB (lenq (K := K) rfl) rfl T.z_len bt_len (pa_cons (pv 4) pa_nil))) (pv 1) (nomark _)) (pss_one (ps_set (i := 2) sc_law_bits.nd rfl (.inl rfl) (pe_op op_cat (pv 2) (pe_lc (NB := ["_law_x", "_law_k"]) (nt := 1) (fr := [3]) rfl (by kernel_rfl) (pil (K := K) rfl (pv 4)) (fun _ _ _ _ _ => (pg_name (i := 0) (show List.Nodup (["_law_x", "_law_k"] : List Str) by decide +kernel) rfl (.inl rfl))) (fun _ _ _ _ _ => pts_nil) (fun _ _ _ _ _ => (pe_op op_add (pv 0) (pe_op op_shlN pe_int (pv 1)))))))) pss_nil)))) (pss_cons (ps_set (i := 5) sc_law_bits.nd rfl (.inl rfl) (pe_lst pa_nil)) (pss_cons (ps_for PassesOwn.never rfl (pil (K := K) rfl (pv 2)) (pg_name (i := 6) sc_law_bits.nd rfl (.inl rfl)) (pss_one (ps_expr (bm (K := K) rfl PySem.F.plainAttrs_list PySem.F.slot_list_insert PySem.F.type_list_insert mt_insert (pv 5) (pa_cons (pe_fn C_law_take hr rfl (pa_cons (pv 0) (pa_cons (pe_op op_add (pe_callB (lenq (K := K) rfl) rfl T.z_len bt_len (pa_cons (pv 5) pa_nil)) pe_int) pa_nil))) (pa_cons (pv 6) pa_nil)))))) (pss_one (ps_ret (pv 5))))))), ?_⟩
    refine ⟨by show 1 <= sizeLine; decide, fun b0 hb0 => ?_⟩
    have nb0 := pen0.ne hb0
    have s0 := Same.new (o := .lst [.int 0]) hb0
    refine ⟨_, rfl, _, rfl, p, m, n, a, ns, rfl, pen0.mono s0 (Nat.le_refl _), by omega, by omega, by omega, fun r H1 hr1 pen1 s1 => ?_⟩
    refine ⟨(r : Int), rfl, by omega, by omega, for_range0 (Pv := fun i σ H' => (∃ (bl : Addr) (B : List Nat) (v3 v4 : Option V), σ = [some (.ref p), some (.int (m : Int)), some (.ref bl), v3, v4, none, none] /\ H' bl = some (.lst (natL B)) /\ Med B /\ (∀ x ∈ B, x < 2 ^ i) /\ 1 <= B.length /\ B.length <= m /\ bl ≠ p) /\ i <= r /\ PenAt K a ns H' p (n + 1 + 3 * i) /\ SameB p H H')
      ⟨⟨b0, [0], _, _, rfl, s1 _ _ upd_same nb0, med_one, by simp, by simp, by simpa using hm1, nb0⟩, Nat.zero_le _, pen1, s0.b.trans s1⟩ ?_ ?_⟩
    · rintro i σ H2 hi ⟨⟨bl, B, v3, v4, rfl, hbl, med, hlt, hB1, hB2, nbl⟩, _, pen2, s2⟩
      refine ⟨_, rfl, _, rfl, _, rfl, p, bl, B, _, a, ns, rfl, pen2, by omega, hbl, nbl, hB1, by omega, fun sl S H3 hS hsl pen3 s3 => ?_⟩
      have hbl3 := s3 _ _ hbl nbl
      refine ⟨bl, sl, B, S, rfl, hbl3, hsl, hS, by omega, fun pl lo hi' H4 npl hpl s4 => ?_⟩
      have hbl4 := s4 _ _ hbl3
      have hlen : (hullB B lo hi').length <= B.length := List.length_filter_le _ _
      have s24 := (s2.trans s3).trans s4.b
      refine ⟨_, rfl, bl, _, rfl, .inl (SqL.of hbl4), _, rfl, pl, _, rfl, .inl (SqL.of hpl), _, _, rfl, rfl, _, rfl, _, _, rfl, rfl, _, rfl, ite2 (fun hc => ?_) (fun hc => ?_)⟩
      · have hc' := of_decide_eq_true hc
        rw [natL_len, natL_len] at hc'
        refine ⟨_, rfl, _, rfl, pl, rfl, ⟨_, SqL.of hpl⟩, lc_list (xs := natL (hullB B lo hi')) (fun j σ' ys H' => (∃ v, σ' = [v, some (.int (i : Int))]) /\ j <= (hullB B lo hi').length /\ ys = natL (((hullB B lo hi').take j).map (up i)) /\ H' = H4)
          ⟨⟨_, rfl⟩, Nat.zero_le _, rfl, rfl⟩ (fun j σ' ys H' _ q => by rw [q.2.2.2]; exact SqL.of hpl) (fun j σ' ys H' q => ?_) ?_ ?_⟩
        · rw [q.2.2.1, natL_len, List.length_map, List.length_take]
          exact small1000 (by omega)
        · rintro j x σ' ys H' hj ⟨⟨v, rfl⟩, _, rfl, rfl⟩
          obtain ⟨x, ex, rfl⟩ := natL_get hj
          refine lcN ⟨_, rfl, _, rfl, i, rfl, rfl, by omega, _, _, rfl, rfl, ⟨_, rfl⟩, (List.getElem?_eq_some_iff.mp ex).1, ?_, rfl⟩
          rw [List.take_add_one, ex, List.map_append]
          exact natL_snoc _ _
        · rintro σ' ys H' ⟨_, _, rfl, rfl⟩ D hD
          rw [natL_len, List.take_length]
          have sD := Same.new (o := .lst (natL ((hullB B lo hi').map (up i)))) hD
          refine ⟨bl, D, _, _, rfl, rfl, sD _ _ hbl4, upd_same, ?_, fun nb hnb => ?_⟩
          · rw [natL_len, natL_len, List.length_map]
            exact Nat.le_of_lt (small1000 (by omega))
          · have sN := sD.updr (o := .lst (natL B ++ natL ((hullB B lo hi').map (up i)))) hnb
            obtain ⟨g1, g2⟩ := med.grow hlt (hullB_conv B lo hi') (med.nd.filter _)
            have pen4 := pen3.mono (s4.trans sN) (Nat.le_refl _)
            refine ⟨⟨nb, B ++ (hullB B lo hi').map (up i), _, _, rfl, ?_, g1, g2, ?_, ?_, (pen3.mono (s4.trans sD) (Nat.le_refl _)).ne hnb⟩, by omega, penlt pen4 (by omega), s24.trans sN.b⟩
            · rw [upd_same]
              unfold natL
              rw [List.map_append]
            · rw [List.length_append]; omega
            · rw [List.length_append, List.length_map]; omega
      · refine ⟨⟨bl, B, _, _, rfl, hbl4, med, fun x hx => ?_, hB1, hB2, nbl⟩, by omega, penlt (pen3.mono s4 (Nat.le_refl _)) (by omega), s24⟩
        have := hlt x hx
        rw [Nat.pow_succ]
        omega
    · rintro σ H2 ⟨⟨bl, B, v3, v4, rfl, hbl, med, hlt, hB1, hB2, nbl⟩, _, pen2, s2⟩
      refine ⟨by show 0 <= sizeLine; decide, fun fl hfl => ?_⟩
      have nfl := pen2.ne hfl
      have off := pen2.off hfl
      have nflH : H fl = none := SameB.free s2 pen2 hfl
      have sF := Same.new (o := .lst []) hfl
      have nbf : bl ≠ fl := ne_of_none hbl hfl
      refine ⟨_, rfl, bl, rfl, ⟨_, SqL.of (sF _ _ hbl)⟩, for_list (xs := natL B) (fun i σ H' => (∃ v6, σ = [some (.ref p), some (.int (m : Int)), some (.ref bl), v3, v4, some (.ref fl), v6]) /\ i <= B.length /\ (∃ F : List Nat, F.Perm (B.take i) /\ H' fl = some (.lst (natL F))) /\ H' bl = some (.lst (natL B)) /\ PenAt K a ns H' p (n + 73 + i) /\ SameB p H H')
        ⟨⟨_, rfl⟩, Nat.zero_le _, ⟨[], by simp, upd_same⟩, sF _ _ hbl, penlt (pen2.mono sF (Nat.le_refl _)) (by omega), s2.trans sF.b⟩ (fun i σ H' _ q => SqL.of q.2.2.2.1) ?_ ?_⟩
      · rintro i x σ H3 hi ⟨⟨v6, rfl⟩, _, ⟨F, hF, hfl3⟩, hbl3, pen3, s3⟩
        obtain ⟨x, ex, rfl⟩ := natL_get hi
        have hi' := (List.getElem?_eq_some_iff.mp ex).1
        have hFl : F.length = i := by rw [hF.length_eq, List.length_take]; omega
        refine ⟨_, rfl, .inl ⟨rfl, _, SqL.of hfl3⟩, _, rfl, _, rfl, fl, _, rfl, .inl (SqL.of hfl3), _, _, rfl, rfl, p, F.length + 1, _, a, ns, congrArg (fun z => [V.ref p, V.int (((z : Nat) : Int) + 1)]) (natL_len F), pen3, by omega, by omega, by omega, fun r4 H4 hr4 pen4 s4 => ?_⟩
        have hfl4 := s4 _ _ hfl3 nfl
        refine ⟨_, rfl, fl, _, r4, _, rfl, rfl, hfl4, by rw [natL_len]; omega, by rw [natL_len]; exact small1000 (by omega), ⟨_, rfl⟩, by omega, ⟨F.take r4 ++ x :: F.drop r4, insert_perm hF ex, ?_⟩, ?_, penlt (pen4.put off nfl) (by omega), SameB.upd (s3.trans s4) nflH⟩
        · rw [upd_same, natL_insert]
        · rw [upd_ne nbf]
          exact s4 _ _ hbl3 nbl
      · rintro σ H3 ⟨⟨v6, rfl⟩, _, ⟨F, hF, hfl3⟩, hbl3, pen3, s3⟩
        rw [natL_len, List.take_length] at hF
        rw [natL_len] at pen3
        exact ⟨_, rfl, k fl F H3 (med.perm hF) (by rw [hF.length_eq]; exact hB1) (by rw [hF.length_eq]; exact hB2) hfl3 (penlt pen3 (by omega)) nflH nfl s3⟩
theorem natL_getD {B : List Nat} {x : Nat} (h : x < B.length) : atI (natL B) (x : Int) = some (.int ((B.getD x 0 : Nat) : Int)) := natL_at (by rw [List.getD_eq_getElem?_getD, List.getElem?_eq_getElem h]; rfl)
def spTies : Sp := fun vs H Q _ => ∃ (bl : Addr) (B : List Nat), vs = [.ref bl] /\ H bl = some (.lst (natL B)) /\ B.length <= 24 /\
  ∀ l H', TiesAt H' l (tiesB B B.length) -> H l = none -> Same H H' -> Q (.ref l) H'
theorem C_law_ties (T : Txt K mg tMOST_PLACES cLam) : Callee P w K mg base 2 "_law_ties" ["_law_bits_here"] spTies := by
  have C_law_unlike := C_law_unlike (P := P) (w := w) (base := base) T
  refine mkCallee T.d_law_ties sc_law_ties (fun _ _ _ _ _ _ us hl => match us, hl with | [_], _ => rfl) (fun vs H Q E h => ?_) (fun f cdv A outer s H vs Q E hr h => ?_)
  · obtain ⟨bl, B, rfl, _⟩ := h; rfl
  · obtain ⟨bl, B, rfl, hb, h24, k⟩ := h
    have hBl : (natL B).length = B.length := natL_len B
    refine ⟨_, (pss_cons (ps_set (i := 1) sc_law_ties.nd rfl (.inl rfl) (pe_lst pa_nil)) (pss_cons (ps_for PassesOwn.never rfl (pi_range1 rfl T.z_range (pa_cons (pe_callB (lenq (K := K) rfl) rfl T.z_len bt_len (pa_cons (pv 0) pa_nil)) pa_nil)) (pg_name (i := 2) sc_law_ties.nd rfl (.inr rfl)) (pss_one (ps_set (i := 1) sc_law_ties.nd rfl (.inl rfl) (pe_op op_cat (pv 1) (pe_lc (NB := ["_law_b", "_law_bits_here", "_law_a"]) (nt := 1) (fr := [0, 2]) rfl (by kernel_rfl) (pi_range2 rfl T.z_range (pa_cons (pe_op op_add (pv 2) pe_int) (pa_cons (pe_callB (lenq (K := K) rfl) rfl T.z_len bt_len (pa_cons (pv 0) pa_nil)) pa_nil))) (fun _ _ _ _ _ => (pg_name (i := 0) (show List.Nodup (["_law_b", "_law_bits_here", "_law_a"] : List Str) by decide +kernel) rfl (.inl rfl))) (fun _ _ _ _ _ => (pts_one (pt_cmpR op_eq (pe_fn C_law_unlike hr rfl (pa_cons (pe_ix (ixl (K := K) rfl) (pv 1) (pv 2) (fun _ _ => rfl)) (pa_cons (pe_ix (ixl (K := K) rfl) (pv 1) (pv 0) (fun _ _ => rfl)) pa_nil))) pe_int (nomark _)))) (fun _ _ _ _ _ => (pe_tup (pa_cons (pv 2) (pa_cons (pv 0) pa_nil))))))))) (pss_one (ps_ret (pv 1))))), ?_⟩
    refine ⟨by show 0 <= sizeLine; decide, fun f0 hf0 => ?_⟩
    have s0 := Same.new (o := .lst []) hf0
    refine ⟨_, rfl, bl, _, rfl, .inl (SqL.of (s0 _ _ hb)), ((B.length : Nat) : Int), congrArg (fun z => [V.int ((z : Nat) : Int)]) hBl, by omega, by omega, for_range0 (Pv := fun i σ H' => (∃ (fl : Addr) (v : Option V), σ = [some (.ref bl), some (.ref fl), v] /\ TiesAt H' fl (tiesB B i) /\ H fl = none) /\ i <= B.length /\ Same H H')
      ⟨⟨f0, _, rfl, ⟨[], upd_same, .nil⟩, hf0⟩, Nat.zero_le _, s0⟩ ?_ ?_⟩
    · rintro i σ H1 hi ⟨⟨fl, v, rfl, ⟨xs, hfl, hp⟩, nfl⟩, _, s1⟩
      have hb1 := s1 _ _ hb
      have htl := tiesB_len B i
      have hxl := hp.length
      have h576 : i * B.length <= 24 * 24 := Nat.mul_le_mul (by omega) (by omega)
      refine ⟨_, rfl, _, rfl, _, _, rfl, rfl, _, rfl, bl, _, rfl, .inl (SqL.of hb1), ((i + 1 : Nat) : Int), ((B.length : Nat) : Int), congrArg (fun z => [V.int ((i + 1 : Nat) : Int), V.int ((z : Nat) : Int)]) hBl, by omega, ?_⟩
      rw [show (((B.length : Nat) : Int) - ((i + 1 : Nat) : Int)).toNat = B.length - (i + 1) by omega]
      refine lc_range (Pv := fun j σ' ys H' => (∃ v, σ' = [v, some (.ref bl), some (.int (i : Int))]) /\ j <= B.length - (i + 1) /\ Paired (TieV H') ys (rowT B i j) /\ Same H1 H')
        ⟨⟨_, rfl⟩, Nat.zero_le _, .nil, Same.refl _⟩ (fun j σ' ys H' q => ?_) ?_ ?_
      · rw [q.2.2.1.length]
        unfold rowT
        rw [List.length_map]
        refine small1000 (Nat.le_trans (List.length_filter_le _ _) ?_)
        rw [List.length_range]
        omega
      · rintro j σ' ys H2 hj ⟨⟨v, rfl⟩, _, hp2, s2⟩
        have hb2 := s2 _ _ hb1
        have er : rowT B i (j + 1) = rowT B i j ++ (if ud (B.getD i 0) (B.getD (i + 1 + j) 0) = 1 then [(i, i + 1 + j)] else []) := by
          unfold rowT
          rw [range_filter_succ, List.map_append]
          by_cases z : ud (B.getD i 0) (B.getD (i + 1 + j) 0) = 1
          · rw [decide_eq_true z, if_pos rfl, if_pos z]; rfl
          · rw [decide_eq_false z, if_neg Bool.false_ne_true, if_neg z]; rfl
        have eij : (((i + 1 : Nat) : Int) + (j : Int)) = ((i + 1 + j : Nat) : Int) := rfl
        rw [eij]
        refine ⟨_, rfl, _, rfl, bl, _, _, _, rfl, rfl, SqL.of hb2, natL_getD (by omega), _, rfl, _, rfl, bl, _, _, _, rfl, rfl, SqL.of hb2, natL_getD (by omega), _, _, rfl, rfl, _, rfl, ?_⟩
        by_cases z : ud (B.getD i 0) (B.getD (i + 1 + j) 0) = 1
        · rw [if_pos z] at er
          refine iteDT (vint (b := 1) z) ⟨_, rfl, _, rfl, by show 2 <= sizeLine; decide, fun t ht => ⟨⟨_, rfl⟩, by omega, ?_, s2.updr ht⟩⟩
          rw [er]
          exact paired_append (paired_mono (fun _ _ => TieV.mono (Same.new ht)) hp2) (.cons ⟨t, rfl, upd_same⟩ .nil)
        · rw [if_neg z, List.append_nil] at er
          refine iteDF (fun y => z (vint_inj (b := 1) y)) ⟨⟨_, rfl⟩, by omega, ?_, s2⟩
          rw [er]
          exact hp2
      · rintro σ' ys H2 ⟨_, _, hp2, s2⟩ D hD
        have sD := Same.new (o := .lst ys) hD
        have hrl : (rowT B i (B.length - (i + 1))).length <= 24 := by
          unfold rowT
          rw [List.length_map]
          refine Nat.le_trans (List.length_filter_le _ _) ?_
          rw [List.length_range]
          omega
        have hyl := hp2.length
        refine ⟨fl, D, _, _, rfl, rfl, sD _ _ (s2 _ _ hfl), upd_same, ?_, fun nf hnf => ?_⟩
        · exact Nat.le_of_lt (small1000 (by omega))
        · have sA := (s2.trans sD).updr (o := .lst (xs ++ ys)) hnf
          refine ⟨⟨nf, _, rfl, ⟨_, upd_same, ?_⟩, ((s1.trans s2).trans sD).free hnf⟩, by omega, s1.trans sA⟩
          rw [tiesB_succ]
          exact paired_append (paired_mono (fun _ _ => TieV.mono sA) hp) (paired_mono (fun _ _ => TieV.mono (sD.updr hnf)) hp2)
    · rintro σ H1 ⟨⟨fl, v, rfl, ht, nfl⟩, _, s1⟩
      exact ⟨_, rfl, k fl H1 ht nfl s1⟩
end
section
theorem paired_getL {α β : Type} {F : α -> β -> Prop} : ∀ {l : List α} {m : List β}, Paired F l m -> ∀ (i : Nat) (b : β), m[i]? = some b -> ∃ a, l[i]? = some a /\ F a b
  | _, _, .nil, i, a, h => by simp at h
  | _, _, .cons r t, 0, a, h => by simp at h; subst h; exact ⟨_, rfl, r⟩
  | _, _, .cons r t, i + 1, a, h => by simp at h; obtain ⟨b, q1, q2⟩ := paired_getL t i a h; exact ⟨b, by simpa using q1, q2⟩
end
section
variable {P : Program} {w : World} {K : PySem.W.Frag} {mg : Str -> Option Value} {base : Heap} {tMOST_PLACES : Tok} {cLam pLam : Addr}
theorem eqV_nat (a b : Nat) : eqV (.int (a : Int)) (.int (b : Int)) = decide (a = b) := by
  show (((a : Nat) : Int) == (b : Int)) = _
  rw [Bool.eq_iff_iff, beq_iff_eq, decide_eq_true_eq]
  omega
theorem all_true (n : Nat) : (List.range n).all (fun _ => true) = true := by simp
theorem eqQ_natL {H : Hp} {a b : Addr} {l : List Nat} (h1 : H a = some (.lst (natL l))) (h2 : H b = some (.lst (natL l))) : EqQ K H 1 (.ref a) (.ref b) true := by
  by_cases e : a = b
  · subst e; exact .same
  · have := EqQ.lsts (K := K) (H := H) (n := 0) (e := fun _ => true) e (SqL.of h1) (SqL.of h2) rfl fun j x y hx hy => by
      rw [hx] at hy
      cases hy
      obtain ⟨q, _, rfl⟩ := natL_get hx
      have := EqQ.flat (K := K) (H := H) (n := 0) (x := .int (q : Int)) (y := .int (q : Int)) rfl rfl
      rw [eqV_nat, decide_eq_true rfl] at this
      exact this
    rw [all_true] at this
    exact this
end
section
variable {P : Program} {w : World} {K : PySem.W.Frag} {mg : Str -> Option Value} {base : Heap} {tMOST_PLACES : Tok} {cLam pLam : Addr}
theorem asI {H : Hp} {x : Addr} {l : List Nat} (h : H x = some (.lst (natL l))) : SqL K H x ((l.map Int.ofNat).map V.int) := by rw [<- natL_ints]; exact SqL.of h
theorem natL_set (l : List Nat) (i q : Nat) : (natL l).set i (.int (q : Int)) = natL (l.set i q) := by unfold natL; rw [List.map_set]
end
section
variable {P : Program} {w : World} {K : PySem.W.Frag} {mg : Str -> Option Value} {base : Heap} {tMOST_PLACES : Tok} {cLam pLam : Addr}
def spMiddle : Sp := fun vs H Q _ => ∃ (wa : Addr) (a b c m : Nat) (g : List (List Nat)) (B : List Nat), vs = [.ref wa, .int (a : Int), .int (b : Int), .int (c : Int)] /\ WebAt H wa g /\ IsWeb g B /\ Med B /\ a < B.length /\ b < B.length /\ c < B.length /\ B.length <= 24 /\ m < B.length /\ B.getD m 0 = maj (B.getD a 0) (B.getD b 0) (B.getD c 0) /\
  ∀ H', Same H H' -> Q (.int (m : Int)) H'
theorem Cmiddle (T : Txt K mg tMOST_PLACES cLam) : Callee P w K mg base 4 "middle" ["web", "a", "b", "c"] spMiddle := by
  have Cmiddles := Cmiddles (P := P) (w := w) (base := base) T
  refine mkCallee T.dmiddle scmiddle (fun _ _ _ _ _ _ us hl => match us, hl with | [_, _, _, _], _ => rfl) (fun vs H Q E h => ?_) (fun f cdv A outer s H vs Q E hr h => ?_)
  · obtain ⟨wa, a, b, c, m, g, B, rfl, _⟩ := h; rfl
  · obtain ⟨wa, a, b, c, m, g, B, rfl, hw, hg, med, ha, hb, hc, h24, hm, em, k⟩ := h
    have gl := hg.1
    refine ⟨_, (pss_one (ps_ret (pe_ix (ixl (K := K) rfl) (pe_fn Cmiddles hr rfl (pa_cons (pv 0) (pa_cons (pv 1) (pa_cons (pv 2) (pa_cons (pv 3) pa_nil))))) pe_int (fun _ _ => rfl)))), ?_⟩
    refine ⟨_, rfl, _, rfl, _, rfl, _, rfl, wa, a, b, c, g, rfl, hw, hg.inn, hg.symm, by omega, by omega, by omega, by omega, fun l H1 nl hl s1 => ?_⟩
    rw [mids_maj hg med ha hb hc hm em] at hl
    exact ⟨l, _, 0, _, rfl, rfl, SqL.of hl, rfl, k H1 s1⟩
end
section
variable {P : Program} {w : World} {K : PySem.W.Frag} {mg : Str -> Option Value} {base : Heap} {tMOST_PLACES : Tok} {cLam pLam : Addr}
theorem rising_len {g : List (List Nat)} {B : List Nat} (h : IsWeb g B) (r : Rising g) (p : Nat) : (g.getD p []).length <= B.length := by
  refine nodup_lt_len _ _ ?_ fun x hx => ?_
  · rw [List.nodup_iff_pairwise_ne]
    exact (r p).imp fun {a b} q => Nat.ne_of_lt q
  · have := h.inn p x hx
    rw [h.1] at this
    exact this
def spTiesOf : Sp := fun vs H Q _ => ∃ (wa : Addr) (g : List (List Nat)) (B : List Nat), vs = [.ref wa] /\ WebAt H wa g /\ IsWeb g B /\ Rising g /\ B.length <= 24 /\
  ∀ l H', TiesAt H' l (tiesB B B.length) -> H l = none -> Same H H' -> Q (.ref l) H'
theorem Cties_of (T : Txt K mg tMOST_PLACES cLam) : Callee P w K mg base 1 "ties_of" ["web"] spTiesOf := by
  refine mkCallee T.dties_of scties_of (fun _ _ _ _ _ _ us hl => match us, hl with | [_], _ => rfl) (fun vs H Q E h => ?_) (fun f cdv A outer s H vs Q E hr h => ?_)
  · obtain ⟨wa, g, B, rfl, _⟩ := h; rfl
  · obtain ⟨wa, g, B, rfl, hw, hg, hri, h24, k⟩ := h
    obtain ⟨ws, hws, hwl, hrow⟩ := hw.row
    have gl := hg.1
    refine ⟨_, (pss_cons (ps_set (i := 1) scties_of.nd rfl (.inl rfl) (pe_lst pa_nil)) (pss_cons (ps_for PassesOwn.never rfl (pi_enumT (K := K) rfl rfl T.z_enumerate (pa_cons (pv 0) pa_nil)) (pgt (K := K) (n := 2) rfl rfl (pgs_cons (pg_name (i := 2) scties_of.nd rfl (.inr rfl)) (pgs_cons (pg_name (i := 3) scties_of.nd rfl (.inl rfl)) pgs_nil))) (pss_one (ps_expr (bm (K := K) rfl PySem.F.plainAttrs_list PySem.F.slot_list_extend PySem.F.type_list_extend mt_extend (pv 1) (pa_cons (pe_lc (NB := ["other", "place"]) (nt := 1) (fr := [2]) rfl (by kernel_rfl) (pit (K := K) rfl (pv 3)) (fun _ _ _ _ _ => (pg_name (i := 0) (show List.Nodup (["other", "place"] : List Str) by decide +kernel) rfl (.inl rfl))) (fun _ _ _ _ _ => (pts_one (pt_cmpR op_lt (pv 1) (pv 0) (nomark _)))) (fun _ _ _ _ _ => (pe_tup (pa_cons (pv 1) (pa_cons (pv 0) pa_nil))))) pa_nil))))) (pss_one (ps_ret (pv 1))))), ?_⟩
    refine ⟨by show 0 <= sizeLine; decide, fun f0 hf0 => ?_⟩
    have s0 := Same.new (o := .lst []) hf0
    refine ⟨_, rfl, wa, rfl, ⟨_, SqT.of (s0 _ _ hws)⟩, for_enumT (xs := ws) (fun i σ H' => (∃ v2 v3, σ = [some (.ref wa), some (.ref f0), v2, v3]) /\ i <= g.length /\ TiesAt H' f0 (tiesG g i) /\ (tiesG g i).length <= 24 * i /\ Same H H')
      ⟨⟨_, _, rfl⟩, Nat.zero_le _, ⟨[], upd_same, .nil⟩, Nat.le_refl _, s0⟩ (fun i σ H' _ q => SqT.of (q.2.2.2.2 _ _ hws)) ?_ ?_⟩
    · rintro i x t σ H1 hi ⟨⟨v2, v3, rfl⟩, _, ⟨xs, hf, hp⟩, hlen, s1⟩ ht
      have hi' : i < g.length := by
        have := (List.getElem?_eq_some_iff.mp hi).1
        omega
      obtain ⟨r, er, hr1⟩ := hrow i hi'
      have ex : x = .ref r := by
        have := atI_nat hi
        rw [er] at this
        exact (Option.some.inj this).symm
      subst ex
      have st := Same.new (o := .tup [.int (i : Int), .ref r]) ht
      have s2 := s1.trans st
      refine ⟨t, _, rfl, SqT.of upd_same, rfl, _, _, rfl, _, _, rfl, rfl, ?_⟩
      have hf2 := st _ _ hf
      have hp2 := paired_mono (fun _ _ => TieV.mono st) hp
      have hr2 := s2 _ _ hr1
      generalize upd H1 t (.tup [.int (i : Int), .ref r]) = H2 at *
      have hrl := rising_len hg hri i
      refine ⟨_, rfl, .inl ⟨rfl, _, SqL.of hf2⟩, _, rfl, r, rfl, ⟨_, SqT.of hr2⟩, lc_tup (xs := natL (g.getD i [])) (fun j σ' ys H' => (∃ v, σ' = [v, some (.int (i : Int))]) /\ Paired (TieV H') ys ((((g.getD i []).take j).filter fun q => decide (i < q)).map fun q => (i, q)) /\ Same H2 H')
        ⟨⟨_, rfl⟩, .nil, Same.refl _⟩ (fun j σ' ys H' _ q => SqT.of (q.2.2 _ _ hr2)) (fun j σ' ys H' q => ?_) ?_ ?_⟩
      · rw [q.2.1.length, List.length_map]
        refine small1000 (Nat.le_trans (List.length_filter_le _ _) ?_)
        rw [List.length_take]
        omega
      · rintro j x σ' ys H3 hj ⟨⟨v, rfl⟩, hp3, s3⟩
        obtain ⟨q, eq, rfl⟩ := natL_get hj
        rw [filter_take_succ eq, List.map_append]
        refine ⟨_, rfl, _, rfl, _, _, rfl, rfl, _, rfl, ?_⟩
        by_cases z : i < q
        · refine iteDT (by omega) ⟨_, rfl, _, rfl, by show 2 <= sizeLine; decide, fun u hu => ⟨⟨_, rfl⟩, ?_, s3.updr hu⟩⟩
          rw [decide_eq_true z]
          exact paired_append (paired_mono (fun _ _ => TieV.mono (Same.new hu)) hp3) (.cons ⟨u, rfl, upd_same⟩ .nil)
        · refine iteDF (by omega) ⟨⟨_, rfl⟩, ?_, s3⟩
          rw [decide_eq_false z]
          simpa using hp3
      · rintro σ' ys H3 ⟨_, hp3, s3⟩ D hD
        have e1 : (g.getD i []).take (natL (g.getD i [])).length = g.getD i [] := by rw [natL_len, List.take_length]
        rw [e1] at hp3
        have sD := Same.new (o := .lst ys) hD
        have hfD := sD _ _ (s3 _ _ hf2)
        have l1 := hp.length
        have l2 : ys.length <= 24 := by
          rw [hp3.length, List.length_map]
          exact Nat.le_trans (List.length_filter_le _ _) (by omega)
        refine ⟨f0, D, xs, ys, rfl, rfl, hfD, upd_same, Nat.le_of_lt (small1000 (by omega)), ⟨_, _, rfl⟩, hi', ⟨xs ++ ys, upd_same, ?_⟩, ?_, (s2.trans (s3.trans sD)).of_upd hf0⟩
        · rw [tiesG_succ]
          exact paired_append (paired_mono (fun _ _ h => TieV.putL hfD (TieV.mono (s3.trans sD) h)) hp2) (paired_mono (fun _ _ h => TieV.putL hfD (TieV.mono sD h)) hp3)
        · rw [tiesG_succ, List.length_append]
          have : (rowG g i).length <= 24 := by rw [show rowG g i = ((g.getD i []).filter fun q => decide (i < q)).map fun q => (i, q) from rfl, <- hp3.length]; exact l2
          omega
    · rintro σ H1 ⟨⟨v2, v3, rfl⟩, _, hti, _, s1⟩
      rw [hwl, tiesG_eq hg hri] at hti
      exact ⟨_, rfl, k f0 H1 hti hf0 s1⟩
theorem TabAt.ud {H : Hp} {l : Addr} {rs : List Addr} {g : List (List Nat)} {B : List Nat} (h : TabAt H l rs g.length (dist g)) (hg : IsWeb g B) (i : Iso B) {a : Nat} (ha : a < B.length) :
    ∃ r, atI (rs.map V.ref) (a : Int) = some (.ref r) /\ H r = some (.lst (optL g.length (dist g a))) /\ ∀ c, c < B.length -> atI (optL g.length (dist g a)) (c : Int) = some (.int ((ud (B.getD a 0) (B.getD c 0) : Nat) : Int)) := by
  obtain ⟨r, e1, e2⟩ := h.at (a := a) (by rw [hg.1]; exact ha)
  refine ⟨r, e1, e2, fun c hc => ?_⟩
  rw [optL_at (by rw [hg.1]; exact hc), dist_ud hg i ha hc]
  rfl
def spOne : Sp := fun vs H Q _ => ∃ (tl t1 t2 : Addr) (rs : List Addr) (t u : Nat × Nat) (g : List (List Nat)) (B : List Nat), vs = [.ref tl, .ref t1, .ref t2] /\ TabAt H tl rs g.length (dist g) /\ H t1 = some (.tup [.int (t.1 : Int), .int (t.2 : Int)]) /\ H t2 = some (.tup [.int (u.1 : Int), .int (u.2 : Int)]) /\ IsWeb g B /\ Iso B /\
  t ∈ tiesB B B.length /\ u ∈ tiesB B B.length /\ Q (.bl (decide (mk B t = mk B u))) H
theorem Care_in_one_class (T : Txt K mg tMOST_PLACES cLam) : Callee P w K mg base 1 "are_in_one_class" ["lengths", "tie", "other"] spOne := by
  refine mkCallee T.dare_in_one_class scare_in_one_class (fun _ _ _ _ _ _ us hl => match us, hl with | [_, _, _], _ => rfl) (fun vs H Q E h => ?_) (fun f cdv A outer s H vs Q E hr h => ?_)
  · obtain ⟨tl, t1, t2, rs, t, u, g, B, rfl, _⟩ := h; rfl
  · obtain ⟨tl, t1, t2, rs, ⟨a, b⟩, ⟨c, d⟩, g, B, rfl, tab, h1, h2, hg, iso, ht, hu, q⟩ := h
    obtain ⟨qa, qab, qb, q1⟩ := (mem_tiesB (Nat.le_refl _)).mp ht
    obtain ⟨qc, qcd, qd, q2⟩ := (mem_tiesB (Nat.le_refl _)).mp hu
    dsimp only at *
    obtain ⟨ra, ea, ha, xa⟩ := tab.ud hg iso qa
    obtain ⟨rb, eb, hb, xb⟩ := tab.ud hg iso qb
    refine ⟨_, (pss_cons (ps_set (i := 3) scare_in_one_class.nd rfl (.inl rfl) (pe_op op_add (pe_ix (ixl (K := K) rfl) (pe_ix (ixl (K := K) rfl) (pv 0) (pe_ix (ixt (K := K) rfl) (pv 1) pe_int (fun _ _ => rfl)) (fun _ _ => rfl)) (pe_ix (ixt (K := K) rfl) (pv 2) pe_int (fun _ _ => rfl)) (fun _ _ => rfl)) (pe_ix (ixl (K := K) rfl) (pe_ix (ixl (K := K) rfl) (pv 0) (pe_ix (ixt (K := K) rfl) (pv 1) pe_int (fun _ _ => rfl)) (fun _ _ => rfl)) (pe_ix (ixt (K := K) rfl) (pv 2) pe_int (fun _ _ => rfl)) (fun _ _ => rfl)))) (pss_cons (ps_set (i := 4) scare_in_one_class.nd rfl (.inl rfl) (pe_op op_add (pe_ix (ixl (K := K) rfl) (pe_ix (ixl (K := K) rfl) (pv 0) (pe_ix (ixt (K := K) rfl) (pv 1) pe_int (fun _ _ => rfl)) (fun _ _ => rfl)) (pe_ix (ixt (K := K) rfl) (pv 2) pe_int (fun _ _ => rfl)) (fun _ _ => rfl)) (pe_ix (ixl (K := K) rfl) (pe_ix (ixl (K := K) rfl) (pv 0) (pe_ix (ixt (K := K) rfl) (pv 1) pe_int (fun _ _ => rfl)) (fun _ _ => rfl)) (pe_ix (ixt (K := K) rfl) (pv 2) pe_int (fun _ _ => rfl)) (fun _ _ => rfl)))) (pss_one (ps_ret (pe_cmpR op_ne (pv 3) (pv 4) (nomark _)))))), ?_⟩
    refine ⟨_, rfl, _, rfl, t1, _, 0, _, rfl, rfl, SqT.of h1, rfl, tl, _, _, _, rfl, rfl, SqL.of tab.ls, ea, _, rfl, t2, _, 0, _, rfl, rfl, SqT.of h2, rfl, ra, _, _, _, rfl, rfl, SqL.of ha, xa c qc,
      _, rfl, _, rfl, t1, _, 1, _, rfl, rfl, SqT.of h1, rfl, tl, _, _, _, rfl, rfl, SqL.of tab.ls, eb, _, rfl, t2, _, 1, _, rfl, rfl, SqT.of h2, rfl, rb, _, _, _, rfl, rfl, SqL.of hb, xb d qd, _, _, rfl, rfl, ?_⟩
    refine ⟨_, rfl, _, rfl, t1, _, 0, _, rfl, rfl, SqT.of h1, rfl, tl, _, _, _, rfl, rfl, SqL.of tab.ls, ea, _, rfl, t2, _, 1, _, rfl, rfl, SqT.of h2, rfl, ra, _, _, _, rfl, rfl, SqL.of ha, xa d qd,
      _, rfl, _, rfl, t1, _, 1, _, rfl, rfl, SqT.of h1, rfl, tl, _, _, _, rfl, rfl, SqL.of tab.ls, eb, _, rfl, t2, _, 0, _, rfl, rfl, SqT.of h2, rfl, rb, _, _, _, rfl, rfl, SqL.of hb, xb c qc, _, _, rfl, rfl, ?_⟩
    refine ⟨_, rfl, _, rfl, rfl, ?_⟩
    have key := one_class q1 q2
    have e : (!decide (V.int (((ud (B.getD a 0) (B.getD c 0) : Nat) : Int) + ((ud (B.getD b 0) (B.getD d 0) : Nat) : Int)) = V.int (((ud (B.getD a 0) (B.getD d 0) : Nat) : Int) + ((ud (B.getD b 0) (B.getD c 0) : Nat) : Int)))) = decide (mk B (a, b) = mk B (c, d)) := by
      rw [Bool.eq_iff_iff, Bool.not_eq_true', decide_eq_false_iff_not, decide_eq_true_eq]
      refine Iff.trans (not_congr ?_) key
      exact ⟨fun h => vint_inj (a := ud _ _ + ud _ _) (b := ud _ _ + ud _ _) h, fun h => vint (a := ud _ _ + ud _ _) (b := ud _ _ + ud _ _) h⟩
    exact e ▸ q
end
section
variable {P : Program} {w : World} {K : PySem.W.Frag} {mg : Str -> Option Value} {base : Heap} {tMOST_PLACES : Tok} {cLam pLam : Addr}
def tieE (t u : Nat × Nat) : Nat -> Bool
  | 0 => decide (t.1 = u.1)
  | _ => decide (t.2 = u.2)
theorem tieE_eq (t u : Nat × Nat) : ((List.range (min 2 2)).all (tieE t u) && 2 == 2) = decide (t = u) := by
  show ((tieE t u 0 && (tieE t u 1 && true)) && true) = _
  obtain ⟨a, b⟩ := t
  obtain ⟨c, d⟩ := u
  rw [Bool.eq_iff_iff]
  simp [tieE, Prod.mk.injEq]
theorem tieE_at {H : Hp} {n : Nat} {t u : Nat × Nat} (j : Nat) (x y : V) (hx : [V.int (t.1 : Int), .int (t.2 : Int)][j]? = some x) (hy : [V.int (u.1 : Int), .int (u.2 : Int)][j]? = some y) : EqQ K H n x y (tieE t u j) := by
  match j, hx, hy with
  | 0, hx, hy =>
    simp at hx hy
    subst hx hy
    have := EqQ.flat (K := K) (H := H) (n := n) (x := .int (t.1 : Int)) (y := .int (u.1 : Int)) rfl rfl
    rw [eqV_nat] at this
    exact this
  | 1, hx, hy =>
    simp at hx hy
    subst hx hy
    have := EqQ.flat (K := K) (H := H) (n := n) (x := .int (t.2 : Int)) (y := .int (u.2 : Int)) rfl rfl
    rw [eqV_nat] at this
    exact this
  | j + 2, hx, hy => simp at hx
theorem topQ_tie {H : Hp} {v x : V} {t u : Nat × Nat} (h1 : TieV H v t) (h2 : TieV H x u) : TopQ K H v x (decide (t = u)) := by
  obtain ⟨a, rfl, ha⟩ := h1
  obtain ⟨b, rfl, hb⟩ := h2
  have := TopQ.tups (K := K) (H := H) (n := 0) (e := tieE t u) (by decide) (SqT.of ha) (SqT.of hb) tieE_at
  rw [<- tieE_eq]
  exact this
structure ClsAt (H : Hp) (l : Addr) (rs : List Addr) (cs : List (List (Nat × Nat))) : Prop where
  ls : H l = some (.lst (rs.map V.ref))
  cl : Paired (fun r ts => TiesAt H r ts) rs cs
  out : l ∉ rs
theorem ClsAt.mono {H H' : Hp} {l : Addr} {rs : List Addr} {cs : List (List (Nat × Nat))} (h : ClsAt H l rs cs) (s : Same H H') : ClsAt H' l rs cs := ⟨s _ _ h.ls, paired_mono (fun _ _ => TiesAt.mono s) h.cl, h.out⟩
theorem TiesAt.putL {H : Hp} {l r : Addr} {xs : List V} {o : HO} {ts : List (Nat × Nat)} (hl : H l = some (.lst xs)) (ne : r ≠ l) (h : TiesAt H r ts) : TiesAt (upd H l o) r ts := by
  obtain ⟨ys, e, q⟩ := h
  exact ⟨ys, by rw [upd_ne ne]; exact e, paired_mono (fun _ _ => TieV.putL hl) q⟩
theorem paired_mem {α β : Type} {F G : α -> β -> Prop} : ∀ {l : List α} {m : List β}, Paired F l m -> (∀ a b, a ∈ l -> F a b -> G a b) -> Paired G l m
  | _, _, .nil, _ => .nil
  | _, _, .cons r t, h => .cons (h _ _ List.mem_cons_self r) (paired_mem t fun a b ha => h a b (List.mem_cons_of_mem _ ha))
abbrev clsB (B : List Nat) (ts us : List (Nat × Nat)) : List (List (Nat × Nat)) := (marksF B us).map (clsT B ts)
def spCls : Sp := fun vs H Q _ => ∃ (wa : Addr) (g : List (List Nat)) (B : List Nat), vs = [.ref wa] /\ WebAt H wa g /\ IsWeb g B /\ Rising g /\ Iso B /\ B.length <= 24 /\
  ∀ l rs H', ClsAt H' l rs (clsB B (tiesB B B.length) (tiesB B B.length)) -> H l = none -> (∀ r ∈ rs, H r = none) -> Same H H' -> Q (.ref l) H'
theorem Cclasses (T : Txt K mg tMOST_PLACES cLam) : Callee P w K mg base 3 "classes" ["web"] spCls := by
  have Cfars := Cfars (P := P) (w := w) (base := base) T
  have Cties_of := Cties_of (P := P) (w := w) (base := base) T
  have Care_in_one_class := Care_in_one_class (P := P) (w := w) (base := base) T
  refine mkCallee T.dclasses scclasses (fun _ _ _ _ _ _ us hl => match us, hl with | [_], _ => rfl) (fun vs H Q E h => ?_) (fun f cdv A outer s H vs Q E hr h => ?_)
  · obtain ⟨wa, g, B, rfl, _⟩ := h; rfl
  · obtain ⟨wa, g, B, rfl, hw, hg, hri, iso, h24, k⟩ := h
    have gl := hg.1
    have htl := tiesB_len B B.length
    have h576 : B.length * B.length <= 24 * 24 := Nat.mul_le_mul (by omega) (by omega)
    have hsort := tiesB_sorted B B.length (Nat.le_refl _)
    have hnd : (tiesB B B.length).Nodup := by
      rw [List.nodup_iff_pairwise_ne]
      exact hsort.imp fun {a b} q e => by subst e; exact ltT_irr q
    refine ⟨_, (pss_cons (ps_set (i := 1) scclasses.nd rfl (.inr rfl) (pe_fn Cfars hr rfl (pa_cons (pv 0) pa_nil))) (pss_cons (ps_set (i := 2) scclasses.nd rfl (.inl rfl) (pe_fn Cties_of hr rfl (pa_cons (pv 0) pa_nil))) (pss_cons (ps_set (i := 3) scclasses.nd rfl (.inl rfl) (pe_lst pa_nil)) (pss_cons (ps_for PassesOwn.never rfl (pil (K := K) rfl (pv 2)) (pg_name (i := 4) scclasses.nd rfl (.inr rfl)) (pss_cons (ps_setLC (NB := ["other", "lengths", "tie"]) (nt := 1) (fr := [1, 4]) rfl (by kernel_rfl) (i := 5) scclasses.nd rfl rfl (pil (K := K) rfl (pv 2)) (fun _ _ _ _ _ => (pg_name (i := 0) (show List.Nodup (["other", "lengths", "tie"] : List Str) by decide +kernel) rfl (.inl rfl))) (fun _ _ _ _ _ => (pts_one (pt_val (pe_fn Care_in_one_class hr rfl (pa_cons (pv 1) (pa_cons (pv 2) (pa_cons (pv 0) pa_nil))))))) (fun _ _ _ _ _ => (pv 0))) (pss_one (ps_if (pt_cmpR (eqq (K := K) rfl hr) (pe_ix (ixl (K := K) rfl) (pv 5) pe_int (fun _ _ => rfl)) (pv 4) (nomark _)) (pss_one (ps_expr (bm (K := K) rfl PySem.F.plainAttrs_list PySem.F.slot_list_append PySem.F.type_list_append mt_append (pv 3) (pa_cons (pv 5) pa_nil)))) pss_nil)))) (pss_one (ps_ret (pv 3))))))), ?_⟩
    refine ⟨_, rfl, wa, g, rfl, hw, hg.inn, by omega, fun fl rs H1 nfl nrs tab s1 => ?_⟩
    refine ⟨_, rfl, wa, g, B, rfl, hw.mono s1, hg, hri, h24, fun tl H2 hti ntl s2 => ?_⟩
    generalize hts : tiesB B B.length = ts at *
    have tab2 := tab.mono s2
    obtain ⟨xs, htl2, hp⟩ := hti
    refine ⟨by show 0 <= sizeLine; decide, fun fd hfd => ?_⟩
    have s3 := Same.new (o := .lst []) hfd
    have nfdH : H fd = none := (s1.trans s2).free hfd
    have tab3 := tab2.mono s3
    have htl3 := s3 _ _ htl2
    have hp3 := paired_mono (fun _ _ => TieV.mono s3) hp
    have ntf : tl ≠ fd := ne_of_none htl2 hfd
    have sH3 := (s1.trans s2).trans s3
    have hfd3 : upd H2 fd (.lst []) fd = some (.lst []) := upd_same
    generalize upd H2 fd (.lst []) = H3 at *
    have xl := hp.length
    refine ⟨_, rfl, tl, rfl, ⟨_, SqL.of htl3⟩, for_list (xs := xs) (fun i σ H' => (∃ v4 v5, σ = [some (.ref wa), some (.ref fl), some (.ref tl), some (.ref fd), v4, v5]) /\ (∃ rs', ClsAt H' fd rs' (clsB B ts (ts.take i)) /\ ∀ r ∈ rs', H r = none) /\ SameB fd H3 H')
      ⟨⟨_, _, rfl⟩, ⟨[], ⟨hfd3, .nil, by simp⟩, fun r hr => absurd hr (by simp)⟩, SameB.refl⟩ (fun i σ H' _ q => SqL.of (q.2.2 _ _ htl3 ntf)) ?_ ?_⟩
    · rintro i x σ H4 hi ⟨⟨v4, v5, rfl⟩, ⟨rs', hcl, hno⟩, s4⟩
      obtain ⟨t, et, ht⟩ := paired_at hp3 i x hi
      have htm := List.mem_of_getElem? et
      have tieB : ∀ {v u}, TieV H3 v u -> TieV H4 v u := fun {v u} h => by
        obtain ⟨r, e, q⟩ := h
        exact ⟨r, e, s4 _ _ q (by rintro rfl; rw [hfd3] at q; cases q)⟩
      have ht4 := tieB ht
      have hp4 := paired_mono (fun _ _ => tieB) hp3
      have htl4 := s4 _ _ htl3 ntf
      have nfd : ∀ {r o}, H2 r = some o -> r ≠ fd := fun {r o} e => ne_of_none e hfd
      have tab4 : TabAt H4 fl rs g.length (dist g) := ⟨s4 _ _ tab3.ls (nfd tab2.ls), tab3.len, tab3.nd, tab3.out, fun p r e => s4 _ _ (tab3.row p r e) (nfd (tab2.row p r e))⟩
      obtain ⟨r, rfl, hr0⟩ := id ht4
      refine ⟨_, rfl, tl, rfl, ⟨_, SqL.of htl4⟩, lc_list (xs := xs) (fun j σ' ys H' => (∃ v, σ' = [v, some (.ref fl), some (.ref r)]) /\ j <= xs.length /\ Paired (TieV H4) ys (clsT B (ts.take j) (mk B t)) /\ H' = H4)
        ⟨⟨_, rfl⟩, Nat.zero_le _, .nil, rfl⟩ (fun j σ' ys H' _ q => by rw [q.2.2.2]; exact SqL.of htl4) (fun j σ' ys H' q => ?_) ?_ ?_⟩
      · rw [q.2.2.1.length]
        unfold clsT
        refine small1000 (Nat.le_trans (List.length_filter_le _ _) ?_)
        rw [List.length_take]
        omega
      · rintro j x σ' ys H' hj ⟨⟨v, rfl⟩, _, hp5, rfl⟩
        obtain ⟨u, eu, hu⟩ := paired_at hp4 j x hj
        have hum := List.mem_of_getElem? eu
        obtain ⟨r2, rfl, hr2⟩ := id hu
        refine ⟨_, rfl, _, rfl, _, rfl, fl, r, r2, rs, t, u, g, B, rfl, tab4, hr0, hr2, hg, iso, hts ▸ htm, hts ▸ hum, _, rfl, ?_⟩
        have ec : clsT B (ts.take (j + 1)) (mk B t) = clsT B (ts.take j) (mk B t) ++ (if decide (mk B u = mk B t) = true then [u] else []) := by
          unfold clsT
          rw [filter_take_succ eu]
        rw [ec]
        by_cases z : mk B t = mk B u
        · refine iteDT z ⟨_, rfl, ⟨_, rfl⟩, by have := (List.getElem?_eq_some_iff.mp hj).1; omega, ?_, rfl⟩
          rw [if_pos (decide_eq_true z.symm)]
          exact paired_append hp5 (.cons hu .nil)
        · refine iteDF z ⟨⟨_, rfl⟩, by have := (List.getElem?_eq_some_iff.mp hj).1; omega, ?_, rfl⟩
          rw [if_neg (by rw [decide_eq_true_eq]; exact fun e => z e.symm), List.append_nil]
          exact hp5
      · rintro σ' ys H' ⟨_, _, hp5, rfl⟩ D hD
        rw [xl, List.take_length] at hp5
        have sD := Same.new (o := .lst ys) hD
        obtain ⟨u0, e0, hfirst, _⟩ := cls_first (B := B) hnd et
        obtain ⟨v0, ev0⟩ : ∃ v0, ys[0]? = some v0 := by
          have := (List.getElem?_eq_some_iff.mp e0).1
          have hl := hp5.length
          exact ⟨_, List.getElem?_eq_getElem (by omega)⟩
        obtain ⟨u1, e1, hu1⟩ := paired_at hp5 0 v0 ev0
        have : u1 = u0 := by rw [e0] at e1; exact (Option.some.inj e1).symm
        subst this
        refine ⟨_, rfl, D, _, 0, v0, rfl, rfl, SqL.of upd_same, atI_nat ev0, _, rfl, _, topQ_tie (hu1.mono sD) (ht4.mono sD), _, rfl, ?_⟩
        rw [if_neg Bool.false_ne_true]
        have nDf : D ≠ fd := fun e => by subst e; rw [hcl.ls] at hD; cases hD
        have nDH : H D = none := by
          cases q : H D with
          | none => rfl
          | some o =>
            have h1 := sH3 _ _ q
            have h2 := s4 _ _ h1 nDf
            rw [hD] at h2
            cases h2
        have cl5 := hcl.mono sD
        have s5 := s4.trans sD.b (p := fd)
        by_cases z : u1 = t
        · have zn := hfirst.mp z
          have em : clsB B ts (ts.take (i + 1)) = clsB B ts (ts.take i) ++ [clsT B ts (mk B t)] := by
            unfold clsB
            rw [marksF_take et, if_neg zn, List.map_append]
            rfl
          refine iteDT z ⟨_, rfl, .inl ⟨rfl, _, SqL.of cl5.ls⟩, _, rfl, fd, _, _, rfl, rfl, cl5.ls, ?_, ⟨_, _, rfl⟩, ⟨rs' ++ [D], ⟨?_, ?_, ?_⟩, ?_⟩, ?_⟩
          · have hl := hcl.cl.length
            have h2 := marksF_len B (ts.take i)
            rw [List.length_take] at h2
            rw [List.length_map, hl, List.length_map]
            exact small1000 (by omega)
          · rw [upd_same, List.map_append]; rfl
          · rw [em]
            refine paired_append (paired_mem cl5.cl fun a b ha h => TiesAt.putL cl5.ls (fun e => hcl.out (e ▸ ha)) h) (.cons ?_ .nil)
            exact TiesAt.putL cl5.ls nDf ⟨ys, upd_same, paired_mono (fun _ _ => TieV.mono sD) hp5⟩
          · intro z
            rcases List.mem_append.mp z with z | z
            · exact hcl.out z
            · exact nDf (List.mem_singleton.mp z).symm
          · intro z hz
            rcases List.mem_append.mp hz with q | q
            · exact hno z q
            · have : z = D := by simpa using q
              subst this
              exact nDH
          · intro d o e nd
            rw [upd_ne nd]
            exact s5 d o e nd
        · have zn : mk B t ∈ marksF B (ts.take i) := Decidable.byContradiction fun q => z (hfirst.mpr q)
          have em : clsB B ts (ts.take (i + 1)) = clsB B ts (ts.take i) := by
            unfold clsB
            rw [marksF_take et, if_pos zn]
          refine iteDF z ⟨⟨_, _, rfl⟩, ⟨rs', ?_, hno⟩, s5⟩
          rw [em]
          exact cl5
    · rintro σ H4 ⟨⟨v4, v5, rfl⟩, ⟨rs', hcl, hno⟩, s4⟩
      rw [xl, List.take_length] at hcl
      refine ⟨_, rfl, k fd rs' H4 hcl nfdH hno fun d o e => s4 d o (sH3 _ _ e) (ne_of_none e nfdH)⟩
end
section
variable {P : Program} {w : World} {K : PySem.W.Frag} {mg : Str -> Option Value} {base : Heap} {tMOST_PLACES : Tok} {cLam pLam : Addr}
theorem optL_ud {g : List (List Nat)} {B : List Nat} (hg : IsWeb g B) (i : Iso B) {a c : Nat} (ha : a < B.length) (hc : c < B.length) : atI (optL g.length (dist g a)) (c : Int) = some (.int ((ud (B.getD a 0) (B.getD c 0) : Nat) : Int)) := by
  rw [optL_at (by rw [hg.1]; exact hc), dist_ud hg i ha hc]
  rfl
structure HalfAt (H : Hp) (B : List Nat) (m : Nat) (h : Addr × Addr × Addr) : Prop where
  tu : H h.1 = some (.tup [.ref h.2.1, .ref h.2.2])
  fi : H h.2.1 = some (.lst (natL (firstH B m)))
  se : H h.2.2 = some (.lst (natL (secondH B m)))
theorem HalfAt.mono {H H' : Hp} {B : List Nat} {m : Nat} {h : Addr × Addr × Addr} (q : HalfAt H B m h) (s : Same H H') : HalfAt H' B m h := ⟨s _ _ q.tu, s _ _ q.fi, s _ _ q.se⟩
def spHby : Sp := fun vs H Q _ => ∃ (wa ta : Addr) (t : Nat × Nat) (g : List (List Nat)) (B : List Nat), vs = [.ref wa, .ref ta] /\ WebAt H wa g /\ IsWeb g B /\ Iso B /\ 1 <= B.length /\ B.length <= 24 /\ H ta = some (.tup [.int (t.1 : Int), .int (t.2 : Int)]) /\ t ∈ tiesB B B.length /\
  ∀ h H', HalfAt H' B (mk B t) h -> H h.1 = none -> H h.2.1 = none -> H h.2.2 = none -> Same H H' -> Q (.ref h.1) H'
theorem Chalves_by (T : Txt K mg tMOST_PLACES cLam) : Callee P w K mg base 2 "halves_by" ["web", "tie"] spHby := by
  have Cfars_from := Cfars_from (P := P) (w := w) (base := base) T
  refine mkCallee T.dhalves_by schalves_by (fun _ _ _ _ _ _ us hl => match us, hl with | [_, _], _ => rfl) (fun vs H Q E h => ?_) (fun f cdv A outer s H vs Q E hr h => ?_)
  · obtain ⟨wa, ta, t, g, B, rfl, _⟩ := h; rfl
  · obtain ⟨wa, ta, t, g, B, rfl, hw, hg, iso, hB1, h24, hta, htm, k⟩ := h
    obtain ⟨h1, h12, h2, hud⟩ := (mem_tiesB (Nat.le_refl _)).mp htm
    obtain ⟨ws, hws, hwl, _⟩ := hw.row
    have gl := hg.1
    have hwl' : ws.length = B.length := by omega
    refine ⟨_, (pss_cons (ps_set (i := 2) schalves_by.nd rfl (.inr rfl) (pe_fn Cfars_from hr rfl (pa_cons (pv 0) (pa_cons (pe_ix (ixt (K := K) rfl) (pv 1) pe_int (fun _ _ => rfl)) pa_nil)))) (pss_cons (ps_set (i := 3) schalves_by.nd rfl (.inr rfl) (pe_fn Cfars_from hr rfl (pa_cons (pv 0) (pa_cons (pe_ix (ixt (K := K) rfl) (pv 1) pe_int (fun _ _ => rfl)) pa_nil)))) (pss_cons (ps_setLC (NB := ["x", "from_a", "from_b"]) (nt := 1) (fr := [2, 3]) rfl (by kernel_rfl) (i := 4) schalves_by.nd rfl rfl (pi_range1 rfl T.z_range (pa_cons (pe_callB (lenq (K := K) rfl) rfl T.z_len bt_len (pa_cons (pv 0) pa_nil)) pa_nil)) (fun _ _ _ _ _ => (pg_name (i := 0) (show List.Nodup (["x", "from_a", "from_b"] : List Str) by decide +kernel) rfl (.inl rfl))) (fun _ _ _ _ _ => (pts_one (pt_cmpR op_lt (pe_ix (ixl (K := K) rfl) (pv 1) (pv 0) (fun _ _ => rfl)) (pe_ix (ixl (K := K) rfl) (pv 2) (pv 0) (fun _ _ => rfl)) (nomark _)))) (fun _ _ _ _ _ => (pv 0))) (pss_cons (ps_setLC (NB := ["x", "from_a", "from_b"]) (nt := 1) (fr := [2, 3]) rfl (by kernel_rfl) (i := 5) schalves_by.nd rfl rfl (pi_range1 rfl T.z_range (pa_cons (pe_callB (lenq (K := K) rfl) rfl T.z_len bt_len (pa_cons (pv 0) pa_nil)) pa_nil)) (fun _ _ _ _ _ => (pg_name (i := 0) (show List.Nodup (["x", "from_a", "from_b"] : List Str) by decide +kernel) rfl (.inl rfl))) (fun _ _ _ _ _ => (pts_one (pt_cmpR op_lt (pe_ix (ixl (K := K) rfl) (pv 2) (pv 0) (fun _ _ => rfl)) (pe_ix (ixl (K := K) rfl) (pv 1) (pv 0) (fun _ _ => rfl)) (nomark _)))) (fun _ _ _ _ _ => (pv 0))) (pss_one (ps_ret (pe_ifExp (pt_cmpR (inq (K := K) rfl) pe_int (pv 4) rfl) (pe_tup (pa_cons (pv 4) (pa_cons (pv 5) pa_nil))) (pe_tup (pa_cons (pv 5) (pa_cons (pv 4) pa_nil)))))))))), ?_⟩
    refine ⟨_, rfl, _, rfl, ta, _, 0, _, rfl, rfl, SqT.of hta, rfl, wa, t.1, g, rfl, hw, hg.inn, by omega, by omega, fun fa H1 nfa hfa s1 => ?_⟩
    refine ⟨_, rfl, _, rfl, ta, _, 1, _, rfl, rfl, SqT.of (s1 _ _ hta), rfl, wa, t.2, g, rfl, hw.mono s1, hg.inn, by omega, by omega, fun fb H2 nfb hfb s2 => ?_⟩
    have hfa2 := s2 _ _ hfa
    have s12 := s1.trans s2
    have hws2 := s12 _ _ hws
    have comp : ∀ (n : Nat), (List.range n).length <= 1000 -> True := fun _ _ => trivial
    refine ⟨_, rfl, wa, ws, rfl, .inr (SqT.of hws2), ((B.length : Nat) : Int), congrArg (fun z => [V.int ((z : Nat) : Int)]) hwl', by omega, by omega, lc_range0 (Pv := fun i σ' ys H' => (∃ v, σ' = [v, some (.ref fa), some (.ref fb)]) /\ i <= B.length /\ ys = natL ((List.range i).filter fun x => decide (B.getD x 0 &&& mk B t = B.getD t.1 0 &&& mk B t)) /\ H2 = H')
      ⟨⟨_, rfl⟩, Nat.zero_le _, rfl, rfl⟩ (fun i σ' ys H' p => ?_) ?_ ?_⟩
    · rw [p.2.2.1, natL_len]
      refine small1000 (Nat.le_trans (List.length_filter_le _ _) ?_)
      rw [List.length_range]
      have := p.2.1
      omega
    · rintro i σ' ys H' hi ⟨⟨v, rfl⟩, _, rfl, rfl⟩
      refine ⟨_, rfl, _, rfl, fa, _, _, _, rfl, rfl, SqL.of hfa2, optL_ud hg iso h1 hi, _, rfl, _, rfl, fb, _, _, _, rfl, rfl, SqL.of hfb, optL_ud hg iso h2 hi, _, _, rfl, rfl, _, rfl, ?_⟩
      rw [range_filter_succ]
      by_cases z : B.getD i 0 &&& mk B t = B.getD t.1 0 &&& mk B t
      · rw [decide_eq_true z]
        exact iteDT (by have := (near_side hud i).1.mpr z; omega) ⟨_, rfl, ⟨_, rfl⟩, by omega, by rw [natL_snoc]; rfl, rfl⟩
      · rw [decide_eq_false z]
        exact iteDF (by have := (near_side hud i).2.mpr z; omega) ⟨⟨_, rfl⟩, by omega, by simp, rfl⟩
    · rintro σ' ys H' ⟨_, _, rfl, rfl⟩ la hla
      have s3 := Same.new (o := .lst (natL ((List.range B.length).filter fun x => decide (B.getD x 0 &&& mk B t = B.getD t.1 0 &&& mk B t)))) hla
      have hla3 : upd H2 la (.lst (natL ((List.range B.length).filter fun x => decide (B.getD x 0 &&& mk B t = B.getD t.1 0 &&& mk B t)))) la = some (.lst (natL ((List.range B.length).filter fun x => decide (B.getD x 0 &&& mk B t = B.getD t.1 0 &&& mk B t)))) := upd_same
      generalize upd H2 la (.lst (natL ((List.range B.length).filter fun x => decide (B.getD x 0 &&& mk B t = B.getD t.1 0 &&& mk B t)))) = H3 at *
      have hfa3 := s3 _ _ hfa2
      have hfb3 := s3 _ _ hfb
      refine ⟨_, rfl, wa, ws, rfl, .inr (SqT.of (s3 _ _ hws2)), ((B.length : Nat) : Int), congrArg (fun z => [V.int ((z : Nat) : Int)]) hwl', by omega, by omega, lc_range0 (Pv := fun i σ' ys H' => (∃ v, σ' = [v, some (.ref fa), some (.ref fb)]) /\ i <= B.length /\ ys = natL ((List.range i).filter fun x => !decide (B.getD x 0 &&& mk B t = B.getD t.1 0 &&& mk B t)) /\ H3 = H')
        ⟨⟨_, rfl⟩, Nat.zero_le _, rfl, rfl⟩ (fun i σ' ys H' p => ?_) ?_ ?_⟩
      · rw [p.2.2.1, natL_len]
        refine small1000 (Nat.le_trans (List.length_filter_le _ _) ?_)
        rw [List.length_range]
        have := p.2.1
        omega
      · rintro i σ' ys H' hi ⟨⟨v, rfl⟩, _, rfl, rfl⟩
        refine ⟨_, rfl, _, rfl, fb, _, _, _, rfl, rfl, SqL.of hfb3, optL_ud hg iso h2 hi, _, rfl, _, rfl, fa, _, _, _, rfl, rfl, SqL.of hfa3, optL_ud hg iso h1 hi, _, _, rfl, rfl, _, rfl, ?_⟩
        rw [range_filter_succ]
        by_cases z : B.getD i 0 &&& mk B t = B.getD t.1 0 &&& mk B t
        · rw [decide_eq_true z]
          exact iteDF (by have := (near_side hud i).1.mpr z; omega) ⟨⟨_, rfl⟩, by omega, by simp, rfl⟩
        · rw [decide_eq_false z]
          exact iteDT (by have := (near_side hud i).2.mpr z; omega) ⟨_, rfl, ⟨_, rfl⟩, by omega, by rw [natL_snoc]; rfl, rfl⟩
      · rintro σ' ys H' ⟨_, _, rfl, rfl⟩ lb hlb
        have s4 := Same.new (o := .lst (natL ((List.range B.length).filter fun x => !decide (B.getD x 0 &&& mk B t = B.getD t.1 0 &&& mk B t)))) hlb
        have hla4 := s4 _ _ hla3
        have nlaH : H la = none := s12.free hla
        have nlbH : H lb = none := (s12.trans s3).free hlb
        have sA := (s12.trans s3).trans s4
        refine ⟨_, rfl, la, _, rfl, .inl (SqL.of hla4), rfl, natL_flat _, _, rfl, ?_⟩
        rw [if_neg Bool.false_ne_true]
        have e0 := natL_in 0 ((List.range B.length).filter fun x => decide (B.getD x 0 &&& mk B t = B.getD t.1 0 &&& mk B t))
        have e0' : inV (V.int 0) (natL ((List.range B.length).filter fun x => decide (B.getD x 0 &&& mk B t = B.getD t.1 0 &&& mk B t))) = decide (B.getD 0 0 &&& mk B t = B.getD t.1 0 &&& mk B t) := by
          refine Eq.trans e0 ?_
          rw [decide_eq_decide, List.mem_filter, List.mem_range, decide_eq_true_eq]
          exact ⟨fun q => q.2, fun q => ⟨by omega, q⟩⟩
        rw [e0']
        by_cases z : B.getD 0 0 &&& mk B t = B.getD t.1 0 &&& mk B t
        · have ef : firstH B (mk B t) = (List.range B.length).filter fun x => decide (B.getD x 0 &&& mk B t = B.getD t.1 0 &&& mk B t) := by
            unfold firstH sideB
            rw [z]
          have es : secondH B (mk B t) = (List.range B.length).filter fun x => !decide (B.getD x 0 &&& mk B t = B.getD t.1 0 &&& mk B t) := by
            unfold secondH sideB
            rw [z]
          refine iteDT z ⟨_, rfl, _, rfl, by show 2 <= sizeLine; decide, fun p hp => ?_⟩
          have sp := Same.new (o := .tup [.ref la, .ref lb]) hp
          refine k (p, la, lb) _ ⟨upd_same, ?_, ?_⟩ (sA.free hp) nlaH nlbH (sA.trans sp)
          · rw [ef]; exact sp _ _ hla4
          · rw [es]; exact sp _ _ upd_same
        · have hm : pc (mk B t) = 1 := hud
          have ef : firstH B (mk B t) = (List.range B.length).filter fun x => !decide (B.getD x 0 &&& mk B t = B.getD t.1 0 &&& mk B t) := by
            unfold firstH sideB
            refine List.filter_congr fun x _ => ?_
            rw [Bool.eq_iff_iff, decide_eq_true_eq, Bool.not_eq_true', decide_eq_false_iff_not]
            exact side_flip hm z
          have es : secondH B (mk B t) = (List.range B.length).filter fun x => decide (B.getD x 0 &&& mk B t = B.getD t.1 0 &&& mk B t) := by
            unfold secondH sideB
            refine List.filter_congr fun x _ => ?_
            rw [Bool.eq_iff_iff, decide_eq_true_eq, Bool.not_eq_true', decide_eq_false_iff_not, side_flip hm z]
            exact Decidable.not_not
          refine iteDF z ⟨_, rfl, _, rfl, by show 2 <= sizeLine; decide, fun p hp => ?_⟩
          have sp := Same.new (o := .tup [.ref lb, .ref la]) hp
          refine k (p, lb, la) _ ⟨upd_same, ?_, ?_⟩ (sA.free hp) nlbH nlaH (sA.trans sp)
          · rw [ef]; exact sp _ _ upd_same
          · rw [es]; exact sp _ _ hla4
structure HalvesAt (H : Hp) (B : List Nat) (l : Addr) (hs : List (Addr × Addr × Addr)) (ms : List Nat) : Prop where
  ls : H l = some (.lst (hs.map fun h => V.ref h.1))
  ha : Paired (fun h m => HalfAt H B m h) hs ms
  out : ∀ h ∈ hs, h.1 ≠ l /\ h.2.1 ≠ l /\ h.2.2 ≠ l
theorem HalvesAt.mono {H H' : Hp} {B : List Nat} {l : Addr} {hs : List (Addr × Addr × Addr)} {ms : List Nat} (q : HalvesAt H B l hs ms) (s : Same H H') : HalvesAt H' B l hs ms := ⟨s _ _ q.ls, paired_mono (fun _ _ h => h.mono s) q.ha, q.out⟩
def spHal : Sp := fun vs H Q _ => ∃ (wa : Addr) (g : List (List Nat)) (B : List Nat), vs = [.ref wa] /\ WebAt H wa g /\ IsWeb g B /\ Rising g /\ Iso B /\ 1 <= B.length /\ B.length <= 24 /\
  ∀ l hs H', HalvesAt H' B l hs (marksF B (tiesB B B.length)) -> H l = none -> (∀ h ∈ hs, H h.1 = none /\ H h.2.1 = none /\ H h.2.2 = none) -> Same H H' -> Q (.ref l) H'
theorem marks_le (B : List Nat) (h : B.length <= 24) : (marksF B (tiesB B B.length)).length <= 576 := by
  have h1 := marksF_len B (tiesB B B.length)
  have h2 := tiesB_len B B.length
  have h3 : B.length * B.length <= 24 * 24 := Nat.mul_le_mul (by omega) (by omega)
  omega
theorem Chalves (T : Txt K mg tMOST_PLACES cLam) : Callee P w K mg base 4 "halves" ["web"] spHal := by
  have Cclasses := Cclasses (P := P) (w := w) (base := base) T
  have Chalves_by := Chalves_by (P := P) (w := w) (base := base) T
  refine mkCallee T.dhalves schalves (fun _ _ _ _ _ _ us hl => match us, hl with | [_], _ => rfl) (fun vs H Q E h => ?_) (fun f cdv A outer s H vs Q E hr h => ?_)
  · obtain ⟨wa, g, B, rfl, _⟩ := h; rfl
  · obtain ⟨wa, g, B, rfl, hw, hg, hri, iso, hB1, h24, k⟩ := h
    refine ⟨_, (pss_one (ps_ret (pe_lc (NB := ["ties", "web"]) (nt := 1) (fr := [0]) rfl (by kernel_rfl) (pil (K := K) rfl (pe_fn Cclasses hr rfl (pa_cons (pv 0) pa_nil))) (fun _ _ _ _ _ => (pg_name (i := 0) (show List.Nodup (["ties", "web"] : List Str) by decide +kernel) rfl (.inl rfl))) (fun _ _ _ _ _ => pts_nil) (fun _ _ _ _ _ => (pe_fn Chalves_by hr rfl (pa_cons (pv 1) (pa_cons (pe_ix (ixl (K := K) rfl) (pv 0) pe_int (fun _ _ => rfl)) pa_nil))))))), ?_⟩
    refine ⟨_, rfl, wa, g, B, rfl, hw, hg, hri, iso, h24, fun cl rs H1 hcl ncl nrs s1 => ?_⟩
    have hml := marks_le B h24
    have hrl : rs.length = (marksF B (tiesB B B.length)).length := by rw [hcl.cl.length, List.length_map]
    refine ⟨cl, rfl, ⟨_, SqL.of hcl.ls⟩, lc_list (xs := rs.map V.ref) (fun i σ' ys H' => (∃ v, σ' = [v, some (.ref wa)]) /\ i <= rs.length /\ (∃ hs : List (Addr × Addr × Addr), ys = hs.map (fun h => V.ref h.1) /\ Paired (fun h m => HalfAt H' B m h) hs ((marksF B (tiesB B B.length)).take i) /\ ∀ h ∈ hs, H h.1 = none /\ H h.2.1 = none /\ H h.2.2 = none) /\ Same H1 H')
      ⟨⟨_, rfl⟩, Nat.zero_le _, ⟨[], rfl, .nil, fun h hh => absurd hh (by simp)⟩, Same.refl _⟩ (fun i σ' ys H' _ q => SqL.of (q.2.2.2 _ _ hcl.ls)) (fun i σ' ys H' q => ?_) ?_ ?_⟩
    · obtain ⟨_, hi, ⟨hs, rfl, hp, _⟩, _⟩ := q
      rw [List.length_map, hp.length, List.length_take]
      exact small1000 (by omega)
    · rintro i x σ' ys H2 hi ⟨⟨v, rfl⟩, _, ⟨hs, rfl, hp, hno⟩, s2⟩
      have hi' := (List.getElem?_eq_some_iff.mp hi).1
      rw [List.length_map] at hi'
      rw [List.getElem?_map, Option.map_eq_some_iff] at hi
      obtain ⟨r, er, rfl⟩ := hi
      obtain ⟨ts, et, hT⟩ := paired_at hcl.cl i r er
      rw [List.getElem?_map, Option.map_eq_some_iff] at et
      obtain ⟨m, em, rfl⟩ := et
      obtain ⟨u, hu, eu⟩ := mem_marksF.mp (List.mem_of_getElem? em)
      obtain ⟨xs, hx, hpx⟩ := hT.mono s2
      have hpos : 0 < (clsT B (tiesB B B.length) m).length := List.length_pos_of_mem (a := u) (List.mem_filter.mpr ⟨hu, by simpa using eu⟩)
      have hxl := hpx.length
      obtain ⟨v0, ev0⟩ : ∃ v0, xs[0]? = some v0 := ⟨_, List.getElem?_eq_getElem (by omega)⟩
      obtain ⟨t, et0, ta, rfl, hta⟩ := paired_at hpx 0 v0 ev0
      have htm := List.mem_filter.mp (List.mem_of_getElem? et0)
      have emt : mk B t = m := by simpa using htm.2
      refine lcN ⟨_, rfl, _, rfl, r, _, 0, _, rfl, rfl, SqL.of hx, atI_nat ev0, wa, ta, t, g, B, rfl, (hw.mono s1).mono s2, hg, iso, hB1, h24, hta, htm.1, fun h H3 hh n1 n2 n3 s3 => ?_⟩
      have s12 := s1.trans s2
      rw [emt] at hh
      refine ⟨⟨_, rfl⟩, by omega, ⟨hs ++ [h], by simp, ?_, fun z hz => ?_⟩, s2.trans s3⟩
      · rw [List.take_add_one, em]
        exact paired_append (paired_mono (fun _ _ q => q.mono s3) hp) (.cons hh .nil)
      · rcases List.mem_append.mp hz with q | q
        · exact hno z q
        · have : z = h := by simpa using q
          subst this
          exact ⟨s12.free n1, s12.free n2, s12.free n3⟩
    · rintro σ' ys H2 ⟨_, _, ⟨hs, rfl, hp, hno⟩, s2⟩ D hD
      rw [List.length_map, hrl, List.take_length] at hp
      have sD := Same.new (o := .lst (hs.map fun h => V.ref h.1)) hD
      refine k D hs _ ⟨upd_same, paired_mono (fun _ _ q => q.mono sD) hp, fun h hh => ?_⟩ ((s1.trans s2).free hD) hno ((s1.trans s2).trans sD)
      obtain ⟨j, hj, ej⟩ := List.getElem_of_mem hh
      obtain ⟨m, _, q⟩ := paired_at hp j h (by rw [List.getElem?_eq_getElem hj, ej])
      exact ⟨ne_of_none q.tu hD, ne_of_none q.fi hD, ne_of_none q.se hD⟩
end
section
variable {P : Program} {w : World} {K : PySem.W.Frag} {mg : Str -> Option Value} {base : Heap} {tMOST_PLACES : Tok} {cLam pLam : Addr}
structure RowsAt (H : Hp) (B : List Nat) (l : Addr) (ps : List Addr) : Prop where
  ls : H l = some (.lst (ps.map V.ref))
  ro : Paired (fun p x => H p = some (.tup (natL (rowB B (marksF B (tiesB B B.length)) x)))) ps (List.range B.length)
theorem RowsAt.mono {H H' : Hp} {B : List Nat} {l : Addr} {ps : List Addr} (q : RowsAt H B l ps) (s : Same H H') : RowsAt H' B l ps := ⟨s _ _ q.ls, paired_mono (fun _ _ h => s _ _ h) q.ro⟩
theorem rowB_take {B ms : List Nat} {x j m : Nat} (e : ms[j]? = some m) : rowB B (ms.take (j + 1)) x = rowB B (ms.take j) x ++ [if sideB B m x = true then 0 else 1] := by
  unfold rowB
  rw [List.take_add_one, e, List.map_append]
  rfl
theorem mem_second {B : List Nat} {m x : Nat} (h : x < B.length) : decide (x ∈ secondH B m) = !sideB B m x := by
  unfold secondH
  rw [Bool.eq_iff_iff, decide_eq_true_eq, List.mem_filter, List.mem_range]
  exact ⟨fun q => q.2, fun q => ⟨h, q⟩⟩
def spRows : Sp := fun vs H Q _ => ∃ (wa : Addr) (g : List (List Nat)) (B : List Nat), vs = [.ref wa] /\ WebAt H wa g /\ IsWeb g B /\ Rising g /\ Iso B /\ 1 <= B.length /\ B.length <= 24 /\
  ∀ l ps H', RowsAt H' B l ps -> H l = none -> Same H H' -> Q (.ref l) H'
theorem Cbit_rows (T : Txt K mg tMOST_PLACES cLam) : Callee P w K mg base 5 "bit_rows" ["web"] spRows := by
  have Chalves := Chalves (P := P) (w := w) (base := base) T
  refine mkCallee T.dbit_rows scbit_rows (fun _ _ _ _ _ _ us hl => match us, hl with | [_], _ => rfl) (fun vs H Q E h => ?_) (fun f cdv A outer s H vs Q E hr h => ?_)
  · obtain ⟨wa, g, B, rfl, _⟩ := h; rfl
  · obtain ⟨wa, g, B, rfl, hw, hg, hri, iso, hB1, h24, k⟩ := h
    obtain ⟨ws, hws, hwl, _⟩ := hw.row
    have gl := hg.1
    have hwl' : ws.length = B.length := by omega
    have hml := marks_le B h24
    refine ⟨_, (pss_cons (ps_set (i := 1) scbit_rows.nd rfl (.inr rfl) (pe_lc (NB := ["both"]) (nt := 1) (fr := []) rfl (by kernel_rfl) (pil (K := K) rfl (pe_fn Chalves hr rfl (pa_cons (pv 0) pa_nil))) (fun _ _ _ _ _ => (pg_name (i := 0) (show List.Nodup (["both"] : List Str) by decide +kernel) rfl (.inl rfl))) (fun _ _ _ _ _ => pts_nil) (fun _ _ _ _ _ => (pe_ix (ixt (K := K) rfl) (pv 0) pe_int (fun _ _ => rfl))))) (pss_one (ps_ret (pe_lcC (NB := ["x", "seconds"]) (nt := 1) (fr := [1]) rfl (by kernel_rfl) (pi_range1 rfl T.z_range (pa_cons (pe_callB (lenq (K := K) rfl) rfl T.z_len bt_len (pa_cons (pv 0) pa_nil)) pa_nil)) (fun _ _ _ _ _ => (pg_name (i := 0) (show List.Nodup (["x", "seconds"] : List Str) by decide +kernel) rfl (by first | exact Or.inl rfl | exact Or.inr rfl))) (fun _ _ _ _ _ => pts_nil) (fun _ _ _ _ _ => (pe_callTy (tupq (K := K) rfl) rfl T.z_tuple bt_tuple (pa_cons (pe_lc (NB := ["second", "x"]) (nt := 1) (fr := [0]) rfl (by kernel_rfl) (pil (K := K) rfl (pv 1)) (fun _ _ _ _ _ => (pg_name (i := 0) (show List.Nodup (["second", "x"] : List Str) by decide +kernel) rfl (.inl rfl))) (fun _ _ _ _ _ => pts_nil) (fun _ _ _ _ _ => (pe_ifExp (pt_cmpR (inq (K := K) rfl) (pv 1) (pv 0) rfl) pe_int pe_int))) pa_nil))))))), ?_⟩
    refine ⟨_, rfl, wa, g, B, rfl, hw, hg, hri, iso, hB1, h24, fun hl hs H1 hh nhl nhs s1 => ?_⟩
    have hhl := hh.ha.length
    refine ⟨hl, rfl, ⟨_, SqL.of hh.ls⟩, lc_list (xs := hs.map fun h => V.ref h.1) (fun i σ' ys H' => (∃ v, σ' = [v]) /\ i <= hs.length /\ ys = (hs.take i).map (fun h => V.ref h.2.2) /\ H1 = H')
      ⟨⟨_, rfl⟩, Nat.zero_le _, rfl, rfl⟩ (fun i σ' ys H' _ q => by rw [<- q.2.2.2]; exact SqL.of hh.ls) (fun i σ' ys H' q => ?_) ?_ ?_⟩
    · rw [q.2.2.1, List.length_map, List.length_take]
      exact small1000 (by omega)
    · rintro i x σ' ys H' hi ⟨⟨v, rfl⟩, _, rfl, rfl⟩
      rw [List.getElem?_map, Option.map_eq_some_iff] at hi
      obtain ⟨h, er, rfl⟩ := hi
      obtain ⟨m, _, q⟩ := paired_at hh.ha i h er
      refine lcN ⟨_, rfl, h.1, _, 1, _, rfl, rfl, SqT.of q.tu, rfl, ⟨_, rfl⟩, (List.getElem?_eq_some_iff.mp er).1, ?_, rfl⟩
      rw [List.take_add_one, er, List.map_append]
      rfl
    · rintro σ' ys H' ⟨_, _, rfl, rfl⟩ sl hsl
      rw [List.length_map, List.take_length]
      have s2 := Same.new (o := .lst (hs.map fun h => V.ref h.2.2)) hsl
      have hsl2 : upd H1 sl (.lst (hs.map fun h => V.ref h.2.2)) sl = some (.lst (hs.map fun h => V.ref h.2.2)) := upd_same
      generalize upd H1 sl (.lst (hs.map fun h => V.ref h.2.2)) = H2 at *
      have s12 := s1.trans s2
      have hh2 := hh.mono s2
      refine ⟨_, rfl, wa, ws, rfl, .inr (SqT.of (s12 _ _ hws)), ((B.length : Nat) : Int), congrArg (fun z => [V.int ((z : Nat) : Int)]) hwl', by omega, by omega, lc_range0 (Pv := fun i σ' ys H' => (∃ v, σ' = [v, some (.ref sl)]) /\ i <= B.length /\ (∃ ps : List Addr, ys = ps.map V.ref /\ Paired (fun p x => H' p = some (.tup (natL (rowB B (marksF B (tiesB B B.length)) x)))) ps (List.range i)) /\ Same H2 H')
        ⟨⟨_, rfl⟩, Nat.zero_le _, ⟨[], rfl, .nil⟩, Same.refl _⟩ (fun i σ' ys H' q => ?_) ?_ ?_⟩
      · obtain ⟨_, hi, ⟨ps, rfl, hp⟩, _⟩ := q
        rw [List.length_map, hp.length, List.length_range]
        exact small1000 (by omega)
      · rintro i σ' ys H3 hi ⟨⟨v, rfl⟩, _, ⟨ps, rfl, hp⟩, s3⟩
        have hsl3 := s3 _ _ hsl2
        have hh3 := hh2.mono s3
        refine lcN ⟨_, rfl, sl, rfl, ⟨_, SqL.of hsl3⟩, lc_list (xs := hs.map fun h => V.ref h.2.2) (fun j σ' ys H' => (∃ v, σ' = [v, some (.int (i : Int))]) /\ j <= hs.length /\ ys = natL (rowB B ((marksF B (tiesB B B.length)).take j) i) /\ H' = H3)
          ⟨⟨_, rfl⟩, Nat.zero_le _, rfl, rfl⟩ (fun j σ' ys H' _ q => by rw [q.2.2.2]; exact SqL.of hsl3) (fun j σ' ys H' q => ?_) ?_ ?_⟩
        · rw [q.2.2.1, natL_len]
          unfold rowB
          rw [List.length_map, List.length_take]
          exact small1000 (by omega)
        · rintro j x σ' ys H' hj ⟨⟨v, rfl⟩, _, rfl, rfl⟩
          rw [List.getElem?_map, Option.map_eq_some_iff] at hj
          obtain ⟨h, er, rfl⟩ := hj
          obtain ⟨m, em, q⟩ := paired_at hh3.ha j h er
          refine lcN ⟨_, rfl, _, rfl, h.2.2, _, rfl, .inl (SqL.of q.se), rfl, natL_flat _, _, rfl, ?_⟩
          rw [if_neg Bool.false_ne_true, natL_in, mem_second hi, rowB_take em]
          have hj' := (List.getElem?_eq_some_iff.mp er).1
          cases z : sideB B m i with
          | true => exact iteF ⟨⟨_, rfl⟩, hj', natL_snoc _ 0, rfl⟩
          | false => exact iteT ⟨⟨_, rfl⟩, hj', natL_snoc _ 1, rfl⟩
        · rintro σ' ys H' ⟨_, _, rfl, rfl⟩ D hD
          rw [List.length_map, hhl, List.take_length]
          have sD := Same.new (o := .lst (natL (rowB B (marksF B (tiesB B B.length)) i))) hD
          refine ⟨D, _, rfl, .inl ⟨SqL.of upd_same, fun t ht => ?_⟩⟩
          have sT := sD.updr (o := .tup (natL (rowB B (marksF B (tiesB B B.length)) i))) ht
          refine ⟨⟨_, rfl⟩, by omega, ⟨ps ++ [t], by simp, ?_⟩, s3.trans sT⟩
          rw [List.range_succ]
          exact paired_append (paired_mono (fun _ _ q => sT _ _ q) hp) (.cons upd_same .nil)
      · rintro σ' ys H3 ⟨_, _, ⟨ps, rfl, hp⟩, s3⟩ D hD
        have sD := Same.new (o := .lst (ps.map V.ref)) hD
        exact k D ps _ ⟨upd_same, paired_mono (fun _ _ q => sD _ _ q) hp⟩ ((s12.trans s3).free hD) ((s12.trans s3).trans sD)
end
section
variable {P : Program} {w : World} {K : PySem.W.Frag} {mg : Str -> Option Value} {base : Heap} {tMOST_PLACES : Tok} {cLam pLam : Addr}
theorem yesT {σ : St} {H : Hp} {A B : Hp -> Prop} (h : A H) : tYes σ H fun b H3 => if b = true then A H3 else B H3 := @iteT (A H) (B H) h
def BtwRow (H : Hp) (g : List (List Nat)) (r : Addr) (a : Nat) : Prop := ∃ qs : List Addr, H r = some (.lst (qs.map V.ref)) /\ Paired (fun q b => H q = some (.lst (natL (betw g a b)))) qs (List.range g.length)
structure BtwAt (H : Hp) (g : List (List Nat)) (l : Addr) (rs : List Addr) : Prop where
  ls : H l = some (.lst (rs.map V.ref))
  ro : Paired (fun r a => BtwRow H g r a) rs (List.range g.length)
theorem BtwRow.mono {H H' : Hp} {g : List (List Nat)} {r : Addr} {a : Nat} (s : Same H H') (h : BtwRow H g r a) : BtwRow H' g r a := let ⟨qs, e, q⟩ := h; ⟨qs, s _ _ e, paired_mono (fun _ _ z => s _ _ z) q⟩
theorem BtwAt.mono {H H' : Hp} {g : List (List Nat)} {l : Addr} {rs : List Addr} (h : BtwAt H g l rs) (s : Same H H') : BtwAt H' g l rs := ⟨s _ _ h.ls, paired_mono (fun _ _ z => z.mono s) h.ro⟩
theorem BtwAt.at {H : Hp} {g : List (List Nat)} {l : Addr} {rs : List Addr} (h : BtwAt H g l rs) {a b : Nat} (ha : a < g.length) (hb : b < g.length) :
    ∃ (r : Addr) (qs : List Addr) (q : Addr), atI (rs.map V.ref) (a : Int) = some (.ref r) /\ H r = some (.lst (qs.map V.ref)) /\ atI (qs.map V.ref) (b : Int) = some (.ref q) /\ H q = some (.lst (natL (betw g a b))) := by
  obtain ⟨r, er, qs, hq, hp⟩ := paired_getL h.ro a a (List.getElem?_range ha)
  obtain ⟨q, eq, z⟩ := paired_getL hp b b (List.getElem?_range hb)
  exact ⟨r, qs, q, atI_nat (by rw [List.getElem?_map, er]; rfl), hq, atI_nat (by rw [List.getElem?_map, eq]; rfl), z⟩
def spBtws : Sp := fun vs H Q _ => ∃ (wa : Addr) (g : List (List Nat)), vs = [.ref wa] /\ WebAt H wa g /\ Inn g /\ Symm g /\ g.length <= 1000 /\
  ∀ l rs H', BtwAt H' g l rs -> Same H H' -> Q (.ref l) H'
theorem Cbetweens (T : Txt K mg tMOST_PLACES cLam) : Callee P w K mg base 3 "betweens" ["web"] spBtws := by
  have Cfars := Cfars (P := P) (w := w) (base := base) T
  have Cbetween_by := Cbetween_by (P := P) (w := w) (base := base) T
  refine mkCallee T.dbetweens scbetweens (fun _ _ _ _ _ _ us hl => match us, hl with | [_], _ => rfl) (fun vs H Q E h => ?_) (fun f cdv A outer s H vs Q E hr h => ?_)
  · obtain ⟨wa, g, rfl, _⟩ := h; rfl
  · obtain ⟨wa, g, rfl, hw, hinn, hsym, h1000, k⟩ := h
    refine ⟨_, (pss_cons (ps_set (i := 1) scbetweens.nd rfl (.inr rfl) (pe_fn Cfars hr rfl (pa_cons (pv 0) pa_nil))) (pss_one (ps_ret (pe_lcC (NB := ["from_a", "lengths"]) (nt := 1) (fr := [1]) rfl (by kernel_rfl) (pil (K := K) rfl (pv 1)) (fun _ _ _ _ _ => (pg_name (i := 0) (show List.Nodup (["from_a", "lengths"] : List Str) by decide +kernel) rfl (by first | exact Or.inl rfl | exact Or.inr rfl))) (fun _ _ _ _ _ => pts_nil) (fun _ _ _ _ _ => (pe_lc (NB := ["b", "from_b", "from_a"]) (nt := 2) (fr := [0]) rfl (by kernel_rfl) (pi_enum (K := K) rfl rfl T.z_enumerate (pa_cons (pv 1) pa_nil)) (fun _ _ _ _ _ => (pgt (K := K) (n := 2) rfl rfl (pgs_cons (pg_name (i := 0) (show List.Nodup (["b", "from_b", "from_a"] : List Str) by decide +kernel) rfl (.inl rfl)) (pgs_cons (pg_name (i := 1) (show List.Nodup (["b", "from_b", "from_a"] : List Str) by decide +kernel) rfl (.inl rfl)) pgs_nil)))) (fun _ _ _ _ _ => pts_nil) (fun _ _ _ _ _ => (pe_fn Cbetween_by hr rfl (pa_cons (pv 2) (pa_cons (pv 1) (pa_cons (pv 0) pa_nil))))))))))), ?_⟩
    refine ⟨_, rfl, wa, g, rfl, hw, hinn, h1000, fun fl rs H1 nfl nrs tab s1 => ?_⟩
    have hrl : (rs.map V.ref).length = g.length := by rw [List.length_map, tab.len]
    refine ⟨_, rfl, fl, rfl, ⟨_, SqL.of tab.ls⟩, lc_list (xs := rs.map V.ref) (fun i σ' ys H' => (∃ v, σ' = [v, some (.ref fl)]) /\ i <= g.length /\ (∃ ls : List Addr, ys = ls.map V.ref /\ Paired (fun r a => BtwRow H' g r a) ls (List.range i)) /\ Same H1 H')
      ⟨⟨_, rfl⟩, Nat.zero_le _, ⟨[], rfl, .nil⟩, Same.refl _⟩ (fun i σ' ys H' _ q => SqL.of (q.2.2.2 _ _ tab.ls)) (fun i σ' ys H' q => ?_) ?_ ?_⟩
    · obtain ⟨_, hi, ⟨ls, rfl, hp⟩, _⟩ := q
      rw [List.length_map, hp.length, List.length_range]
      exact small1000 (by omega)
    · rintro i x σ' ys H2 hi ⟨⟨v, rfl⟩, _, ⟨ls, rfl, hp⟩, s2⟩
      have hi' := (List.getElem?_eq_some_iff.mp hi).1
      rw [hrl] at hi'
      rw [List.getElem?_map, Option.map_eq_some_iff] at hi
      obtain ⟨ra, er, rfl⟩ := hi
      have hra := tab.row i ra er
      refine lcN ⟨_, rfl, fl, rfl, ⟨_, SqL.of (s2 _ _ tab.ls)⟩, lc_enum (xs := rs.map V.ref) (fun j σ' ys H' => (∃ v1 v2, σ' = [v1, v2, some (.ref ra)]) /\ j <= g.length /\ (∃ qs : List Addr, ys = qs.map V.ref /\ Paired (fun q b => H' q = some (.lst (natL (betw g i b)))) qs (List.range j)) /\ Same H2 H')
        ⟨⟨_, _, rfl⟩, Nat.zero_le _, ⟨[], rfl, .nil⟩, Same.refl _⟩ (fun j σ' ys H' _ q => SqL.of (q.2.2.2 _ _ (s2 _ _ tab.ls))) (fun j σ' ys H' q => ?_) ?_ ?_⟩
      · obtain ⟨_, hj, ⟨qs, rfl, hq⟩, _⟩ := q
        rw [List.length_map, hq.length, List.length_range]
        exact small1000 (by omega)
      · rintro j x t σ' ys H3 hj ⟨⟨v1, v2, rfl⟩, _, ⟨qs, rfl, hq⟩, s3⟩ ht
        have hj' := (List.getElem?_eq_some_iff.mp hj).1
        rw [hrl] at hj'
        rw [List.getElem?_map, Option.map_eq_some_iff] at hj
        obtain ⟨rb, eb, rfl⟩ := hj
        have hrb := tab.row j rb eb
        have st := Same.new (o := .tup [.int (j : Int), .ref rb]) ht
        have s13 := (s2.trans s3).trans st
        refine ⟨t, _, rfl, SqT.of upd_same, rfl, _, _, rfl, _, _, rfl, rfl, ?_⟩
        refine yesT ?_
        refine ⟨_, rfl, _, rfl, _, rfl, ra, rb, i, j, g, rfl, s13 _ _ hra, s13 _ _ hrb, hsym, hi', hj', h1000, fun q H4 nq hq4 s4 => ⟨⟨_, _, rfl⟩, by omega, ⟨qs ++ [q], by simp, ?_⟩, (s3.trans st).trans s4⟩⟩
        rw [List.range_succ]
        exact paired_append (paired_mono (fun _ _ z => s4 _ _ (st _ _ z)) hq) (.cons hq4 .nil)
      · rintro σ' ys H3 ⟨_, _, ⟨qs, rfl, hq⟩, s3⟩ D hD
        rw [hrl] at hq
        have sD := Same.new (o := .lst (qs.map V.ref)) hD
        refine ⟨⟨_, rfl⟩, by omega, ⟨ls ++ [D], by simp, ?_⟩, (s2.trans s3).trans sD⟩
        rw [List.range_succ]
        exact paired_append (paired_mono (fun _ _ z => z.mono (s3.trans sD)) hp) (.cons ⟨qs, upd_same, paired_mono (fun _ _ z => sD _ _ z) hq⟩ .nil)
    · rintro σ' ys H2 ⟨_, _, ⟨ls, rfl, hp⟩, s2⟩ D hD
      rw [hrl] at hp
      have sD := Same.new (o := .lst (ls.map V.ref)) hD
      exact k D ls _ ⟨upd_same, paired_mono (fun _ _ z => z.mono sD) hp⟩ ((s1.trans s2).trans sD)
end
section
variable {P : Program} {w : World} {K : PySem.W.Frag} {mg : Str -> Option Value} {base : Heap} {tMOST_PLACES : Tok} {cLam pLam : Addr}
def spNone : Sp := fun vs H Q _ => ∃ (wa : Addr) (g : List (List Nat)) (B : List Nat), vs = [.ref wa] /\ WebAt H wa g /\ IsWeb g B /\ Med B /\ 1 <= B.length /\ B.length <= 24 /\ ∀ H', Same H H' -> Q .non H'
theorem noneIn {g : List (List Nat)} {B : List Nat} (hg : IsWeb g B) (iso : Iso B) (h : 0 < B.length) : inV .non (optL g.length (dist g 0)) = false := by
  unfold inV
  rw [Bool.eq_false_iff]
  intro z
  rw [List.any_eq_true] at z
  obtain ⟨v, hv, e⟩ := z
  unfold optL at hv
  rw [List.mem_map] at hv
  obtain ⟨x, hx, rfl⟩ := hv
  rw [List.mem_range, hg.1] at hx
  rw [dist_ud hg iso h hx] at e
  cases e
theorem optL_flat (n : Nat) (t : Nat -> Option Nat) : (optL n t).all flatV = true := by
  unfold optL
  rw [List.all_map, List.all_eq_true]
  intro x _
  show flatV (optV (t x)) = true
  cases t x <;> rfl
theorem Ctold_apart (T : Txt K mg tMOST_PLACES cLam) : Callee P w K mg base 2 "told_apart" ["web"] spNone := by
  have Cfars_from := Cfars_from (P := P) (w := w) (base := base) T
  refine mkCallee T.dtold_apart sctold_apart (fun _ _ _ _ _ _ us hl => match us, hl with | [_], _ => rfl) (fun vs H Q E h => ?_) (fun f cdv A outer s H vs Q E hr h => ?_)
  · obtain ⟨wa, g, B, rfl, _⟩ := h; rfl
  · obtain ⟨wa, g, B, rfl, hw, hg, med, hB1, h24, k⟩ := h
    have gl := hg.1
    refine ⟨_, (pss_cons (ps_set (i := 1) sctold_apart.nd rfl (.inl rfl) (pe_fn Cfars_from hr rfl (pa_cons (pv 0) (pa_cons pe_int pa_nil)))) (pss_one (ps_ret (pe_ifExp (pt_cmpR (inq (K := K) rfl) pe_non (pv 1) rfl) (pe_tup (pa_cons pe_str (pa_cons pe_int (pa_cons (bm (K := K) rfl PySem.F.plainAttrs_list PySem.F.slot_list_index PySem.F.type_list_index mt_index (pv 1) (pa_cons pe_non pa_nil)) pa_nil)))) pe_non)))), ?_⟩
    refine ⟨_, rfl, wa, 0, g, rfl, hw, hg.inn, by omega, by omega, fun fl H1 nfl hfl s1 => ?_⟩
    refine ⟨_, rfl, fl, _, rfl, .inl (SqL.of hfl), rfl, optL_flat _ _, _, rfl, ?_⟩
    rw [if_neg Bool.false_ne_true, noneIn hg med.toIso (by omega)]
    exact iteF (k H1 s1)
theorem Ctold_bad (T : Txt K mg tMOST_PLACES cLam) : Callee P w K mg base 4 "told_bad" ["web"] spNone := by
  have Cbetweens := Cbetweens (P := P) (w := w) (base := base) T
  have Cin_all_three := Cin_all_three (P := P) (w := w) (base := base) T
  refine mkCallee T.dtold_bad sctold_bad (fun _ _ _ _ _ _ us hl => match us, hl with | [_], _ => rfl) (fun vs H Q E h => ?_) (fun f cdv A outer s H vs Q E hr h => ?_)
  · obtain ⟨wa, g, B, rfl, _⟩ := h; rfl
  · obtain ⟨wa, g, B, rfl, hw, hg, med, hB1, h24, k⟩ := h
    obtain ⟨ws, hws, hwl, _⟩ := hw.row
    have gl := hg.1
    have hwl' : ws.length = B.length := by omega
    refine ⟨_, (pss_cons (ps_set (i := 1) sctold_bad.nd rfl (.inl rfl) (pe_fn Cbetweens hr rfl (pa_cons (pv 0) pa_nil))) (pss_cons (ps_for PassesOwn.never rfl (pi_range1 rfl T.z_range (pa_cons (pe_callB (lenq (K := K) rfl) rfl T.z_len bt_len (pa_cons (pv 0) pa_nil)) pa_nil)) (pg_name (i := 2) sctold_bad.nd rfl (.inl rfl)) (pss_one (ps_for PassesOwn.never rfl (pi_range1 rfl T.z_range (pa_cons (pv 2) pa_nil)) (pg_name (i := 3) sctold_bad.nd rfl (.inl rfl)) (pss_one (ps_for PassesOwn.never rfl (pi_range1 rfl T.z_range (pa_cons (pv 3) pa_nil)) (pg_name (i := 4) sctold_bad.nd rfl (.inl rfl)) (pss_cons (ps_set (i := 5) sctold_bad.nd rfl (.inl rfl) (pe_fn Cin_all_three hr rfl (pa_cons (pe_ix (ixl (K := K) rfl) (pe_ix (ixl (K := K) rfl) (pv 1) (pv 4) (fun _ _ => rfl)) (pv 3) (fun _ _ => rfl)) (pa_cons (pe_ix (ixl (K := K) rfl) (pe_ix (ixl (K := K) rfl) (pv 1) (pv 3) (fun _ _ => rfl)) (pv 2) (fun _ _ => rfl)) (pa_cons (pe_ix (ixl (K := K) rfl) (pe_ix (ixl (K := K) rfl) (pv 1) (pv 4) (fun _ _ => rfl)) (pv 2) (fun _ _ => rfl)) pa_nil))))) (pss_one (ps_if (pt_cmpR op_ne (pe_callB (lenq (K := K) rfl) rfl T.z_len bt_len (pa_cons (pv 5) pa_nil)) pe_int (nomark _)) (pss_one (ps_ret (pe_tup (pa_cons pe_str (pa_cons (pe_tup (pa_cons (pv 4) (pa_cons (pv 3) (pa_cons (pv 2) pa_nil)))) (pa_cons (pv 5) pa_nil)))))) pss_nil)))))))) (pss_one (ps_ret pe_non)))), ?_⟩
    refine ⟨_, rfl, wa, g, rfl, hw, hg.inn, hg.symm, by omega, fun bl rs H1 hb s1 => ?_⟩
    refine ⟨_, rfl, wa, ws, rfl, .inr (SqT.of (s1 _ _ hws)), ((B.length : Nat) : Int), congrArg (fun z => [V.int ((z : Nat) : Int)]) hwl', by omega, by omega, for_range0 (Pv := fun i σ H' => (∃ v2 v3 v4 v5, σ = [some (.ref wa), some (.ref bl), v2, v3, v4, v5]) /\ Same H1 H')
      ⟨⟨_, _, _, _, rfl⟩, Same.refl _⟩ ?_ ?_⟩
    · rintro c σ H2 hc ⟨⟨v2, v3, v4, v5, rfl⟩, s2⟩
      refine ⟨_, rfl, (c : Int), rfl, by omega, by omega, for_range0 (Pv := fun i σ H' => (∃ v3 v4 v5, σ = [some (.ref wa), some (.ref bl), some (.int (c : Int)), v3, v4, v5]) /\ Same H1 H') ⟨⟨_, _, _, rfl⟩, s2⟩ ?_ ?_⟩
      · rintro b σ H3 hbc ⟨⟨v3, v4, v5, rfl⟩, s3⟩
        refine ⟨_, rfl, (b : Int), rfl, by omega, by omega, for_range0 (Pv := fun i σ H' => (∃ v4 v5, σ = [some (.ref wa), some (.ref bl), some (.int (c : Int)), some (.int (b : Int)), v4, v5]) /\ Same H1 H') ⟨⟨_, _, rfl⟩, s3⟩ ?_ ?_⟩
        · rintro a σ H4 hab ⟨⟨v4, v5, rfl⟩, s4⟩
          have hb4 := hb.mono s4
          obtain ⟨r1, q1, p1, e1, f1, g1, h1⟩ := hb4.at (a := a) (b := b) (by omega) (by omega)
          obtain ⟨r2, q2, p2, e2, f2, g2, h2⟩ := hb4.at (a := b) (b := c) (by omega) (by omega)
          obtain ⟨r3, q3, p3, e3, f3, g3, h3⟩ := hb4.at (a := a) (b := c) (by omega) (by omega)
          obtain ⟨m, hm, em⟩ := mem_getD (med.med _ (getD_mem (show a < B.length by omega)) _ (getD_mem (show b < B.length by omega)) _ (getD_mem hc))
          refine ⟨_, rfl, _, rfl, bl, _, _, _, rfl, rfl, SqL.of hb4.ls, e1, _, rfl, r1, _, _, _, rfl, rfl, SqL.of f1, g1, _, rfl, _, rfl, bl, _, _, _, rfl, rfl, SqL.of hb4.ls, e2, _, rfl, r2, _, _, _, rfl, rfl, SqL.of f2, g2, _, rfl, _, rfl, bl, _, _, _, rfl, rfl, SqL.of hb4.ls, e3, _, rfl, r3, _, _, _, rfl, rfl, SqL.of f3, g3,
            p1, p2, p3, a, b, c, g, rfl, h1, h2, h3, by omega, fun ml H5 nml hml s5 => ?_⟩
          rw [mids_maj hg med (by omega) (by omega) hc hm em] at hml
          exact ⟨_, rfl, ml, _, rfl, .inl (SqL.of hml), rfl, _, rfl, iteNS rfl ⟨⟨_, _, rfl⟩, s4.trans s5⟩⟩
        · rintro σ H4 ⟨⟨v4, v5, rfl⟩, s4⟩
          exact ⟨⟨_, _, _, rfl⟩, s4⟩
      · rintro σ H3 ⟨⟨v3, v4, v5, rfl⟩, s3⟩
        exact ⟨⟨_, _, _, _, rfl⟩, s3⟩
    · rintro σ H2 ⟨⟨v2, v3, v4, v5, rfl⟩, s2⟩
      exact k H2 (s1.trans s2)
def spLook : Sp := fun vs H Q _ => ∃ (wa : Addr) (g : List (List Nat)) (B : List Nat), vs = [.ref wa] /\ WebAt H wa g /\ IsWeb g B /\ Rising g /\ Med B /\ 1 <= B.length /\ B.length <= 24 /\
  ∀ t l ps H', H' t = some (.tup [.str "one", .ref l]) -> RowsAt H' B l ps -> H l = none -> Same H H' -> Q (.ref t) H'
theorem Clooked (T : Txt K mg tMOST_PLACES cLam) : Callee P w K mg base 6 "looked" ["web"] spLook := by
  have Ctold_apart := Ctold_apart (P := P) (w := w) (base := base) T
  have Ctold_bad := Ctold_bad (P := P) (w := w) (base := base) T
  have Cbit_rows := Cbit_rows (P := P) (w := w) (base := base) T
  refine mkCallee T.dlooked sclooked (fun _ _ _ _ _ _ us hl => match us, hl with | [_], _ => rfl) (fun vs H Q E h => ?_) (fun f cdv A outer s H vs Q E hr h => ?_)
  · obtain ⟨wa, g, B, rfl, _⟩ := h; rfl
  · obtain ⟨wa, g, B, rfl, hw, hg, hri, med, hB1, h24, k⟩ := h
    refine ⟨_, (pss_one (ps_ret (pe_orT (K := K) rfl (pe_fn Ctold_apart hr rfl (pa_cons (pv 0) pa_nil)) (pe_orT (K := K) rfl (pe_fn Ctold_bad hr rfl (pa_cons (pv 0) pa_nil)) (pe_one (pe_tup (pa_cons pe_str (pa_cons (pe_fn Cbit_rows hr rfl (pa_cons (pv 0) pa_nil)) pa_nil)))))))), ?_⟩
    refine ⟨_, rfl, wa, g, B, rfl, hw, hg, med, hB1, h24, fun H1 s1 => ⟨false, rfl, iteF ?_⟩⟩
    refine ⟨_, rfl, wa, g, B, rfl, hw.mono s1, hg, med, hB1, h24, fun H2 s2 => ⟨false, rfl, iteF ?_⟩⟩
    have s12 := s1.trans s2
    refine ⟨_, rfl, wa, g, B, rfl, hw.mono s12, hg, hri, med.toIso, hB1, h24, fun l ps H3 hl nl s3 => ⟨by show 2 <= sizeLine; decide, fun t ht => ?_⟩⟩
    have st := Same.new (o := .tup [.str "one", .ref l]) ht
    exact k t l ps _ upd_same (hl.mono st) (s12.free nl) ((s12.trans s3).trans st)
end
section
variable {P : Program} {w : World} {K : PySem.W.Frag} {mg : Str -> Option Value} {base : Heap} {tMOST_PLACES : Tok} {cLam pLam : Addr}
theorem rowB_len (B ms : List Nat) (x : Nat) : (rowB B ms x).length = ms.length := by unfold rowB; rw [List.length_map]
theorem rb_at {B ms : List Nat} {x k : Nat} (h : k < ms.length) : atI (natL (rowB B ms x)) (k : Int) = some (.int ((rb B ms x k : Nat) : Int)) := natL_getD (by rw [rowB_len]; exact h)
theorem all_map_id {α : Type} (f : α -> Bool) (l : List α) : ((l.map f).all id) = l.all f := by
  induction l with
  | nil => rfl
  | cons x l ih => rw [List.map_cons, List.all_cons, List.all_cons, ih]; rfl
def spAgr : Sp := fun vs H Q _ => ∃ (rl : Addr) (rs : List Addr) (S : List Nat) (s0 : Nat) (B ms : List Nat), vs = [.ref rl] /\ H rl = some (.lst (rs.map V.ref)) /\ Paired (fun r s => H r = some (.tup (natL (rowB B ms s)))) rs S /\ S[0]? = some s0 /\ ms.length <= 900 /\ S.length <= 900 /\
  ∀ l H', H l = none -> H' l = some (.lst (natL (numB B ms S s0))) -> Same H H' -> Q (.ref l) H'
theorem Cagreed_classes (T : Txt K mg tMOST_PLACES cLam) : Callee P w K mg base 1 "agreed_classes" ["rows"] spAgr := by
  refine mkCallee T.dagreed_classes scagreed_classes (fun _ _ _ _ _ _ us hl => match us, hl with | [_], _ => rfl) (fun vs H Q E h => ?_) (fun f cdv A outer s H vs Q E hr h => ?_)
  · obtain ⟨rl, rs, S, s0, B, ms, rfl, _⟩ := h; rfl
  · obtain ⟨rl, rs, S, s0, B, ms, rfl, hrl, hp, hs0, hms, hSl, k⟩ := h
    obtain ⟨r0, er0, hr0⟩ := paired_getL hp 0 s0 hs0
    have hpl := hp.length
    refine ⟨_, (pss_one (ps_ret (pe_lcC (NB := ["k", "bit", "rows"]) (nt := 2) (fr := [0]) rfl (by kernel_rfl) (pi_enumT (K := K) rfl rfl T.z_enumerate (pa_cons (pe_ix (ixl (K := K) rfl) (pv 0) pe_int (fun _ _ => rfl)) pa_nil)) (fun _ _ _ _ _ => (pgt (K := K) (n := 2) rfl rfl (pgs_cons (pg_name (i := 0) (show List.Nodup (["k", "bit", "rows"] : List Str) by decide +kernel) rfl (by first | exact Or.inl rfl | exact Or.inr rfl)) (pgs_cons (pg_name (i := 1) (show List.Nodup (["k", "bit", "rows"] : List Str) by decide +kernel) rfl (by first | exact Or.inl rfl | exact Or.inr rfl)) pgs_nil)))) (fun _ _ _ _ _ => (pts_one (pt_val (pe_callB (allq (K := K) rfl) rfl T.z_all bt_all (pa_cons (pe_lc (NB := ["row", "k", "bit"]) (nt := 1) (fr := [0, 1]) rfl (by kernel_rfl) (pil (K := K) rfl (pv 2)) (fun _ _ _ _ _ => (pg_name (i := 0) (show List.Nodup (["row", "k", "bit"] : List Str) by decide +kernel) rfl (.inl rfl))) (fun _ _ _ _ _ => pts_nil) (fun _ _ _ _ _ => (pe_cmpR op_eq (pe_ix (ixt (K := K) rfl) (pv 0) (pv 1) (fun _ _ => rfl)) (pv 2) (nomark _)))) pa_nil))))) (fun _ _ _ _ _ => (pv 0))))), ?_⟩
    refine ⟨_, rfl, rl, _, 0, .ref r0, rfl, rfl, SqL.of hrl, atI_nat (by rw [List.getElem?_map, er0]; rfl), r0, rfl, ⟨_, SqT.of hr0⟩, lc_enumT (xs := natL (rowB B ms s0)) (fun i σ' ys H' => (∃ v1 v2, σ' = [v1, v2, some (.ref rl)]) /\ i <= ms.length /\ ys = natL ((List.range i).filter fun k => S.all fun s => decide (rb B ms s k = rb B ms s0 k)) /\ Same H H')
      ⟨⟨_, _, rfl⟩, Nat.zero_le _, rfl, Same.refl _⟩ (fun i σ' ys H' _ q => SqT.of (q.2.2.2 _ _ hr0)) (fun i σ' ys H' q => ?_) ?_ ?_⟩
    · rw [q.2.2.1, natL_len]
      refine small1000 (Nat.le_trans (List.length_filter_le _ _) ?_)
      rw [List.length_range]
      have := q.2.1
      omega
    · rintro i x t σ' ys H1 hi ⟨⟨v1, v2, rfl⟩, _, rfl, s1⟩ ht
      have hi' := (List.getElem?_eq_some_iff.mp hi).1
      rw [natL_len, rowB_len] at hi'
      have ex : x = .int ((rb B ms s0 i : Nat) : Int) := by
        have q := atI_nat hi
        rw [rb_at hi'] at q
        exact (Option.some.inj q).symm
      subst ex
      have st := Same.new (o := .tup [.int (i : Int), .int ((rb B ms s0 i : Nat) : Int)]) ht
      have s2 := s1.trans st
      refine ⟨t, _, rfl, SqT.of upd_same, rfl, _, _, rfl, _, _, rfl, rfl, ?_⟩
      generalize upd H1 t (.tup [.int (i : Int), .int ((rb B ms s0 i : Nat) : Int)]) = H2 at *
      refine ⟨_, rfl, rl, rfl, ⟨_, SqL.of (s2 _ _ hrl)⟩, lc_list (xs := rs.map V.ref) (fun j σ' ys H' => (∃ v, σ' = [v, some (.int (i : Int)), some (.int ((rb B ms s0 i : Nat) : Int))]) /\ j <= S.length /\ ys = ((S.take j).map fun s => decide (rb B ms s i = rb B ms s0 i)).map V.bl /\ H2 = H')
        ⟨⟨_, rfl⟩, Nat.zero_le _, rfl, rfl⟩ (fun j σ' ys H' _ q => by rw [<- q.2.2.2]; exact SqL.of (s2 _ _ hrl)) (fun j σ' ys H' q => ?_) ?_ ?_⟩
      · rw [q.2.2.1, List.length_map, List.length_map, List.length_take]
        exact small1000 (by omega)
      · rintro j x σ' ys H' hj ⟨⟨v, rfl⟩, _, rfl, rfl⟩
        rw [List.getElem?_map, Option.map_eq_some_iff] at hj
        obtain ⟨r, er, rfl⟩ := hj
        obtain ⟨sj, es, hr1⟩ := paired_at hp j r er
        refine lcN ⟨_, rfl, _, rfl, r, _, _, _, rfl, rfl, SqT.of (s2 _ _ hr1), rb_at hi', _, rfl, rfl, ⟨_, rfl⟩, (List.getElem?_eq_some_iff.mp es).1, ?_, rfl⟩
        rw [List.take_add_one, es, List.map_append, List.map_append]
        congr 1
        show [V.bl (decide (V.int ((rb B ms sj i : Nat) : Int) = V.int ((rb B ms s0 i : Nat) : Int)))] = [V.bl (decide (rb B ms sj i = rb B ms s0 i))]
        congr 2
        rw [decide_eq_decide]
        exact ⟨vint_inj, vint⟩
      · rintro σ' ys H' ⟨_, _, rfl, rfl⟩ D hD
        rw [List.length_map, hpl, List.take_length]
        refine ⟨D, _, rfl, SqL.of upd_same, _, rfl, ?_⟩
        have sD := s2.updr (o := .lst ((S.map fun s => decide (rb B ms s i = rb B ms s0 i)).map V.bl)) hD
        rw [all_map_id, range_filter_succ]
        cases z : S.all fun s => decide (rb B ms s i = rb B ms s0 i) with
        | true => exact iteT ⟨_, rfl, ⟨_, _, rfl⟩, by omega, by rw [natL_snoc]; rfl, sD⟩
        | false => exact iteF ⟨⟨_, _, rfl⟩, by omega, by simp, sD⟩
    · rintro σ' ys H1 ⟨_, _, rfl, s1⟩ D hD
      rw [natL_len, rowB_len]
      exact k D _ (s1.free hD) upd_same (s1.updr hD)
def spHullW : Sp := fun vs H Q _ => ∃ (wa sl : Addr) (S : List Nat) (g : List (List Nat)) (B : List Nat), vs = [.ref wa, .ref sl] /\ WebAt H wa g /\ IsWeb g B /\ Rising g /\ Iso B /\ 1 <= B.length /\ B.length <= 24 /\ H sl = some (.lst (natL S)) /\ (∀ s ∈ S, s < B.length) /\ S.length <= 300 /\
  ∀ l R H', H l = none -> H' l = some (.lst (natL R)) -> (S = [] -> R = []) -> (∀ s0, S[0]? = some s0 -> R = hullQ B (marksF B (tiesB B B.length)) S s0) -> Same H H' -> Q (.ref l) H'
theorem Chull (T : Txt K mg tMOST_PLACES cLam) : Callee P w K mg base 6 "hull" ["web", "some"] spHullW := by
  have Cbit_rows := Cbit_rows (P := P) (w := w) (base := base) T
  have Cagreed_classes := Cagreed_classes (P := P) (w := w) (base := base) T
  refine mkCallee T.dhull schull (fun _ _ _ _ _ _ us hl => match us, hl with | [_, _], _ => rfl) (fun vs H Q E h => ?_) (fun f cdv A outer s H vs Q E hr h => ?_)
  · obtain ⟨wa, sl, S, g, B, rfl, _⟩ := h; rfl
  · obtain ⟨wa, sl, S, g, B, rfl, hw, hg, hri, iso, hB1, h24, hsl, hS, hSl, k⟩ := h
    have hml := marks_le B h24
    refine ⟨_, (pss_cons (ps_if (pt_not (pt_truth (pv 1) (by intro _; rfl))) (pss_one (ps_ret (pe_lst pa_nil))) pss_nil) (pss_cons (ps_set (i := 2) schull.nd rfl (.inr rfl) (pe_fn Cbit_rows hr rfl (pa_cons (pv 0) pa_nil))) (pss_cons (ps_set (i := 3) schull.nd rfl (.inr rfl) (pe_ix (ixl (K := K) rfl) (pv 2) (pe_ix (ixl (K := K) rfl) (pv 1) pe_int (fun _ _ => rfl)) (fun _ _ => rfl))) (pss_cons (ps_set (i := 4) schull.nd rfl (.inr rfl) (pe_fn Cagreed_classes hr rfl (pa_cons (pe_lc (NB := ["place", "rows"]) (nt := 1) (fr := [2]) rfl (by kernel_rfl) (pil (K := K) rfl (pv 1)) (fun _ _ _ _ _ => (pg_name (i := 0) (show List.Nodup (["place", "rows"] : List Str) by decide +kernel) rfl (.inl rfl))) (fun _ _ _ _ _ => pts_nil) (fun _ _ _ _ _ => (pe_ix (ixl (K := K) rfl) (pv 1) (pv 0) (fun _ _ => rfl)))) pa_nil))) (pss_one (ps_ret (pe_lcC (NB := ["x", "row", "first", "numbers"]) (nt := 2) (fr := [3, 4]) rfl (by kernel_rfl) (pi_enum (K := K) rfl rfl T.z_enumerate (pa_cons (pv 2) pa_nil)) (fun _ _ _ _ _ => (pgt (K := K) (n := 2) rfl rfl (pgs_cons (pg_name (i := 0) (show List.Nodup (["x", "row", "first", "numbers"] : List Str) by decide +kernel) rfl (by first | exact Or.inl rfl | exact Or.inr rfl)) (pgs_cons (pg_name (i := 1) (show List.Nodup (["x", "row", "first", "numbers"] : List Str) by decide +kernel) rfl (by first | exact Or.inl rfl | exact Or.inr rfl)) pgs_nil)))) (fun _ _ _ _ _ => (pts_one (pt_val (pe_callB (allq (K := K) rfl) rfl T.z_all bt_all (pa_cons (pe_lc (NB := ["k", "row", "first"]) (nt := 1) (fr := [1, 2]) rfl (by kernel_rfl) (pil (K := K) rfl (pv 3)) (fun _ _ _ _ _ => (pg_name (i := 0) (show List.Nodup (["k", "row", "first"] : List Str) by decide +kernel) rfl (.inl rfl))) (fun _ _ _ _ _ => pts_nil) (fun _ _ _ _ _ => (pe_cmpR op_eq (pe_ix (ixt (K := K) rfl) (pv 1) (pv 0) (fun _ _ => rfl)) (pe_ix (ixt (K := K) rfl) (pv 2) (pv 0) (fun _ _ => rfl)) (nomark _)))) pa_nil))))) (fun _ _ _ _ _ => (pv 0))))))))), ?_⟩
    refine ⟨_, rfl, !(natL S).isEmpty, .inl ⟨_, SqL.of hsl, rfl⟩, ?_⟩
    cases eS : S with
    | nil =>
      subst eS
      refine iteT ⟨by show 0 <= sizeLine; decide, fun l hl => ?_⟩
      exact k l [] _ hl upd_same (fun _ => rfl) (fun s0 e => by simp at e) (Same.new hl)
    | cons s0 S' =>
      rw [<- eS]
      have hne : (!(natL S).isEmpty) = true := by rw [eS]; rfl
      have h0 : S[0]? = some s0 := by rw [eS]; rfl
      have h0n := hS s0 (List.mem_of_getElem? h0)
      have hS0 : S ≠ [] := by rw [eS]; simp
      clear eS
      rw [hne]
      refine iteF ?_
      refine ⟨_, rfl, wa, g, B, rfl, hw, hg, hri, iso, hB1, h24, fun rl ps H1 hrl nrl s1 => ?_⟩
      have hsl1 := s1 _ _ hsl
      obtain ⟨f0, ef0, hf0⟩ : ∃ r, atI (ps.map V.ref) (s0 : Int) = some (.ref r) /\ H1 r = some (.tup (natL (rowB B (marksF B (tiesB B B.length)) s0))) := by
        obtain ⟨r, er, q⟩ := paired_getL hrl.ro s0 s0 (List.getElem?_range h0n)
        exact ⟨r, atI_nat (by rw [List.getElem?_map, er]; rfl), q⟩
      refine ⟨_, rfl, _, rfl, sl, _, 0, _, rfl, rfl, SqL.of hsl1, natL_at h0, rl, _, _, _, rfl, rfl, SqL.of hrl.ls, ef0, ?_⟩
      refine ⟨_, rfl, sl, rfl, ⟨_, SqL.of hsl1⟩, lc_list (xs := natL S) (fun i σ' ys H' => (∃ v, σ' = [v, some (.ref rl)]) /\ i <= S.length /\ (∃ rs : List Addr, ys = rs.map V.ref /\ Paired (fun r s => H1 r = some (.tup (natL (rowB B (marksF B (tiesB B B.length)) s)))) rs (S.take i)) /\ H1 = H')
        ⟨⟨_, rfl⟩, Nat.zero_le _, ⟨[], rfl, .nil⟩, rfl⟩ (fun i σ' ys H' _ q => by rw [<- q.2.2.2]; exact SqL.of hsl1) (fun i σ' ys H' q => ?_) ?_ ?_⟩
      · obtain ⟨_, hi, ⟨rs, rfl, hp⟩, _⟩ := q
        rw [List.length_map, hp.length, List.length_take]
        exact small1000 (by omega)
      · rintro i x σ' ys H' hi ⟨⟨v, rfl⟩, _, ⟨rs, rfl, hp⟩, rfl⟩
        obtain ⟨si, es, rfl⟩ := natL_get hi
        have hsn := hS si (List.mem_of_getElem? es)
        obtain ⟨r, er, q⟩ := paired_getL hrl.ro si si (List.getElem?_range hsn)
        refine lcN ⟨_, rfl, _, rfl, rl, _, _, .ref r, rfl, rfl, SqL.of hrl.ls, atI_nat (by rw [List.getElem?_map, er]; rfl), ⟨_, rfl⟩, (List.getElem?_eq_some_iff.mp es).1, ⟨rs ++ [r], by simp, ?_⟩, rfl⟩
        rw [List.take_add_one, es]
        exact paired_append hp (.cons q .nil)
      · rintro σ' ys H' ⟨_, _, ⟨rs, rfl, hp⟩, rfl⟩ D hD
        rw [natL_len, List.take_length] at hp
        have sD := Same.new (o := .lst (rs.map V.ref)) hD
        refine ⟨D, rs, S, s0, B, marksF B (tiesB B B.length), rfl, upd_same, paired_mono (fun _ _ q => sD _ _ q) hp, h0, by omega, by omega, fun nl H2 nnl hnl s2 => ?_⟩
        have s12 := sD.trans s2
        have hrl2 := hrl.mono s12
        have hf2 := s12 _ _ hf0
        have hpl := hrl.ro.length
        rw [List.length_range] at hpl
        have hnum : ∀ k ∈ numB B (marksF B (tiesB B B.length)) S s0, k < (marksF B (tiesB B B.length)).length := fun k hk => List.mem_range.mp (List.mem_filter.mp hk).1
        have hnl' : (numB B (marksF B (tiesB B B.length)) S s0).length <= 576 := by
          unfold numB
          refine Nat.le_trans (List.length_filter_le _ _) ?_
          rw [List.length_range]; exact hml
        generalize hM : marksF B (tiesB B B.length) = ms at *
        generalize hN : numB B ms S s0 = ks at *
        refine ⟨_, rfl, rl, rfl, ⟨_, SqL.of hrl2.ls⟩, lc_enum (xs := ps.map V.ref) (fun i σ' ys H' => (∃ v1 v2, σ' = [v1, v2, some (.ref f0), some (.ref nl)]) /\ i <= B.length /\ ys = natL ((List.range i).filter fun x => ks.all fun k => decide (rb B ms x k = rb B ms s0 k)) /\ Same H2 H')
          ⟨⟨_, _, rfl⟩, Nat.zero_le _, rfl, Same.refl _⟩ (fun i σ' ys H' _ q => SqL.of (q.2.2.2 _ _ hrl2.ls)) (fun i σ' ys H' q => ?_) ?_ ?_⟩
        · rw [q.2.2.1, natL_len]
          refine small1000 (Nat.le_trans (List.length_filter_le _ _) ?_)
          rw [List.length_range]
          have := q.2.1
          omega
        · rintro i x t σ' ys H3 hi ⟨⟨v1, v2, rfl⟩, _, rfl, s3⟩ ht
          have hi' := (List.getElem?_eq_some_iff.mp hi).1
          rw [List.length_map, hpl] at hi'
          rw [List.getElem?_map, Option.map_eq_some_iff] at hi
          obtain ⟨r, er, rfl⟩ := hi
          have hr2 : H2 r = some (.tup (natL (rowB B ms i))) := by
            obtain ⟨y, ey, q⟩ := paired_at hrl2.ro i r er
            rw [List.getElem?_range hi'] at ey
            cases ey
            rw [hM] at q
            exact q
          have st := s3.updr (o := .tup [.int (i : Int), .ref r]) ht
          refine ⟨t, _, rfl, SqT.of upd_same, rfl, _, _, rfl, _, _, rfl, rfl, ?_⟩
          generalize upd H3 t (.tup [.int (i : Int), .ref r]) = H4 at *
          have hnl4 := st _ _ hnl
          refine ⟨_, rfl, nl, rfl, ⟨_, SqL.of hnl4⟩, lc_list (xs := natL ks) (fun j σ' ys H' => (∃ v, σ' = [v, some (.ref r), some (.ref f0)]) /\ j <= ks.length /\ ys = ((ks.take j).map fun k => decide (rb B ms i k = rb B ms s0 k)).map V.bl /\ H4 = H')
            ⟨⟨_, rfl⟩, Nat.zero_le _, rfl, rfl⟩ (fun j σ' ys H' _ q => by rw [<- q.2.2.2]; exact SqL.of hnl4) (fun j σ' ys H' q => ?_) ?_ ?_⟩
          · rw [q.2.2.1, List.length_map, List.length_map, List.length_take]
            exact small1000 (by omega)
          · rintro j x σ' ys H' hj ⟨⟨v, rfl⟩, _, rfl, rfl⟩
            obtain ⟨kj, ek, rfl⟩ := natL_get hj
            have hk := hnum kj (List.mem_of_getElem? ek)
            refine lcN ⟨_, rfl, _, rfl, r, _, _, _, rfl, rfl, SqT.of (st _ _ hr2), rb_at hk, _, rfl, _, rfl, f0, _, _, _, rfl, rfl, SqT.of (st _ _ hf2), rb_at hk, rfl, ⟨_, rfl⟩, (List.getElem?_eq_some_iff.mp ek).1, ?_, rfl⟩
            rw [List.take_add_one, ek, List.map_append, List.map_append]
            congr 1
            show [V.bl (decide (V.int ((rb B ms i kj : Nat) : Int) = V.int ((rb B ms s0 kj : Nat) : Int)))] = [V.bl (decide (rb B ms i kj = rb B ms s0 kj))]
            congr 2
            rw [decide_eq_decide]
            exact ⟨vint_inj, vint⟩
          · rintro σ' ys H' ⟨_, _, rfl, rfl⟩ D2 hD2
            rw [natL_len, List.take_length]
            refine ⟨D2, _, rfl, SqL.of upd_same, _, rfl, ?_⟩
            have sD2 := st.updr (o := .lst ((ks.map fun k => decide (rb B ms i k = rb B ms s0 k)).map V.bl)) hD2
            rw [all_map_id, range_filter_succ]
            cases z : ks.all fun k => decide (rb B ms i k = rb B ms s0 k) with
            | true => exact iteT ⟨_, rfl, ⟨_, _, rfl⟩, by omega, by rw [natL_snoc]; rfl, sD2⟩
            | false => exact iteF ⟨⟨_, _, rfl⟩, by omega, by simp, sD2⟩
        · rintro σ' ys H3 ⟨_, _, rfl, s3⟩ D3 hD3
          rw [List.length_map, hpl]
          have sZ := (s1.trans s12).trans s3
          refine k D3 _ _ (sZ.free hD3) upd_same (fun z => absurd z hS0) (fun s0' e => ?_) (sZ.updr hD3)
          rw [h0] at e
          cases e
          unfold hullQ
          rw [hN]
end
section
variable {P : Program} {w : World} {K : PySem.W.Frag} {mg : Str -> Option Value} {base : Heap} {tMOST_PLACES : Tok} {cLam pLam : Addr}
def spGate (pL : Addr) : Sp := fun vs H Q _ => ∃ (wa pl : Addr) (x : Nat) (R : List Nat) (g : List (List Nat)) (D : Nat -> Nat), vs = [.ref wa, .ref pl, .int (x : Int)] /\ WebAt H wa g /\ Inn g /\ x < g.length /\ g.length <= 1000 /\ H pl = some (.lst (natL R)) /\ R ≠ [] /\
  (∀ r ∈ R, r < g.length /\ dist g x r = some (D r)) /\ LamH sgate "gate" pL H /\ ∀ (M : Nat) H', M ∈ R -> (∀ r ∈ R, D M <= D r) -> Same H H' -> Q (.int (M : Int)) H'
theorem Cgate (T : Txt K mg tMOST_PLACES cLam) (LB : LamB base mg cLam pLam) : Callee P w K mg base 3 "gate" ["web", "part", "x"] (spGate pLam) := by
  have Cfars_from := Cfars_from (P := P) (w := w) (base := base) T
  obtain ⟨f0, fd0, F0, hm0, hc0⟩ := T.lam
  refine ⟨f0, fd0, F0.okC hc0 scgate (fun vs H Q E h => ?_) (fun A outer s H vs Q E hr h => ?_), hm0, F0.kp, F0.binds (fun _ _ _ _ _ _ us hl => match us, hl with | [_, _, _], _ => rfl)⟩
  · obtain ⟨wa, pl, x, R, g, D, rfl, _⟩ := h; rfl
  · obtain ⟨wa, pl, x, R, g, D, rfl, hw, hin, hx, h1000, hp, hne, hR, hL, k⟩ := h
    refine ⟨_, (pss_cons (ps_set (i := 3) scgate.nd rfl (by first | exact Or.inl rfl | exact Or.inr rfl) (pe_fn Cfars_from hr rfl (pa_cons (pv 0) (pa_cons (pv 2) pa_nil)))) (pss_one (ps_ret (pe_minLam (K := K) (i := 3) rfl rfl hr rfl T.z_min (pa_cons (pv 1) pa_nil) rfl LB.code LB.blt rfl rfl rfl rfl (fun _ e => by have e2 := Option.some.inj e; subst e2; rfl) rfl rfl rfl (by decide +kernel) rfl rfl (fun _ _ _ _ _ _ _ _ => rfl) (by decide) (by decide) (by decide))))), ?_⟩
    refine ⟨_, rfl, _, rfl, wa, x, g, rfl, hw, hin, hx, h1000, fun l H1 nl hl s1 => ?_⟩
    refine ⟨_, rfl, pl, l, R.map Int.ofNat, _, fun n => (D n.toNat : Int), rfl, ?_, ?_, rfl, SqL.of hl, fun n hn => ?_, s1 _ _ hL, fun M H2 hM hle s2 => ?_⟩
    · rw [<- natL_ints]; exact SqL.of (s1 _ _ hp)
    · intro z; exact hne (List.map_eq_nil_iff.mp z)
    · obtain ⟨r, hr', rfl⟩ := List.mem_map.mp hn
      obtain ⟨h1, h2⟩ := hR r hr'
      refine ⟨Int.natCast_nonneg r, ?_⟩
      show (optL g.length (dist g x))[r]? = some (.int ((D r : Nat) : Int))
      unfold optL
      rw [List.getElem?_map, List.getElem?_range h1, Option.map_some, h2]
      rfl
    · obtain ⟨r, hr', rfl⟩ := List.mem_map.mp hM
      refine k r H2 hr' (fun r' h' => ?_) (s1.trans s2)
      have := hle (Int.ofNat r') (List.mem_map_of_mem h')
      simpa using this
end
section
variable {P : Program} {w : World} {K : PySem.W.Frag} {mg : Str -> Option Value} {base : Heap} {tMOST_PLACES : Tok} {cLam pLam : Addr}
theorem sum_nat : ∀ l : List Nat, (l.map Int.ofNat).sum = ((l.sum : Nat) : Int)
  | [] => rfl
  | x :: l => by
    rw [List.map_cons, List.sum_cons, List.sum_cons, sum_nat l]
    rfl
theorem range_map_succ {α : Type} (f : Nat -> α) (i : Nat) : (List.range (i + 1)).map f = (List.range i).map f ++ [f i] := by
  rw [List.range_succ, List.map_append]; rfl
def goF (B Pe : List Nat) (x : Nat) : Nat := ((List.range B.length).map fun y => Pe.getD y 0 * ud (B.getD x 0) (B.getD y 0)).sum
theorem big_of {Pe : List Nat} (h : ∀ q ∈ Pe, q <= 1000000000) (y : Nat) : Pe.getD y 0 <= 1000000000 := by
  rw [List.getD_eq_getElem?_getD]
  cases e : Pe[y]? with
  | none => decide
  | some q => exact h q (List.mem_of_getElem? e)
def spGoTo : Sp := fun vs H Q _ => ∃ (wa pl : Addr) (x : Nat) (Pe : List Nat) (g : List (List Nat)) (B : List Nat), vs = [.ref wa, .ref pl, .int (x : Int)] /\ WebAt H wa g /\ IsWeb g B /\ Iso B /\ B.length <= 24 /\ H pl = some (.lst (natL Pe)) /\ Pe.length = B.length /\ (∀ q ∈ Pe, q <= 1000000000) /\ x < B.length /\
  ∀ H', Same H H' -> Q (.int ((goF B Pe x : Nat) : Int)) H'
theorem Cgoing_to (T : Txt K mg tMOST_PLACES cLam) : Callee P w K mg base 2 "going_to" ["web", "people", "x"] spGoTo := by
  have Cfars_from := Cfars_from (P := P) (w := w) (base := base) T
  refine mkCallee T.dgoing_to scgoing_to (fun _ _ _ _ _ _ us hl => match us, hl with | [_, _, _], _ => rfl) (fun vs H Q E h => ?_) (fun f cdv A outer s H vs Q E hr h => ?_)
  · obtain ⟨wa, pl, x, Pe, g, B, rfl, _⟩ := h; rfl
  · obtain ⟨wa, pl, x, Pe, g, B, rfl, hw, hg, iso, h24, hp, hPl, hPb, hx, k⟩ := h
    refine ⟨_, (pss_cons (ps_set (i := 3) scgoing_to.nd rfl (.inr rfl) (pe_fn Cfars_from hr rfl (pa_cons (pv 0) (pa_cons (pv 2) pa_nil)))) (pss_one (ps_ret (pe_callB (sumq (K := K) rfl) rfl T.z_sum bt_sum (pa_cons (pe_lc (NB := ["place", "many", "from_x"]) (nt := 2) (fr := [3]) rfl (by kernel_rfl) (pi_enum (K := K) rfl rfl T.z_enumerate (pa_cons (pv 1) pa_nil)) (fun _ _ _ _ _ => (pgt (K := K) (n := 2) rfl rfl (pgs_cons (pg_name (i := 0) (show List.Nodup (["place", "many", "from_x"] : List Str) by decide +kernel) rfl (.inl rfl)) (pgs_cons (pg_name (i := 1) (show List.Nodup (["place", "many", "from_x"] : List Str) by decide +kernel) rfl (.inl rfl)) pgs_nil)))) (fun _ _ _ _ _ => pts_nil) (fun _ _ _ _ _ => (pe_op op_mul (pv 1) (pe_ix (ixl (K := K) rfl) (pv 2) (pv 0) (fun _ _ => rfl))))) pa_nil))))), ?_⟩
    refine ⟨_, rfl, _, rfl, wa, x, g, rfl, hw, hg.inn, by rw [hg.1]; exact hx, by rw [hg.1]; omega, fun l H1 nl hl s1 => ?_⟩
    refine ⟨_, rfl, pl, rfl, ⟨_, SqL.of (s1 _ _ hp)⟩, lc_enum (xs := natL Pe) (fun i σ' ys H' => (∃ v1 v2, σ' = [v1, v2, some (.ref l)]) /\ i <= B.length /\ ys = natL ((List.range i).map fun y => Pe.getD y 0 * ud (B.getD x 0) (B.getD y 0)) /\ Same H1 H')
      ⟨⟨_, _, rfl⟩, Nat.zero_le _, rfl, Same.refl _⟩ (fun i σ' ys H' _ q => SqL.of (q.2.2.2 _ _ (s1 _ _ hp))) (fun i σ' ys H' q => ?_) ?_ ?_⟩
    · rw [q.2.2.1, natL_len, List.length_map, List.length_range]
      have := q.2.1
      exact small1000 (by omega)
    · rintro i v t σ' ys H3 hi ⟨⟨v1, v2, rfl⟩, _, rfl, s3⟩ ht
      obtain ⟨q, eq, rfl⟩ := natL_get hi
      have hi' := (List.getElem?_eq_some_iff.mp eq).1
      have eg : Pe.getD i 0 = q := by rw [List.getD_eq_getElem?_getD, eq]; rfl
      have hb := big_of hPb i
      rw [eg] at hb
      have st := s3.updr (o := .tup [.int (i : Int), .int (q : Int)]) ht
      refine ⟨t, _, rfl, SqT.of upd_same, rfl, _, _, rfl, _, _, rfl, rfl, ?_⟩
      generalize upd H3 t (.tup [.int (i : Int), .int (q : Int)]) = H4 at *
      refine iteT (B := True) ⟨_, rfl, _, rfl, _, rfl, l, _, _, _, rfl, rfl, SqL.of (st _ _ hl), optL_at (by rw [hg.1]; omega), ?_⟩
      rw [dist_ud hg iso hx (by omega)]
      refine ⟨_, _, rfl, rfl, .inl ⟨by omega, by omega⟩, ⟨_, _, rfl⟩, by omega, ?_, st⟩
      rw [range_map_succ, eg]
      exact natL_snoc _ _
    · rintro σ' ys H3 ⟨_, _, rfl, s3⟩ D hD
      rw [natL_len, hPl]
      refine ⟨D, _, rfl, SqL.of (by rw [upd_same, natL_ints]), ?_⟩
      rw [sum_nat]
      exact k _ ((s1.trans s3).updr hD)
end
section
variable {P : Program} {w : World} {K : PySem.W.Frag} {mg : Str -> Option Value} {base : Heap} {tMOST_PLACES : Tok} {cLam pLam : Addr}
def inP (Pe l : List Nat) : Nat := (l.map fun y => Pe.getD y 0).sum
def sideT (B Pe : List Nat) (m : Nat) : List V := [.int ((inP Pe (firstH B m) : Nat) : Int), .int ((inP Pe (secondH B m) : Nat) : Int)]
def SidesAt (H : Hp) (B Pe : List Nat) (sl : Addr) (ts : List Addr) (ms : List Nat) : Prop := H sl = some (.lst (ts.map V.ref)) /\ Paired (fun r m => H r = some (.tup (sideT B Pe m))) ts ms
def LeastG (B Pe : List Nat) (M : Nat) : Prop := (∃ x, x < B.length /\ goF B Pe x = M) /\ ∀ x, x < B.length -> M <= goF B Pe x
structure GathAt (H : Hp) (B Pe : List Nat) (t pl sl : Addr) (ts : List Addr) (M : Nat) : Prop where
  tu : H t = some (.tup [.int (M : Int), .ref pl, .ref sl])
  pls : H pl = some (.lst (natL ((List.range B.length).filter fun x => decide (goF B Pe x = M))))
  sls : SidesAt H B Pe sl ts (marksF B (tiesB B B.length))
  le : LeastG B Pe M
theorem SidesAt.mono {H H' : Hp} {B Pe : List Nat} {sl : Addr} {ts : List Addr} {ms : List Nat} (h : SidesAt H B Pe sl ts ms) (s : Same H H') : SidesAt H' B Pe sl ts ms := ⟨s _ _ h.1, paired_mono (fun _ _ q => s _ _ q) h.2⟩
theorem GathAt.mono {H H' : Hp} {B Pe : List Nat} {t pl sl : Addr} {ts : List Addr} {M : Nat} (h : GathAt H B Pe t pl sl ts M) (s : Same H H') : GathAt H' B Pe t pl sl ts M := ⟨s _ _ h.tu, s _ _ h.pls, h.sls.mono s, h.le⟩
def spIn : Sp := fun vs H Q _ => ∃ (pl hl : Addr) (Pe L : List Nat), vs = [.ref pl, .ref hl] /\ H pl = some (.lst (natL Pe)) /\ H hl = some (.lst (natL L)) /\ (∀ y ∈ L, y < Pe.length) /\ L.length <= 24 /\ ∀ H', Same H H' -> Q (.int ((inP Pe L : Nat) : Int)) H'
theorem Cpeople_in (T : Txt K mg tMOST_PLACES cLam) : Callee P w K mg base 1 "people_in" ["people", "half"] spIn := by
  refine mkCallee T.dpeople_in scpeople_in (fun _ _ _ _ _ _ us hl => match us, hl with | [_, _], _ => rfl) (fun vs H Q E h => ?_) (fun f cdv A outer s H vs Q E hr h => ?_)
  · obtain ⟨pl, hl, Pe, L, rfl, _⟩ := h; rfl
  · obtain ⟨pl, hl, Pe, L, rfl, hp, hh, hL, hl24, k⟩ := h
    refine ⟨_, (pss_one (ps_ret (pe_callB (sumq (K := K) rfl) rfl T.z_sum bt_sum (pa_cons (pe_lc (NB := ["place", "people"]) (nt := 1) (fr := [0]) rfl (by kernel_rfl) (pil (K := K) rfl (pv 1)) (fun _ _ _ _ _ => (pg_name (i := 0) (show List.Nodup (["place", "people"] : List Str) by decide +kernel) rfl (.inl rfl))) (fun _ _ _ _ _ => pts_nil) (fun _ _ _ _ _ => (pe_ix (ixl (K := K) rfl) (pv 1) (pv 0) (fun _ _ => rfl)))) pa_nil)))), ?_⟩
    refine ⟨_, rfl, hl, rfl, ⟨_, SqL.of hh⟩, lc_list (xs := natL L) (fun i σ' ys H' => (∃ v, σ' = [v, some (.ref pl)]) /\ i <= L.length /\ ys = natL ((L.take i).map fun y => Pe.getD y 0) /\ H = H')
      ⟨⟨_, rfl⟩, Nat.zero_le _, rfl, rfl⟩ (fun i σ' ys H' _ q => by rw [<- q.2.2.2]; exact SqL.of hh) (fun i σ' ys H' q => ?_) ?_ ?_⟩
    · rw [q.2.2.1, natL_len, List.length_map, List.length_take]
      exact small1000 (by omega)
    · rintro i v σ' ys H3 hi ⟨⟨v1, rfl⟩, _, rfl, rfl⟩
      obtain ⟨y, ey, rfl⟩ := natL_get hi
      refine lcN ⟨_, rfl, _, rfl, pl, _, _, _, rfl, rfl, SqL.of hp, natL_getD (hL y (List.mem_of_getElem? ey)), ⟨_, rfl⟩, (List.getElem?_eq_some_iff.mp ey).1, ?_, rfl⟩
      rw [List.take_add_one, ey, List.map_append]
      exact natL_snoc _ _
    · rintro σ' ys H3 ⟨_, _, rfl, rfl⟩ D hD
      rw [natL_len, List.take_length]
      refine ⟨D, _, rfl, SqL.of (by rw [upd_same, natL_ints]), ?_⟩
      rw [sum_nat]
      exact k _ ((Same.refl _).updr hD)
def spGath : Sp := fun vs H Q _ => ∃ (wa pl : Addr) (Pe : List Nat) (g : List (List Nat)) (B : List Nat), vs = [.ref wa, .ref pl] /\ WebAt H wa g /\ IsWeb g B /\ Rising g /\ Iso B /\ 1 <= B.length /\ B.length <= 24 /\ H pl = some (.lst (natL Pe)) /\ Pe.length = B.length /\ (∀ q ∈ Pe, q <= 1000000000) /\
  ∀ t ql sl ts M H', GathAt H' B Pe t ql sl ts M -> H t = none -> H ql = none -> H sl = none -> (∀ r ∈ ts, H r = none) -> ql ≠ sl -> Same H H' -> Q (.ref t) H'
theorem half_lt {B : List Nat} {m x : Nat} (h : x ∈ firstH B m \/ x ∈ secondH B m) : x < B.length := by
  rcases h with h | h <;> exact List.mem_range.mp (List.mem_filter.mp h).1
theorem half_len (B : List Nat) (m : Nat) : (firstH B m).length <= B.length /\ (secondH B m).length <= B.length := by
  constructor
  · refine Nat.le_trans (List.length_filter_le _ _) ?_
    rw [List.length_range]; exact Nat.le_refl _
  · refine Nat.le_trans (List.length_filter_le _ _) ?_
    rw [List.length_range]; exact Nat.le_refl _
theorem Cgathered (T : Txt K mg tMOST_PLACES cLam) : Callee P w K mg base 5 "gathered" ["web", "people"] spGath := by
  have Cgoing_to := Cgoing_to (P := P) (w := w) (base := base) T
  have Cpeople_in := Cpeople_in (P := P) (w := w) (base := base) T
  have Chalves := Chalves (P := P) (w := w) (base := base) T
  refine mkCallee T.dgathered scgathered (fun _ _ _ _ _ _ us hl => match us, hl with | [_, _], _ => rfl) (fun vs H Q E h => ?_) (fun f cdv A outer s H vs Q E hr h => ?_)
  · obtain ⟨wa, pl, Pe, g, B, rfl, _⟩ := h; rfl
  · obtain ⟨wa, pl, Pe, g, B, rfl, hw, hg, hri, iso, hB1, h24, hp, hPl, hPb, k⟩ := h
    obtain ⟨ws, hws, hwl, hrow⟩ := hw.row
    rw [hg.1] at hwl
    refine ⟨_, (pss_cons (ps_setLC (NB := ["x", "web", "people"]) (nt := 1) (fr := [0, 1]) rfl (by kernel_rfl) (i := 2) scgathered.nd rfl rfl (pi_range1 rfl T.z_range (pa_cons (pe_callB (lenq (K := K) rfl) rfl T.z_len bt_len (pa_cons (pv 0) pa_nil)) pa_nil)) (fun _ _ _ _ _ => (pg_name (i := 0) (show List.Nodup (["x", "web", "people"] : List Str) by decide +kernel) rfl (.inl rfl))) (fun _ _ _ _ _ => pts_nil) (fun _ _ _ _ _ => (pe_fn Cgoing_to hr rfl (pa_cons (pv 1) (pa_cons (pv 2) (pa_cons (pv 0) pa_nil)))))) (pss_cons (ps_set (i := 3) scgathered.nd rfl (.inr rfl) (pe_callB (minq (K := K) rfl) rfl T.z_min bt_min (pa_cons (pv 2) pa_nil))) (pss_cons (ps_setLC (NB := ["x", "going", "least"]) (nt := 2) (fr := [3]) rfl (by kernel_rfl) (i := 4) scgathered.nd rfl rfl (pi_enum (K := K) rfl rfl T.z_enumerate (pa_cons (pv 2) pa_nil)) (fun _ _ _ _ _ => (pgt (K := K) (n := 2) rfl rfl (pgs_cons (pg_name (i := 0) (show List.Nodup (["x", "going", "least"] : List Str) by decide +kernel) rfl (.inl rfl)) (pgs_cons (pg_name (i := 1) (show List.Nodup (["x", "going", "least"] : List Str) by decide +kernel) rfl (.inl rfl)) pgs_nil)))) (fun _ _ _ _ _ => (pts_one (pt_cmpR op_eq (pv 1) (pv 2) (nomark _)))) (fun _ _ _ _ _ => (pv 0))) (pss_cons (ps_setLC (NB := ["both", "people"]) (nt := 1) (fr := [1]) rfl (by kernel_rfl) (i := 5) scgathered.nd rfl rfl (pil (K := K) rfl (pe_fn Chalves hr rfl (pa_cons (pv 0) pa_nil))) (fun _ _ _ _ _ => (pg_name (i := 0) (show List.Nodup (["both", "people"] : List Str) by decide +kernel) rfl (.inl rfl))) (fun _ _ _ _ _ => pts_nil) (fun _ _ _ _ _ => (pe_tup (pa_cons (pe_fn Cpeople_in hr rfl (pa_cons (pv 1) (pa_cons (pe_ix (ixt (K := K) rfl) (pv 0) pe_int (fun _ _ => rfl)) pa_nil))) (pa_cons (pe_fn Cpeople_in hr rfl (pa_cons (pv 1) (pa_cons (pe_ix (ixt (K := K) rfl) (pv 0) pe_int (fun _ _ => rfl)) pa_nil))) pa_nil))))) (pss_one (ps_ret (pe_tup (pa_cons (pv 3) (pa_cons (pv 4) (pa_cons (pv 5) pa_nil)))))))))), ?_⟩
    refine ⟨_, rfl, wa, _, rfl, .inr (SqT.of hws), ((B.length : Nat) : Int), congrArg (fun z => [V.int ((z : Nat) : Int)]) hwl, by omega, by omega, lc_range0 (Pv := fun j σ' ys H' => (∃ v, σ' = [v, some (.ref wa), some (.ref pl)]) /\ j <= B.length /\ ys = natL ((List.range j).map fun x => goF B Pe x) /\ Same H H')
      ⟨⟨_, rfl⟩, Nat.zero_le _, rfl, Same.refl _⟩ (fun j σ' ys H' q => ?_) ?_ ?_⟩
    · rw [q.2.2.1, natL_len, List.length_map, List.length_range]
      have := q.2.1
      exact small1000 (by omega)
    · rintro j σ' ys H1 hj ⟨⟨v, rfl⟩, _, rfl, s1⟩
      refine lcN ⟨_, rfl, _, rfl, _, rfl, wa, pl, j, Pe, g, B, rfl, hw.mono s1, hg, iso, h24, s1 _ _ hp, hPl, hPb, hj, fun H2 s2 => ⟨⟨_, rfl⟩, by omega, ?_, s1.trans s2⟩⟩
      rw [range_map_succ]
      exact natL_snoc _ _
    · rintro σ' ys H1 ⟨_, _, rfl, s1⟩ gl hgl
      have s2 := s1.updr (o := .lst (natL ((List.range B.length).map fun x => goF B Pe x))) hgl
      have hg2 : upd H1 gl (.lst (natL ((List.range B.length).map fun x => goF B Pe x))) gl = some (.lst (natL ((List.range B.length).map fun x => goF B Pe x))) := upd_same
      generalize upd H1 gl (.lst (natL ((List.range B.length).map fun x => goF B Pe x))) = H2 at *
      refine ⟨_, rfl, gl, ((List.range B.length).map fun x => goF B Pe x).map Int.ofNat, rfl, SqL.of (by rw [<- natL_ints]; exact hg2), fun z => ?_, fun M hM hle => ?_⟩
      · rw [List.map_eq_nil_iff, List.map_eq_nil_iff, List.range_eq_nil] at z
        omega
      obtain ⟨M, hMn, rfl⟩ := List.mem_map.mp hM
      have le : LeastG B Pe M := by
        obtain ⟨x, hx, e⟩ := List.mem_map.mp hMn
        refine ⟨⟨x, List.mem_range.mp hx, e⟩, fun y hy => ?_⟩
        have := hle (Int.ofNat (goF B Pe y)) (List.mem_map_of_mem (List.mem_map.mpr ⟨y, List.mem_range.mpr hy, rfl⟩))
        simpa using this
      refine ⟨_, rfl, gl, rfl, ⟨_, SqL.of hg2⟩, lc_enum (xs := natL ((List.range B.length).map fun x => goF B Pe x)) (fun i σ' ys H' => (∃ v1 v2, σ' = [v1, v2, some (.int (M : Int))]) /\ i <= B.length /\ ys = natL ((List.range i).filter fun x => decide (goF B Pe x = M)) /\ Same H2 H')
        ⟨⟨_, _, rfl⟩, Nat.zero_le _, rfl, Same.refl _⟩ (fun i σ' ys H' _ q => SqL.of (q.2.2.2 _ _ hg2)) (fun i σ' ys H' q => ?_) ?_ ?_⟩
      · rw [q.2.2.1, natL_len]
        refine small1000 (Nat.le_trans (List.length_filter_le _ _) ?_)
        rw [List.length_range]
        have := q.2.1
        omega
      · rintro i v t σ' ys H3 hi ⟨⟨v1, v2, rfl⟩, _, rfl, s3⟩ ht
        obtain ⟨q, eq, rfl⟩ := natL_get hi
        rw [List.getElem?_map, Option.map_eq_some_iff] at eq
        obtain ⟨y, ey, rfl⟩ := eq
        have hi' := (List.getElem?_eq_some_iff.mp ey).1
        rw [List.length_range] at hi'
        rw [List.getElem?_range hi'] at ey
        cases ey
        have st := s3.updr (o := .tup [.int (i : Int), .int ((goF B Pe i : Nat) : Int)]) ht
        refine ⟨t, _, rfl, SqT.of upd_same, rfl, _, _, rfl, _, _, rfl, rfl, ?_⟩
        refine ⟨_, rfl, _, rfl, rfl, _, rfl, ?_⟩
        rw [range_filter_succ]
        by_cases z : goF B Pe i = M
        · rw [decide_eq_true z]
          exact iteDT (vint z) ⟨_, rfl, ⟨_, _, rfl⟩, by omega, by rw [natL_snoc]; rfl, st⟩
        · rw [decide_eq_false z]
          exact iteDF (fun y => z (vint_inj y)) ⟨⟨_, _, rfl⟩, by omega, by simp, st⟩
      · rintro σ' ys H3 ⟨_, _, rfl, s3⟩ ql hql
        rw [natL_len, List.length_map, List.length_range]
        have nqH := (s2.trans s3).free hql
        have s4 := (s2.trans s3).updr (o := .lst (natL ((List.range B.length).filter fun x => decide (goF B Pe x = M)))) hql
        have hq4 : upd H3 ql (.lst (natL ((List.range B.length).filter fun x => decide (goF B Pe x = M)))) ql = some (.lst (natL ((List.range B.length).filter fun x => decide (goF B Pe x = M)))) := upd_same
        generalize upd H3 ql (.lst (natL ((List.range B.length).filter fun x => decide (goF B Pe x = M)))) = H4 at *
        refine ⟨_, rfl, wa, g, B, rfl, hw.mono s4, hg, hri, iso, hB1, h24, fun hl hs H5 hal nhl nhs s5 => ?_⟩
        have hml := marks_le B h24
        have hsl := hal.ha.length
        have s45 := s4.trans s5
        refine ⟨hl, rfl, ⟨_, SqL.of hal.ls⟩, lc_list (xs := hs.map fun h => V.ref h.1) (fun i σ' ys H' => (∃ v, σ' = [v, some (.ref pl)]) /\ i <= hs.length /\ (∃ ts : List Addr, ys = ts.map V.ref /\ Paired (fun r m => H' r = some (.tup (sideT B Pe m))) ts ((marksF B (tiesB B B.length)).take i) /\ ∀ r ∈ ts, H r = none) /\ Same H5 H')
          ⟨⟨_, rfl⟩, Nat.zero_le _, ⟨[], rfl, .nil, fun r hr => absurd hr (by simp)⟩, Same.refl _⟩ (fun i σ' ys H' _ q => SqL.of (q.2.2.2 _ _ hal.ls)) (fun i σ' ys H' q => ?_) ?_ ?_⟩
        · obtain ⟨_, hi, ⟨ts, rfl, hp', _⟩, _⟩ := q
          rw [List.length_map, hp'.length, List.length_take]
          exact small1000 (by omega)
        · rintro i x σ' ys H6 hi ⟨⟨v, rfl⟩, _, ⟨ts, rfl, hpt, hno⟩, s6⟩
          have hi' := (List.getElem?_eq_some_iff.mp hi).1
          rw [List.length_map] at hi'
          rw [List.getElem?_map, Option.map_eq_some_iff] at hi
          obtain ⟨h, eh, rfl⟩ := hi
          obtain ⟨m, em, hh⟩ := paired_at hal.ha i h eh
          have hh6 := hh.mono s6
          have s46 := s45.trans s6
          have hlen := half_len B m
          refine lcN ⟨_, rfl, _, rfl, h.1, _, 0, _, rfl, rfl, SqT.of hh6.tu, rfl, pl, h.2.1, Pe, firstH B m, rfl, s46 _ _ hp, hh6.fi, fun y hy => by rw [hPl]; exact half_lt (.inl hy), by omega, fun H7 s7 => ?_⟩
          have hh7 := hh6.mono s7
          refine ⟨_, rfl, _, rfl, h.1, _, 1, _, rfl, rfl, SqT.of hh7.tu, rfl, pl, h.2.2, Pe, secondH B m, rfl, (s46.trans s7) _ _ hp, hh7.se, fun y hy => by rw [hPl]; exact half_lt (.inr hy), by omega, fun H8 s8 => ?_⟩
          refine ⟨by show 2 <= sizeLine; decide, fun t ht => ?_⟩
          have s68 := s7.trans s8
          have sT := s68.updr (o := .tup (sideT B Pe m)) ht
          refine ⟨⟨_, rfl⟩, by omega, ⟨ts ++ [t], by rw [List.map_append]; rfl, ?_, fun r hr => ?_⟩, s6.trans sT⟩
          · rw [List.take_add_one, em]
            exact paired_append (paired_mono (fun _ _ q => sT _ _ q) hpt) (.cons upd_same .nil)
          · rcases List.mem_append.mp hr with q | q
            · exact hno r q
            · have : r = t := by simpa using q
              subst this
              exact (s46.trans s68).free ht
        · rintro σ' ys H6 ⟨_, _, ⟨ts, rfl, hpt, hno⟩, s6⟩ sl hsl6
          rw [List.length_map, hsl, List.take_length] at hpt
          have s46 := s45.trans s6
          have nslH := s46.free hsl6
          have sS := Same.new (o := .lst (ts.map V.ref)) hsl6
          have s7 := s46.trans sS
          refine ⟨_, rfl, _, rfl, _, rfl, by show 3 <= sizeLine; decide, fun t ht => ?_⟩
          have sT := Same.new (o := .tup [.int (M : Int), .ref ql, .ref sl]) ht
          have hq6 := s6 _ _ (s5 _ _ hq4)
          refine k t ql sl ts M _ ⟨upd_same, (sS.trans sT) _ _ hq6, ⟨sT _ _ upd_same, paired_mono (fun _ _ q => (sS.trans sT) _ _ q) hpt⟩, le⟩ (s7.free ht) nqH nslH hno (ne_of_none hq6 hsl6) (s7.trans sT)
end
section
variable {P : Program} {w : World} {K : PySem.W.Frag} {mg : Str -> Option Value} {base : Heap} {tMOST_PLACES : Tok} {cLam pLam : Addr}
theorem ch_div (n i : Nat) : ((ch n i : Nat) : Int) * ((n : Int) - (i : Int)) / ((i : Int) + 1) = ((ch n (i + 1) : Nat) : Int) := by
  have h := ch_step n i
  have e : ((ch n i : Nat) : Int) * ((n : Int) - (i : Int)) = ((ch n (i + 1) : Nat) : Int) * ((i : Int) + 1) := by
    have h2 : ((ch n (i + 1) : Nat) : Int) * ((i : Int) + 1) + ((ch n i : Nat) : Int) * (i : Int) = ((ch n i : Nat) : Int) * (n : Int) := by exact_mod_cast h
    rw [Int.mul_sub]
    omega
  rw [e]
  exact Int.mul_ediv_cancel _ (by omega)
def spChoice : Sp := fun vs H Q _ => ∃ n k : Nat, vs = [.int (n : Int), .int (k : Int)] /\ n <= 24 /\ k <= 24 /\ Q (.int ((ch n k : Nat) : Int)) H
theorem Cchoices (T : Txt K mg tMOST_PLACES cLam) : Callee P w K mg base 1 "choices" ["many", "picked"] spChoice := by
  refine mkCallee T.dchoices scchoices (fun _ _ _ _ _ _ us hl => match us, hl with | [_, _], _ => rfl) (fun vs H Q E h => ?_) (fun f cdv A outer s H vs Q E hr h => ?_)
  · obtain ⟨n, k, rfl, _⟩ := h; rfl
  · obtain ⟨n, k, rfl, hn, hk, q⟩ := h
    refine ⟨_, (pss_cons (ps_set (i := 2) scchoices.nd rfl (.inl rfl) pe_int) (pss_cons (ps_for PassesOwn.never rfl (pi_range1 rfl T.z_range (pa_cons (pv 1) pa_nil)) (pg_name (i := 3) scchoices.nd rfl (.inl rfl)) (pss_one (ps_set (i := 2) scchoices.nd rfl (.inl rfl) (pe_op op_fdiv (pe_op op_mul (pv 2) (pe_op op_sub (pv 0) (pv 3))) (pe_op op_add (pv 3) pe_int))))) (pss_one (ps_ret (pv 2))))), ?_⟩
    refine ⟨_, rfl, (k : Int), rfl, by omega, by omega, for_range0 (n := k) (Pv := fun i σ H' => (∃ v3, σ = [some (.int (n : Int)), some (.int (k : Int)), some (.int ((ch n i : Nat) : Int)), v3]) /\ i <= k /\ H' = H)
      ⟨⟨_, by rw [ch_zero]; rfl⟩, Nat.zero_le _, rfl⟩ ?_ ?_⟩
    · rintro i σ H1 hi ⟨⟨v3, rfl⟩, _, rfl⟩
      have hb := ch_bound n i
      have hb2 : 2 ^ n <= 2 ^ 24 := Nat.pow_le_pow_right (by decide) hn
      have e24 : 2 ^ 24 = 16777216 := rfl
      refine ⟨_, rfl, _, rfl, _, rfl, _, _, rfl, rfl, _, _, rfl, rfl, .inl ⟨by omega, by omega⟩, _, rfl, _, _, rfl, rfl, _, _, rfl, rfl, ⟨by omega, by omega⟩, ⟨some (.int (i : Int)), ?_⟩, by omega, rfl⟩
      show [some (V.int (n : Int)), some (V.int (k : Int)), some (V.int (((ch n i : Nat) : Int) * ((n : Int) - (i : Int)) / ((i : Int) + 1))), some (V.int (i : Int))] = _
      rw [ch_div]
    · rintro σ H1 ⟨⟨v3, rfl⟩, _, rfl⟩
      exact ⟨_, rfl, q⟩
def nrF (B : List Nat) (g : List (List Nat)) (x : Nat) : Nat := ((g.getD x []).filter fun z => decide (ud (B.getD 0 0) (B.getD z 0) < ud (B.getD 0 0) (B.getD x 0))).length
def csF (B : List Nat) (g : List (List Nat)) (d : Nat) : Nat := ((List.range B.length).map fun x => ch (nrF B g x) d).sum
def spCC : Sp := fun vs H Q _ => ∃ (wa : Addr) (g : List (List Nat)) (B : List Nat), vs = [.ref wa] /\ WebAt H wa g /\ IsWeb g B /\ Iso B /\ Rising g /\ 1 <= B.length /\ B.length <= 24 /\
  ∀ l M H', (∃ x, x < B.length /\ nrF B g x = M) -> (∀ x, x < B.length -> nrF B g x <= M) -> H l = none -> H' l = some (.lst (natL ((List.range (M + 1)).map (csF B g)))) -> Same H H' -> Q (.ref l) H'
theorem Ccube_counts (T : Txt K mg tMOST_PLACES cLam) : Callee P w K mg base 2 "cube_counts" ["web"] spCC := by
  have Cfars_from := Cfars_from (P := P) (w := w) (base := base) T
  have Cchoices := Cchoices (P := P) (w := w) (base := base) T
  refine mkCallee T.dcube_counts sccube_counts (fun _ _ _ _ _ _ us hl => match us, hl with | [_], _ => rfl) (fun vs H Q E h => ?_) (fun f cdv A outer s H vs Q E hr h => ?_)
  · obtain ⟨wa, g, B, rfl, _⟩ := h; rfl
  · obtain ⟨wa, g, B, rfl, hw, hg, iso, hri, hB1, h24, k⟩ := h
    obtain ⟨ws, hws, hwl, hrow⟩ := hw.row
    have gl := hg.1
    have hwl' : ws.length = B.length := by omega
    have rl : ∀ x, (g.getD x []).length <= 24 := fun x => by
      have := nodup_lt_len B.length (g.getD x []) ((hri x).imp fun h => Nat.ne_of_lt h) fun y hy => ((hg.2 x y).mp hy).2.1
      omega
    have nr24 : ∀ x, nrF B g x <= 24 := fun x => Nat.le_trans (List.length_filter_le _ _) (rl x)
    refine ⟨_, (pss_cons (ps_set (i := 1) sccube_counts.nd rfl (.inr rfl) (pe_fn Cfars_from hr rfl (pa_cons (pv 0) (pa_cons pe_int pa_nil)))) (pss_cons (ps_set (i := 2) sccube_counts.nd rfl (.inr rfl) (pe_lcC (NB := ["x", "web", "from_first"]) (nt := 1) (fr := [0, 1]) rfl (by kernel_rfl) (pi_range1 rfl T.z_range (pa_cons (pe_callB (lenq (K := K) rfl) rfl T.z_len bt_len (pa_cons (pv 0) pa_nil)) pa_nil)) (fun _ _ _ _ _ => (pg_name (i := 0) (show List.Nodup (["x", "web", "from_first"] : List Str) by decide +kernel) rfl (by first | exact Or.inl rfl | exact Or.inr rfl))) (fun _ _ _ _ _ => pts_nil) (fun _ _ _ _ _ => (pe_callB (lenq (K := K) rfl) rfl T.z_len bt_len (pa_cons (pe_lc (NB := ["other", "x", "from_first"]) (nt := 1) (fr := [0, 2]) rfl (by kernel_rfl) (pit (K := K) rfl (pe_ix (ixt (K := K) rfl) (pv 1) (pv 0) (fun _ _ => rfl))) (fun _ _ _ _ _ => (pg_name (i := 0) (show List.Nodup (["other", "x", "from_first"] : List Str) by decide +kernel) rfl (.inl rfl))) (fun _ _ _ _ _ => (pts_one (pt_cmpR op_lt (pe_ix (ixl (K := K) rfl) (pv 2) (pv 0) (fun _ _ => rfl)) (pe_ix (ixl (K := K) rfl) (pv 2) (pv 1) (fun _ _ => rfl)) (nomark _)))) (fun _ _ _ _ _ => (pv 0))) pa_nil))))) (pss_one (ps_ret (pe_lcC (NB := ["size", "nearer"]) (nt := 1) (fr := [2]) rfl (by kernel_rfl) (pi_range1 rfl T.z_range (pa_cons (pe_op op_add (pe_callB (maxq (K := K) rfl) rfl T.z_max bt_max (pa_cons (pv 2) pa_nil)) pe_int) pa_nil)) (fun _ _ _ _ _ => (pg_name (i := 0) (show List.Nodup (["size", "nearer"] : List Str) by decide +kernel) rfl (by first | exact Or.inl rfl | exact Or.inr rfl))) (fun _ _ _ _ _ => pts_nil) (fun _ _ _ _ _ => (pe_callB (sumq (K := K) rfl) rfl T.z_sum bt_sum (pa_cons (pe_lc (NB := ["many", "size"]) (nt := 1) (fr := [0]) rfl (by kernel_rfl) (pil (K := K) rfl (pv 1)) (fun _ _ _ _ _ => (pg_name (i := 0) (show List.Nodup (["many", "size"] : List Str) by decide +kernel) rfl (.inl rfl))) (fun _ _ _ _ _ => pts_nil) (fun _ _ _ _ _ => (pe_fn Cchoices hr rfl (pa_cons (pv 0) (pa_cons (pv 1) pa_nil))))) pa_nil)))))))), ?_⟩
    refine ⟨_, rfl, wa, 0, g, rfl, hw, hg.inn, by omega, by omega, fun ff H1 nff hff s1 => ?_⟩
    refine ⟨_, rfl, wa, ws, rfl, .inr (SqT.of (s1 _ _ hws)), ((B.length : Nat) : Int), congrArg (fun z => [V.int ((z : Nat) : Int)]) hwl', by omega, by omega, lc_range0 (n := B.length) (Pv := fun i σ' ys H' => (∃ v, σ' = [v, some (.ref wa), some (.ref ff)]) /\ i <= B.length /\ ys = natL ((List.range i).map (nrF B g)) /\ Same H1 H')
      ⟨⟨_, rfl⟩, Nat.zero_le _, rfl, Same.refl _⟩ (fun i σ' ys H' q => ?_) ?_ ?_⟩
    · rw [q.2.2.1, natL_len, List.length_map, List.length_range]
      have := q.2.1
      exact small1000 (by omega)
    · rintro i σ' ys H2 hi ⟨⟨v, rfl⟩, _, rfl, s2⟩
      obtain ⟨ra, era, hra⟩ := hrow i (by omega)
      have s12 := s1.trans s2
      have hff2 := s2 _ _ hff
      refine lcN ⟨_, rfl, _, rfl, wa, _, _, _, rfl, rfl, SqT.of (s12 _ _ hws), era, ra, rfl, ⟨_, SqT.of (s12 _ _ hra)⟩, lc_tup (xs := natL (g.getD i [])) (fun j σ' ys H' => (∃ v, σ' = [v, some (.int (i : Int)), some (.ref ff)]) /\ ys = natL (((g.getD i []).take j).filter fun z => decide (ud (B.getD 0 0) (B.getD z 0) < ud (B.getD 0 0) (B.getD i 0))) /\ H' = H2)
        ⟨⟨_, rfl⟩, rfl, rfl⟩ (fun j σ' ys H' _ q => by rw [q.2.2]; exact SqT.of (s12 _ _ hra)) (fun j σ' ys H' q => ?_) ?_ ?_⟩
      · rw [q.2.1, natL_len]
        have := rl i
        refine small1000 (Nat.le_trans (List.length_filter_le _ _) ?_)
        rw [List.length_take]
        omega
      · rintro j x σ' ys H3 hj ⟨⟨v, rfl⟩, rfl, rfl⟩
        obtain ⟨z, ez, rfl⟩ := natL_get hj
        have hz : z < B.length := ((hg.2 i z).mp (List.mem_of_getElem? ez)).2.1
        have at1 : ∀ c, c < B.length -> atI (optL g.length (dist g 0)) (c : Int) = some (.int ((ud (B.getD 0 0) (B.getD c 0) : Nat) : Int)) := fun c hc => by
          rw [optL_at (by omega), dist_ud hg iso (by omega) hc]
          rfl
        refine ⟨_, rfl, _, rfl, ff, _, _, _, rfl, rfl, SqL.of hff2, at1 z hz, _, rfl, _, rfl, ff, _, _, _, rfl, rfl, SqL.of hff2, at1 i hi, _, _, rfl, rfl, _, rfl, ?_⟩
        rw [filter_take_succ ez]
        by_cases c : ud (B.getD 0 0) (B.getD z 0) < ud (B.getD 0 0) (B.getD i 0)
        · rw [decide_eq_true c]
          exact iteDT (by omega) ⟨_, rfl, ⟨_, rfl⟩, by rw [natL_snoc]; rfl, rfl⟩
        · rw [decide_eq_false c]
          exact iteDF (by omega) ⟨⟨_, rfl⟩, by simp, rfl⟩
      · rintro σ' ys H3 ⟨_, rfl, rfl⟩ D hD
        rw [natL_len, List.take_length]
        refine ⟨D, _, rfl, .inl (SqL.of upd_same), ?_⟩
        rw [natL_len]
        refine ⟨⟨_, rfl⟩, by omega, ?_, s2.updr hD⟩
        rw [range_map_succ]
        exact natL_snoc _ _
    rintro σ' ys H2 ⟨_, _, rfl, s2⟩ N hN
    have sN := s2.updr (o := .lst (natL ((List.range B.length).map (nrF B g)))) hN
    have eN : upd H2 N (.lst (natL ((List.range B.length).map (nrF B g)))) N = some (.lst (natL ((List.range B.length).map (nrF B g)))) := upd_same
    generalize upd H2 N (.lst (natL ((List.range B.length).map (nrF B g)))) = H3 at *
    have asL : ∀ {l : List Nat} {a : Addr} {H : Hp}, H a = some (.lst (natL l)) -> SqL K H a ((l.map Int.ofNat).map V.int) := fun {l a H} h => by rw [<- natL_ints]; exact SqL.of h
    refine ⟨_, rfl, N, ((List.range B.length).map (nrF B g)).map Int.ofNat, rfl, asL eN, ?_, fun M hM hmax => ?_⟩
    · intro z
      have := congrArg List.length z
      rw [List.length_map, List.length_map, List.length_range, List.length_nil] at this
      omega
    obtain ⟨m, hm, rfl⟩ := List.mem_map.mp hM
    obtain ⟨x0, hx0, ex0⟩ := List.mem_map.mp hm
    have hx0' := List.mem_range.mp hx0
    have hall : ∀ x, x < B.length -> nrF B g x <= m := fun x hx => by
      have := hmax _ (List.mem_map_of_mem (List.mem_map_of_mem (List.mem_range.mpr hx)))
      simpa using this
    have m24 : m <= 24 := by rw [<- ex0]; exact nr24 x0
    refine ⟨_, _, rfl, rfl, ((m + 1 : Nat) : Int), rfl, by omega, by omega, lc_range0 (n := m + 1) (Pv := fun i σ' ys H' => (∃ v, σ' = [v, some (.ref N)]) /\ i <= m + 1 /\ ys = natL ((List.range i).map (csF B g)) /\ Same H3 H')
      ⟨⟨_, rfl⟩, Nat.zero_le _, rfl, Same.refl _⟩ (fun i σ' ys H' q => ?_) ?_ ?_⟩
    · rw [q.2.2.1, natL_len, List.length_map, List.length_range]
      have := q.2.1
      exact small1000 (by omega)
    · rintro i σ' ys H4 hi ⟨⟨v, rfl⟩, _, rfl, s4⟩
      have eN4 := s4 _ _ eN
      refine lcN ⟨_, rfl, N, rfl, ⟨_, SqL.of eN4⟩, lc_list (xs := natL ((List.range B.length).map (nrF B g))) (fun j σ' ys H' => (∃ v, σ' = [v, some (.int (i : Int))]) /\ ys = natL ((((List.range B.length).map (nrF B g)).take j).map fun n => ch n i) /\ H' = H4)
        ⟨⟨_, rfl⟩, rfl, rfl⟩ (fun j σ' ys H' _ q => by rw [q.2.2]; exact SqL.of eN4) (fun j σ' ys H' q => ?_) ?_ ?_⟩
      · rw [q.2.1, natL_len, List.length_map, List.length_take, List.length_map, List.length_range]
        exact small1000 (by omega)
      · rintro j x σ' ys H5 hj ⟨⟨v, rfl⟩, rfl, rfl⟩
        obtain ⟨z, ez, rfl⟩ := natL_get hj
        have hz : z <= 24 := by
          obtain ⟨x, _, rfl⟩ := List.mem_map.mp (List.mem_of_getElem? ez)
          exact nr24 x
        refine lcN ⟨_, rfl, _, rfl, z, i, rfl, hz, by omega, ⟨_, rfl⟩, ?_, rfl⟩
        rw [List.take_add_one, ez, List.map_append]
        exact natL_snoc _ _
      · rintro σ' ys H5 ⟨_, rfl, rfl⟩ D hD
        rw [natL_len, List.take_length]
        refine ⟨D, _, rfl, SqL.of (by rw [upd_same, natL_ints]), ?_⟩
        rw [sum_nat, List.map_map]
        refine ⟨⟨_, rfl⟩, by omega, ?_, s4.updr hD⟩
        rw [range_map_succ]
        exact natL_snoc _ _
    · rintro σ' ys H4 ⟨_, _, rfl, s4⟩ D hD
      have s14 := (s1.trans sN).trans s4
      exact k D m _ ⟨x0, hx0', ex0⟩ hall (s14.free hD) upd_same (s14.updr hD)
end
section
variable {P : Program} {w : World} {K : PySem.W.Frag} {mg : Str -> Option Value} {base : Heap} {tMOST_PLACES : Tok} {cLam pLam : Addr}
abbrev ofI (l : List Nat) : List Int := l.map Int.ofNat
def mnL (f s : List Nat) : List Nat := if HT.lexLt (ofI s) (ofI f) = true then s else f
def mxL (f s : List Nat) : List Nat := if HT.lexLt (ofI f) (ofI s) = true then s else f
theorem ofI_inj {f s : List Nat} (h : ofI f = ofI s) : f = s := by
  have := congrArg (List.map Int.toNat) h
  rw [List.map_map, List.map_map] at this
  have e : (Int.toNat ∘ Int.ofNat) = id := rfl
  rw [e, List.map_id, List.map_id] at this
  exact this
theorem mm_comm (f s : List Nat) : (mnL f s, mxL f s) = (mnL s f, mxL s f) := by
  unfold mnL mxL
  cases z : HT.lexLt (ofI f) (ofI s) with
  | true =>
    cases y : HT.lexLt (ofI s) (ofI f) with
    | true => have := lex_tr z y; rw [lex_irr] at this; cases this
    | false => rfl
  | false =>
    cases y : HT.lexLt (ofI s) (ofI f) with
    | true => rfl
    | false => rw [ofI_inj (lex_tri z y)]
def prI (v : List Nat × List Nat) : List Int × List Int := (ofI v.1, ofI v.2)
def PcAt (H : Hp) (n r : Addr) (v : List Nat × List Nat) : Prop := ∃ f g, H r = some (.tup [.ref f, .ref g]) /\ H f = some (.lst (natL v.1)) /\ H g = some (.lst (natL v.2)) /\ f ≠ n /\ g ≠ n
theorem PcAt.mono {H H' : Hp} {n r : Addr} {v : List Nat × List Nat} (h : PcAt H n r v) (s : Same H H') : PcAt H' n r v := by
  obtain ⟨f, g, h1, h2, h3, h4⟩ := h
  exact ⟨f, g, s _ _ h1, s _ _ h2, s _ _ h3, h4⟩
theorem PcAt.put {H : Hp} {n r : Addr} {v : List Nat × List Nat} {xs ys : List V} (h : PcAt H n r v) (hn : H n = some (.lst xs)) : PcAt (upd H n (.lst ys)) n r v := by
  obtain ⟨f, g, h1, h2, h3, h4, h5⟩ := h
  exact ⟨f, g, by rw [upd_ne (by rintro rfl; rw [hn] at h1; cases h1)]; exact h1, by rw [upd_ne h4]; exact h2, by rw [upd_ne h5]; exact h3, h4, h5⟩
theorem paired_maps {α β : Type} {F : α -> β -> Prop} {f : Nat -> α} {g : Nat -> β} : ∀ {ps : List Nat}, (∀ i ∈ ps, F (f i) (g i)) -> Paired F (ps.map f) (ps.map g)
  | [], _ => .nil
  | i :: ps, h => .cons (h i List.mem_cons_self) (paired_maps fun j hj => h j (List.mem_cons_of_mem _ hj))
structure PcsAt (H : Hp) (l n : Addr) (qs : List Addr) (vs : List (List Nat × List Nat)) : Prop where
  ls : H l = some (.lst (qs.map V.ref))
  at_ : Paired (PcAt H n) qs vs
theorem PcsAt.two {H : Hp} {l n : Addr} {qs : List Addr} {vs : List (List Nat × List Nat)} (h : PcsAt H l n qs vs) : ∃ fa ga : Nat -> Addr, ∀ i, i < qs.length -> H (qs.getD i 0) = some (.tup [.ref (fa i), .ref (ga i)]) /\ H (fa i) = some (.lst (natL (vs.getD i ([], [])).1)) /\ H (ga i) = some (.lst (natL (vs.getD i ([], [])).2)) := by
  have : ∀ i, ∃ p : Addr × Addr, i < qs.length -> H (qs.getD i 0) = some (.tup [.ref p.1, .ref p.2]) /\ H p.1 = some (.lst (natL (vs.getD i ([], [])).1)) /\ H p.2 = some (.lst (natL (vs.getD i ([], [])).2)) := fun i => by
    by_cases hi : i < qs.length
    · obtain ⟨v, ev, f, g, h1, h2, h3, _⟩ := paired_at h.at_ i qs[i] (List.getElem?_eq_getElem hi)
      refine ⟨(f, g), fun _ => ?_⟩
      rw [List.getD_eq_getElem?_getD, List.getElem?_eq_getElem hi, List.getD_eq_getElem?_getD, ev]
      exact ⟨h1, h2, h3⟩
    · exact ⟨(0, 0), fun z => absurd z hi⟩
  obtain ⟨F, hF⟩ := Classical.axiomOfChoice this
  exact ⟨fun i => (F i).1, fun i => (F i).2, hF⟩
def UpTo (n : Nat) (O L R : List Nat) : Prop := R.Pairwise (· < ·) /\ ∀ y, y ∈ (L.map fun x => O.getD x 0) ↔ y ∈ R
def spPcs : Sp := fun vs H Q _ => ∃ (cl ol : Addr) (B O : List Nat) (hs : List (Addr × Addr × Addr)) (ms : List Nat) (F S : Nat -> List Nat), vs = [.ref cl, .ref ol] /\ HalvesAt H B cl hs ms /\ H ol = some (.lst (natL O)) /\ O.length = B.length /\ O.Nodup /\ B.length <= 24 /\ ms.length < 64 /\
  (∀ m ∈ ms, UpTo B.length O (firstH B m) (F m) /\ UpTo B.length O (secondH B m) (S m)) /\
  ∀ l n qs us H', H l = none -> PcsAt H' l n qs us -> us.Perm (ms.map fun m => (mnL (F m) (S m), mxL (F m) (S m))) -> us.Pairwise (fun a b => ltPr (prI b) (prI a) = false) -> Same H H' -> Q (.ref l) H'
theorem halfs_nd (B : List Nat) (m : Nat) : (firstH B m).Nodup /\ (secondH B m).Nodup := ⟨List.nodup_range.filter _, List.nodup_range.filter _⟩
theorem nd_map {O L : List Nat} {n : Nat} (hO : O.Nodup) (hl : O.length = n) (h : ∀ x ∈ L, x < n) (nd : L.Nodup) : (L.map fun x => O.getD x 0).Nodup := by
  rw [List.nodup_iff_pairwise_ne, List.pairwise_map]
  rw [List.nodup_iff_pairwise_ne] at nd
  refine List.Pairwise.imp_of_mem ?_ nd
  intro a b ha hb ne e
  exact ne (getD_inj hO (by rw [hl]; exact h a ha) (by rw [hl]; exact h b hb) e)
theorem C_law_pieces (T : Txt K mg tMOST_PLACES cLam) : Callee P w K mg base 2 "_law_pieces" ["_law_cuts", "_law_order"] spPcs := by
  refine mkCallee T.d_law_pieces sc_law_pieces (fun _ _ _ _ _ _ us hl => match us, hl with | [_, _], _ => rfl) (fun vs H Q E h => ?_) (fun f cdv A outer s H vs Q E hr h => ?_)
  · obtain ⟨cl, ol, B, O, hs, ms, F, S, rfl, _⟩ := h; rfl
  · obtain ⟨cl, ol, B, O, hs, ms, F, S, rfl, hal, hol, hOl, hOn, h24, h64, hFS, k⟩ := h
    refine ⟨_, (pss_cons (ps_set (i := 2) sc_law_pieces.nd rfl (.inl rfl) (pe_lst pa_nil)) (pss_cons (ps_for PassesOwn.never rfl (pil (K := K) rfl (pv 0)) (pgt (K := K) (n := 2) rfl rfl (pgs_cons (pg_name (i := 3) sc_law_pieces.nd rfl (.inl rfl)) (pgs_cons (pg_name (i := 4) sc_law_pieces.nd rfl (.inl rfl)) pgs_nil))) (pss_cons (ps_set (i := 5) sc_law_pieces.nd rfl (.inl rfl) (pe_callB (sortq (K := K) rfl) rfl T.z_sorted bt_sorted (pa_cons (pe_lc (NB := ["_law_x", "_law_order"]) (nt := 1) (fr := [1]) rfl (by kernel_rfl) (pil (K := K) rfl (pv 3)) (fun _ _ _ _ _ => (pg_name (i := 0) (show List.Nodup (["_law_x", "_law_order"] : List Str) by decide +kernel) rfl (.inl rfl))) (fun _ _ _ _ _ => pts_nil) (fun _ _ _ _ _ => (pe_ix (ixl (K := K) rfl) (pv 1) (pv 0) (fun _ _ => rfl)))) pa_nil))) (pss_cons (ps_set (i := 6) sc_law_pieces.nd rfl (.inl rfl) (pe_callB (sortq (K := K) rfl) rfl T.z_sorted bt_sorted (pa_cons (pe_lc (NB := ["_law_x", "_law_order"]) (nt := 1) (fr := [1]) rfl (by kernel_rfl) (pil (K := K) rfl (pv 4)) (fun _ _ _ _ _ => (pg_name (i := 0) (show List.Nodup (["_law_x", "_law_order"] : List Str) by decide +kernel) rfl (.inl rfl))) (fun _ _ _ _ _ => pts_nil) (fun _ _ _ _ _ => (pe_ix (ixl (K := K) rfl) (pv 1) (pv 0) (fun _ _ => rfl)))) pa_nil))) (pss_one (ps_expr (bm (K := K) rfl PySem.F.plainAttrs_list PySem.F.slot_list_append PySem.F.type_list_append mt_append (pv 2) (pa_cons (pe_tup (pa_cons (pe_callB (min2Lq (K := K) rfl hr rfl) rfl T.z_min bt_min (pa_cons (pv 5) (pa_cons (pv 6) pa_nil))) (pa_cons (pe_callB (max2Lq (K := K) rfl hr rfl) rfl T.z_max bt_max (pa_cons (pv 5) (pa_cons (pv 6) pa_nil))) pa_nil))) pa_nil))))))) (pss_one (ps_ret (pe_callB (sortTLq (K := K) rfl hr) rfl T.z_sorted bt_sorted (pa_cons (pv 2) pa_nil)))))), ?_⟩
    have hhl := hal.ha.length
    refine ⟨by show 0 <= sizeLine; decide, fun fl hfl => ?_⟩
    have s0 := Same.new (o := .lst []) hfl
    refine ⟨_, rfl, cl, rfl, ⟨_, SqL.of (s0 _ _ hal.ls)⟩, for_list (xs := hs.map fun h => V.ref h.1) (fun i σ H' => (∃ v3 v4 v5 v6, σ = [some (.ref cl), some (.ref ol), some (.ref fl), v3, v4, v5, v6]) /\ i <= hs.length /\ (∃ qs, PcsAt H' fl fl qs ((ms.take i).map fun m => (mnL (F m) (S m), mxL (F m) (S m)))) /\ Same H H')
      ⟨⟨_, _, _, _, rfl⟩, Nat.zero_le _, ⟨[], upd_same, .nil⟩, s0⟩ (fun i σ H' _ q => SqL.of (q.2.2.2 _ _ hal.ls)) ?_ ?_⟩
    · rintro i x σ H1 hi ⟨⟨v3, v4, v5, v6, rfl⟩, _, ⟨qs, hqs⟩, s1⟩
      have hi' := (List.getElem?_eq_some_iff.mp hi).1
      rw [List.length_map] at hi'
      rw [List.getElem?_map, Option.map_eq_some_iff] at hi
      obtain ⟨h, eh, rfl⟩ := hi
      obtain ⟨m, em, hh⟩ := paired_at hal.ha i h eh
      obtain ⟨uF, uS⟩ := hFS m (List.mem_of_getElem? em)
      have hh1 := hh.mono s1
      have hlen := half_len B m
      obtain ⟨nd1, nd2⟩ := halfs_nd B m
      refine ⟨h.1, _, rfl, SqT.of hh1.tu, rfl, _, _, rfl, _, _, rfl, rfl, ?_⟩
      generalize hL1 : firstH B m = L1 at *
      generalize hL2 : secondH B m = L2 at *
      have lt1 : ∀ y ∈ L1, y < B.length := fun y hy => by rw [<- hL1] at hy; exact half_lt (m := m) (.inl hy)
      have lt2 : ∀ y ∈ L2, y < B.length := fun y hy => by rw [<- hL2] at hy; exact half_lt (m := m) (.inr hy)
      have L1h := hh1.fi
      rw [hL1] at L1h
      refine ⟨_, rfl, h.2.1, rfl, ⟨_, SqL.of L1h⟩, lc_list (xs := natL L1) (fun i σ' ys H' => (∃ v, σ' = [v, some (.ref ol)]) /\ i <= L1.length /\ ys = natL ((L1.take i).map fun x => O.getD x 0) /\ H1 = H')
        ⟨⟨_, rfl⟩, Nat.zero_le _, rfl, rfl⟩ (fun i σ' ys H' _ q => by rw [<- q.2.2.2]; exact SqL.of L1h) (fun i σ' ys H' q => ?_) ?_ ?_⟩
      · rw [q.2.2.1, natL_len, List.length_map, List.length_take]
        exact small1000 (by omega)
      · rintro i v σ' ys H' hi ⟨⟨v1, rfl⟩, _, rfl, rfl⟩
        obtain ⟨y, ey, rfl⟩ := natL_get hi
        refine lcN ⟨_, rfl, _, rfl, ol, _, _, _, rfl, rfl, SqL.of (s1 _ _ hol), natL_getD (by rw [hOl]; exact lt1 y (List.mem_of_getElem? ey)), ⟨_, rfl⟩, (List.getElem?_eq_some_iff.mp ey).1, ?_, rfl⟩
        rw [List.take_add_one, ey, List.map_append]
        exact natL_snoc _ _
      · rintro σ' ys H' ⟨_, _, rfl, rfl⟩ D1 hD1
        rw [natL_len, List.take_length]
        have sA := Same.new (o := .lst (natL (L1.map fun x => O.getD x 0))) hD1
        refine ⟨D1, _, rfl, SqL.of (by rw [upd_same, natL_ints]), by rw [List.length_map, List.length_map]; omega, fun l1 m1 hp1 hs1 hl1 => ?_⟩
        rw [sort_to hp1 hs1 (nd_map hOn hOl lt1 nd1) uF.1 uF.2, <- natL_ints]
        have sB := sA.updr (o := .lst (natL (F m))) hl1
        have hf2 : upd (upd H1 D1 (.lst (natL (L1.map fun x => O.getD x 0)))) l1 (.lst (natL (F m))) l1 = some (.lst (natL (F m))) := upd_same
        have s2 := s1.trans sB
        have hq2 := sB _ _ hqs.ls
        generalize upd (upd H1 D1 (.lst (natL (L1.map fun x => O.getD x 0)))) l1 (.lst (natL (F m))) = H2 at *
        have L2h := (hh.mono s2).se
        rw [hL2] at L2h
        refine ⟨_, rfl, h.2.2, rfl, ⟨_, SqL.of L2h⟩, lc_list (xs := natL L2) (fun i σ' ys H' => (∃ v, σ' = [v, some (.ref ol)]) /\ i <= L2.length /\ ys = natL ((L2.take i).map fun x => O.getD x 0) /\ H2 = H')
          ⟨⟨_, rfl⟩, Nat.zero_le _, rfl, rfl⟩ (fun i σ' ys H' _ q => by rw [<- q.2.2.2]; exact SqL.of L2h) (fun i σ' ys H' q => ?_) ?_ ?_⟩
        · rw [q.2.2.1, natL_len, List.length_map, List.length_take]
          exact small1000 (by omega)
        · rintro i v σ' ys H' hi ⟨⟨v1, rfl⟩, _, rfl, rfl⟩
          obtain ⟨y, ey, rfl⟩ := natL_get hi
          refine lcN ⟨_, rfl, _, rfl, ol, _, _, _, rfl, rfl, SqL.of (s2 _ _ hol), natL_getD (by rw [hOl]; exact lt2 y (List.mem_of_getElem? ey)), ⟨_, rfl⟩, (List.getElem?_eq_some_iff.mp ey).1, ?_, rfl⟩
          rw [List.take_add_one, ey, List.map_append]
          exact natL_snoc _ _
        · rintro σ' ys H' ⟨_, _, rfl, rfl⟩ D2 hD2
          rw [natL_len, List.take_length]
          have sA2 := Same.new (o := .lst (natL (L2.map fun x => O.getD x 0))) hD2
          refine ⟨D2, _, rfl, SqL.of (by rw [upd_same, natL_ints]), by rw [List.length_map, List.length_map]; omega, fun l2 m2 hp2 hs2 hl2 => ?_⟩
          rw [sort_to hp2 hs2 (nd_map hOn hOl lt2 nd2) uS.1 uS.2, <- natL_ints]
          have sB2 := sA2.updr (o := .lst (natL (S m))) hl2
          have hg3 : upd (upd H2 D2 (.lst (natL (L2.map fun x => O.getD x 0)))) l2 (.lst (natL (S m))) l2 = some (.lst (natL (S m))) := upd_same
          have hf3 := sB2 _ _ hf2
          have s3 := s2.trans sB2
          have hq3 := sB2 _ _ hq2
          have at3 := paired_mono (fun _ _ q => q.mono (sB.trans sB2)) hqs.at_
          generalize upd (upd H2 D2 (.lst (natL (L2.map fun x => O.getD x 0)))) l2 (.lst (natL (S m))) = H3 at *
          refine ⟨_, rfl, .inl ⟨rfl, _, SqL.of hq3⟩, _, rfl, _, rfl, l1, l2, ofI (F m), ofI (S m), rfl, SqL.of (by rw [<- natL_ints]; exact hf3), SqL.of (by rw [<- natL_ints]; exact hg3), ?_⟩
          refine ⟨_, rfl, _, rfl, l1, l2, ofI (F m), ofI (S m), rfl, SqL.of (by rw [<- natL_ints]; exact hf3), SqL.of (by rw [<- natL_ints]; exact hg3), ?_⟩
          refine ⟨by show 2 <= sizeLine; decide, fun t ht => ?_⟩
          have sT := Same.new (o := .tup [.ref (if HT.lexLt (ofI (S m)) (ofI (F m)) = true then l2 else l1), .ref (if HT.lexLt (ofI (F m)) (ofI (S m)) = true then l2 else l1)]) ht
          have hq4 := sT _ _ hq3
          have n1 : l1 ≠ fl := (ne_of_none hqs.ls ((Same.new hD1).free hl1)).symm
          have n2 : l2 ≠ fl := (ne_of_none hq2 ((Same.new hD2).free hl2)).symm
          have hlq := hqs.at_.length
          rw [List.length_map, List.length_take] at hlq
          refine ⟨fl, _, _, rfl, rfl, hq4, by rw [List.length_map]; exact small1000 (by omega), ⟨_, _, _, _, rfl⟩, by omega, ⟨qs ++ [t], by rw [upd_same, List.map_append]; rfl, ?_⟩, (s3.trans sT).of_upd hfl⟩
          rw [List.take_add_one, em, List.map_append]
          refine paired_append (paired_mono (fun _ _ q => (q.mono sT).put hq4) at3) (.cons (PcAt.put ?_ hq4) .nil)
          refine ⟨_, _, upd_same, ?_, ?_, ?_, ?_⟩
          · refine sT _ _ ?_
            show H3 (if _ = true then l2 else l1) = some (.lst (natL (mnL (F m) (S m))))
            unfold mnL
            split
            · exact hg3
            · exact hf3
          · refine sT _ _ ?_
            show H3 (if _ = true then l2 else l1) = some (.lst (natL (mxL (F m) (S m))))
            unfold mxL
            split
            · exact hg3
            · exact hf3
          · split <;> assumption
          · split <;> assumption
    · rintro σ H1 ⟨⟨v3, v4, v5, v6, rfl⟩, _, ⟨qs, hqs⟩, s1⟩
      rw [List.length_map, hhl, List.take_length] at hqs
      have hlq := hqs.at_.length
      rw [List.length_map] at hlq
      obtain ⟨fa, ga, hfg⟩ := hqs.two
      refine ⟨_, rfl, fl, qs, fa, ga, fun i => prI ((ms.map fun m => (mnL (F m) (S m), mxL (F m) (S m))).getD i ([], [])), rfl, SqL.of hqs.ls, by omega, fun i hi => ?_, fun l ps hps hpw hl => ?_⟩
      · obtain ⟨h1, h2, h3⟩ := hfg i hi
        exact ⟨SqT.of h1, by rw [natL_ints] at h2; exact h2, by rw [natL_ints] at h3; exact h3⟩
      · have sL := Same.new (o := .lst (ps.map fun i => V.ref (qs.getD i 0))) hl
        have lt : ∀ i ∈ ps, i < qs.length := fun i hi => List.mem_range.mp (hps.mem_iff.mp hi)
        refine k l fl (ps.map fun i => qs.getD i 0) (ps.map fun i => (ms.map fun m => (mnL (F m) (S m), mxL (F m) (S m))).getD i ([], [])) _ (s1.free hl) ⟨by rw [upd_same, List.map_map]; rfl, ?_⟩ ?_ ?_ (s1.trans sL)
        · refine paired_maps fun i hi => ?_
          have hi := lt i hi
          obtain ⟨v, ev, hv⟩ := paired_at hqs.at_ i qs[i] (List.getElem?_eq_getElem hi)
          have hv' := hv.mono sL
          rw [List.getD_eq_getElem?_getD, List.getElem?_eq_getElem hi, List.getD_eq_getElem?_getD, ev]
          exact hv'
        · have := hps.map fun i => (ms.map fun m => (mnL (F m) (S m), mxL (F m) (S m))).getD i ([], [])
          rw [hlq, show ms.length = (ms.map fun m => (mnL (F m) (S m), mxL (F m) (S m))).length by rw [List.length_map], map_getD_range] at this
          exact this
        · rw [List.pairwise_map]; exact hpw
end
section
variable {P : Program} {w : World} {K : PySem.W.Frag} {mg : Str -> Option Value} {base : Heap} {tMOST_PLACES : Tok} {cLam pLam : Addr}
structure Two (H : Hp) (wa wb ol : Addr) (g g' : List (List Nat)) (B C O : List Nat) : Prop where
  wa : WebAt H wa g
  ga : IsWeb g B
  ra : Rising g
  wb : WebAt H wb g'
  gb : IsWeb g' C
  rb : Rising g'
  mv : Mv B C O
  ol : H ol = some (.lst (natL O))
  med : Med B
  h1 : 1 <= B.length
  h2 : B.length <= 24
theorem Two.mono {H H' : Hp} {wa wb ol : Addr} {g g' : List (List Nat)} {B C O : List Nat} (h : Two H wa wb ol g g' B C O) (s : Same H H') : Two H' wa wb ol g g' B C O := ⟨h.wa.mono s, h.ga, h.ra, h.wb.mono s, h.gb, h.rb, h.mv, s _ _ h.ol, h.med, h.h1, h.h2⟩
theorem Two.nd {H : Hp} {wa wb ol : Addr} {g g' : List (List Nat)} {B C O : List Nat} (h : Two H wa wb ol g g' B C O) : O.Nodup := h.mv.pm.nodup_iff.mpr List.nodup_range
def hfO (C O : List Nat) (m : Nat) : List Nat := (List.range C.length).filter fun y => sideB C m y == sideB C m (O.getD 0 0)
def hsO (C O : List Nat) (m : Nat) : List Nat := (List.range C.length).filter fun y => !(sideB C m y == sideB C m (O.getD 0 0))
theorem rngV_natL (n : Nat) : rngV n = natL (List.range n) := rfl
theorem side_0 (B : List Nat) (m : Nat) : sideB B m 0 = true := by unfold sideB; exact decide_eq_true rfl
theorem up_range {n : Nat} {p : Nat -> Bool} : ((List.range n).filter p).Pairwise (· < ·) := List.Pairwise.filter _ List.pairwise_lt_range
theorem side_O {B C O : List Nat} (h : Mv B C O) {m : Nat} (hm : pc m = 1) (hn : 1 <= B.length) {x : Nat} (hx : x < B.length) : (sideB C m (O.getD x 0) == sideB C m (O.getD 0 0)) = sideB B m x := by
  rcases h.side hm hn with q | q
  · rw [q x hx, q 0 (by omega), side_0]; cases sideB B m x <;> rfl
  · rw [q x hx, q 0 (by omega), side_0]; cases sideB B m x <;> rfl
theorem up_O {B C O : List Nat} (h : Mv B C O) {m : Nat} (hm : pc m = 1) (hn : 1 <= B.length) : UpTo B.length O (firstH B m) (hfO C O m) /\ UpTo B.length O (secondH B m) (hsO C O m) :=
  ⟨⟨up_range, h.pick fun x hx => side_O h hm hn hx⟩, ⟨up_range, h.pick fun x hx => by rw [side_O h hm hn hx]⟩⟩
theorem up_id {C L : List Nat} (hL : ∀ x ∈ L, x < C.length) (up : L.Pairwise (· < ·)) : UpTo C.length (List.range C.length) L L := by
  refine ⟨up, fun y => ?_⟩
  rw [show (L.map fun x => (List.range C.length).getD x 0) = L by
    conv => rhs; rw [<- List.map_id L]
    refine List.map_congr_left fun x hx => ?_
    rw [List.getD_eq_getElem?_getD, List.getElem?_range (hL x hx)]; rfl]
theorem mm_O (C O : List Nat) (m : Nat) : (mnL (hfO C O m) (hsO C O m), mxL (hfO C O m) (hsO C O m)) = (mnL (firstH C m) (secondH C m), mxL (firstH C m) (secondH C m)) := by
  cases z : sideB C m (O.getD 0 0) with
  | true =>
    have e1 : hfO C O m = firstH C m := List.filter_congr fun y _ => by rw [z]; cases sideB C m y <;> rfl
    have e2 : hsO C O m = secondH C m := List.filter_congr fun y _ => by rw [z]; cases sideB C m y <;> rfl
    rw [e1, e2]
  | false =>
    have e1 : hfO C O m = secondH C m := List.filter_congr fun y _ => by rw [z]; cases sideB C m y <;> rfl
    have e2 : hsO C O m = firstH C m := List.filter_congr fun y _ => by rw [z]; cases sideB C m y <;> rfl
    rw [e1, e2, mm_comm]
theorem topQ_pcs {H : Hp} {l n l' n' : Addr} {qs qs' : List Addr} {us : List (List Nat × List Nat)} (h1 : PcsAt H l n qs us) (h2 : PcsAt H l' n' qs' us) : TopQ K H (.ref l) (.ref l') true := by
  have := TopQ.lsts (K := K) (H := H) (n := 2) (e := fun _ => true) (by decide) (SqL.of h1.ls) (SqL.of h2.ls) (by rw [List.length_map, List.length_map, h1.at_.length, h2.at_.length]) fun j x y hx hy => by
    rw [List.getElem?_map, Option.map_eq_some_iff] at hx hy
    obtain ⟨r, er, rfl⟩ := hx
    obtain ⟨q, eq, rfl⟩ := hy
    obtain ⟨v1, e1, f, g, a1, a2, a3, _⟩ := paired_at h1.at_ j r er
    obtain ⟨v2, e2, f', g', b1, b2, b3, _⟩ := paired_at h2.at_ j q eq
    rw [e1] at e2
    cases e2
    by_cases e : r = q
    · subst e; exact .same
    · have := EqQ.tups (K := K) (H := H) (n := 1) (e := fun _ => true) e (SqT.of a1) (SqT.of b1) fun j x y hx hy => by
        match j, hx, hy with
        | 0, hx, hy => cases hx; cases hy; exact eqQ_natL a2 b2
        | 1, hx, hy => cases hx; cases hy; exact eqQ_natL a3 b3
      rw [all_true] at this
      exact this
  rw [all_true] at this
  exact this
def spCuts : Sp := fun vs H Q _ => ∃ (wa wb ol : Addr) (g g' : List (List Nat)) (B C O : List Nat), vs = [.ref wa, .ref wb, .ref ol] /\ Two H wa wb ol g g' B C O /\ ∀ H', Same H H' -> Q (.bl true) H'
theorem C_law_cuts_alike (T : Txt K mg tMOST_PLACES cLam) : Callee P w K mg base 5 "_law_cuts_alike" ["_law_web", "_law_moved_web", "_law_order"] spCuts := by
  have Chalves := Chalves (P := P) (w := w) (base := base) T
  have C_law_pieces := C_law_pieces (P := P) (w := w) (base := base) T
  refine mkCallee T.d_law_cuts_alike sc_law_cuts_alike (fun _ _ _ _ _ _ us hl => match us, hl with | [_, _, _], _ => rfl) (fun vs H Q E h => ?_) (fun f cdv A outer s H vs Q E hr h => ?_)
  · obtain ⟨wa, wb, ol, g, g', B, C, O, rfl, _⟩ := h; rfl
  · obtain ⟨wa, wb, ol, g, g', B, C, O, rfl, tw, k⟩ := h
    refine ⟨_, (pss_cons (ps_set (i := 3) sc_law_cuts_alike.nd rfl (.inl rfl) (pe_listR rfl rfl T.z_list rfl T.z_range (pa_cons (pe_callB (lenq (K := K) rfl) rfl T.z_len bt_len (pa_cons (pv 0) pa_nil)) pa_nil))) (pss_cons (ps_set (i := 4) sc_law_cuts_alike.nd rfl (.inl rfl) (pe_fn Chalves hr rfl (pa_cons (pv 1) pa_nil))) (pss_cons (ps_if (pt_cmpR op_gt (pe_callB (lenq (K := K) rfl) rfl T.z_len bt_len (pa_cons (pe_lc (NB := ["_law_first", "_law_second"]) (nt := 2) (fr := []) rfl (by kernel_rfl) (pil (K := K) rfl (pv 4)) (fun _ _ _ _ _ => (pgt (K := K) (n := 2) rfl rfl (pgs_cons (pg_name (i := 0) (show List.Nodup (["_law_first", "_law_second"] : List Str) by decide +kernel) rfl (.inl rfl)) (pgs_cons (pg_name (i := 1) (show List.Nodup (["_law_first", "_law_second"] : List Str) by decide +kernel) rfl (.inl rfl)) pgs_nil)))) (fun _ _ _ _ _ => (pts_one (pt_cmpR (ninq (K := K) rfl) pe_int (pv 0) rfl))) (fun _ _ _ _ _ => (pv 0))) pa_nil)) pe_int (nomark _)) (pss_one (ps_ret pe_bl)) pss_nil) (pss_one (ps_ret (pe_cmpR (eqq (K := K) rfl hr) (pe_fn C_law_pieces hr rfl (pa_cons (pe_fn Chalves hr rfl (pa_cons (pv 0) pa_nil)) (pa_cons (pv 2) pa_nil))) (pe_fn C_law_pieces hr rfl (pa_cons (pv 4) (pa_cons (pv 3) pa_nil))) (nomark _))))))), ?_⟩
    obtain ⟨ws, hws, hwl, hrow⟩ := tw.wa.row
    rw [tw.ga.1] at hwl
    have iC := (tw.mv.med tw.med).toIso
    have iB := tw.med.toIso
    have hCl := tw.mv.len
    have h24 := tw.h2
    have h1 := tw.h1
    have mB := marks_lt B h1
    have mC := marks_lt C (by omega)
    refine ⟨_, rfl, wa, _, rfl, .inr (SqT.of hws), B.length, congrArg (fun z => [V.int ((z : Nat) : Int)]) hwl, by omega, fun sl hsl => ?_⟩
    rw [rngV_natL]
    have s0 := Same.new (o := .lst (natL (List.range B.length))) hsl
    have hs0 : upd H sl (.lst (natL (List.range B.length))) sl = some (.lst (natL (List.range B.length))) := upd_same
    generalize upd H sl (.lst (natL (List.range B.length))) = H0 at *
    have tw0 := tw.mono s0
    refine ⟨_, rfl, wb, g', C, rfl, tw0.wb, tw.gb, tw.rb, iC, by omega, by omega, fun cl hs H1 hal ncl nhs s1 => ?_⟩
    have hhl := hal.ha.length
    refine ⟨_, rfl, cl, rfl, ⟨_, SqL.of hal.ls⟩, lc_list (xs := hs.map fun h => V.ref h.1) (fun i σ' ys H' => (∃ v1 v2, σ' = [v1, v2]) /\ ys = [] /\ H1 = H')
      ⟨⟨_, _, rfl⟩, rfl, rfl⟩ (fun i σ' ys H' _ q => by rw [<- q.2.2]; exact SqL.of hal.ls) (fun i σ' ys H' q => by rw [q.2.1]; decide) ?_ ?_⟩
    · rintro i x σ' ys H' hi ⟨⟨v1, v2, rfl⟩, rfl, rfl⟩
      rw [List.getElem?_map, Option.map_eq_some_iff] at hi
      obtain ⟨h, eh, rfl⟩ := hi
      obtain ⟨m, em, hh⟩ := paired_at hal.ha i h eh
      refine ⟨h.1, _, rfl, SqT.of hh.tu, rfl, _, _, rfl, _, _, rfl, rfl, ?_⟩
      refine ⟨_, rfl, h.2.1, _, rfl, .inl (SqL.of hh.fi), rfl, natL_flat _, _, rfl, ?_⟩
      have h0 : 0 ∈ firstH C m := List.mem_filter.mpr ⟨List.mem_range.mpr (by omega), side_0 C m⟩
      rw [show (0 : Int) = ((0 : Nat) : Int) from rfl, natL_in, decide_eq_true h0]
      exact iteF ⟨⟨_, _, rfl⟩, rfl, rfl⟩
    · rintro σ' ys H' ⟨_, rfl, rfl⟩ D hD
      have sD := Same.new (o := .lst []) hD
      refine ⟨D, _, rfl, .inl (SqL.of upd_same), _, _, rfl, rfl, _, rfl, iteF ?_⟩
      have s2 := s0.trans (s1.trans sD)
      have hal2 := hal.mono sD
      have hs2 := (s1.trans sD) _ _ hs0
      generalize upd H1 D (.lst []) = H2 at *
      have tw2 := tw.mono s2
      refine ⟨_, rfl, wa, g, B, rfl, tw2.wa, tw.ga, tw.ra, iB, h1, h24, fun cl3 hs3 H3 hal3 ncl3 nhs3 s3 => ?_⟩
      have tw3 := tw2.mono s3
      refine ⟨_, rfl, cl3, ol, B, O, hs3, _, hfO C O, hsO C O, rfl, hal3, tw3.ol, tw.mv.ol, tw.nd, h24, by omega, fun m hm => up_O tw.mv (mark_pc hm) h1, fun l4 n4 qs4 us4 H4 nl4 pc4 pm4 pw4 s4 => ?_⟩
      refine ⟨_, rfl, _, rfl, cl, sl, C, List.range C.length, hs, _, firstH C, secondH C, rfl, hal2.mono (s3.trans s4), by rw [hCl]; exact (s3.trans s4) _ _ hs2, by rw [List.length_range], List.nodup_range, by omega, by omega, fun m hm => ⟨up_id (fun x hx => half_lt (.inl hx)) up_range, up_id (fun x hx => half_lt (.inr hx)) up_range⟩, fun l5 n5 qs5 us5 H5 nl5 pc5 pm5 pw5 s5 => ?_⟩
      have e : us4 = us5 := by
        refine sorted_one (lt := fun a b => ltPr (prI a) (prI b)) (fun a => ltPr_irr _) (fun {a b} q1 q2 => ?_) ?_ pw4 pw5
        · have := ltPr_tri q1 q2
          exact Prod.ext (ofI_inj (congrArg Prod.fst this)) (ofI_inj (congrArg Prod.snd this))
        · refine pm4.trans (List.Perm.trans ?_ pm5.symm)
          rw [show ((marksF B (tiesB B B.length)).map fun m => (mnL (hfO C O m) (hsO C O m), mxL (hfO C O m) (hsO C O m))) = (marksF B (tiesB B B.length)).map fun m => (mnL (firstH C m) (secondH C m), mxL (firstH C m) (secondH C m)) from List.map_congr_left fun m _ => mm_O C O m]
          exact (tw.mv.marks.map _).symm
      subst e
      exact ⟨true, topQ_pcs ⟨s5 _ _ pc4.ls, paired_mono (fun _ _ q => q.mono s5) pc4.at_⟩ pc5, k H5 (s2.trans (s3.trans (s4.trans s5)))⟩
end
section
variable {P : Program} {w : World} {K : PySem.W.Frag} {mg : Str -> Option Value} {base : Heap} {tMOST_PLACES : Tok} {cLam pLam : Addr}
theorem Two.monoB {H H' : Hp} {p wa wb ol a : Addr} {ns : List Int} {n : Nat} {g g' : List (List Nat)} {B C O : List Nat} (h : Two H wa wb ol g g' B C O) (s : SameB p H H') (pen : PenAt K a ns H p n) (ne : ol ≠ p) : Two H' wa wb ol g g' B C O := ⟨h.wa.monoB s pen, h.ga, h.ra, h.wb.monoB s pen, h.gb, h.rb, h.mv, s _ _ h.ol ne, h.med, h.h1, h.h2⟩
def spParts (K : PySem.W.Frag) (pL : Addr) : Sp := fun vs H Q _ => ∃ (p wa wb ol a : Addr) (n : Nat) (ns : List Int) (g g' : List (List Nat)) (B C O : List Nat), vs = [.ref p, .ref wa, .ref wb, .ref ol] /\ PenAt K a ns H p n /\ n < 1000000 /\ Two H wa wb ol g g' B C O /\ ol ≠ p /\ LamH sgate "gate" pL H /\ pL ≠ p /\ ∀ H', PenAt K a ns H' p (n + 7) -> SameB p H H' -> Q (.bl true) H'
theorem hull_up (B : List Nat) (lo hi : Nat) : (hullP B lo hi).Pairwise (· < ·) := up_range
theorem C_law_parts_alike (T : Txt K mg tMOST_PLACES cLam) (LB : LamB base mg cLam pLam) : Callee P w K mg base 7 "_law_parts_alike" ["_law_pen_here", "_law_web", "_law_moved_web", "_law_order"] (spParts K pLam) := by
  have C_law_take := C_law_take (P := P) (w := w) (base := base) T
  have Chull := Chull (P := P) (w := w) (base := base) T
  have Cmiddle := Cmiddle (P := P) (w := w) (base := base) T
  have Cgate := Cgate (P := P) (w := w) (base := base) T LB
  refine mkCallee T.d_law_parts_alike sc_law_parts_alike (fun _ _ _ _ _ _ us hl => match us, hl with | [_, _, _, _], _ => rfl) (fun vs H Q E h => ?_) (fun f cdv A outer s H vs Q E hr h => ?_)
  · obtain ⟨p, wa, wb, ol, a, n, ns, g, g', B, C, O, rfl, _⟩ := h; rfl
  · obtain ⟨p, wa, wb, ol, a, n, ns, g, g', B, C, O, rfl, pen, hn, tw, nop, hL, nLp, k⟩ := h
    refine ⟨_, (pss_cons (ps_setLC (NB := ["_law_k", "_law_pen_here", "_law_web"]) (nt := 1) (fr := [0, 1]) rfl (by kernel_rfl) (i := 4) sc_law_parts_alike.nd rfl rfl (pi_range1 rfl T.z_range (pa_cons (pe_op op_add pe_int (pe_fn C_law_take hr rfl (pa_cons (pv 0) (pa_cons pe_int pa_nil)))) pa_nil)) (fun _ _ _ _ _ => (pg_name (i := 0) (show List.Nodup (["_law_k", "_law_pen_here", "_law_web"] : List Str) by decide +kernel) rfl (.inl rfl))) (fun _ _ _ _ _ => pts_nil) (fun _ _ _ _ _ => (pe_fn C_law_take hr rfl (pa_cons (pv 1) (pa_cons (pe_callB (lenq (K := K) rfl) rfl T.z_len bt_len (pa_cons (pv 2) pa_nil)) pa_nil))))) (pss_cons (ps_set (i := 5) sc_law_parts_alike.nd rfl (.inl rfl) (pe_fn Chull hr rfl (pa_cons (pv 1) (pa_cons (pv 4) pa_nil)))) (pss_cons (ps_set (i := 6) sc_law_parts_alike.nd rfl (.inl rfl) (pe_callB (sortq (K := K) rfl) rfl T.z_sorted bt_sorted (pa_cons (pe_lc (NB := ["_law_x", "_law_order"]) (nt := 1) (fr := [3]) rfl (by kernel_rfl) (pil (K := K) rfl (pv 5)) (fun _ _ _ _ _ => (pg_name (i := 0) (show List.Nodup (["_law_x", "_law_order"] : List Str) by decide +kernel) rfl (.inl rfl))) (fun _ _ _ _ _ => pts_nil) (fun _ _ _ _ _ => (pe_ix (ixl (K := K) rfl) (pv 1) (pv 0) (fun _ _ => rfl)))) pa_nil))) (pss_cons (ps_if (pt_cmpR (neI (K := K) rfl hr) (pe_fn Chull hr rfl (pa_cons (pv 2) (pa_cons (pe_lc (NB := ["_law_x", "_law_order"]) (nt := 1) (fr := [3]) rfl (by kernel_rfl) (pil (K := K) rfl (pv 4)) (fun _ _ _ _ _ => (pg_name (i := 0) (show List.Nodup (["_law_x", "_law_order"] : List Str) by decide +kernel) rfl (.inl rfl))) (fun _ _ _ _ _ => pts_nil) (fun _ _ _ _ _ => (pe_ix (ixl (K := K) rfl) (pv 1) (pv 0) (fun _ _ => rfl)))) pa_nil))) (pv 6) (nomark _)) (pss_one (ps_ret pe_bl)) pss_nil) (pss_cons (ps_for PassesOwn.never rfl (pi_range1 rfl T.z_range (pa_cons (pe_callB (lenq (K := K) rfl) rfl T.z_len bt_len (pa_cons (pv 1) pa_nil)) pa_nil)) (pg_name (i := 7) sc_law_parts_alike.nd rfl (.inl rfl)) (pss_one (ps_if (pt_cmpR op_ne (pe_ix (ixl (K := K) rfl) (pv 3) (pe_fn Cgate hr rfl (pa_cons (pv 1) (pa_cons (pv 5) (pa_cons (pv 7) pa_nil)))) (fun _ _ => rfl)) (pe_fn Cgate hr rfl (pa_cons (pv 2) (pa_cons (pv 6) (pa_cons (pe_ix (ixl (K := K) rfl) (pv 3) (pv 7) (fun _ _ => rfl)) pa_nil)))) (nomark _)) (pss_one (ps_ret pe_bl)) pss_nil))) (pss_cons (ps_asg (pe_lc (NB := ["_law_k", "_law_pen_here", "_law_web"]) (nt := 1) (fr := [0, 1]) rfl (by kernel_rfl) (pi_range1 rfl T.z_range (pa_cons pe_int pa_nil)) (fun _ _ _ _ _ => (pg_name (i := 0) (show List.Nodup (["_law_k", "_law_pen_here", "_law_web"] : List Str) by decide +kernel) rfl (.inl rfl))) (fun _ _ _ _ _ => pts_nil) (fun _ _ _ _ _ => (pe_fn C_law_take hr rfl (pa_cons (pv 1) (pa_cons (pe_callB (lenq (K := K) rfl) rfl T.z_len bt_len (pa_cons (pv 2) pa_nil)) pa_nil))))) (pgl (K := K) (n := 3) rfl rfl (pgs_cons (pg_name (i := 8) sc_law_parts_alike.nd rfl (.inl rfl)) (pgs_cons (pg_name (i := 9) sc_law_parts_alike.nd rfl (.inl rfl)) (pgs_cons (pg_name (i := 10) sc_law_parts_alike.nd rfl (.inl rfl)) pgs_nil))))) (pss_one (ps_ret (pe_cmpR op_eq (pe_ix (ixl (K := K) rfl) (pv 3) (pe_fn Cmiddle hr rfl (pa_cons (pv 1) (pa_cons (pv 8) (pa_cons (pv 9) (pa_cons (pv 10) pa_nil))))) (fun _ _ => rfl)) (pe_fn Cmiddle hr rfl (pa_cons (pv 2) (pa_cons (pe_ix (ixl (K := K) rfl) (pv 3) (pv 8) (fun _ _ => rfl)) (pa_cons (pe_ix (ixl (K := K) rfl) (pv 3) (pv 9) (fun _ _ => rfl)) (pa_cons (pe_ix (ixl (K := K) rfl) (pv 3) (pv 10) (fun _ _ => rfl)) pa_nil))))) (nomark _)))))))))), ?_⟩
    have medC := tw.mv.med tw.med
    have iC := medC.toIso
    have iB := tw.med.toIso
    have hCl := tw.mv.len
    have h24 := tw.h2
    have h1 := tw.h1
    have hOl := tw.mv.ol
    refine ⟨_, rfl, p, 3, n, a, ns, rfl, pen, by omega, by omega, by omega, fun r H1 hr1 pen1 s1 => ?_⟩
    refine ⟨_, _, rfl, rfl, ((1 + r : Nat) : Int), rfl, by omega, by omega, lc_range0 (n := 1 + r) (Pv := fun j σ' ys H' => (∃ v, σ' = [v, some (.ref p), some (.ref wa)]) /\ j <= 1 + r /\ (∃ S : List Nat, ys = natL S /\ S.length = j /\ ∀ x ∈ S, x < B.length) /\ PenAt K a ns H' p (n + 1 + j) /\ SameB p H H')
      ⟨⟨_, rfl⟩, Nat.zero_le _, ⟨[], rfl, rfl, fun x hx => absurd hx (by simp)⟩, pen1, s1⟩ (fun j σ' ys H' q => ?_) ?_ ?_⟩
    · obtain ⟨_, hj, ⟨S, rfl, hl, _⟩, _⟩ := q
      rw [natL_len]
      exact small1000 (by omega)
    · rintro j σ' ys H2 hj ⟨⟨v, rfl⟩, _, ⟨S, rfl, hl, hS⟩, pen2, s2⟩
      have tw2 := tw.monoB s2 pen nop
      obtain ⟨ws, hws, hwl, _⟩ := tw2.wa.row
      rw [tw.ga.1] at hwl
      refine lcN ⟨_, rfl, _, rfl, wa, _, rfl, .inr (SqT.of hws), p, B.length, _, a, ns, congrArg (fun z => [V.ref p, V.int ((z : Nat) : Int)]) hwl, pen2, by omega, by omega, by omega, fun q H3 hq pen3 s3 => ?_⟩
      refine ⟨⟨_, rfl⟩, by omega, ⟨S ++ [q], natL_snoc _ _, by simp [hl], fun x hx => ?_⟩, pen3, s2.trans s3⟩
      rcases List.mem_append.mp hx with z | z
      · exact hS x z
      · have : x = q := by simpa using z
        omega
    · rintro σ' ys H2 ⟨_, _, ⟨S, rfl, hSl, hS⟩, pen2, s2⟩ sl hsl
      have nsp := pen2.ne hsl
      have sN := Same.new (o := .lst (natL S)) hsl
      have hs3 : upd H2 sl (.lst (natL S)) sl = some (.lst (natL S)) := upd_same
      have s3 := s2.trans sN.b
      have pen3 := pen2.mono sN (Nat.le_refl _)
      generalize upd H2 sl (.lst (natL S)) = H3 at *
      have tw3 := tw.monoB s3 pen nop
      have hL3 : LamH sgate "gate" pLam H3 := s3 _ _ hL nLp
      obtain ⟨s0, e0⟩ : ∃ s0, S[0]? = some s0 := ⟨_, List.getElem?_eq_getElem (by omega)⟩
      have hSne : S ≠ [] := fun z => by rw [z] at e0; cases e0
      obtain ⟨lo, hi, hlo, hhi⟩ := lohiP B S hSne
      refine ⟨_, rfl, _, rfl, wa, sl, S, g, B, rfl, tw3.wa, tw.ga, tw.ra, iB, h1, h24, hs3, hS, by omega, fun pl R H4 npl hpl _ hR s4 => ?_⟩
      have eR : R = hullP B lo hi := (hR s0 e0).trans (hullQ_eq iB hS (List.mem_of_getElem? e0) hlo hhi)
      have hul := tw.mv.hull (lo := lo) (hi := hi)
      have hcB := hullP_closed B lo hi
      have hRlt : ∀ x ∈ R, x < B.length := fun x hx => by rw [eR] at hx; exact (mem_hullP.mp hx).1
      have hRup : R.Pairwise (· < ·) := by rw [eR]; exact hull_up B lo hi
      have hRlen : R.length <= B.length := by rw [eR]; exact hullP_len B lo hi
      have hRne : R ≠ [] := by
        rw [eR]
        exact List.ne_nil_of_mem (hullP_has hlo hhi (List.mem_of_getElem? e0) (hS s0 (List.mem_of_getElem? e0)))
      have tw4 := tw3.mono s4
      have Rh := hpl
      refine ⟨_, rfl, pl, rfl, ⟨_, SqL.of Rh⟩, lc_list (xs := natL R) (fun i σ' ys H' => (∃ v, σ' = [v, some (.ref ol)]) /\ i <= R.length /\ ys = natL ((R.take i).map fun x => O.getD x 0) /\ H4 = H')
        ⟨⟨_, rfl⟩, Nat.zero_le _, rfl, rfl⟩ (fun i σ' ys H' _ q => by rw [<- q.2.2.2]; exact SqL.of Rh) (fun i σ' ys H' q => ?_) ?_ ?_⟩
      · rw [q.2.2.1, natL_len, List.length_map, List.length_take]
        exact small1000 (by omega)
      · rintro i v σ' ys H' hi ⟨⟨v1, rfl⟩, _, rfl, rfl⟩
        obtain ⟨y, ey, rfl⟩ := natL_get hi
        refine lcN ⟨_, rfl, _, rfl, ol, _, _, _, rfl, rfl, SqL.of tw4.ol, natL_getD (by rw [hOl]; exact hRlt y (List.mem_of_getElem? ey)), ⟨_, rfl⟩, (List.getElem?_eq_some_iff.mp ey).1, ?_, rfl⟩
        rw [List.take_add_one, ey, List.map_append]
        exact natL_snoc _ _
      · rintro σ' ys H' ⟨_, _, rfl, rfl⟩ D1 hD1
        rw [natL_len, List.take_length]
        have sA := Same.new (o := .lst (natL (R.map fun x => O.getD x 0))) hD1
        refine ⟨D1, _, rfl, SqL.of (by rw [upd_same, natL_ints]), by rw [List.length_map, List.length_map]; omega, fun nl m1 hp1 hs1 hl1 => ?_⟩
        have eN := sort_to hp1 hs1 (tw.mv.mapN hRlt (hRup.imp fun h => Nat.ne_of_lt h)) (hull_up C lo hi) (fun y => by rw [hul.1 y, eR, List.mem_map])
        rw [eN, <- natL_ints]
        have sB := sA.updr (o := .lst (natL (hullP C lo hi))) hl1
        have hn5 : upd (upd H4 D1 (.lst (natL (R.map fun x => O.getD x 0)))) nl (.lst (natL (hullP C lo hi))) nl = some (.lst (natL (hullP C lo hi))) := upd_same
        have hpl5 := sB _ _ hpl
        have s5 := s4.trans sB
        generalize upd (upd H4 D1 (.lst (natL (R.map fun x => O.getD x 0)))) nl (.lst (natL (hullP C lo hi))) = H5 at *
        have tw5 := tw3.mono s5
        have Sh := s5 _ _ hs3
        refine ⟨_, rfl, ?_⟩
        refine ⟨_, rfl, sl, rfl, ⟨_, SqL.of Sh⟩, lc_list (xs := natL S) (fun i σ' ys H' => (∃ v, σ' = [v, some (.ref ol)]) /\ i <= S.length /\ ys = natL ((S.take i).map fun x => O.getD x 0) /\ H5 = H')
          ⟨⟨_, rfl⟩, Nat.zero_le _, rfl, rfl⟩ (fun i σ' ys H' _ q => by rw [<- q.2.2.2]; exact SqL.of Sh) (fun i σ' ys H' q => ?_) ?_ ?_⟩
        · rw [q.2.2.1, natL_len, List.length_map, List.length_take]
          exact small1000 (by omega)
        · rintro i v σ' ys H' hi ⟨⟨v1, rfl⟩, _, rfl, rfl⟩
          obtain ⟨y, ey, rfl⟩ := natL_get hi
          refine lcN ⟨_, rfl, _, rfl, ol, _, _, _, rfl, rfl, SqL.of tw5.ol, natL_getD (by rw [hOl]; exact hS y (List.mem_of_getElem? ey)), ⟨_, rfl⟩, (List.getElem?_eq_some_iff.mp ey).1, ?_, rfl⟩
          rw [List.take_add_one, ey, List.map_append]
          exact natL_snoc _ _
        · rintro σ' ys H' ⟨_, _, rfl, rfl⟩ D2 hD2
          rw [natL_len, List.take_length]
          have sC := Same.new (o := .lst (natL (S.map fun x => O.getD x 0))) hD2
          have hd6 : upd H5 D2 (.lst (natL (S.map fun x => O.getD x 0))) D2 = some (.lst (natL (S.map fun x => O.getD x 0))) := upd_same
          have hn6 := sC _ _ hn5
          have hpl6 := sC _ _ hpl5
          have s6 := s5.trans sC
          generalize upd H5 D2 (.lst (natL (S.map fun x => O.getD x 0))) = H6 at *
          have tw6 := tw3.mono s6
          have hS' : ∀ x ∈ S.map (fun x => O.getD x 0), x < C.length := fun x hx => by
            obtain ⟨y, hy, rfl⟩ := List.mem_map.mp hx
            rw [hCl]; exact tw.mv.lt (hS y hy)
          have e0' : (S.map fun x => O.getD x 0)[0]? = some (O.getD s0 0) := by rw [List.getElem?_map, e0]; rfl
          refine ⟨wb, D2, S.map (fun x => O.getD x 0), g', C, rfl, tw6.wb, tw.gb, tw.rb, iC, by omega, by omega, hd6, hS', by rw [List.length_map]; omega, fun ql R2 H7 nql hql _ hR2 s7 => ?_⟩
          have eR2 : R2 = hullP C lo hi := (hR2 _ e0').trans (hullQ_eq iC hS' (List.mem_of_getElem? e0') (tw.mv.lo hS hlo) (tw.mv.hi hS hhi))
          rw [eR2] at hql
          have hn7 := s7 _ _ hn6
          have hpl7 := s7 _ _ hpl6
          have sZ := s6.trans s7
          refine ⟨_, rfl, ql, nl, _, _, rfl, rfl, asI hql, asI hn7, _, rfl, iteNS rfl ?_⟩
          have tw7 := tw3.mono sZ
          have hL7 : LamH sgate "gate" pLam H7 := sZ _ _ hL3
          obtain ⟨ws, hws, hwl, _⟩ := tw7.wa.row
          rw [tw.ga.1] at hwl
          have hRneC : hullP C lo hi ≠ [] := by
            obtain ⟨x, hx⟩ := List.exists_mem_of_ne_nil _ hRne
            rw [eR] at hx
            exact List.ne_nil_of_mem ((hul.1 _).mpr ⟨x, hx, rfl⟩)
          refine ⟨_, rfl, wa, _, rfl, .inr (SqT.of hws), ((B.length : Nat) : Int), congrArg (fun z => [V.int ((z : Nat) : Int)]) hwl, by omega, by omega, for_range0 (n := B.length) (Pv := fun j σ H' => (∃ v7, σ = [some (.ref p), some (.ref wa), some (.ref wb), some (.ref ol), some (.ref sl), some (.ref pl), some (.ref nl), v7, none, none, none]) /\ Same H7 H')
            ⟨⟨_, rfl⟩, Same.refl _⟩ ?_ ?_⟩
          · rintro j σ H8 hj ⟨⟨v7, rfl⟩, s8⟩
            have tw8 := tw7.mono s8
            refine ⟨_, rfl, _, rfl, _, rfl, _, rfl, wa, pl, j, R, g, fun r => ud (B.getD j 0) (B.getD r 0), rfl, tw8.wa, tw.ga.inn, by rw [tw.ga.1]; exact hj, by rw [tw.ga.1]; omega, s8 _ _ hpl7, hRne, fun r hr => ⟨by rw [tw.ga.1]; exact hRlt r hr, dist_ud tw.ga iB hj (hRlt r hr)⟩, s8 _ _ hL7, fun M H9 hM hle s9 => ?_⟩
            have s89 := s8.trans s9
            have tw9 := tw7.mono s89
            have hjC : O.getD j 0 < C.length := by rw [hCl]; exact tw.mv.lt hj
            refine ⟨ol, _, _, _, rfl, rfl, SqL.of tw9.ol, natL_getD (by rw [hOl]; exact hRlt M hM), ?_⟩
            refine ⟨_, rfl, _, rfl, _, rfl, _, rfl, ol, _, _, _, rfl, rfl, SqL.of tw9.ol, natL_getD (by rw [hOl]; exact hj), wb, nl, O.getD j 0, hullP C lo hi, g', fun r => ud (C.getD (O.getD j 0) 0) (C.getD r 0), rfl, tw9.wb, tw.gb.inn, by rw [tw.gb.1]; exact hjC, by rw [tw.gb.1]; omega, s89 _ _ hn7, hRneC, fun r hr => ⟨by rw [tw.gb.1]; exact (mem_hullP.mp hr).1, dist_ud tw.gb iC hjC (mem_hullP.mp hr).1⟩, s89 _ _ hL7, fun M2 H10 hM2 hle2 s10 => ?_⟩
            have e : M2 = O.getD M 0 := by
              obtain ⟨q, hq, rfl⟩ := (hul.1 M2).mp hM2
              have hqR : q ∈ R := by rw [eR]; exact hq
              rw [gate_one tw.med (R := R) (by rw [eR]; exact hcB) hRlt hj hM hle hqR fun r hr => ?_]
              have := hle2 (O.getD r 0) ((hul.1 _).mpr ⟨r, by rw [<- eR]; exact hr, rfl⟩)
              dsimp only at this
              rw [tw.mv.ud hj (hRlt q hqR), tw.mv.ud hj (hRlt r hr)] at this
              exact this
            subst e
            exact ⟨rfl, _, rfl, iteNS rfl ⟨⟨_, rfl⟩, s89.trans s10⟩⟩
          · rintro σ H8 ⟨⟨v7, rfl⟩, s8⟩
            have s38 := sZ.trans s8
            have pen8 := penlt (pen3.mono s38 (Nat.le_refl _)) (show n + 1 + (1 + r) <= n + 4 by omega)
            have sB8 := s3.trans s38.b
            refine ⟨((3 : Nat) : Int), rfl, by decide, by decide, lc_range0 (n := 3) (Pv := fun j σ' ys H' => (∃ v, σ' = [v, some (.ref p), some (.ref wa)]) /\ j <= 3 /\ (∃ S : List Nat, ys = natL S /\ S.length = j /\ ∀ x ∈ S, x < B.length) /\ PenAt K a ns H' p (n + 4 + j) /\ SameB p H H')
              ⟨⟨_, rfl⟩, Nat.zero_le _, ⟨[], rfl, rfl, fun x hx => absurd hx (by simp)⟩, pen8, sB8⟩ (fun j σ' ys H' q => ?_) ?_ ?_⟩
            · obtain ⟨_, hj, ⟨S, rfl, hl, _⟩, _⟩ := q
              rw [natL_len]
              exact small1000 (by omega)
            · rintro j σ' ys H9 hj ⟨⟨v, rfl⟩, _, ⟨S, rfl, hl, hS⟩, pen9, s9⟩
              have tw9 := tw.monoB s9 pen nop
              obtain ⟨ws, hws, hwl, _⟩ := tw9.wa.row
              rw [tw.ga.1] at hwl
              refine lcN ⟨_, rfl, _, rfl, wa, _, rfl, .inr (SqT.of hws), p, B.length, _, a, ns, congrArg (fun z => [V.ref p, V.int ((z : Nat) : Int)]) hwl, pen9, by omega, by omega, by omega, fun q H10 hq pen10 s10 => ?_⟩
              refine ⟨⟨_, rfl⟩, by omega, ⟨S ++ [q], natL_snoc _ _, by simp [hl], fun x hx => ?_⟩, pen10, s9.trans s10⟩
              rcases List.mem_append.mp hx with z | z
              · exact hS x z
              · have : x = q := by simpa using z
                omega
            · rintro σ' ys H9 ⟨_, _, ⟨S3, rfl, hl3, hS3⟩, pen9, s9⟩ D hD
              obtain ⟨x, y, z, rfl⟩ : ∃ x y z, S3 = [x, y, z] := by
                match S3, hl3 with
                | [x, y, z], _ => exact ⟨x, y, z, rfl⟩
              have hx := hS3 x (by simp)
              have hy := hS3 y (by simp)
              have hz := hS3 z (by simp)
              have sD := Same.new (o := .lst (natL [x, y, z])) hD
              have s10 := s9.trans sD.b
              have tw10 := (tw.monoB s9 pen nop).mono sD
              refine ⟨D, _, rfl, SqL.of upd_same, rfl, _, _, rfl, _, _, rfl, _, _, rfl, rfl, ?_⟩
              have pen10 := pen9.mono sD (Nat.le_refl _)
              generalize upd H9 D (.lst (natL [x, y, z])) = H10 at *
              obtain ⟨m, hm, em⟩ := mem_getD (tw.med.med _ (getD_mem hx) _ (getD_mem hy) _ (getD_mem hz))
              refine ⟨_, rfl, _, rfl, _, rfl, _, rfl, _, rfl, wa, x, y, z, m, g, B, rfl, tw10.wa, tw.ga, tw.med, hx, hy, hz, h24, hm, em, fun H11 s11 => ?_⟩
              have tw11 := tw10.mono s11
              have gO : ∀ {q}, q < B.length -> atI (natL O) ((q : Nat) : Int) = some (.int ((O.getD q 0 : Nat) : Int)) := fun {q} hq => natL_getD (by rw [hOl]; exact hq)
              have ltC : ∀ {q}, q < B.length -> O.getD q 0 < C.length := fun {q} hq => by rw [hCl]; exact tw.mv.lt hq
              refine ⟨ol, _, _, _, rfl, rfl, SqL.of tw11.ol, gO hm, ?_⟩
              refine ⟨_, rfl, _, rfl, _, rfl, ol, _, _, _, rfl, rfl, SqL.of tw11.ol, gO hx, _, rfl, _, rfl, ol, _, _, _, rfl, rfl, SqL.of tw11.ol, gO hy, _, rfl, _, rfl, ol, _, _, _, rfl, rfl, SqL.of tw11.ol, gO hz, wb, O.getD x 0, O.getD y 0, O.getD z 0, O.getD m 0, g', C, rfl, tw11.wb, tw.gb, medC, ltC hx, ltC hy, ltC hz, by omega, ltC hm, by rw [tw.mv.eq m hm, tw.mv.eq x hx, tw.mv.eq y hy, tw.mv.eq z hz, em], fun H12 s12 => ?_⟩
              refine ⟨rfl, ?_⟩
              have := k H12 (penlt (pen10.mono (s11.trans s12) (Nat.le_refl _)) (by omega)) (s10.trans (s11.trans s12).b)
              rw [decide_eq_true (rfl : V.int ((O.getD m 0 : Nat) : Int) = V.int ((O.getD m 0 : Nat) : Int))]
              exact this
end
section
variable {P : Program} {w : World} {K : PySem.W.Frag} {mg : Str -> Option Value} {base : Heap} {tMOST_PLACES : Tok} {cLam pLam : Addr}
def sdV (B Pe : List Nat) (m : Nat) : List Nat := if inP Pe (firstH B m) <= inP Pe (secondH B m) then [inP Pe (firstH B m), inP Pe (secondH B m)] else [inP Pe (secondH B m), inP Pe (firstH B m)]
theorem sort_two {B Pe : List Nat} {m : Nat} {ms : List Int} (hp : ms.Perm (ofI [inP Pe (firstH B m), inP Pe (secondH B m)])) (hs : ms.Pairwise (· <= ·)) : ms = ofI (sdV B Pe m) := by
  have pw : (ofI (sdV B Pe m)).Pairwise (· <= ·) := by
    unfold sdV
    by_cases z : inP Pe (firstH B m) <= inP Pe (secondH B m)
    · rw [if_pos z]; simpa [ofI] using z
    · rw [if_neg z]; simp [ofI]; omega
  have pm : ms.Perm (ofI (sdV B Pe m)) := hp.trans (by
    unfold sdV
    by_cases z : inP Pe (firstH B m) <= inP Pe (secondH B m)
    · rw [if_pos z]
    · rw [if_neg z]; exact List.Perm.swap _ _ _)
  exact sorted_one (lt := fun a b : Int => decide (a < b)) (fun a => by simp) (fun {a b} h1 h2 => by have := of_decide_eq_false h1; have := of_decide_eq_false h2; omega) pm (hs.imp fun h => decide_eq_false (by omega)) (pw.imp fun h => decide_eq_false (by omega))
theorem inP_perm {Pf a b : List Nat} (h : a.Perm b) : inP Pf a = inP Pf b := perm_sum (h.map _)
theorem inP_map {Pe Pf O L : List Nat} {n : Nat} (hp : ∀ x, x < n -> Pf.getD (O.getD x 0) 0 = Pe.getD x 0) (hL : ∀ x ∈ L, x < n) : inP Pf (L.map fun x => O.getD x 0) = inP Pe L := by
  unfold inP
  rw [List.map_map]
  congr 1
  exact List.map_congr_left fun x hx => hp x (hL x hx)
theorem sdV_O {B C O Pe Pf : List Nat} (h : Mv B C O) (hn : 1 <= B.length) (hp : ∀ x, x < B.length -> Pf.getD (O.getD x 0) 0 = Pe.getD x 0) {m : Nat} (hm : pc m = 1) : sdV C Pf m = sdV B Pe m := by
  have l1 : ∀ x ∈ firstH B m, x < B.length := fun x hx => half_lt (.inl hx)
  have l2 : ∀ x ∈ secondH B m, x < B.length := fun x hx => half_lt (.inr hx)
  rcases h.side hm hn with q | q
  · have e1 : inP Pf (firstH C m) = inP Pe (firstH B m) := by rw [<- inP_map hp l1]; exact (inP_perm (h.pickP fun x hx => q x hx)).symm
    have e2 : inP Pf (secondH C m) = inP Pe (secondH B m) := by rw [<- inP_map hp l2]; exact (inP_perm (h.pickP fun x hx => by rw [q x hx])).symm
    unfold sdV
    rw [e1, e2]
  · have e1 : inP Pf (secondH C m) = inP Pe (firstH B m) := by rw [<- inP_map hp l1]; exact (inP_perm (h.pickP fun x hx => by rw [q x hx, Bool.not_not])).symm
    have e2 : inP Pf (firstH C m) = inP Pe (secondH B m) := by rw [<- inP_map hp l2]; exact (inP_perm (h.pickP fun x hx => q x hx)).symm
    unfold sdV
    rw [e1, e2]
    by_cases z : inP Pe (firstH B m) <= inP Pe (secondH B m)
    · rw [if_pos z]
      by_cases y : inP Pe (secondH B m) <= inP Pe (firstH B m)
      · rw [if_pos y, show inP Pe (secondH B m) = inP Pe (firstH B m) by omega]
      · rw [if_neg y]
    · rw [if_neg z, if_pos (by omega)]
theorem go_O {B C O Pe Pf : List Nat} (h : Mv B C O) (hp : ∀ x, x < B.length -> Pf.getD (O.getD x 0) 0 = Pe.getD x 0) {x : Nat} (hx : x < B.length) : goF C Pf (O.getD x 0) = goF B Pe x := h.go hp hx
theorem least_O {B C O Pe Pf : List Nat} (h : Mv B C O) (hp : ∀ x, x < B.length -> Pf.getD (O.getD x 0) 0 = Pe.getD x 0) {M N : Nat} (hB : LeastG B Pe M) (hC : LeastG C Pf N) : M = N := by
  obtain ⟨⟨x, hx, ex⟩, h2⟩ := hB
  obtain ⟨⟨y, hy, ey⟩, k2⟩ := hC
  rw [h.len] at hy
  obtain ⟨z, hz, rfl⟩ := h.sur hy
  rw [go_O h hp hz] at ey
  have a1 := h2 z hz
  have a2 := k2 (O.getD x 0) (by rw [h.len]; exact h.lt hx)
  rw [go_O h hp hx] at a2
  omega
theorem topQ_lls {H : Hp} {l l' : Addr} {qs qs' : List Addr} {us : List (List Nat)} (h1 : H l = some (.lst (qs.map V.ref))) (p1 : Paired (fun q u => H q = some (.lst (natL u))) qs us) (h2 : H l' = some (.lst (qs'.map V.ref))) (p2 : Paired (fun q u => H q = some (.lst (natL u))) qs' us) : TopQ K H (.ref l) (.ref l') true := by
  have := TopQ.lsts (K := K) (H := H) (n := 1) (e := fun _ => true) (by decide) (SqL.of h1) (SqL.of h2) (by rw [List.length_map, List.length_map, p1.length, p2.length]) fun j x y hx hy => by
    rw [List.getElem?_map, Option.map_eq_some_iff] at hx hy
    obtain ⟨r, er, rfl⟩ := hx
    obtain ⟨q, eq, rfl⟩ := hy
    obtain ⟨v1, e1, a1⟩ := paired_at p1 j r er
    obtain ⟨v2, e2, b1⟩ := paired_at p2 j q eq
    rw [e1] at e2
    cases e2
    exact eqQ_natL a1 b1
  rw [all_true] at this
  exact this
theorem rep0 (n : Nat) : (List.replicate ((n : Nat) : Int).toNat [V.int 0]).flatten = natL (List.replicate n 0) := by
  unfold natL
  rw [List.map_replicate, Int.toNat_natCast, List.flatten_replicate_singleton]
  rfl
theorem sorted_lls {H H' : Hp} {qs : List Addr} {ms ps : List Nat} {v : Nat -> List Nat} (hp : Paired (fun q m => H q = some (.lst (natL (v m)))) qs ms) (s : Same H H') (hps : ps.Perm (List.range qs.length)) (hpw : ps.Pairwise fun i j => HT.lexLt (ofI ((ms.map v).getD j [])) (ofI ((ms.map v).getD i [])) = false) :
    Paired (fun q u => H' q = some (.lst (natL u))) (ps.map fun i => qs.getD i 0) (ps.map fun i => (ms.map v).getD i []) /\ (ps.map fun i => (ms.map v).getD i []).Perm (ms.map v) /\ (ps.map fun i => (ms.map v).getD i []).Pairwise fun a b => HT.lexLt (ofI b) (ofI a) = false := by
  have hl := hp.length
  refine ⟨paired_maps fun i hi => ?_, ?_, ?_⟩
  · have hi := List.mem_range.mp (hps.mem_iff.mp hi)
    obtain ⟨m, em, hm⟩ := paired_at hp i qs[i] (List.getElem?_eq_getElem hi)
    rw [List.getD_eq_getElem?_getD, List.getElem?_eq_getElem hi, List.getD_eq_getElem?_getD, List.getElem?_map, em]
    exact s _ _ hm
  · have := hps.map fun i => (ms.map v).getD i []
    rw [hl, show ms.length = (ms.map v).length by rw [List.length_map], map_getD_range] at this
    exact this
  · rw [List.pairwise_map]; exact hpw
def spGoA (K : PySem.W.Frag) : Sp := fun vs H Q _ => ∃ (p wa wb ol a : Addr) (n : Nat) (ns : List Int) (g g' : List (List Nat)) (B C O : List Nat), vs = [.ref p, .ref wa, .ref wb, .ref ol] /\ PenAt K a ns H p n /\ n < 1000000 /\ Two H wa wb ol g g' B C O /\ ol ≠ p /\ ∀ H', SameB p H H' -> Q (.bl true) H'
theorem C_law_going_alike (T : Txt K mg tMOST_PLACES cLam) : Callee P w K mg base 6 "_law_going_alike" ["_law_pen_here", "_law_web", "_law_moved_web", "_law_order"] (spGoA K) := by
  have C_law_take := C_law_take (P := P) (w := w) (base := base) T
  have Cgathered := Cgathered (P := P) (w := w) (base := base) T
  have Cgoing_to := Cgoing_to (P := P) (w := w) (base := base) T
  refine mkCallee T.d_law_going_alike sc_law_going_alike (fun _ _ _ _ _ _ us hl => match us, hl with | [_, _, _, _], _ => rfl) (fun vs H Q E h => ?_) (fun f cdv A outer s H vs Q E hr h => ?_)
  · obtain ⟨p, wa, wb, ol, a, n, ns, g, g', B, C, O, rfl, _⟩ := h; rfl
  · obtain ⟨p, wa, wb, ol, a, n, ns, g, g', B, C, O, rfl, pen, hn, tw, nop, k⟩ := h
    refine ⟨_, (pss_cons (ps_setLC (NB := ["_law_x", "_law_pen_here"]) (nt := 1) (fr := [0]) rfl (by kernel_rfl) (i := 4) sc_law_going_alike.nd rfl rfl (pi_range1 rfl T.z_range (pa_cons (pe_callB (lenq (K := K) rfl) rfl T.z_len bt_len (pa_cons (pv 1) pa_nil)) pa_nil)) (fun _ _ _ _ _ => (pg_name (i := 0) (show List.Nodup (["_law_x", "_law_pen_here"] : List Str) by decide +kernel) rfl (.inl rfl))) (fun _ _ _ _ _ => pts_nil) (fun _ _ _ _ _ => (pe_op op_mul (pe_fn C_law_take hr rfl (pa_cons (pv 1) (pa_cons (pe_op op_add (pe_op op_pow pe_int pe_int) pe_int) pa_nil))) (pe_op op_fdiv (pe_fn C_law_take hr rfl (pa_cons (pv 1) (pa_cons pe_int pa_nil))) pe_int)))) (pss_cons (ps_set (i := 5) sc_law_going_alike.nd rfl (.inl rfl) (pe_op op_rep (pe_lst (pa_cons pe_int pa_nil)) (pe_callB (lenq (K := K) rfl) rfl T.z_len bt_len (pa_cons (pv 1) pa_nil)))) (pss_cons (ps_for PassesOwn.never rfl (pi_range1 rfl T.z_range (pa_cons (pe_callB (lenq (K := K) rfl) rfl T.z_len bt_len (pa_cons (pv 1) pa_nil)) pa_nil)) (pg_name (i := 6) sc_law_going_alike.nd rfl (.inl rfl)) (pss_one (ps_asg (pe_ix (ixl (K := K) rfl) (pv 4) (pv 6) (fun _ _ => rfl)) (pg_sub (pv 5) (pe_ix (ixl (K := K) rfl) (pv 3) (pv 6) (fun _ _ => rfl)) set_list)))) (pss_cons (ps_asg (pe_fn Cgathered hr rfl (pa_cons (pv 1) (pa_cons (pv 4) pa_nil))) (pgt (K := K) (n := 3) rfl rfl (pgs_cons (pg_name (i := 7) sc_law_going_alike.nd rfl (.inl rfl)) (pgs_cons (pg_name (i := 8) sc_law_going_alike.nd rfl (.inl rfl)) (pgs_cons (pg_name (i := 9) sc_law_going_alike.nd rfl (.inl rfl)) pgs_nil))))) (pss_cons (ps_set (i := 10) sc_law_going_alike.nd rfl (.inl rfl) (pe_fn Cgathered hr rfl (pa_cons (pv 2) (pa_cons (pv 5) pa_nil)))) (pss_cons (ps_if (PW.pt (pw_or (pt_cmpR op_ne (pe_ix (ixt (K := K) rfl) (pv 10) pe_int (fun _ _ => rfl)) (pv 7) (nomark _)) (pw_or1 (pt_cmpR (neI (K := K) rfl hr) (pe_ix (ixt (K := K) rfl) (pv 10) pe_int (fun _ _ => rfl)) (pe_callB (sortq (K := K) rfl) rfl T.z_sorted bt_sorted (pa_cons (pe_lc (NB := ["_law_x", "_law_order"]) (nt := 1) (fr := [3]) rfl (by kernel_rfl) (pil (K := K) rfl (pv 8)) (fun _ _ _ _ _ => (pg_name (i := 0) (show List.Nodup (["_law_x", "_law_order"] : List Str) by decide +kernel) rfl (.inl rfl))) (fun _ _ _ _ _ => pts_nil) (fun _ _ _ _ _ => (pe_ix (ixl (K := K) rfl) (pv 1) (pv 0) (fun _ _ => rfl)))) pa_nil)) (nomark _))))) (pss_one (ps_ret pe_bl)) pss_nil) (pss_cons (ps_if (pt_cmpR (neq (K := K) rfl hr) (pe_callB (sortLLq (K := K) rfl hr) rfl T.z_sorted bt_sorted (pa_cons (pe_lc (NB := ["_law_side"]) (nt := 1) (fr := []) rfl (by kernel_rfl) (pil (K := K) rfl (pv 9)) (fun _ _ _ _ _ => (pg_name (i := 0) (show List.Nodup (["_law_side"] : List Str) by decide +kernel) rfl (.inl rfl))) (fun _ _ _ _ _ => pts_nil) (fun _ _ _ _ _ => (pe_callB (sortTIq (K := K) rfl) rfl T.z_sorted bt_sorted (pa_cons (pv 0) pa_nil)))) pa_nil)) (pe_callB (sortLLq (K := K) rfl hr) rfl T.z_sorted bt_sorted (pa_cons (pe_lc (NB := ["_law_side"]) (nt := 1) (fr := []) rfl (by kernel_rfl) (pil (K := K) rfl (pe_ix (ixt (K := K) rfl) (pv 10) pe_int (fun _ _ => rfl))) (fun _ _ _ _ _ => (pg_name (i := 0) (show List.Nodup (["_law_side"] : List Str) by decide +kernel) rfl (.inl rfl))) (fun _ _ _ _ _ => pts_nil) (fun _ _ _ _ _ => (pe_callB (sortTIq (K := K) rfl) rfl T.z_sorted bt_sorted (pa_cons (pv 0) pa_nil)))) pa_nil)) (nomark _)) (pss_one (ps_ret pe_bl)) pss_nil) (pss_cons (ps_set (i := 6) sc_law_going_alike.nd rfl (.inl rfl) (pe_fn C_law_take hr rfl (pa_cons (pv 0) (pa_cons (pe_callB (lenq (K := K) rfl) rfl T.z_len bt_len (pa_cons (pv 1) pa_nil)) pa_nil)))) (pss_one (ps_ret (pe_cmpR op_eq (pe_fn Cgoing_to hr rfl (pa_cons (pv 1) (pa_cons (pv 4) (pa_cons (pv 6) pa_nil)))) (pe_fn Cgoing_to hr rfl (pa_cons (pv 2) (pa_cons (pv 5) (pa_cons (pe_ix (ixl (K := K) rfl) (pv 3) (pv 6) (fun _ _ => rfl)) pa_nil)))) (nomark _)))))))))))), ?_⟩
    have iC := (tw.mv.med tw.med).toIso
    have iB := tw.med.toIso
    have hCl := tw.mv.len
    have h24 := tw.h2
    have h1 := tw.h1
    have hOl := tw.mv.ol
    have mB := marks_lt B h1
    have mC := marks_lt C (by omega)
    obtain ⟨ws, hws, hwl, _⟩ := tw.wa.row
    rw [tw.ga.1] at hwl
    refine ⟨_, rfl, wa, _, rfl, .inr (SqT.of hws), ((B.length : Nat) : Int), congrArg (fun z => [V.int ((z : Nat) : Int)]) hwl, by omega, by omega, lc_range0 (n := B.length) (Pv := fun j σ' ys H' => (∃ v, σ' = [v, some (.ref p)]) /\ j <= B.length /\ (∃ S : List Nat, ys = natL S /\ S.length = j /\ ∀ x ∈ S, x <= 1000000000) /\ PenAt K a ns H' p (n + 2 * j) /\ SameB p H H')
      ⟨⟨_, rfl⟩, Nat.zero_le _, ⟨[], rfl, rfl, fun x hx => absurd hx (by simp)⟩, pen, SameB.refl⟩ (fun j σ' ys H' q => ?_) ?_ ?_⟩
    · obtain ⟨_, hj, ⟨S, rfl, hl, _⟩, _⟩ := q
      rw [natL_len]
      exact small1000 (by omega)
    · rintro j σ' ys H2 hj ⟨⟨v, rfl⟩, _, ⟨S, rfl, hl, hS⟩, pen2, s2⟩
      refine lcN ⟨_, rfl, _, _, rfl, rfl, ⟨by decide, by decide, by decide⟩, _, _, rfl, rfl, p, 1000000001, _, a, ns, rfl, pen2, by omega, by decide, by decide, fun r H3 hr3 pen3 s3 => ⟨_, rfl, p, 3, _, a, ns, rfl, pen3, by omega, by omega, by omega, fun q H4 hq pen4 s4 => ?_⟩⟩
      refine ⟨_, _, rfl, rfl, ⟨by omega, by omega⟩, _, _, rfl, rfl, .inl ⟨by omega, by omega⟩, ⟨_, rfl⟩, by omega, ⟨S ++ [r * (q / 2)], ?_, by simp [hl], fun x hx => ?_⟩, penlt pen4 (by omega), s2.trans (s3.trans s4)⟩
      · exact natL_snoc S (r * (q / 2))
      · rcases List.mem_append.mp hx with z | z
        · exact hS x z
        · have : x = r * (q / 2) := by simpa using z
          rw [this]
          have q2 : q / 2 <= 1 := by omega
          have := Nat.mul_le_mul (show r <= 1000000000 by omega) q2
          omega
    · rintro σ' ys H2 ⟨_, _, ⟨Pe, rfl, hPl, hPb⟩, pen2, s2⟩ pl hpl
      have nplp := pen2.ne hpl
      have sN := Same.new (o := .lst (natL Pe)) hpl
      have hp3 : upd H2 pl (.lst (natL Pe)) pl = some (.lst (natL Pe)) := upd_same
      have pen3 := pen2.mono sN (Nat.le_refl _)
      have s3 := s2.trans sN.b
      generalize upd H2 pl (.lst (natL Pe)) = H3 at *
      have tw3 := tw.monoB s3 pen nop
      obtain ⟨ws3, hws3, hwl3, _⟩ := tw3.wa.row
      rw [tw.ga.1] at hwl3
      refine ⟨by show 1 <= sizeLine; decide, fun z0 hz0 => ?_⟩
      refine ⟨_, rfl, wa, _, rfl, .inr (SqT.of ((Same.new hz0) _ _ hws3)), z0, _, _, rfl, rfl, upd_same, by omega, by omega, ?_, fun ml hml => ?_⟩
      · show 1 * _ <= sizeLine
        rw [Int.toNat_natCast, hwl3]
        exact Nat.le_of_lt (small1000 (by omega))
      rw [rep0, hwl3]
      have sM := (Same.new (o := .lst [.int 0]) hz0).updr (o := .lst (natL (List.replicate B.length 0))) hml
      have nml3 : H3 ml = none := (Same.new hz0).free hml
      have hm4 : upd (upd H3 z0 (.lst [.int 0])) ml (.lst (natL (List.replicate B.length 0))) ml = some (.lst (natL (List.replicate B.length 0))) := upd_same
      generalize upd (upd H3 z0 (.lst [.int 0])) ml (.lst (natL (List.replicate B.length 0))) = H4 at *
      refine ⟨_, rfl, wa, _, rfl, .inr (SqT.of (sM _ _ hws3)), ((B.length : Nat) : Int), congrArg (fun z => [V.int ((z : Nat) : Int)]) hwl3, by omega, by omega, for_range0 (n := B.length) (Pv := fun j σ H' => (∃ v6, σ = [some (.ref p), some (.ref wa), some (.ref wb), some (.ref ol), some (.ref pl), some (.ref ml), v6, none, none, none, none]) /\ (∃ L : List Nat, H' ml = some (.lst (natL L)) /\ L.length = B.length /\ (∀ q ∈ L, q <= 1000000000) /\ ∀ x, x < j -> L.getD (O.getD x 0) 0 = Pe.getD x 0) /\ Same H3 H')
        ⟨⟨_, rfl⟩, ⟨_, hm4, List.length_replicate, fun q hq => by rw [List.eq_of_mem_replicate hq]; decide, fun x hx => absurd hx (Nat.not_lt_zero _)⟩, sM⟩ ?_ ?_⟩
      · rintro j σ H5 hj ⟨⟨v6, rfl⟩, ⟨L, hL, hLl, hLb, hLv⟩, s5⟩
        have ho5 := s5 _ _ tw3.ol
        have hjO : O.getD j 0 < L.length := by rw [hLl]; exact tw.mv.lt hj
        refine ⟨_, rfl, _, rfl, pl, _, _, _, rfl, rfl, SqL.of (s5 _ _ hp3), natL_getD (by omega), _, rfl, _, rfl, _, rfl, ol, _, _, _, rfl, rfl, SqL.of ho5, natL_getD (by omega), ?_⟩
        refine ⟨ml, _, _, O.getD j 0, rfl, rfl, hL, by rw [natL_len]; exact ixN_lt hjO, ⟨_, rfl⟩, ⟨L.set (O.getD j 0) (Pe.getD j 0), by rw [upd_same, natL_set], by rw [List.length_set]; exact hLl, fun q hq => ?_, fun x hx => ?_⟩, s5.of_upd nml3⟩
        · rcases List.mem_or_eq_of_mem_set hq with z | z
          · exact hLb q z
          · rw [z]; exact big_of hPb j
        · rw [List.getD_eq_getElem?_getD, List.getElem?_set]
          by_cases z : x = j
          · subst z
            rw [if_pos rfl, if_pos hjO]
            rfl
          · rw [if_neg (fun e => z (tw.mv.inj (by omega) hj e.symm)), <- List.getD_eq_getElem?_getD]
            exact hLv x (by omega)
      · rintro σ H5 ⟨⟨v6, rfl⟩, ⟨Pf, hm5, hPfl, hPfb, hPf⟩, s5⟩
        have tw5 := tw3.mono s5
        have hp5 := s5 _ _ hp3
        refine ⟨_, rfl, _, rfl, wa, pl, Pe, g, B, rfl, tw5.wa, tw.ga, tw.ra, iB, h1, h24, hp5, hPl, hPb, fun t ql sl ts M H6 gt nt nql nsl nts nqs s6 => ?_⟩
        refine ⟨t, _, rfl, SqT.of gt.tu, rfl, _, _, rfl, _, _, rfl, _, _, rfl, rfl, ?_⟩
        have tw6 := tw5.mono s6
        refine ⟨_, rfl, _, rfl, wb, ml, Pf, g', C, rfl, tw6.wb, tw.gb, tw.rb, iC, by omega, by omega, s6 _ _ hm5, by omega, hPfb, fun t2 ql2 sl2 ts2 M2 H7 gt2 nt2 nql2 nsl2 nts2 nqs2 s7 => ?_⟩
        have eM := least_O tw.mv hPf gt.le gt2.le
        subst eM
        have tw7 := tw6.mono s7
        have gt7 := gt.mono s7
        generalize hR : (List.range B.length).filter (fun x => decide (goF B Pe x = M)) = R at *
        have Rh : H7 ql = some (.lst (natL R)) := by rw [<- hR]; exact gt7.pls
        have hRlt : ∀ x ∈ R, x < B.length := fun x hx => by rw [<- hR] at hx; exact List.mem_range.mp (List.mem_filter.mp hx).1
        have hRnd : R.Nodup := by rw [<- hR]; exact List.nodup_range.filter _
        have hRlen : R.length <= B.length := by
          rw [<- hR]
          refine Nat.le_trans (List.length_filter_le _ _) ?_
          rw [List.length_range]; exact Nat.le_refl _
        refine ⟨_, rfl, t2, _, 0, _, rfl, rfl, SqT.of gt2.tu, rfl, _, rfl, rfl, _, rfl, iteNS rfl ?_⟩
        refine ⟨_, rfl, t2, _, 1, _, rfl, rfl, SqT.of gt2.tu, rfl, ?_⟩
        refine ⟨_, rfl, ql, rfl, ⟨_, SqL.of Rh⟩, lc_list (xs := natL R) (fun i σ' ys H' => (∃ v, σ' = [v, some (.ref ol)]) /\ i <= R.length /\ ys = natL ((R.take i).map fun x => O.getD x 0) /\ H7 = H')
          ⟨⟨_, rfl⟩, Nat.zero_le _, rfl, rfl⟩ (fun i σ' ys H' _ q => by rw [<- q.2.2.2]; exact SqL.of Rh) (fun i σ' ys H' q => ?_) ?_ ?_⟩
        · rw [q.2.2.1, natL_len, List.length_map, List.length_take]
          exact small1000 (by omega)
        · rintro i v σ' ys H' hi ⟨⟨v1, rfl⟩, _, rfl, rfl⟩
          obtain ⟨y, ey, rfl⟩ := natL_get hi
          refine lcN ⟨_, rfl, _, rfl, ol, _, _, _, rfl, rfl, SqL.of tw7.ol, natL_getD (by rw [hOl]; exact hRlt y (List.mem_of_getElem? ey)), ⟨_, rfl⟩, (List.getElem?_eq_some_iff.mp ey).1, ?_, rfl⟩
          rw [List.take_add_one, ey, List.map_append]
          exact natL_snoc _ _
        · rintro σ' ys H' ⟨_, _, rfl, rfl⟩ D1 hD1
          rw [natL_len, List.take_length]
          have sA := Same.new (o := .lst (natL (R.map fun x => O.getD x 0))) hD1
          refine ⟨D1, _, rfl, SqL.of (by rw [upd_same, natL_ints]), by rw [List.length_map, List.length_map]; omega, fun nl m1 hp1 hs1 hl1 => ?_⟩
          have eN := sort_to (R := (List.range C.length).filter fun y => decide (goF C Pf y = M)) hp1 hs1 (tw.mv.mapN hRlt hRnd) up_range (fun y => by rw [<- hR]; exact tw.mv.pick (fun x hx => by rw [go_O tw.mv hPf hx]) y)
          rw [eN]
          have sB := sA.updr (o := .lst ((ofI ((List.range C.length).filter fun y => decide (goF C Pf y = M))).map V.int)) hl1
          have hn8 : upd (upd H7 D1 (.lst (natL (R.map fun x => O.getD x 0)))) nl (.lst ((ofI ((List.range C.length).filter fun y => decide (goF C Pf y = M))).map V.int)) nl = some (.lst ((ofI ((List.range C.length).filter fun y => decide (goF C Pf y = M))).map V.int)) := upd_same
          generalize upd (upd H7 D1 (.lst (natL (R.map fun x => O.getD x 0)))) nl (.lst ((ofI ((List.range C.length).filter fun y => decide (goF C Pf y = M))).map V.int)) = H8 at *
          have gt8 := gt7.mono sB
          have gt28 := gt2.mono sB
          refine ⟨ql2, nl, _, _, rfl, rfl, asI gt28.pls, SqL.of hn8, _, rfl, iteNS rfl ?_⟩
          refine ⟨_, rfl, sl, rfl, ⟨_, SqL.of gt8.sls.1⟩, lc_list (xs := ts.map V.ref) (fun i σ' ys H' => (∃ v, σ' = [v]) /\ i <= ts.length /\ (∃ qs : List Addr, ys = qs.map V.ref /\ Paired (fun q m => H' q = some (.lst (natL (sdV B Pe m)))) qs ((marksF B (tiesB B B.length)).take i)) /\ Same H8 H')
            ⟨⟨_, rfl⟩, Nat.zero_le _, ⟨[], rfl, .nil⟩, Same.refl _⟩ (fun i σ' ys H' _ q => SqL.of (q.2.2.2 _ _ gt8.sls.1)) (fun i σ' ys H' q => ?_) ?_ ?_⟩
          · obtain ⟨_, hi, ⟨qs, rfl, hp⟩, _⟩ := q
            have h2 := gt8.sls.2.length
            rw [List.length_map, hp.length, List.length_take]
            exact small1000 (by omega)
          · rintro i x σ' ys H' hi ⟨⟨v, rfl⟩, _, ⟨qs, rfl, hp⟩, s'⟩
            have hi' := (List.getElem?_eq_some_iff.mp hi).1
            rw [List.length_map] at hi'
            rw [List.getElem?_map, Option.map_eq_some_iff] at hi
            obtain ⟨t, et, rfl⟩ := hi
            obtain ⟨m, em, ht⟩ := paired_at gt8.sls.2 i t et
            refine lcN ⟨_, rfl, t, ofI [inP Pe (firstH B m), inP Pe (secondH B m)], rfl, SqT.of (s' _ _ ht), by show 2 < 64; decide, fun q m1 hp1 hs1 hq => ?_⟩
            rw [sort_two hp1 hs1, <- natL_ints]
            have sq := Same.new (o := .lst (natL (sdV B Pe m))) hq
            refine ⟨⟨_, rfl⟩, by omega, ⟨qs ++ [q], by rw [List.map_append]; rfl, ?_⟩, s'.trans sq⟩
            rw [List.take_add_one, em]
            exact paired_append (paired_mono (fun _ _ z => sq _ _ z) hp) (.cons upd_same .nil)
          · rintro σ' ys H' ⟨_, _, ⟨qs1, rfl, hp1⟩, s1'⟩ D1 hD1
            have hk1 := gt8.sls.2.length
            rw [List.length_map, hk1, List.take_length] at hp1
            have hq1 := hp1.length
            have sN1 := Same.new (o := .lst (qs1.map V.ref)) hD1
            refine ⟨D1, qs1, fun i => ofI (((marksF B (tiesB B B.length)).map (sdV B Pe)).getD i []), rfl, SqL.of upd_same, by omega, fun i hi => ?_, fun l1 ps1 hps1 hpw1 hl1 => ?_⟩
            · obtain ⟨m, em, hm⟩ := paired_at hp1 i qs1[i] (List.getElem?_eq_getElem hi)
              dsimp only
              rw [List.getD_eq_getElem?_getD, List.getElem?_eq_getElem hi, List.getD_eq_getElem?_getD, List.getElem?_map, em]
              exact SqL.of (by have z := sN1 _ _ hm; rw [natL_ints] at z; exact z)
            · have sM1 := sN1.updr (o := .lst (ps1.map fun i => V.ref (qs1.getD i 0))) hl1
              obtain ⟨pr1, pm1, pw1⟩ := sorted_lls hp1 sM1 hps1 hpw1
              have hl10 : upd (upd H' D1 (.lst (qs1.map V.ref))) l1 (.lst (ps1.map fun i => V.ref (qs1.getD i 0))) l1 = some (.lst ((ps1.map fun i => qs1.getD i 0).map V.ref)) := by rw [upd_same, List.map_map]; rfl
              generalize upd (upd H' D1 (.lst (qs1.map V.ref))) l1 (.lst (ps1.map fun i => V.ref (qs1.getD i 0))) = H10 at *
              have s810 := s1'.trans sM1
              have gt10 := gt28.mono s810
              refine ⟨_, rfl, t2, _, 2, _, rfl, rfl, SqT.of gt10.tu, rfl, sl2, rfl, ⟨_, SqL.of gt10.sls.1⟩, lc_list (xs := ts2.map V.ref) (fun i σ' ys H' => (∃ v, σ' = [v]) /\ i <= ts2.length /\ (∃ qs : List Addr, ys = qs.map V.ref /\ Paired (fun q m => H' q = some (.lst (natL (sdV C Pf m)))) qs ((marksF C (tiesB C C.length)).take i)) /\ Same H10 H')
                ⟨⟨_, rfl⟩, Nat.zero_le _, ⟨[], rfl, .nil⟩, Same.refl _⟩ (fun i σ' ys H' _ q => SqL.of (q.2.2.2 _ _ gt10.sls.1)) (fun i σ' ys H' q => ?_) ?_ ?_⟩
              · obtain ⟨_, hi, ⟨qs, rfl, hp⟩, _⟩ := q
                have h2 := gt10.sls.2.length
                rw [List.length_map, hp.length, List.length_take]
                exact small1000 (by omega)
              · rintro i x σ' ys H' hi ⟨⟨v, rfl⟩, _, ⟨qs, rfl, hp⟩, s'⟩
                have hi' := (List.getElem?_eq_some_iff.mp hi).1
                rw [List.length_map] at hi'
                rw [List.getElem?_map, Option.map_eq_some_iff] at hi
                obtain ⟨t, et, rfl⟩ := hi
                obtain ⟨m, em, ht⟩ := paired_at gt10.sls.2 i t et
                refine lcN ⟨_, rfl, t, ofI [inP Pf (firstH C m), inP Pf (secondH C m)], rfl, SqT.of (s' _ _ ht), by show 2 < 64; decide, fun q m1 hp1 hs1 hq => ?_⟩
                rw [sort_two hp1 hs1, <- natL_ints]
                have sq := Same.new (o := .lst (natL (sdV C Pf m))) hq
                refine ⟨⟨_, rfl⟩, by omega, ⟨qs ++ [q], by rw [List.map_append]; rfl, ?_⟩, s'.trans sq⟩
                rw [List.take_add_one, em]
                exact paired_append (paired_mono (fun _ _ z => sq _ _ z) hp) (.cons upd_same .nil)
              · rintro σ' ys H' ⟨_, _, ⟨qs2, rfl, hp2⟩, s2'⟩ D2 hD2
                have hk2 := gt10.sls.2.length
                rw [List.length_map, hk2, List.take_length] at hp2
                have hq2 := hp2.length
                have sN2 := Same.new (o := .lst (qs2.map V.ref)) hD2
                refine ⟨D2, qs2, fun i => ofI (((marksF C (tiesB C C.length)).map (sdV C Pf)).getD i []), rfl, SqL.of upd_same, by omega, fun i hi => ?_, fun l2 ps2 hps2 hpw2 hl2 => ?_⟩
                · obtain ⟨m, em, hm⟩ := paired_at hp2 i qs2[i] (List.getElem?_eq_getElem hi)
                  dsimp only
                  rw [List.getD_eq_getElem?_getD, List.getElem?_eq_getElem hi, List.getD_eq_getElem?_getD, List.getElem?_map, em]
                  exact SqL.of (by have z := sN2 _ _ hm; rw [natL_ints] at z; exact z)
                · have sM2 := sN2.updr (o := .lst (ps2.map fun i => V.ref (qs2.getD i 0))) hl2
                  obtain ⟨pr2, pm2, pw2⟩ := sorted_lls hp2 sM2 hps2 hpw2
                  have hl11 : upd (upd H' D2 (.lst (qs2.map V.ref))) l2 (.lst (ps2.map fun i => V.ref (qs2.getD i 0))) l2 = some (.lst ((ps2.map fun i => qs2.getD i 0).map V.ref)) := by rw [upd_same, List.map_map]; rfl
                  generalize upd (upd H' D2 (.lst (qs2.map V.ref))) l2 (.lst (ps2.map fun i => V.ref (qs2.getD i 0))) = H11 at *
                  have s1011 := s2'.trans sM2
                  have e : (ps1.map fun i => ((marksF B (tiesB B B.length)).map (sdV B Pe)).getD i []) = ps2.map fun i => ((marksF C (tiesB C C.length)).map (sdV C Pf)).getD i [] := by
                    refine sorted_one (lt := fun a b => HT.lexLt (ofI a) (ofI b)) (fun a => lex_irr _) (fun {a b} q1 q2 => ofI_inj (lex_tri q1 q2)) (pm1.trans (List.Perm.trans ?_ pm2.symm)) pw1 pw2
                    rw [show (marksF B (tiesB B B.length)).map (sdV B Pe) = (marksF B (tiesB B B.length)).map (sdV C Pf) from List.map_congr_left fun m hm => (sdV_O tw.mv h1 hPf (mark_pc hm)).symm]
                    exact (tw.mv.marks.map _).symm
                  rw [e] at pr1
                  refine ⟨true, topQ_lls (s1011 _ _ hl10) (paired_mono (fun _ _ z => s1011 _ _ z) pr1) hl11 pr2, false, rfl, iteF ?_⟩
                  have s511 := s6.trans (s7.trans (sB.trans (s810.trans s1011)))
                  have s311 := s5.trans s511
                  have pen11 := pen3.mono s311 (Nat.le_refl _)
                  obtain ⟨ws4, hws4, hwl4, _⟩ := (tw3.mono s311).wa.row
                  rw [tw.ga.1] at hwl4
                  refine ⟨_, rfl, _, rfl, wa, _, rfl, .inr (SqT.of hws4), p, B.length, _, a, ns, congrArg (fun z => [V.ref p, V.int ((z : Nat) : Int)]) hwl4, pen11, by omega, by omega, by omega, fun x H12 hx pen12 s12 => ?_⟩
                  have sB12 := (s3.trans s311.b).trans s12
                  have tw12 := tw.monoB sB12 pen nop
                  have hp12 := s12 _ _ (s311 _ _ hp3) nplp
                  have hm12 := s12 _ _ (s511 _ _ hm5) (pen3.ne nml3)
                  refine ⟨_, rfl, _, rfl, _, rfl, wa, pl, x, Pe, g, B, rfl, tw12.wa, tw.ga, iB, h24, hp12, hPl, hPb, hx, fun H13 s13 => ?_⟩
                  have tw13 := tw12.mono s13
                  refine ⟨_, rfl, _, rfl, _, rfl, _, rfl, ol, _, _, _, rfl, rfl, SqL.of tw13.ol, natL_getD (by omega), wb, ml, O.getD x 0, Pf, g', C, rfl, tw13.wb, tw.gb, iC, by omega, s13 _ _ hm12, by omega, hPfb, by rw [hCl]; exact tw.mv.lt hx, fun H14 s14 => ⟨rfl, ?_⟩⟩
                  rw [go_O tw.mv hPf hx, decide_eq_true (rfl : V.int ((goF B Pe x : Nat) : Int) = V.int ((goF B Pe x : Nat) : Int))]
                  exact k H14 (sB12.trans (s13.trans s14).b)
end
section
variable {P : Program} {w : World} {K : PySem.W.Frag} {mg : Str -> Option Value} {base : Heap} {tMOST_PLACES : Tok} {cLam pLam : Addr}
open Classical in
theorem cs_sum {B : List Nat} {g : List (List Nat)} (med : Med B) (hg : IsWeb g B) (hri : Rising g) (d : Nat) : csF B g d = (B.map fun y => ch ((marksF B (tiesB B B.length)).filter fun m => decide (Down B (B.getD 0 0) y m)).length d).sum := by
  unfold csF
  have e : (B.map fun y => ch ((marksF B (tiesB B B.length)).filter fun m => decide (Down B (B.getD 0 0) y m)).length d) = (List.range B.length).map fun x => ch ((marksF B (tiesB B B.length)).filter fun m => decide (Down B (B.getD 0 0) (B.getD x 0) m)).length d := by
    apply List.ext_getElem
    · simp
    · intro i h1 h2
      rw [List.length_map] at h1
      have eg : B.getD i 0 = B[i] := by rw [List.getD_eq_getElem?_getD, List.getElem?_eq_getElem h1]; rfl
      rw [List.getElem_map, List.getElem_map, List.getElem_range, eg]
  rw [e]
  congr 1
  refine List.map_congr_left fun x hx => ?_
  have := near_down med.toIso hg (fun p => (hri p).imp fun h => Nat.ne_of_lt h) (List.mem_range.mp hx)
  unfold nrF
  rw [this]
theorem cs_pos {B : List Nat} {g : List (List Nat)} {M : Nat} (hx : ∃ x, x < B.length /\ nrF B g x = M) (hall : ∀ x, x < B.length -> nrF B g x <= M) (d : Nat) : csF B g d = 0 ↔ M < d := by
  unfold csF
  constructor
  · intro h
    obtain ⟨x, hx, e⟩ := hx
    refine Classical.byContradiction fun l => ?_
    have p := ch_pos (n := nrF B g x) (k := d) (by omega)
    have : ∀ l : List Nat, x ∈ l -> ch (nrF B g x) d <= (l.map fun x => ch (nrF B g x) d).sum := by
      intro l
      induction l with
      | nil => intro h; cases h
      | cons y l ih =>
        intro h
        rw [List.map_cons, List.sum_cons]
        rcases List.mem_cons.mp h with rfl | h
        · omega
        · have := ih h
          omega
    have := this _ (List.mem_range.mpr hx)
    omega
  · intro h
    have : ∀ l : List Nat, (∀ x ∈ l, x < B.length) -> (l.map fun x => ch (nrF B g x) d).sum = 0 := by
      intro l
      induction l with
      | nil => intro _; rfl
      | cons y l ih =>
        intro q
        rw [List.map_cons, List.sum_cons, ih fun z hz => q z (List.mem_cons_of_mem _ hz), ch_lt (by have := hall y (q y List.mem_cons_self); omega)]
    exact this _ fun x hx => List.mem_range.mp hx
theorem cs_O {H : Hp} {wa wb ol : Addr} {g g' : List (List Nat)} {B C O : List Nat} (h : Two H wa wb ol g g' B C O) (d : Nat) : csF C g' d = csF B g d := by
  rw [cs_sum (h.mv.med h.med) h.gb h.rb, cs_sum h.med h.ga h.ra]
  exact h.mv.cubes h.med h.h1 d
theorem counts_O {H : Hp} {wa wb ol : Addr} {g g' : List (List Nat)} {B C O : List Nat} (h : Two H wa wb ol g g' B C O) {M N : Nat} (x1 : ∃ x, x < B.length /\ nrF B g x = M) (a1 : ∀ x, x < B.length -> nrF B g x <= M) (x2 : ∃ x, x < C.length /\ nrF C g' x = N) (a2 : ∀ x, x < C.length -> nrF C g' x <= N) :
    (List.range (N + 1)).map (csF C g') = (List.range (M + 1)).map (csF B g) := by
  have e : M = N := by
    have p1 := (cs_pos x1 a1 (N + 1)).symm
    have p2 := cs_pos x2 a2 (N + 1)
    have p3 := (cs_pos x2 a2 (M + 1)).symm
    have p4 := cs_pos x1 a1 (M + 1)
    rw [cs_O h] at p2 p3
    have q1 := p1.mpr (p2.mpr (by omega))
    have q2 := p3.mpr (p4.mpr (by omega))
    omega
  subst e
  exact List.map_congr_left fun d _ => cs_O h d
theorem ties_lt {B : List Nat} {t : Nat × Nat} (h : t ∈ tiesB B B.length) : t.1 < B.length /\ t.2 < B.length := by
  obtain ⟨h1, h2, h3, h4⟩ := (mem_tiesB (Nat.le_refl _)).mp h
  exact ⟨h1, h3⟩
def spLaw (K : PySem.W.Frag) (pL : Addr) : Sp := fun vs H Q _ => ∃ (a : Addr) (ns : List Int), vs = [.ref a] /\ SqL K H a (ns.map V.int) /\ ns.length <= 63 /\ LamH sgate "gate" pL H /\ ∀ H', LamH sgate "gate" pL H' -> Q (.bl true) H'
theorem ok_law (T : Txt K mg tMOST_PLACES cLam) (LB : LamB base mg cLam pLam) {fa : Addr} {fd : FuncData} (F : Fun K "law" "law" slaw fa fd) : FnOk P w K mg base CX0 9 fa fd ["_law_script"] (spLaw K pLam) := by
  have C_law_pen := C_law_pen (P := P) (w := w) (base := base) T
  have C_law_take := C_law_take (P := P) (w := w) (base := base) T
  have C_law_bits := C_law_bits (P := P) (w := w) (base := base) T
  have C_law_ties := C_law_ties (P := P) (w := w) (base := base) T
  have C_law_cuts_alike := C_law_cuts_alike (P := P) (w := w) (base := base) T
  have C_law_parts_alike := C_law_parts_alike (P := P) (w := w) (base := base) T LB
  have C_law_going_alike := C_law_going_alike (P := P) (w := w) (base := base) T
  have Cweb_of := Cweb_of (P := P) (w := w) (base := base) T
  have Clooked := Clooked (P := P) (w := w) (base := base) T
  have Ccube_counts := Ccube_counts (P := P) (w := w) (base := base) T
  refine F.ok sclaw (fun vs H Q E h => ?_) (fun cdv A outer s H vs Q E hr h => ?_)
  · obtain ⟨a, ns, rfl, _⟩ := h; rfl
  · obtain ⟨a0, ns, rfl, hS, hlen, hL, k⟩ := h
    refine ⟨_, (pss_cons (ps_set (i := 1) sclaw.nd rfl (.inl rfl) (pe_fn C_law_pen hr rfl (pa_cons (pv 0) pa_nil))) (pss_cons (ps_set (i := 2) sclaw.nd rfl (.inl rfl) (pe_fn C_law_bits hr rfl (pa_cons (pv 1) (pa_cons pe_int pa_nil)))) (pss_cons (ps_set (i := 3) sclaw.nd rfl (.inr rfl) (pe_lst pa_nil)) (pss_cons (ps_for PassesOwn.never rfl (pi_range1 rfl T.z_range (pa_cons (pe_callB (lenq (K := K) rfl) rfl T.z_len bt_len (pa_cons (pv 2) pa_nil)) pa_nil)) (pg_name (i := 4) sclaw.nd rfl (.inl rfl)) (pss_one (ps_expr (bm (K := K) rfl PySem.F.plainAttrs_list PySem.F.slot_list_insert PySem.F.type_list_insert mt_insert (pv 3) (pa_cons (pe_fn C_law_take hr rfl (pa_cons (pv 1) (pa_cons (pe_op op_add (pe_callB (lenq (K := K) rfl) rfl T.z_len bt_len (pa_cons (pv 3) pa_nil)) pe_int) pa_nil))) (pa_cons (pv 4) pa_nil)))))) (pss_cons (ps_set (i := 5) sclaw.nd rfl (.inl rfl) (pe_fn Cweb_of hr rfl (pa_cons (pe_callB (lenq (K := K) rfl) rfl T.z_len bt_len (pa_cons (pv 2) pa_nil)) (pa_cons (pe_fn C_law_ties hr rfl (pa_cons (pv 2) pa_nil)) pa_nil)))) (pss_cons (ps_set (i := 6) sclaw.nd rfl (.inl rfl) (pe_fn Cweb_of hr rfl (pa_cons (pe_callB (lenq (K := K) rfl) rfl T.z_len bt_len (pa_cons (pv 2) pa_nil)) (pa_cons (pe_lc (NB := ["_law_a", "_law_b", "_law_order"]) (nt := 2) (fr := [3]) rfl (by kernel_rfl) (pil (K := K) rfl (pe_fn C_law_ties hr rfl (pa_cons (pv 2) pa_nil))) (fun _ _ _ _ _ => (pgt (K := K) (n := 2) rfl rfl (pgs_cons (pg_name (i := 0) (show List.Nodup (["_law_a", "_law_b", "_law_order"] : List Str) by decide +kernel) rfl (.inl rfl)) (pgs_cons (pg_name (i := 1) (show List.Nodup (["_law_a", "_law_b", "_law_order"] : List Str) by decide +kernel) rfl (.inl rfl)) pgs_nil)))) (fun _ _ _ _ _ => pts_nil) (fun _ _ _ _ _ => (pe_tup (pa_cons (pe_ix (ixl (K := K) rfl) (pv 2) (pv 0) (fun _ _ => rfl)) (pa_cons (pe_ix (ixl (K := K) rfl) (pv 2) (pv 1) (fun _ _ => rfl)) pa_nil))))) pa_nil)))) (pss_cons (ps_if (PW.pt (pw_or (pt_cmpR op_ne (pe_ix (ixt (K := K) rfl) (pe_fn Clooked hr rfl (pa_cons (pv 5) pa_nil)) pe_int (fun _ _ => rfl)) pe_str (nomark _)) (pw_or (pt_cmpR op_ne (pe_ix (ixt (K := K) rfl) (pe_fn Clooked hr rfl (pa_cons (pv 6) pa_nil)) pe_int (fun _ _ => rfl)) pe_str (nomark _)) (pw_or1 (pt_cmpR (neI (K := K) rfl hr) (pe_fn Ccube_counts hr rfl (pa_cons (pv 5) pa_nil)) (pe_fn Ccube_counts hr rfl (pa_cons (pv 6) pa_nil)) (nomark _)))))) (pss_one (ps_ret pe_bl)) pss_nil) (pss_cons (ps_if (PW.pt (pw_or (pt_not (pt_val (pe_fn C_law_cuts_alike hr rfl (pa_cons (pv 5) (pa_cons (pv 6) (pa_cons (pv 3) pa_nil)))))) (pw_or1 (pt_not (pt_val (pe_fn C_law_parts_alike hr rfl (pa_cons (pv 1) (pa_cons (pv 5) (pa_cons (pv 6) (pa_cons (pv 3) pa_nil)))))))))) (pss_one (ps_ret pe_bl)) pss_nil) (pss_one (ps_ret (pe_fn C_law_going_alike hr rfl (pa_cons (pv 1) (pa_cons (pv 5) (pa_cons (pv 6) (pa_cons (pv 3) pa_nil))))))))))))))), ?_⟩
    refine ⟨_, rfl, a0, ns, rfl, hS, hlen, fun p H1 np pen1 s1 => ?_⟩
    have hpL : pLam ≠ p := ne_of_none hL np
    refine ⟨_, rfl, p, 12, 1, a0, ns, rfl, pen1, by decide, by decide, by decide, fun bl B H2 med hB1 hB2 hb pen2 nb nbp s2 => ?_⟩
    have hBl : (natL B).length = B.length := natL_len B
    have hL2 : LamH sgate "gate" pLam H2 := s2 _ _ (s1 _ _ hL) hpL
    refine ⟨by show 0 <= sizeLine; decide, fun ol hol => ?_⟩
    have nop := pen2.ne hol
    have off := pen2.off hol
    have sF := Same.new (o := .lst []) hol
    have nbo : bl ≠ ol := ne_of_none hb hol
    refine ⟨_, rfl, bl, _, rfl, .inl (SqL.of (sF _ _ hb)), ((B.length : Nat) : Int), congrArg (fun z => [V.int ((z : Nat) : Int)]) hBl, by omega, by omega, for_range0 (n := B.length) (Pv := fun i σ H' => (∃ v4, σ = [some (.ref a0), some (.ref p), some (.ref bl), some (.ref ol), v4, none, none]) /\ i <= B.length /\ (∃ F : List Nat, F.Perm ((List.range B.length).take i) /\ H' ol = some (.lst (natL F))) /\ PenAt K a0 ns H' p (101 + i) /\ SameB p H2 H')
      ⟨⟨_, rfl⟩, Nat.zero_le _, ⟨[], by simp, upd_same⟩, pen2.mono sF (Nat.le_refl _), sF.b⟩ ?_ ?_⟩
    · rintro i σ H3 hi ⟨⟨v4, rfl⟩, _, ⟨F, hF, hf3⟩, pen3, s3⟩
      have ex : (List.range B.length)[i]? = some i := List.getElem?_range hi
      have hFl : F.length = i := by rw [hF.length_eq, List.length_take, List.length_range]; omega
      refine ⟨_, rfl, .inl ⟨rfl, _, SqL.of hf3⟩, _, rfl, _, rfl, ol, _, rfl, .inl (SqL.of hf3), _, _, rfl, rfl, p, F.length + 1, _, a0, ns, congrArg (fun z => [V.ref p, V.int (((z : Nat) : Int) + 1)]) (natL_len F), pen3, by omega, by omega, by omega, fun r4 H4 hr4 pen4 s4 => ?_⟩
      have hf4 := s4 _ _ hf3 nop
      refine ⟨_, rfl, ol, _, r4, _, rfl, rfl, hf4, by rw [natL_len]; omega, by rw [natL_len]; exact small1000 (by omega), ⟨_, rfl⟩, by omega, ⟨F.take r4 ++ i :: F.drop r4, insert_perm hF ex, ?_⟩, penlt (pen4.put off nop) (by omega), SameB.upd (s3.trans s4) hol⟩
      rw [upd_same, natL_insert]
    · rintro σ H3 ⟨⟨v4, rfl⟩, _, ⟨O, hO, ho3⟩, pen3, s3⟩
      rw [show (List.range B.length).take B.length = List.range B.length from List.take_of_length_le (by rw [List.length_range]; exact Nat.le_refl _)] at hO
      have mv := Mv.make hO
      have hb3 := s3 _ _ hb nbp
      have hL3 : LamH sgate "gate" pLam H3 := s3 _ _ hL2 hpL
      refine ⟨_, rfl, bl, _, rfl, .inl (SqL.of hb3), _, rfl, bl, B, rfl, hb3, by omega, fun tl H4 hties ntl s4 => ?_⟩
      refine ⟨B.length, tl, _, congrArg (fun z => [V.int ((z : Nat) : Int), V.ref tl]) hBl, hB1, by omega, hties, (tiesB_good B).seq, fun wa H5 nwa hw s5 => ?_⟩
      have s45 := s4.trans s5
      refine ⟨_, rfl, bl, _, rfl, .inl (SqL.of (s45 _ _ hb3)), _, rfl, bl, B, rfl, s45 _ _ hb3, by omega, fun tl2 H6 hties2 ntl2 s6 => ?_⟩
      obtain ⟨xs, hxs, hpx⟩ := hties2
      have s46 := s45.trans s6
      have ho6 := s46 _ _ ho3
      have hOl := mv.ol
      have htl := tiesB_len B B.length
      have h144 : B.length * B.length <= 12 * 12 := Nat.mul_le_mul hB2 hB2
      have hxl := hpx.length
      refine ⟨tl2, rfl, ⟨_, SqL.of hxs⟩, lc_list (xs := xs) (fun i σ' ys H' => (∃ v1 v2, σ' = [v1, v2, some (.ref ol)]) /\ i <= xs.length /\ Paired (TieV H') ys (((tiesB B B.length).take i).map fun t => (O.getD t.1 0, O.getD t.2 0)) /\ Same H6 H')
        ⟨⟨_, _, rfl⟩, Nat.zero_le _, .nil, Same.refl _⟩ (fun i σ' ys H' _ q => SqL.of (q.2.2.2 _ _ hxs)) (fun i σ' ys H' q => ?_) ?_ ?_⟩
      · rw [q.2.2.1.length, List.length_map, List.length_take]
        exact small1000 (by omega)
      · rintro i x σ' ys H7 hi ⟨⟨v1, v2, rfl⟩, _, hpy, s7⟩
        have hi' := (List.getElem?_eq_some_iff.mp hi).1
        obtain ⟨t, et, r, rfl, hr⟩ := paired_at hpx i x hi
        obtain ⟨lt1, lt2⟩ := ties_lt (List.mem_of_getElem? et)
        refine ⟨r, _, rfl, SqT.of (s7 _ _ hr), rfl, _, _, rfl, _, _, rfl, rfl, ?_⟩
        refine lcY ⟨_, rfl, _, rfl, ol, _, _, _, rfl, rfl, SqL.of (s7 _ _ ho6), natL_getD (by omega), _, rfl, _, rfl, ol, _, _, _, rfl, rfl, SqL.of (s7 _ _ ho6), natL_getD (by omega), by show 2 <= sizeLine; decide, fun q hq => ?_⟩
        have sq := Same.new (o := .tup [.int ((O.getD t.1 0 : Nat) : Int), .int ((O.getD t.2 0 : Nat) : Int)]) hq
        refine ⟨⟨_, _, rfl⟩, by omega, ?_, s7.trans sq⟩
        rw [List.take_add_one, et, List.map_append]
        exact paired_append (paired_mono (fun _ _ (z : TieV _ _ _) => z.mono sq) hpy) (.cons (show TieV (upd H7 q _) (V.ref q) (O.getD t.1 0, O.getD t.2 0) from ⟨q, rfl, upd_same⟩) .nil)
      · rintro σ' ys H7 ⟨_, _, hpy, s7⟩ ml hml
        rw [hxl, List.take_length] at hpy
        have sM := Same.new (o := .lst ys) hml
        have tM : TiesAt (upd H7 ml (.lst ys)) ml ((tiesB B B.length).map fun t => (O.getD t.1 0, O.getD t.2 0)) := ⟨ys, upd_same, paired_mono (fun _ _ z => z.mono sM) hpy⟩
        refine ⟨B.length, ml, _, congrArg (fun z => [V.int ((z : Nat) : Int), V.ref ml]) hBl, hB1, by omega, tM, mv.ok (tiesB_good B).seq, fun wb H8 nwb hwb s8 => ?_⟩
        have s58 := s6.trans (s7.trans (sM.trans s8))
        have s38 := s45.trans s58
        have tw : Two H8 wa wb ol _ _ B (mvB B O) O := ⟨hw.mono s58, tiesB_web B, webL_rising _ _, hwb, mv.web (fun t ht => ties_lt ht) (tiesB_web B), webL_rising _ _, mv, s38 _ _ ho3, med, hB1, by omega⟩
        have pen8 := pen3.mono s38 (Nat.le_refl _)
        have hL8 : LamH sgate "gate" pLam H8 := s38 _ _ hL3
        generalize webL B.length (tiesB B B.length) = g at *
        generalize webL B.length ((tiesB B B.length).map fun t => (O.getD t.1 0, O.getD t.2 0)) = g' at *
        have medC := mv.med med
        have hCl := mv.len
        generalize mvB B O = C at *
        refine ⟨_, rfl, wa, g, B, rfl, tw.wa, tw.ga, tw.ra, med, hB1, by omega, fun t9 l9 ps9 H9 ht9 _ _ s9 => ?_⟩
        have s3b := s3.trans s38.b
        have hSt : ∀ x : Str, decide (V.str x ≠ V.str x) = false := fun x => decide_eq_false fun h => h rfl
        refine ⟨t9, _, 0, _, rfl, rfl, SqT.of ht9, rfl, rfl, _, rfl, iteNS rfl ?_⟩
        have tw9 := tw.mono s9
        refine ⟨_, rfl, wb, g', C, rfl, tw9.wb, tw.gb, tw.rb, medC, by omega, by omega, fun t10 l10 ps10 H10 ht10 _ _ s10 => ?_⟩
        refine ⟨t10, _, 0, _, rfl, rfl, SqT.of ht10, rfl, rfl, _, rfl, iteNS rfl ?_⟩
        have tw10 := tw9.mono s10
        refine ⟨_, rfl, wa, g, B, rfl, tw10.wa, tw.ga, med.toIso, tw.ra, hB1, by omega, fun c1 M1 H11 x1 a1 nc1 hc1 s11 => ?_⟩
        have tw11 := tw10.mono s11
        refine ⟨_, rfl, wb, g', C, rfl, tw11.wb, tw.gb, medC.toIso, tw.rb, by omega, by omega, fun c2 M2 H12 x2 a2 nc2 hc2 s12 => ?_⟩
        rw [counts_O tw x1 a1 x2 a2] at hc2
        have hc1' := s12 _ _ hc1
        refine ⟨c1, c2, _, _, rfl, rfl, asI hc1', asI hc2, _, rfl, iteNS rfl ?_⟩
        have s812 := s9.trans (s10.trans (s11.trans s12))
        have tw12 := tw.mono s812
        refine ⟨_, rfl, _, rfl, _, rfl, wa, wb, ol, g, g', B, C, O, rfl, tw12, fun H13 s13 => ⟨true, rfl, iteF ?_⟩⟩
        have s813 := s812.trans s13
        refine ⟨_, rfl, _, rfl, _, rfl, _, rfl, p, wa, wb, ol, a0, _, ns, g, g', B, C, O, rfl, pen8.mono s813 (Nat.le_refl _), by omega, tw.mono s813, nop, s813 _ _ hL8, hpL, fun H14 pen14 s14 => ⟨true, rfl, iteF ?_⟩⟩
        have tw14 := (tw.mono s813).monoB s14 (pen8.mono s813 (Nat.le_refl _)) nop
        refine ⟨_, rfl, _, rfl, _, rfl, _, rfl, p, wa, wb, ol, a0, _, ns, g, g', B, C, O, rfl, pen14, by omega, tw14, nop, fun H15 s15 => ?_⟩
        exact k H15 (s15 _ _ (s14 _ _ (s813 _ _ hL8) hpL) hpL)
end
theorem all_mk {l : PySem.W.OpenLaw} {w : World} {K : PySem.W.Frag} {h : Heap} {mg : Str -> Option Value} {fa : Addr} (X : K.In h) (G : h.Ns mainGlobals mg) (hfa : mg "law" = some (.ref fa)) {f0 : Addr} {od0 an0 : Option Addr} {sl0 : Array (Option Value)} {oc0 kV0 dc0 pm0 cd0 ct0 : Value} {f1 : Addr} {od1 an1 : Option Addr} {sl1 : Array (Option Value)} {oc1 kV1 dc1 pm1 cd1 ct1 : Value} {f2 : Addr} {od2 an2 : Option Addr} {sl2 : Array (Option Value)} {oc2 kV2 dc2 pm2 cd2 ct2 : Value} {f3 : Addr} {od3 an3 : Option Addr} {sl3 : Array (Option Value)} {oc3 kV3 dc3 pm3 cd3 ct3 : Value} {f4 : Addr} {od4 an4 : Option Addr} {sl4 : Array (Option Value)} {oc4 kV4 dc4 pm4 cd4 ct4 : Value} {f5 : Addr} {od5 an5 : Option Addr} {sl5 : Array (Option Value)} {oc5 kV5 dc5 pm5 cd5 ct5 : Value} {f6 : Addr} {od6 an6 : Option Addr} {sl6 : Array (Option Value)} {oc6 kV6 dc6 pm6 cd6 ct6 : Value} {f7 : Addr} {od7 an7 : Option Addr} {sl7 : Array (Option Value)} {oc7 kV7 dc7 pm7 cd7 ct7 : Value} {f8 : Addr} {od8 an8 : Option Addr} {sl8 : Array (Option Value)} {oc8 kV8 dc8 pm8 cd8 ct8 : Value} {f9 : Addr} {od9 an9 : Option Addr} {sl9 : Array (Option Value)} {oc9 kV9 dc9 pm9 cd9 ct9 : Value} {f10 : Addr} {od10 an10 : Option Addr} {sl10 : Array (Option Value)} {oc10 kV10 dc10 pm10 cd10 ct10 : Value} {f11 : Addr} {od11 an11 : Option Addr} {sl11 : Array (Option Value)} {oc11 kV11 dc11 pm11 cd11 ct11 : Value} {f12 : Addr} {od12 an12 : Option Addr} {sl12 : Array (Option Value)} {oc12 kV12 dc12 pm12 cd12 ct12 : Value} {f13 : Addr} {od13 an13 : Option Addr} {sl13 : Array (Option Value)} {oc13 kV13 dc13 pm13 cd13 ct13 : Value} {f14 : Addr} {od14 an14 : Option Addr} {sl14 : Array (Option Value)} {oc14 kV14 dc14 pm14 cd14 ct14 : Value} {f15 : Addr} {od15 an15 : Option Addr} {sl15 : Array (Option Value)} {oc15 kV15 dc15 pm15 cd15 ct15 : Value} {f16 : Addr} {od16 an16 : Option Addr} {sl16 : Array (Option Value)} {oc16 kV16 dc16 pm16 cd16 ct16 : Value} {f17 : Addr} {od17 an17 : Option Addr} {sl17 : Array (Option Value)} {oc17 kV17 dc17 pm17 cd17 ct17 : Value} {f18 : Addr} {od18 an18 : Option Addr} {sl18 : Array (Option Value)} {oc18 kV18 dc18 pm18 cd18 ct18 : Value} {f19 : Addr} {od19 an19 : Option Addr} {sl19 : Array (Option Value)} {oc19 kV19 dc19 pm19 cd19 ct19 : Value} {f20 : Addr} {od20 an20 : Option Addr} {sl20 : Array (Option Value)} {oc20 kV20 dc20 pm20 cd20 ct20 : Value} {f21 : Addr} {od21 an21 : Option Addr} {sl21 : Array (Option Value)} {oc21 kV21 dc21 pm21 cd21 ct21 : Value} {f22 : Addr} {od22 an22 : Option Addr} {sl22 : Array (Option Value)} {oc22 kV22 dc22 pm22 cd22 ct22 : Value} {f23 : Addr} {od23 an23 : Option Addr} {sl23 : Array (Option Value)} {oc23 kV23 dc23 pm23 cd23 ct23 : Value} {f24 : Addr} {od24 an24 : Option Addr} {sl24 : Array (Option Value)} {oc24 kV24 dc24 pm24 cd24 ct24 : Value} {f25 : Addr} {od25 an25 : Option Addr} {sl25 : Array (Option Value)} {oc25 kV25 dc25 pm25 cd25 ct25 : Value} {f26 : Addr} {od26 an26 : Option Addr} {sl26 : Array (Option Value)} {oc26 kV26 dc26 pm26 cd26 ct26 : Value} {f27 : Addr} {od27 an27 : Option Addr} {sl27 : Array (Option Value)} {oc27 kV27 dc27 pm27 cd27 ct27 : Value} {f28 : Addr} {od28 an28 : Option Addr} {sl28 : Array (Option Value)} {oc28 kV28 dc28 pm28 cd28 ct28 : Value} {f29 : Addr} {od29 an29 : Option Addr} {sl29 : Array (Option Value)} {oc29 kV29 dc29 pm29 cd29 ct29 : Value} {f30 : Addr} {od30 an30 : Option Addr} {sl30 : Array (Option Value)} {oc30 kV30 dc30 pm30 cd30 ct30 : Value} {f31 : Addr} {od31 an31 : Option Addr} {sl31 : Array (Option Value)} {oc31 kV31 dc31 pm31 cd31 ct31 : Value} {f32 : Addr} {od32 an32 : Option Addr} {sl32 : Array (Option Value)} {oc32 kV32 dc32 pm32 cd32 ct32 : Value} {f33 : Addr} {od33 an33 : Option Addr} {sl33 : Array (Option Value)} {oc33 kV33 dc33 pm33 cd33 ct33 : Value} {f34 : Addr} {od34 an34 : Option Addr} {sl34 : Array (Option Value)} {oc34 kV34 dc34 pm34 cd34 ct34 : Value} {f35 : Addr} {od35 an35 : Option Addr} {sl35 : Array (Option Value)} {oc35 kV35 dc35 pm35 cd35 ct35 : Value} {f36 : Addr} {od36 an36 : Option Addr} {sl36 : Array (Option Value)} {oc36 kV36 dc36 pm36 cd36 ct36 : Value} {f37 : Addr} {od37 an37 : Option Addr} {sl37 : Array (Option Value)} {oc37 kV37 dc37 pm37 cd37 ct37 : Value} {f38 : Addr} {od38 an38 : Option Addr} {sl38 : Array (Option Value)} {oc38 kV38 dc38 pm38 cd38 ct38 : Value} {f39 : Addr} {od39 an39 : Option Addr} {sl39 : Array (Option Value)} {oc39 kV39 dc39 pm39 cd39 ct39 : Value} {f40 : Addr} {od40 an40 : Option Addr} {sl40 : Array (Option Value)} {oc40 kV40 dc40 pm40 cd40 ct40 : Value} {f41 : Addr} {od41 an41 : Option Addr} {sl41 : Array (Option Value)} {oc41 kV41 dc41 pm41 cd41 ct41 : Value} {f42 : Addr} {od42 an42 : Option Addr} {sl42 : Array (Option Value)} {oc42 kV42 dc42 pm42 cd42 ct42 : Value} {f43 : Addr} {od43 an43 : Option Addr} {sl43 : Array (Option Value)} {oc43 kV43 dc43 pm43 cd43 ct43 : Value} {f44 : Addr} {od44 an44 : Option Addr} {sl44 : Array (Option Value)} {oc44 kV44 dc44 pm44 cd44 ct44 : Value} {tMOST_PLACES : Tok} {cLam pLam : Addr} {ocL : Value} {odL : Option Addr} {vsL : Array Value} {slL : Array (Option Value)}
    (a0 : PySem.W.nsIn K mainGlobals "fars_from" = some (some (.ref f0))) (l0 : K.lookup f0 = some ⟨oc0, od0, .func (PySem.W.fnOf "fars_from" "fars_from" (defArgs sfars_from) (defBody sfars_from) (defScope sfars_from) .none kV0 dc0 pm0 an0 cd0 ct0), sl0⟩) (c0 : PySem.W.codeIn K cd0 "fars_from" = true) (k0 : PySem.W.keepIn K (.ref f0) = true)
    (a1 : PySem.W.nsIn K mainGlobals "fars" = some (some (.ref f1))) (l1 : K.lookup f1 = some ⟨oc1, od1, .func (PySem.W.fnOf "fars" "fars" (defArgs sfars) (defBody sfars) (defScope sfars) .none kV1 dc1 pm1 an1 cd1 ct1), sl1⟩) (c1 : PySem.W.codeIn K cd1 "fars" = true) (k1 : PySem.W.keepIn K (.ref f1) = true)
    (a2 : PySem.W.nsIn K mainGlobals "between_by" = some (some (.ref f2))) (l2 : K.lookup f2 = some ⟨oc2, od2, .func (PySem.W.fnOf "between_by" "between_by" (defArgs sbetween_by) (defBody sbetween_by) (defScope sbetween_by) .none kV2 dc2 pm2 an2 cd2 ct2), sl2⟩) (c2 : PySem.W.codeIn K cd2 "between_by" = true) (k2 : PySem.W.keepIn K (.ref f2) = true)
    (a3 : PySem.W.nsIn K mainGlobals "between" = some (some (.ref f3))) (l3 : K.lookup f3 = some ⟨oc3, od3, .func (PySem.W.fnOf "between" "between" (defArgs sbetween) (defBody sbetween) (defScope sbetween) .none kV3 dc3 pm3 an3 cd3 ct3), sl3⟩) (c3 : PySem.W.codeIn K cd3 "between" = true) (k3 : PySem.W.keepIn K (.ref f3) = true)
    (a4 : PySem.W.nsIn K mainGlobals "betweens" = some (some (.ref f4))) (l4 : K.lookup f4 = some ⟨oc4, od4, .func (PySem.W.fnOf "betweens" "betweens" (defArgs sbetweens) (defBody sbetweens) (defScope sbetweens) .none kV4 dc4 pm4 an4 cd4 ct4), sl4⟩) (c4 : PySem.W.codeIn K cd4 "betweens" = true) (k4 : PySem.W.keepIn K (.ref f4) = true)
    (a5 : PySem.W.nsIn K mainGlobals "in_all_three" = some (some (.ref f5))) (l5 : K.lookup f5 = some ⟨oc5, od5, .func (PySem.W.fnOf "in_all_three" "in_all_three" (defArgs sin_all_three) (defBody sin_all_three) (defScope sin_all_three) .none kV5 dc5 pm5 an5 cd5 ct5), sl5⟩) (c5 : PySem.W.codeIn K cd5 "in_all_three" = true) (k5 : PySem.W.keepIn K (.ref f5) = true)
    (a6 : PySem.W.nsIn K mainGlobals "middles" = some (some (.ref f6))) (l6 : K.lookup f6 = some ⟨oc6, od6, .func (PySem.W.fnOf "middles" "middles" (defArgs smiddles) (defBody smiddles) (defScope smiddles) .none kV6 dc6 pm6 an6 cd6 ct6), sl6⟩) (c6 : PySem.W.codeIn K cd6 "middles" = true) (k6 : PySem.W.keepIn K (.ref f6) = true)
    (a7 : PySem.W.nsIn K mainGlobals "is_whole" = some (some (.ref f7))) (l7 : K.lookup f7 = some ⟨oc7, od7, .func (PySem.W.fnOf "is_whole" "is_whole" (defArgs sis_whole) (defBody sis_whole) (defScope sis_whole) .none kV7 dc7 pm7 an7 cd7 ct7), sl7⟩) (c7 : PySem.W.codeIn K cd7 "is_whole" = true) (k7 : PySem.W.keepIn K (.ref f7) = true)
    (a8 : PySem.W.nsIn K mainGlobals "is_whole_within" = some (some (.ref f8))) (l8 : K.lookup f8 = some ⟨oc8, od8, .func (PySem.W.fnOf "is_whole_within" "is_whole_within" (defArgs sis_whole_within) (defBody sis_whole_within) (defScope sis_whole_within) .none kV8 dc8 pm8 an8 cd8 ct8), sl8⟩) (c8 : PySem.W.codeIn K cd8 "is_whole_within" = true) (k8 : PySem.W.keepIn K (.ref f8) = true)
    (a9 : PySem.W.nsIn K mainGlobals "check_number" = some (some (.ref f9))) (l9 : K.lookup f9 = some ⟨oc9, od9, .func (PySem.W.fnOf "check_number" "check_number" (defArgs scheck_number) (defBody scheck_number) (defScope scheck_number) .none kV9 dc9 pm9 an9 cd9 ct9), sl9⟩) (c9 : PySem.W.codeIn K cd9 "check_number" = true) (k9 : PySem.W.keepIn K (.ref f9) = true)
    (a10 : PySem.W.nsIn K mainGlobals "check_tie" = some (some (.ref f10))) (l10 : K.lookup f10 = some ⟨oc10, od10, .func (PySem.W.fnOf "check_tie" "check_tie" (defArgs scheck_tie) (defBody scheck_tie) (defScope scheck_tie) .none kV10 dc10 pm10 an10 cd10 ct10), sl10⟩) (c10 : PySem.W.codeIn K cd10 "check_tie" = true) (k10 : PySem.W.keepIn K (.ref f10) = true)
    (a11 : PySem.W.nsIn K mainGlobals "tied_places" = some (some (.ref f11))) (l11 : K.lookup f11 = some ⟨oc11, od11, .func (PySem.W.fnOf "tied_places" "tied_places" (defArgs stied_places) (defBody stied_places) (defScope stied_places) .none kV11 dc11 pm11 an11 cd11 ct11), sl11⟩) (c11 : PySem.W.codeIn K cd11 "tied_places" = true) (k11 : PySem.W.keepIn K (.ref f11) = true)
    (a12 : PySem.W.nsIn K mainGlobals "web_of" = some (some (.ref f12))) (l12 : K.lookup f12 = some ⟨oc12, od12, .func (PySem.W.fnOf "web_of" "web_of" (defArgs sweb_of) (defBody sweb_of) (defScope sweb_of) .none kV12 dc12 pm12 an12 cd12 ct12), sl12⟩) (c12 : PySem.W.codeIn K cd12 "web_of" = true) (k12 : PySem.W.keepIn K (.ref f12) = true)
    (a13 : PySem.W.nsIn K mainGlobals "ties_of" = some (some (.ref f13))) (l13 : K.lookup f13 = some ⟨oc13, od13, .func (PySem.W.fnOf "ties_of" "ties_of" (defArgs sties_of) (defBody sties_of) (defScope sties_of) .none kV13 dc13 pm13 an13 cd13 ct13), sl13⟩) (c13 : PySem.W.codeIn K cd13 "ties_of" = true) (k13 : PySem.W.keepIn K (.ref f13) = true)
    (a14 : PySem.W.nsIn K mainGlobals "are_in_one_class" = some (some (.ref f14))) (l14 : K.lookup f14 = some ⟨oc14, od14, .func (PySem.W.fnOf "are_in_one_class" "are_in_one_class" (defArgs sare_in_one_class) (defBody sare_in_one_class) (defScope sare_in_one_class) .none kV14 dc14 pm14 an14 cd14 ct14), sl14⟩) (c14 : PySem.W.codeIn K cd14 "are_in_one_class" = true) (k14 : PySem.W.keepIn K (.ref f14) = true)
    (a15 : PySem.W.nsIn K mainGlobals "classes" = some (some (.ref f15))) (l15 : K.lookup f15 = some ⟨oc15, od15, .func (PySem.W.fnOf "classes" "classes" (defArgs sclasses) (defBody sclasses) (defScope sclasses) .none kV15 dc15 pm15 an15 cd15 ct15), sl15⟩) (c15 : PySem.W.codeIn K cd15 "classes" = true) (k15 : PySem.W.keepIn K (.ref f15) = true)
    (a16 : PySem.W.nsIn K mainGlobals "halves_by" = some (some (.ref f16))) (l16 : K.lookup f16 = some ⟨oc16, od16, .func (PySem.W.fnOf "halves_by" "halves_by" (defArgs shalves_by) (defBody shalves_by) (defScope shalves_by) .none kV16 dc16 pm16 an16 cd16 ct16), sl16⟩) (c16 : PySem.W.codeIn K cd16 "halves_by" = true) (k16 : PySem.W.keepIn K (.ref f16) = true)
    (a17 : PySem.W.nsIn K mainGlobals "halves" = some (some (.ref f17))) (l17 : K.lookup f17 = some ⟨oc17, od17, .func (PySem.W.fnOf "halves" "halves" (defArgs shalves) (defBody shalves) (defScope shalves) .none kV17 dc17 pm17 an17 cd17 ct17), sl17⟩) (c17 : PySem.W.codeIn K cd17 "halves" = true) (k17 : PySem.W.keepIn K (.ref f17) = true)
    (a18 : PySem.W.nsIn K mainGlobals "bit_rows" = some (some (.ref f18))) (l18 : K.lookup f18 = some ⟨oc18, od18, .func (PySem.W.fnOf "bit_rows" "bit_rows" (defArgs sbit_rows) (defBody sbit_rows) (defScope sbit_rows) .none kV18 dc18 pm18 an18 cd18 ct18), sl18⟩) (c18 : PySem.W.codeIn K cd18 "bit_rows" = true) (k18 : PySem.W.keepIn K (.ref f18) = true)
    (a19 : PySem.W.nsIn K mainGlobals "middle" = some (some (.ref f19))) (l19 : K.lookup f19 = some ⟨oc19, od19, .func (PySem.W.fnOf "middle" "middle" (defArgs smiddle) (defBody smiddle) (defScope smiddle) .none kV19 dc19 pm19 an19 cd19 ct19), sl19⟩) (c19 : PySem.W.codeIn K cd19 "middle" = true) (k19 : PySem.W.keepIn K (.ref f19) = true)
    (a20 : PySem.W.nsIn K mainGlobals "going_to" = some (some (.ref f20))) (l20 : K.lookup f20 = some ⟨oc20, od20, .func (PySem.W.fnOf "going_to" "going_to" (defArgs sgoing_to) (defBody sgoing_to) (defScope sgoing_to) .none kV20 dc20 pm20 an20 cd20 ct20), sl20⟩) (c20 : PySem.W.codeIn K cd20 "going_to" = true) (k20 : PySem.W.keepIn K (.ref f20) = true)
    (a21 : PySem.W.nsIn K mainGlobals "people_in" = some (some (.ref f21))) (l21 : K.lookup f21 = some ⟨oc21, od21, .func (PySem.W.fnOf "people_in" "people_in" (defArgs speople_in) (defBody speople_in) (defScope speople_in) .none kV21 dc21 pm21 an21 cd21 ct21), sl21⟩) (c21 : PySem.W.codeIn K cd21 "people_in" = true) (k21 : PySem.W.keepIn K (.ref f21) = true)
    (a22 : PySem.W.nsIn K mainGlobals "gathered" = some (some (.ref f22))) (l22 : K.lookup f22 = some ⟨oc22, od22, .func (PySem.W.fnOf "gathered" "gathered" (defArgs sgathered) (defBody sgathered) (defScope sgathered) .none kV22 dc22 pm22 an22 cd22 ct22), sl22⟩) (c22 : PySem.W.codeIn K cd22 "gathered" = true) (k22 : PySem.W.keepIn K (.ref f22) = true)
    (a23 : PySem.W.nsIn K mainGlobals "choices" = some (some (.ref f23))) (l23 : K.lookup f23 = some ⟨oc23, od23, .func (PySem.W.fnOf "choices" "choices" (defArgs schoices) (defBody schoices) (defScope schoices) .none kV23 dc23 pm23 an23 cd23 ct23), sl23⟩) (c23 : PySem.W.codeIn K cd23 "choices" = true) (k23 : PySem.W.keepIn K (.ref f23) = true)
    (a24 : PySem.W.nsIn K mainGlobals "cube_counts" = some (some (.ref f24))) (l24 : K.lookup f24 = some ⟨oc24, od24, .func (PySem.W.fnOf "cube_counts" "cube_counts" (defArgs scube_counts) (defBody scube_counts) (defScope scube_counts) .none kV24 dc24 pm24 an24 cd24 ct24), sl24⟩) (c24 : PySem.W.codeIn K cd24 "cube_counts" = true) (k24 : PySem.W.keepIn K (.ref f24) = true)
    (a25 : PySem.W.nsIn K mainGlobals "agreed_classes" = some (some (.ref f25))) (l25 : K.lookup f25 = some ⟨oc25, od25, .func (PySem.W.fnOf "agreed_classes" "agreed_classes" (defArgs sagreed_classes) (defBody sagreed_classes) (defScope sagreed_classes) .none kV25 dc25 pm25 an25 cd25 ct25), sl25⟩) (c25 : PySem.W.codeIn K cd25 "agreed_classes" = true) (k25 : PySem.W.keepIn K (.ref f25) = true)
    (a26 : PySem.W.nsIn K mainGlobals "hull" = some (some (.ref f26))) (l26 : K.lookup f26 = some ⟨oc26, od26, .func (PySem.W.fnOf "hull" "hull" (defArgs shull) (defBody shull) (defScope shull) .none kV26 dc26 pm26 an26 cd26 ct26), sl26⟩) (c26 : PySem.W.codeIn K cd26 "hull" = true) (k26 : PySem.W.keepIn K (.ref f26) = true)
    (a27 : PySem.W.nsIn K mainGlobals "gate" = some (some (.ref f27))) (l27 : K.lookup f27 = some ⟨oc27, od27, .func (PySem.W.fnOf "gate" "gate" (defArgs sgate) (defBody sgate) (defScope sgate) .none kV27 dc27 pm27 an27 cd27 ct27), sl27⟩) (c27 : PySem.W.codeIn K cd27 "gate" = true) (k27 : PySem.W.keepIn K (.ref f27) = true)
    (a28 : PySem.W.nsIn K mainGlobals "told_apart" = some (some (.ref f28))) (l28 : K.lookup f28 = some ⟨oc28, od28, .func (PySem.W.fnOf "told_apart" "told_apart" (defArgs stold_apart) (defBody stold_apart) (defScope stold_apart) .none kV28 dc28 pm28 an28 cd28 ct28), sl28⟩) (c28 : PySem.W.codeIn K cd28 "told_apart" = true) (k28 : PySem.W.keepIn K (.ref f28) = true)
    (a29 : PySem.W.nsIn K mainGlobals "told_bad" = some (some (.ref f29))) (l29 : K.lookup f29 = some ⟨oc29, od29, .func (PySem.W.fnOf "told_bad" "told_bad" (defArgs stold_bad) (defBody stold_bad) (defScope stold_bad) .none kV29 dc29 pm29 an29 cd29 ct29), sl29⟩) (c29 : PySem.W.codeIn K cd29 "told_bad" = true) (k29 : PySem.W.keepIn K (.ref f29) = true)
    (a30 : PySem.W.nsIn K mainGlobals "looked" = some (some (.ref f30))) (l30 : K.lookup f30 = some ⟨oc30, od30, .func (PySem.W.fnOf "looked" "looked" (defArgs slooked) (defBody slooked) (defScope slooked) .none kV30 dc30 pm30 an30 cd30 ct30), sl30⟩) (c30 : PySem.W.codeIn K cd30 "looked" = true) (k30 : PySem.W.keepIn K (.ref f30) = true)
    (a31 : PySem.W.nsIn K mainGlobals "_law_mixed" = some (some (.ref f31))) (l31 : K.lookup f31 = some ⟨oc31, od31, .func (PySem.W.fnOf "_law_mixed" "_law_mixed" (defArgs s_law_mixed) (defBody s_law_mixed) (defScope s_law_mixed) .none kV31 dc31 pm31 an31 cd31 ct31), sl31⟩) (c31 : PySem.W.codeIn K cd31 "_law_mixed" = true) (k31 : PySem.W.keepIn K (.ref f31) = true)
    (a32 : PySem.W.nsIn K mainGlobals "_law_cell" = some (some (.ref f32))) (l32 : K.lookup f32 = some ⟨oc32, od32, .func (PySem.W.fnOf "_law_cell" "_law_cell" (defArgs s_law_cell) (defBody s_law_cell) (defScope s_law_cell) .none kV32 dc32 pm32 an32 cd32 ct32), sl32⟩) (c32 : PySem.W.codeIn K cd32 "_law_cell" = true) (k32 : PySem.W.keepIn K (.ref f32) = true)
    (a33 : PySem.W.nsIn K mainGlobals "_law_pen" = some (some (.ref f33))) (l33 : K.lookup f33 = some ⟨oc33, od33, .func (PySem.W.fnOf "_law_pen" "_law_pen" (defArgs s_law_pen) (defBody s_law_pen) (defScope s_law_pen) .none kV33 dc33 pm33 an33 cd33 ct33), sl33⟩) (c33 : PySem.W.codeIn K cd33 "_law_pen" = true) (k33 : PySem.W.keepIn K (.ref f33) = true)
    (a34 : PySem.W.nsIn K mainGlobals "_law_take" = some (some (.ref f34))) (l34 : K.lookup f34 = some ⟨oc34, od34, .func (PySem.W.fnOf "_law_take" "_law_take" (defArgs s_law_take) (defBody s_law_take) (defScope s_law_take) .none kV34 dc34 pm34 an34 cd34 ct34), sl34⟩) (c34 : PySem.W.codeIn K cd34 "_law_take" = true) (k34 : PySem.W.keepIn K (.ref f34) = true)
    (a35 : PySem.W.nsIn K mainGlobals "_law_hull" = some (some (.ref f35))) (l35 : K.lookup f35 = some ⟨oc35, od35, .func (PySem.W.fnOf "_law_hull" "_law_hull" (defArgs s_law_hull) (defBody s_law_hull) (defScope s_law_hull) .none kV35 dc35 pm35 an35 cd35 ct35), sl35⟩) (c35 : PySem.W.codeIn K cd35 "_law_hull" = true) (k35 : PySem.W.keepIn K (.ref f35) = true)
    (a36 : PySem.W.nsIn K mainGlobals "_law_some" = some (some (.ref f36))) (l36 : K.lookup f36 = some ⟨oc36, od36, .func (PySem.W.fnOf "_law_some" "_law_some" (defArgs s_law_some) (defBody s_law_some) (defScope s_law_some) .none kV36 dc36 pm36 an36 cd36 ct36), sl36⟩) (c36 : PySem.W.codeIn K cd36 "_law_some" = true) (k36 : PySem.W.keepIn K (.ref f36) = true)
    (a37 : PySem.W.nsIn K mainGlobals "_law_bits" = some (some (.ref f37))) (l37 : K.lookup f37 = some ⟨oc37, od37, .func (PySem.W.fnOf "_law_bits" "_law_bits" (defArgs s_law_bits) (defBody s_law_bits) (defScope s_law_bits) .none kV37 dc37 pm37 an37 cd37 ct37), sl37⟩) (c37 : PySem.W.codeIn K cd37 "_law_bits" = true) (k37 : PySem.W.keepIn K (.ref f37) = true)
    (a38 : PySem.W.nsIn K mainGlobals "_law_unlike" = some (some (.ref f38))) (l38 : K.lookup f38 = some ⟨oc38, od38, .func (PySem.W.fnOf "_law_unlike" "_law_unlike" (defArgs s_law_unlike) (defBody s_law_unlike) (defScope s_law_unlike) .none kV38 dc38 pm38 an38 cd38 ct38), sl38⟩) (c38 : PySem.W.codeIn K cd38 "_law_unlike" = true) (k38 : PySem.W.keepIn K (.ref f38) = true)
    (a39 : PySem.W.nsIn K mainGlobals "_law_ties" = some (some (.ref f39))) (l39 : K.lookup f39 = some ⟨oc39, od39, .func (PySem.W.fnOf "_law_ties" "_law_ties" (defArgs s_law_ties) (defBody s_law_ties) (defScope s_law_ties) .none kV39 dc39 pm39 an39 cd39 ct39), sl39⟩) (c39 : PySem.W.codeIn K cd39 "_law_ties" = true) (k39 : PySem.W.keepIn K (.ref f39) = true)
    (a40 : PySem.W.nsIn K mainGlobals "_law_pieces" = some (some (.ref f40))) (l40 : K.lookup f40 = some ⟨oc40, od40, .func (PySem.W.fnOf "_law_pieces" "_law_pieces" (defArgs s_law_pieces) (defBody s_law_pieces) (defScope s_law_pieces) .none kV40 dc40 pm40 an40 cd40 ct40), sl40⟩) (c40 : PySem.W.codeIn K cd40 "_law_pieces" = true) (k40 : PySem.W.keepIn K (.ref f40) = true)
    (a41 : PySem.W.nsIn K mainGlobals "_law_cuts_alike" = some (some (.ref f41))) (l41 : K.lookup f41 = some ⟨oc41, od41, .func (PySem.W.fnOf "_law_cuts_alike" "_law_cuts_alike" (defArgs s_law_cuts_alike) (defBody s_law_cuts_alike) (defScope s_law_cuts_alike) .none kV41 dc41 pm41 an41 cd41 ct41), sl41⟩) (c41 : PySem.W.codeIn K cd41 "_law_cuts_alike" = true) (k41 : PySem.W.keepIn K (.ref f41) = true)
    (a42 : PySem.W.nsIn K mainGlobals "_law_parts_alike" = some (some (.ref f42))) (l42 : K.lookup f42 = some ⟨oc42, od42, .func (PySem.W.fnOf "_law_parts_alike" "_law_parts_alike" (defArgs s_law_parts_alike) (defBody s_law_parts_alike) (defScope s_law_parts_alike) .none kV42 dc42 pm42 an42 cd42 ct42), sl42⟩) (c42 : PySem.W.codeIn K cd42 "_law_parts_alike" = true) (k42 : PySem.W.keepIn K (.ref f42) = true)
    (a43 : PySem.W.nsIn K mainGlobals "_law_going_alike" = some (some (.ref f43))) (l43 : K.lookup f43 = some ⟨oc43, od43, .func (PySem.W.fnOf "_law_going_alike" "_law_going_alike" (defArgs s_law_going_alike) (defBody s_law_going_alike) (defScope s_law_going_alike) .none kV43 dc43 pm43 an43 cd43 ct43), sl43⟩) (c43 : PySem.W.codeIn K cd43 "_law_going_alike" = true) (k43 : PySem.W.keepIn K (.ref f43) = true)
    (a44 : PySem.W.nsIn K mainGlobals "law" = some (some (.ref f44))) (l44 : K.lookup f44 = some ⟨oc44, od44, .func (PySem.W.fnOf "law" "law" (defArgs slaw) (defBody slaw) (defScope slaw) .none kV44 dc44 pm44 an44 cd44 ct44), sl44⟩) (c44 : PySem.W.codeIn K cd44 "law" = true) (k44 : PySem.W.keepIn K (.ref f44) = true)
    (zlen : PySem.W.nsIn K mainGlobals "len" = some none)
    (zisinstance : PySem.W.nsIn K mainGlobals "isinstance" = some none)
    (zint : PySem.W.nsIn K mainGlobals "int" = some none)
    (zbool : PySem.W.nsIn K mainGlobals "bool" = some none)
    (zlist : PySem.W.nsIn K mainGlobals "list" = some none)
    (ztuple : PySem.W.nsIn K mainGlobals "tuple" = some none)
    (zrange : PySem.W.nsIn K mainGlobals "range" = some none)
    (zenumerate : PySem.W.nsIn K mainGlobals "enumerate" = some none)
    (zsorted : PySem.W.nsIn K mainGlobals "sorted" = some none)
    (zmin : PySem.W.nsIn K mainGlobals "min" = some none)
    (zmax : PySem.W.nsIn K mainGlobals "max" = some none)
    (zall : PySem.W.nsIn K mainGlobals "all" = some none)
    (zsum : PySem.W.nsIn K mainGlobals "sum" = some none)
    (gMOST_PLACES : PySem.W.nsIn K mainGlobals "MOST_PLACES" = some (some (.int 24 tMOST_PLACES)))
    (u0 : cd27 = .ref cLam) (u1 : K.lookup cLam = some ⟨ocL, odL, .fields vsL, slL⟩) (u2 : vsL[11]? = some (.ref pLam)) :
    ∃ (fd : FuncData) (c P : Addr), (∀ (s : Shared) (v : Value), BindsTo s fd ⟨[v], []⟩ [("_law_script", v)]) /\ PySem.W.tabIn K "gate" = some (c, P) /\ ∀ base : Heap, K.In base -> base.Ns mainGlobals mg -> LamB base mg c P -> FnOk l.prog w K mg base CX0 9 fa fd ["_law_script"] (spLaw K P) := by
  have T : Txt K mg tMOST_PLACES cLam := ⟨⟨f0, _, fun_mk (st := sfars_from) l0 c0 k0, PySem.W.mg_of X G a0⟩, ⟨f1, _, fun_mk (st := sfars) l1 c1 k1, PySem.W.mg_of X G a1⟩, ⟨f2, _, fun_mk (st := sbetween_by) l2 c2 k2, PySem.W.mg_of X G a2⟩, ⟨f3, _, fun_mk (st := sbetween) l3 c3 k3, PySem.W.mg_of X G a3⟩, ⟨f4, _, fun_mk (st := sbetweens) l4 c4 k4, PySem.W.mg_of X G a4⟩, ⟨f5, _, fun_mk (st := sin_all_three) l5 c5 k5, PySem.W.mg_of X G a5⟩, ⟨f6, _, fun_mk (st := smiddles) l6 c6 k6, PySem.W.mg_of X G a6⟩, ⟨f7, _, fun_mk (st := sis_whole) l7 c7 k7, PySem.W.mg_of X G a7⟩, ⟨f8, _, fun_mk (st := sis_whole_within) l8 c8 k8, PySem.W.mg_of X G a8⟩, ⟨f9, _, fun_mk (st := scheck_number) l9 c9 k9, PySem.W.mg_of X G a9⟩, ⟨f10, _, fun_mk (st := scheck_tie) l10 c10 k10, PySem.W.mg_of X G a10⟩, ⟨f11, _, fun_mk (st := stied_places) l11 c11 k11, PySem.W.mg_of X G a11⟩, ⟨f12, _, fun_mk (st := sweb_of) l12 c12 k12, PySem.W.mg_of X G a12⟩, ⟨f13, _, fun_mk (st := sties_of) l13 c13 k13, PySem.W.mg_of X G a13⟩, ⟨f14, _, fun_mk (st := sare_in_one_class) l14 c14 k14, PySem.W.mg_of X G a14⟩, ⟨f15, _, fun_mk (st := sclasses) l15 c15 k15, PySem.W.mg_of X G a15⟩, ⟨f16, _, fun_mk (st := shalves_by) l16 c16 k16, PySem.W.mg_of X G a16⟩, ⟨f17, _, fun_mk (st := shalves) l17 c17 k17, PySem.W.mg_of X G a17⟩, ⟨f18, _, fun_mk (st := sbit_rows) l18 c18 k18, PySem.W.mg_of X G a18⟩, ⟨f19, _, fun_mk (st := smiddle) l19 c19 k19, PySem.W.mg_of X G a19⟩, ⟨f20, _, fun_mk (st := sgoing_to) l20 c20 k20, PySem.W.mg_of X G a20⟩, ⟨f21, _, fun_mk (st := speople_in) l21 c21 k21, PySem.W.mg_of X G a21⟩, ⟨f22, _, fun_mk (st := sgathered) l22 c22 k22, PySem.W.mg_of X G a22⟩, ⟨f23, _, fun_mk (st := schoices) l23 c23 k23, PySem.W.mg_of X G a23⟩, ⟨f24, _, fun_mk (st := scube_counts) l24 c24 k24, PySem.W.mg_of X G a24⟩, ⟨f25, _, fun_mk (st := sagreed_classes) l25 c25 k25, PySem.W.mg_of X G a25⟩, ⟨f26, _, fun_mk (st := shull) l26 c26 k26, PySem.W.mg_of X G a26⟩, ⟨f27, _, fun_mk (st := sgate) l27 c27 k27, PySem.W.mg_of X G a27⟩, ⟨f28, _, fun_mk (st := stold_apart) l28 c28 k28, PySem.W.mg_of X G a28⟩, ⟨f29, _, fun_mk (st := stold_bad) l29 c29 k29, PySem.W.mg_of X G a29⟩, ⟨f30, _, fun_mk (st := slooked) l30 c30 k30, PySem.W.mg_of X G a30⟩, ⟨f31, _, fun_mk (st := s_law_mixed) l31 c31 k31, PySem.W.mg_of X G a31⟩, ⟨f32, _, fun_mk (st := s_law_cell) l32 c32 k32, PySem.W.mg_of X G a32⟩, ⟨f33, _, fun_mk (st := s_law_pen) l33 c33 k33, PySem.W.mg_of X G a33⟩, ⟨f34, _, fun_mk (st := s_law_take) l34 c34 k34, PySem.W.mg_of X G a34⟩, ⟨f35, _, fun_mk (st := s_law_hull) l35 c35 k35, PySem.W.mg_of X G a35⟩, ⟨f36, _, fun_mk (st := s_law_some) l36 c36 k36, PySem.W.mg_of X G a36⟩, ⟨f37, _, fun_mk (st := s_law_bits) l37 c37 k37, PySem.W.mg_of X G a37⟩, ⟨f38, _, fun_mk (st := s_law_unlike) l38 c38 k38, PySem.W.mg_of X G a38⟩, ⟨f39, _, fun_mk (st := s_law_ties) l39 c39 k39, PySem.W.mg_of X G a39⟩, ⟨f40, _, fun_mk (st := s_law_pieces) l40 c40 k40, PySem.W.mg_of X G a40⟩, ⟨f41, _, fun_mk (st := s_law_cuts_alike) l41 c41 k41, PySem.W.mg_of X G a41⟩, ⟨f42, _, fun_mk (st := s_law_parts_alike) l42 c42 k42, PySem.W.mg_of X G a42⟩, ⟨f43, _, fun_mk (st := s_law_going_alike) l43 c43 k43, PySem.W.mg_of X G a43⟩, ⟨f44, _, fun_mk (st := slaw) l44 c44 k44, PySem.W.mg_of X G a44⟩, PySem.W.mg_none_of X G zlen, PySem.W.mg_none_of X G zisinstance, PySem.W.mg_none_of X G zint, PySem.W.mg_none_of X G zbool, PySem.W.mg_none_of X G zlist, PySem.W.mg_none_of X G ztuple, PySem.W.mg_none_of X G zrange, PySem.W.mg_none_of X G zenumerate, PySem.W.mg_none_of X G zsorted, PySem.W.mg_none_of X G zmin, PySem.W.mg_none_of X G zmax, PySem.W.mg_none_of X G zall, PySem.W.mg_none_of X G zsum, PySem.W.mg_of X G gMOST_PLACES, ⟨f27, _, fun_mk (st := sgate) l27 c27 k27, PySem.W.mg_of X G a27, u0⟩⟩
  have e := hfa.symm.trans (PySem.W.mg_of X G a44)
  cases e
  exact ⟨_, cLam, pLam, fun s v => .of_eq rfl, tabIn_of a27 l27 u0 u1 u2, fun base _ _ LB => ok_law T LB (fun_mk (st := slaw) l44 c44 k44)⟩
theorem walk {l : PySem.W.OpenLaw} {q : Program} {loose : List Str} {XP : (Str -> Option Value) -> Heap -> Prop} {YP : World -> Heap -> Prop} {d d0 : DefRec} {K : Params -> PySem.W.Frag} (hn : l.most = some 63) (hdf : d.params.defaults = []) (hrec : (PyProof.Rows.recsOf q).find? (fun e => e.name == PySem.Str.ofString "gate") = some d0) (hnt : ∀ w : World, PySem.W.noTabs (K w.params) = true)
    (hY : ∀ (w : World) (h : Heap), YP w h -> (K w.params).In h)
    (F : ∀ (w : World) (mg : Str -> Option Value) (fa : Addr) (h : Heap), (K w.params).In h -> h.Ns mainGlobals mg -> mg d.name = some (.ref fa) ->
      ∃ (fd : FuncData) (c P : Addr), (∀ (s : Shared) (u : Value), BindsTo s fd ⟨[u], []⟩ [("_law_script", u)]) /\ PySem.W.tabIn (K w.params) "gate" = some (c, P) /\ ∀ base : Heap, (K w.params).In base -> base.Ns mainGlobals mg -> LamB base mg c P -> FnOk l.prog w (K w.params) mg base CX0 9 fa fd ["_law_script"] (spLaw (K w.params) P)) :
    PySem.W.WalkO q loose XP YP l.row.toRowW d [] (fun f vs => PySem.call f vs) :=
  L2.walk_ofT (n := 63) (k := 9) (x := "_law_script") (x0 := "gate") (lp := lamPos sgate) (ql := lamQ "gate") (CX := CX0) (sp := spLaw) hn (by decide) hdf ⟨rfl, by decide, by decide⟩ hrec hY hnt F (fun _ _ _ a ns hl hT hS => ⟨a, ns, rfl, hS, hl, hT, fun _ h => ⟨rfl, h⟩⟩) fun _ _ _ _ z => z
end K50
def PySem.W.Fast.tw14185415696951868172 : Nat := 0
def PySem.W.Fast.tw15598265034411269120 : Nat := 0
def PySem.W.Fast.tw17680203166495381664 : Nat := 0
def PySem.W.Fast.tw13819927268055740566 : Nat := 0
def PySem.W.Fast.tw10844486881663070961 : Nat := 0
def PySem.W.Fast.tw231409880334524418 : Nat := 0
def PySem.W.Fast.tw15490915995641303608 : Nat := 0
def PySem.W.Fast.tw8645902826896578664 : Nat := 0
def PySem.W.Fast.tw6081609960586536617 : Nat := 0
def PySem.W.Fast.tw5525734798010988089 : Nat := 0
def PySem.W.Fast.tw7308908640090024950 : Nat := 0
def PySem.W.Fast.tw17710511439097774032 : Nat := 0
def PySem.W.Fast.tw9286553967152850253 : Nat := 0
def PySem.W.Fast.tw16468257467574884223 : Nat := 0
def PySem.W.Fast.tw4949331002727346728 : Nat := 0
def PySem.W.Fast.tw12174053418926758915 : Nat := 0
open PySem PySem.W PyProof.Rows
set_option maxRecDepth 100000 in
set_option maxHeartbeats 0 in
theorem PySem.Challenge.cw_middleweb_k50_whole_by_other_numbers_holds : PySem.Challenge.rw_middleweb_k50_whole_by_other_numbers.Holds := by
  w_on; o_law; k_head; (case hw => w_witness2)
  k_fill
  refine K50.walk (l := PySem.Challenge.rw_middleweb_k50_whole_by_other_numbers) rfl rfl rfl (fun w => by kernel_rfl) (fun w h Y => PySem.W.km_in_of Y) ?F
  case F =>
    intro w mg fa h KX G hmg
    refine' K50.all_mk KX G hmg ?a0 ?l0 ?c0 ?k0 ?a1 ?l1 ?c1 ?k1 ?a2 ?l2 ?c2 ?k2 ?a3 ?l3 ?c3 ?k3 ?a4 ?l4 ?c4 ?k4 ?a5 ?l5 ?c5 ?k5 ?a6 ?l6 ?c6 ?k6 ?a7 ?l7 ?c7 ?k7 ?a8 ?l8 ?c8 ?k8 ?a9 ?l9 ?c9 ?k9 ?a10 ?l10 ?c10 ?k10 ?a11 ?l11 ?c11 ?k11 ?a12 ?l12 ?c12 ?k12 ?a13 ?l13 ?c13 ?k13 ?a14 ?l14 ?c14 ?k14 ?a15 ?l15 ?c15 ?k15 ?a16 ?l16 ?c16 ?k16 ?a17 ?l17 ?c17 ?k17 ?a18 ?l18 ?c18 ?k18 ?a19 ?l19 ?c19 ?k19 ?a20 ?l20 ?c20 ?k20 ?a21 ?l21 ?c21 ?k21 ?a22 ?l22 ?c22 ?k22 ?a23 ?l23 ?c23 ?k23 ?a24 ?l24 ?c24 ?k24 ?a25 ?l25 ?c25 ?k25 ?a26 ?l26 ?c26 ?k26 ?a27 ?l27 ?c27 ?k27 ?a28 ?l28 ?c28 ?k28 ?a29 ?l29 ?c29 ?k29 ?a30 ?l30 ?c30 ?k30 ?a31 ?l31 ?c31 ?k31 ?a32 ?l32 ?c32 ?k32 ?a33 ?l33 ?c33 ?k33 ?a34 ?l34 ?c34 ?k34 ?a35 ?l35 ?c35 ?k35 ?a36 ?l36 ?c36 ?k36 ?a37 ?l37 ?c37 ?k37 ?a38 ?l38 ?c38 ?k38 ?a39 ?l39 ?c39 ?k39 ?a40 ?l40 ?c40 ?k40 ?a41 ?l41 ?c41 ?k41 ?a42 ?l42 ?c42 ?k42 ?a43 ?l43 ?c43 ?k43 ?a44 ?l44 ?c44 ?k44 ?zlen ?zisinstance ?zint ?zbool ?zlist ?ztuple ?zrange ?zenumerate ?zsorted ?zmin ?zmax ?zall ?zsum ?gMOST_PLACES ?u0 ?u1 ?u2
    (case a0 => k_is); (case l0 => k_is); (case c0 => k_is); (case k0 => k_is); (case a1 => k_is); (case l1 => k_is)
    (case c1 => k_is); (case k1 => k_is); (case a2 => k_is); (case l2 => k_is); (case c2 => k_is); (case k2 => k_is)
    (case a3 => k_is); (case l3 => k_is); (case c3 => k_is); (case k3 => k_is); (case a4 => k_is); (case l4 => k_is)
    (case c4 => k_is); (case k4 => k_is); (case a5 => k_is); (case l5 => k_is); (case c5 => k_is); (case k5 => k_is)
    (case a6 => k_is); (case l6 => k_is); (case c6 => k_is); (case k6 => k_is); (case a7 => k_is); (case l7 => k_is)
    (case c7 => k_is); (case k7 => k_is); (case a8 => k_is); (case l8 => k_is); (case c8 => k_is); (case k8 => k_is)
    (case a9 => k_is); (case l9 => k_is); (case c9 => k_is); (case k9 => k_is); (case a10 => k_is); (case l10 => k_is)
    (case c10 => k_is); (case k10 => k_is); (case a11 => k_is); (case l11 => k_is); (case c11 => k_is); (case k11 => k_is)
    (case a12 => k_is); (case l12 => k_is); (case c12 => k_is); (case k12 => k_is); (case a13 => k_is); (case l13 => k_is)
    (case c13 => k_is); (case k13 => k_is); (case a14 => k_is); (case l14 => k_is); (case c14 => k_is); (case k14 => k_is)
    (case a15 => k_is); (case l15 => k_is); (case c15 => k_is); (case k15 => k_is); (case a16 => k_is); (case l16 => k_is)
    (case c16 => k_is); (case k16 => k_is); (case a17 => k_is); (case l17 => k_is); (case c17 => k_is); (case k17 => k_is)
    (case a18 => k_is); (case l18 => k_is); (case c18 => k_is); (case k18 => k_is); (case a19 => k_is); (case l19 => k_is)
    (case c19 => k_is); (case k19 => k_is); (case a20 => k_is); (case l20 => k_is); (case c20 => k_is); (case k20 => k_is)
    (case a21 => k_is); (case l21 => k_is); (case c21 => k_is); (case k21 => k_is); (case a22 => k_is); (case l22 => k_is)
    (case c22 => k_is); (case k22 => k_is); (case a23 => k_is); (case l23 => k_is); (case c23 => k_is); (case k23 => k_is)
    (case a24 => k_is); (case l24 => k_is); (case c24 => k_is); (case k24 => k_is); (case a25 => k_is); (case l25 => k_is)
    (case c25 => k_is); (case k25 => k_is); (case a26 => k_is); (case l26 => k_is); (case c26 => k_is); (case k26 => k_is)
    (case a27 => k_is); (case l27 => k_is); (case c27 => k_is); (case k27 => k_is); (case a28 => k_is); (case l28 => k_is)
    (case c28 => k_is); (case k28 => k_is); (case a29 => k_is); (case l29 => k_is); (case c29 => k_is); (case k29 => k_is)
    (case a30 => k_is); (case l30 => k_is); (case c30 => k_is); (case k30 => k_is); (case a31 => k_is); (case l31 => k_is)
    (case c31 => k_is); (case k31 => k_is); (case a32 => k_is); (case l32 => k_is); (case c32 => k_is); (case k32 => k_is)
    (case a33 => k_is); (case l33 => k_is); (case c33 => k_is); (case k33 => k_is); (case a34 => k_is); (case l34 => k_is)
    (case c34 => k_is); (case k34 => k_is); (case a35 => k_is); (case l35 => k_is); (case c35 => k_is); (case k35 => k_is)
    (case a36 => k_is); (case l36 => k_is); (case c36 => k_is); (case k36 => k_is); (case a37 => k_is); (case l37 => k_is)
    (case c37 => k_is); (case k37 => k_is); (case a38 => k_is); (case l38 => k_is); (case c38 => k_is); (case k38 => k_is)
    (case a39 => k_is); (case l39 => k_is); (case c39 => k_is); (case k39 => k_is); (case a40 => k_is); (case l40 => k_is)
    (case c40 => k_is); (case k40 => k_is); (case a41 => k_is); (case l41 => k_is); (case c41 => k_is); (case k41 => k_is)
    (case a42 => k_is); (case l42 => k_is); (case c42 => k_is); (case k42 => k_is); (case a43 => k_is); (case l43 => k_is)
    (case c43 => k_is); (case k43 => k_is); (case a44 => k_is); (case l44 => k_is); (case c44 => k_is); (case k44 => k_is)
    (case zlen => k_is); (case zisinstance => k_is); (case zint => k_is); (case zbool => k_is); (case zlist => k_is); (case ztuple => k_is)
    (case zrange => k_is); (case zenumerate => k_is); (case zsorted => k_is); (case zmin => k_is); (case zmax => k_is); (case zall => k_is)
    (case zsum => k_is); (case gMOST_PLACES => k_is); (case u0 => exact rfl); (case u1 => k_is); (case u2 => exact rfl)
