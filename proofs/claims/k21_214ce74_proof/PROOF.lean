import PyProof.Rows.All
import Wide.All
import OpenK.AllK
import Wide.FinOn
import PyProof.EqAt
import PyProof.EqKinds
import PyProof.TupleCall
import Lean
import PyProof.CompFree
import PyProof.IsInstanceH
import PyProof.IsiPairs
import PyProof.ConsumeWalk
import PyProof.IsiNone
import KE.KIntText
import PyProof.Rows.EqDataRows
import PyProof.RangeIter
import PyProof.ZipIter
import PyProof.EnumMake
import PyProof.WalksEnum
import PyProof.Rows.ZipGen
import PyProof.Rows.SortWalk
import KE.KEqDict
import KE.KDictLaws
import PyProof.Rows.SumAny
import PyProof.Rows.FStr
import PyProof.ListRange
import PyProof.DictWalks
import PyProof.DictCopy
import KE.KDictOf
import PyProof.Rows.StrRev
import PyProof.ListStr
import KE.KRevSl
import KE.KLam
import PyProof.Rows.SetFrom
import PyProof.SetRoads
import KE.KNestM
import PyProof.StrLawsIdx
import PyProof.StrLoop
import PyProof.StrWalks
import PyProof.StrLawsChain
import PyProof.FitsReplace
import PyProof.MeetsStr2
import KE.KRevIter
import PyProof.DictUpdate
import PyProof.AttrMissHeap
import PyProof.Rows.SeqMore2
import KE.KSortTup
import PyProof.StrBlock2
import PySem.Challenge.RW_ownbeat_k21_leans_let_by_or_not
set_option compiler.extract_closed false
-- CHANGE: your row's module here, as the last of these rows
set_option Elab.async false
set_option linter.all false
set_option maxRecDepth 100000
theorem bC_ {p : Prop} (h : ¬¬p) : p := Classical.byContradiction h
local macro_rules | `(tactic| walk_at "A") => `(tactic| with_unfolding_all assumption)
set_option hygiene false in
local macro_rules | `(tactic| walk_at "B") => `(tactic| refine bC_ fun ng_ => ?_)
set_option hygiene false in
local macro_rules | `(tactic| walk_at "C") => `(tactic| (refine ng_ ?_; clear ng_))
namespace L2
open PySem PySem.Spec PyProof.Rows

abbrev Key := Sum Int Str
def keyIs : Key → Value → Bool
 | .inl k, v => Value.isInt k v
 | .inr x, v => Value.isStrOf x v
def keyH (w : World) : Key → Int
 | .inl k => hashInt k
 | .inr x => hashStr w x
theorem keyIs_shape : ∀ {k : Key} {v : Value}, keyIs k v = true → (∃ i t, k = Sum.inl i ∧ v = Value.int i t) ∨ (∃ x t, k = Sum.inr x ∧ v = Value.str x t)
 | .inl i, v, h => by
  obtain ⟨t, e⟩ := Value.isInt_shape (k := i) (v := v) h
  exact .inl ⟨i, t, rfl, e⟩
 | .inr x, v, h => by
  obtain ⟨t, e⟩ := Value.isStrOf_shape (x := x) (v := v) h
  exact .inr ⟨x, t, rfl, e⟩
theorem keyIs_int (i : Int) (t : Tok) : keyIs (.inl i) (.int i t) = true := by simp [keyIs, Value.isInt]
theorem keyIs_str (x : Str) (t : Tok) : keyIs (.inr x) (.str x t) = true := by simp [keyIs, Value.isStrOf]
theorem key_ll (a b : Int) : decide ((Sum.inl a : Key) = Sum.inl b) = (a == b) := by
 by_cases e : a = b
 ·subst e; simp
 ·have h : ¬ (Sum.inl a : Key) = Sum.inl b := fun q => e (Sum.inl.inj q)
  rw [decide_eq_false h]
  exact (beq_eq_false_iff_ne.mpr e).symm
theorem key_rr (a b : Str) : decide ((Sum.inr a : Key) = Sum.inr b) = decide (a = b) := by
 by_cases e : a = b
 ·subst e; simp
 ·have h : ¬ (Sum.inr a : Key) = Sum.inr b := fun q => e (Sum.inr.inj q)
  rw [decide_eq_false h, decide_eq_false e]
theorem key_lr (a : Int) (b : Str) : decide ((Sum.inl a : Key) = Sum.inr b) = false := decide_eq_false (fun q => nomatch q)
theorem key_rl (a : Str) (b : Int) : decide ((Sum.inr a : Key) = Sum.inl b) = false := decide_eq_false (fun q => nomatch q)

def mixKind (prog : Program) (w : World) : PySem.KeyKind prog w Key where
 is := keyIs
 hash := keyH w
 inj := fun v a b ha hb => by
  rcases keyIs_shape ha with ⟨i, t, rfl, rfl⟩ | ⟨x, t, rfl, rfl⟩
  ·rcases keyIs_shape hb with ⟨j, u, rfl, e⟩ | ⟨y, u, rfl, e⟩
   ·injection e with e1 _; rw [e1]
   ·exact nomatch e
  ·rcases keyIs_shape hb with ⟨j, u, rfl, e⟩ | ⟨y, u, rfl, e⟩
   ·exact nomatch e
   ·injection e with e1 _; rw [e1]
 byValue := fun k v h => by
  rcases keyIs_shape h with ⟨i, t, rfl, rfl⟩ | ⟨x, t, rfl, rfl⟩ <;> rfl
 pyHash := fun hv h => by
  rcases keyIs_shape hv with ⟨i, t, rfl, rfl⟩ | ⟨x, t, rfl, rfl⟩
  ·exact wpAny_pyHash_int h
  ·exact wpAny_pyHash_str h
 eqBool := fun hu hv h => by
  rcases keyIs_shape hu with ⟨i, t, rfl, rfl⟩ | ⟨x, t, rfl, rfl⟩
  ·rcases keyIs_shape hv with ⟨j, u, rfl, rfl⟩ | ⟨y, u, rfl, rfl⟩
   ·rw [key_ll] at h; exact wpAny_eqBool_int h
   ·rw [key_lr] at h; exact SeqAt.EqAt.int_str i t y u _ _ _ _ h
  ·rcases keyIs_shape hv with ⟨j, u, rfl, rfl⟩ | ⟨y, u, rfl, rfl⟩
   ·rw [key_rl] at h; exact SeqAt.EqAt.str_int x t j u _ _ _ _ h
   ·rw [key_rr] at h; exact wpAny_eqBool_str h
 «strs» := fun k x t v h => by
  rcases keyIs_shape h with ⟨i, u, rfl, e⟩ | ⟨y, u, rfl, e⟩
  ·exact nomatch e
  ·injection e with e1 _
   subst e1
   cases v <;> rfl

theorem mixKind_int (prog : Program) (w : World) (i : Int) (t : Tok) : (mixKind prog w).is (.inl i) (.int i t) = true := keyIs_int i t
theorem mixKind_str (prog : Program) (w : World) (x : Str) (t : Tok) : (mixKind prog w).is (.inr x) (.str x t) = true := keyIs_str x t
end L2

namespace L2
open PySem PySem.Spec PyProof.Rows

inductive V where
 | non | bl (b : Bool) | int (i : Int) | str (x : Str) | byt (b : Array UInt8) | flt (b : UInt64) | ref (a : Addr) | ty (n : String)
 deriving DecidableEq

def RelV : V → Value → Prop
 | .non, u => u = Value.none
 | .bl b, u => u = Value.bool b
 | .int i, u => ∃ t, u = Value.int i t
 | .str x, u => ∃ t, u = Value.str x t
 | .byt b, u => ∃ t, u = Value.bytes b t
 | .flt b, u => ∃ t, u = Value.float b t
 | .ref a, u => u = Value.ref a
 | .ty n, u => u = Value.type n

abbrev Vals : List V → List Value → Prop := Paired RelV
theorem Vals.length {xs : List V} {us : List Value} (r : Vals xs us) : xs.length = us.length := Paired.length r
theorem Vals.get : ∀ {xs : List V} {us : List Value} {i : Nat} {x : V}, Vals xs us → xs[i]? = some x → ∃ u, us[i]? = some u ∧ RelV x u
 | _, _, _, _, .nil, e => by simp at e
 | _, _, 0, _, .cons r _, e => by simp at e; subst e; exact ⟨_, rfl, r⟩
 | _, _, i + 1, x, .cons _ t, e => by
  walk_at "B"
  obtain ⟨u, h1, h2⟩ := Vals.get (i := i) (x := x) t (by simpa using e)
  walk_at "C"
  exact ⟨u, by simpa using h1, h2⟩
theorem Vals.set {x : V} {u : Value} (r : RelV x u) : ∀ {xs : List V} {us : List Value} (i : Nat), Vals xs us → Vals (xs.set i x) (us.set i u)
 | _, _, _, .nil => .nil
 | _, _, 0, .cons _ t => .cons r t
 | _, _, i + 1, .cons q t => .cons q (Vals.set r i t)
theorem Vals.append : ∀ {xs ys : List V} {us ws : List Value}, Vals xs us → Vals ys ws → Vals (xs ++ ys) (us ++ ws)
 | _, _, _, _, .nil, s => s
 | _, _, _, _, .cons r t, s => .cons r (Vals.append t s)
theorem Vals.take : ∀ {xs : List V} {us : List Value} (n : Nat), Vals xs us → Vals (xs.take n) (us.take n)
 | _, _, 0, _ => .nil
 | _, _, _ + 1, .nil => .nil
 | _, _, n + 1, .cons r t => .cons r (Vals.take n t)
theorem Vals.drop : ∀ {xs : List V} {us : List Value} (n : Nat), Vals xs us → Vals (xs.drop n) (us.drop n)
 | _, _, 0, r => r
 | _, _, _ + 1, .nil => .nil
 | _, _, n + 1, .cons _ t => Vals.drop n t
def RelO : Option V → Option Value → Prop
 | some v, some u => RelV v u
 | none, none => True
 | _, _ => False
def KV {κ : Type} : List (κ × V) → List (κ × Value) → Prop := Paired fun (p : κ × V) (q : κ × Value) => p.1 = q.1 ∧ RelV p.2 q.2

def kV : Key → V
 | .inl i => .int i
 | .inr x => .str x

inductive HO where
  | lst (xs : List V)
  | tup (xs : List V)
  | dK (kvs : List (Key × V)) | dT (kvs : List (List Key × V))
  | set (S : Int → Bool) (n : Nat)
  | ins (C dx : Addr) (fs : List (Str × V))
  | own (x : Addr)
  | xd (fs : List (Str × V))
  | met (f x : Addr)
  | rng (lo hi : Int)
  | frz (o : Obj) (u : HO)
  | tbl (ps : Array Value)
  | ext (φ : Heap → Prop)

abbrev Hp := Addr → Option HO
def upd (H : Hp) (a : Addr) (o : HO) : Hp := fun b => if b = a then some o else H b
theorem upd_same {H : Hp} {a : Addr} {o : HO} : upd H a o a = some o := by unfold upd; rw [if_pos rfl]
theorem upd_ne {H : Hp} {a b : Addr} {o : HO} (h : b ≠ a) : upd H a o b = H b := by unfold upd; rw [if_neg h]
theorem upd_upd {H : Hp} {a : Addr} {o u : HO} : upd (upd H a o) a u = upd H a u := by
 funext b; unfold upd; split <;> rfl
theorem ne_of {H : Hp} {a b : Addr} {o u : HO} (h : H a = some o) (h' : H b = some u) (d : o ≠ u) : a ≠ b := by
 intro e; subst e; rw [h] at h'; exact d (Option.some.inj h')
theorem ne_of_none {H : Hp} {a b : Addr} {o : HO} (h : H a = some o) (h' : H b = none) : a ≠ b := by
 intro e; subst e; rw [h] at h'; cases h'

section
variable (P : Program) (w : World)
def ObjOk (H : Hp) (h : Heap) (a : Addr) : HO → Prop
 | .lst xs => xs.length ≤ sizeLine ∧ ∃ (its : List Value) (n : Nat), Vals xs its ∧ h.get? a = some { cls := .type "list", data := .seq its.toArray n }
 | .tup xs => xs.length ≤ sizeLine ∧ ∃ its : List Value, Vals xs its ∧ IsTup h a its.toArray
 | .dK kvs => kvs.length ≤ sizeLine ∧ (a == sysModules) = false ∧ ∃ vs, KV kvs vs ∧ h.DictOf (mixKind P w) a vs
 | .dT kvs => kvs.length ≤ sizeLine ∧ (a == sysModules) = false ∧ ∃ xs : List (List Key × Addr × Value),
   Paired (fun (p : List Key × V) (q : List Key × Addr × Value) => p.1 = q.1 ∧ H q.2.1 = some (.tup (p.1.map kV)) ∧ RelV p.2 q.2.2) kvs xs ∧
   ∃ o es ep, h.get? a = some o ∧ o.ExactDict ∧ o.data = .dict es ep ∧ es.toList = xs.map (entryOfKey (tupleKind (mixKind P w))) ∧ (xs.map (·.1)).Nodup
 | .set S n => h.SetOf (intKind P w) a S n
 | .ins C dx fs => H dx = some (.own a) ∧ fs.length ≤ 1000 ∧ dx ≠ a ∧ h.get? a = some (PySem.W.instObj C dx) ∧
   ∃ mA, h.Ns1 dx mA ∧ (∀ f, RelO (fs.lookup f) (mA f)) ∧ PySem.Within mA (fs.map (·.1))
 | .own _ => ∃ o, h.get? a = some o
 | .xd fs => ∃ mA, h.Ns1 a mA ∧ ∀ f, RelO (fs.lookup f) (mA f)
 | .rng lo hi => ∃ t u v, h.get? a = some { cls := .type "range", data := .fields #[.int lo t, .int hi u, .int 1 v] }
 | .frz o u => h.get? a = some o ∧ ObjOk H h a u
 | .tbl ps => h.get? a = some { cls := .none, data := .fields ps }
 | .met f x => h.get? a = some (PySem.W.methodObj (.ref f) (.ref x))
 | .ext φ => φ h ∧ (∃ o, h.get? a = some o) ∧ ∀ h1 h2 : Heap, φ h1 → (∀ o, h1.get? a = some o → h2.get? a = some o) → φ h2
def HOk (H : Hp) (h : Heap) : Prop := ∀ a o, H a = some o → ObjOk P w H h a o
end

section
variable {P : Program} {w : World} {H H' : Hp} {h h' : Heap} {a : Addr} {o : HO}
theorem ObjOk.lt (x : ObjOk P w H h a o) : a < h.objs.size := by
 cases o with
 | lst xs => obtain ⟨_, _, _, _, e⟩ := x; exact Heap.lt_size e
 | tup xs => obtain ⟨_, _, _, p⟩ := x; exact p.lt
 | dK kvs => obtain ⟨_, _, _, _, o, _, _, e, _⟩ := x; exact Heap.lt_size e
 | dT kvs => obtain ⟨_, _, _, _, o, _, _, e, _⟩ := x; exact Heap.lt_size e
 | set S n => obtain ⟨o, _, _, _, e, _⟩ := x; exact Heap.lt_size e
 | ins C dx fs => obtain ⟨_, _, _, e, _⟩ := x; exact Heap.lt_size e
 | own y => obtain ⟨_, e⟩ := x; exact Heap.lt_size e
 | xd fs => obtain ⟨_, ⟨_, _, _, e, _⟩, _⟩ := x; exact Heap.lt_size e
 | rng lo hi => obtain ⟨_, _, _, e⟩ := x; exact Heap.lt_size e
 | frz ob u => obtain ⟨e, _⟩ := x; exact Heap.lt_size e
 | tbl ps => exact Heap.lt_size (show h.get? a = some _ from x)
 | met f y => exact Heap.lt_size (show h.get? a = some _ from x)
 | ext φ => obtain ⟨_, ⟨_, e⟩, _⟩ := x; exact Heap.lt_size e
theorem Paired.mapP {α β : Type} {F G : α → β → Prop} : ∀ {l₁ : List α} {l₂ : List β}, Paired F l₁ l₂ → (∀ a b, F a b → G a b) → Paired G l₁ l₂
 | _, _, .nil, _ => .nil
 | _, _, .cons r t, f => .cons (f _ _ r) (Paired.mapP t f)
theorem ObjOk.stay (x : ObjOk P w H h a o) (k : ∀ b u, (b = a ∨ H b = some (.own a)) → h.get? b = some u → h'.get? b = some u)
  (ho : ∀ b, H b = some (.own a) → H' b = some (.own a)) (ht : ∀ b xs, H b = some (.tup xs) → H' b = some (.tup xs)) : ObjOk P w H' h' a o := by
 induction o with
 | lst xs => obtain ⟨z, its, n, r, e⟩ := x; exact ⟨z, its, n, r, k _ _ (.inl rfl) e⟩
 | tup xs => obtain ⟨z, its, r, ob, e, c⟩ := x; exact ⟨z, its, r, ob, k _ _ (.inl rfl) e, c⟩
 | dK kvs => obtain ⟨z, y, vs, r, ob, es, ep, e, c⟩ := x; exact ⟨z, y, vs, r, ob, es, ep, k _ _ (.inl rfl) e, c⟩
 | dT kvs =>
  walk_at "B"
  obtain ⟨z, y, xs, r, ob, es, ep, e, c⟩ := x
  walk_at "C"
  exact ⟨z, y, xs, Paired.mapP r fun p q z => ⟨z.1, ht _ _ z.2.1, z.2.2⟩, ob, es, ep, k _ _ (.inl rfl) e, c⟩
 | set S n => obtain ⟨ob, es, ep, t, e, c⟩ := x; exact ⟨ob, es, ep, t, k _ _ (.inl rfl) e, c⟩
 | ins C dx fs =>
  walk_at "B"
  obtain ⟨d, z, ne, e, mA, ⟨od, es, ep, e2, c⟩, r⟩ := x
  walk_at "C"
  exact ⟨ho _ d, z, ne, k _ _ (.inl rfl) e, mA, ⟨od, es, ep, k _ _ (.inr d) e2, c⟩, r⟩
 | own y => obtain ⟨ob, e⟩ := x; exact ⟨ob, k _ _ (.inl rfl) e⟩
 | xd fs => obtain ⟨mA, ⟨od, es, ep, e, c⟩, r⟩ := x; exact ⟨mA, ⟨od, es, ep, k _ _ (.inl rfl) e, c⟩, r⟩
 | rng lo hi => obtain ⟨t, u, v, e⟩ := x; exact ⟨t, u, v, k _ _ (.inl rfl) e⟩
 | frz ob u ih => obtain ⟨e, q⟩ := x; exact ⟨k _ _ (.inl rfl) e, ih q⟩
 | tbl ps =>
  have e : h.get? a = some { cls := .none, data := .fields ps } := x
  show h'.get? a = some { cls := .none, data := .fields ps }
  exact k a _ (.inl rfl) e
 | met f y =>
  have e : h.get? a = some (PySem.W.methodObj (.ref f) (.ref y)) := x
  show h'.get? a = some (PySem.W.methodObj (.ref f) (.ref y))
  exact k a _ (.inl rfl) e
 | ext φ => obtain ⟨p, ⟨o, e⟩, st⟩ := x; exact ⟨st _ _ p fun o q => k _ _ (.inl rfl) q, ⟨o, k _ _ (.inl rfl) e⟩, st⟩
theorem HOk.lt (x : HOk P w H h) (e : H a = some o) : a < h.objs.size := (x a o e).lt
theorem HOk.fresh (x : HOk P w H h) (e : h.objs.size ≤ a) : H a = none := by
 cases q : H a with
 | none => rfl
 | some u => exact absurd (Nat.lt_of_lt_of_le (x.lt q) e) (Nat.lt_irrefl _)
theorem HOk.kept (x : HOk P w H h) (k : ∀ b u, h.get? b = some u → h'.get? b = some u) : HOk P w H h' := fun a o e =>
 (x a o e).stay (fun b u _ q => k b u q) (fun _ q => q) fun _ _ q => q
theorem HOk.laid (x : HOk P w H h) (k : ∀ b u, h.get? b = some u → h'.get? b = some u) (hp : h.objs.size ≤ a) (new : ObjOk P w (upd H a o) h' a o) : HOk P w (upd H a o) h' := fun b u e => by
 have hn := x.fresh hp
 by_cases hb : b = a
 ·subst hb; rw [upd_same] at e; cases e; exact new
 ·rw [upd_ne hb] at e
  exact (x b u e).stay (fun c v _ q => k c v q) (fun c q => by rw [upd_ne (ne_of_none q hn)]; exact q) fun c xs q => by rw [upd_ne (ne_of_none q hn)]; exact q
end

def Rd (H : Hp) (a : Addr) (u : HO) : Prop := H a = some u ∨ ∃ o, H a = some (.frz o u)
theorem Rd.ok {P : Program} {w : World} {H : Hp} {h : Heap} {a : Addr} {u : HO} (r : Rd H a u) (x : HOk P w H h) : ObjOk P w H h a u := by
 rcases r with r | ⟨o, r⟩
 ·exact x a u r
 ·obtain ⟨_, q⟩ := x a _ r
  exact q
def Mut : Option HO → Prop
 | some (.lst _) => True
 | some (.dK _) => True
 | some (.dT _) => True
 | some (.set _ _) => True
 | some (.ins _ _ _) => True
 | some (.ext _) => True
 | _ => False
section
variable {P : Program} {w : World} {H : Hp} {h h' : Heap} {x e : Addr} {o' : HO}
theorem HOk.write (ok : HOk P w H h) (mu : Mut (H x)) (he : e = x ∨ H e = some (.own x)) (k : ∀ b u, b ≠ e → h.get? b = some u → h'.get? b = some u) (heo : ∃ u, h'.get? e = some u)
  (new : ObjOk P w (upd H x o') h' x o') : HOk P w (upd H x o') h' := fun b u q => by
 have nown : ∀ c y, H c = some (.own y) → c ≠ x := fun c y r z => by subst z; rw [r] at mu; exact mu
 have ntup : ∀ c xs, H c = some (.tup xs) → c ≠ x := fun c xs r z => by subst z; rw [r] at mu; exact mu
 by_cases hb : b = x
 ·subst hb; rw [upd_same] at q; cases q; exact new
 ·rw [upd_ne hb] at q
  by_cases hbe : b = e
  ·have q' : H b = some (.own x) := by
    rcases he with z | z
    ·exact absurd (hbe.trans z) hb
    ·rw [hbe]; exact z
   rw [q] at q'; cases q'
   obtain ⟨v, hv⟩ := heo
   exact ⟨v, by rw [hbe]; exact hv⟩
  ·refine (ok b u q).stay (fun c v hc r => k c v ?_ r) (fun c r => by rw [upd_ne (nown c b r)]; exact r) fun c xs r => by rw [upd_ne (ntup c xs r)]; exact r
   rcases hc with rfl | hc
   ·exact hbe
   ·rintro rfl
    rcases he with z | z
    ·exact nown c b hc z
    ·rw [hc] at z; cases z; exact hb rfl
end

structure Un (fs ex : List Addr) (H H' : Hp) (h h' : Heap) : Prop where
 keep : ∀ b o, h.get? b = some o → H b = none → b ∉ fs → b ∉ ex → h'.get? b = some o
 slot : ∀ b o, h.get? b = some o → H b = none → b ∈ fs → b ∉ ex → ∃ sl, h'.get? b = some { o with slots := sl }
 free : ∀ b o, h.get? b = some o → H b = none → b ∉ ex → H' b = none
 there : ∀ b o, h.get? b = some o → b ∉ ex → ∃ o', h'.get? b = some o'
 tups : ∀ b xs, H b = some (.tup xs) → H' b = some (.tup xs)
 frzs : ∀ b o u, H b = some (.frz o u) → H' b = some (.frz o u)
 tbls : ∀ b ps, H b = some (.tbl ps) → ∃ more, H' b = some (.tbl (ps ++ more))
section
variable {fs fs' ex ex' : List Addr} {H H1 H2 : Hp} {h h1 h2 h' : Heap} {a x e : Addr} {o : HO}
theorem Un.any (u : Un fs ex H H1 h h1) {b : Addr} {ob : Obj} (q : h.get? b = some ob) (n : H b = none) (hx : b ∉ ex) : ∃ sl, h1.get? b = some { ob with slots := sl } := by
 by_cases hb : b ∈ fs
 ·exact u.slot b ob q n hb hx
 ·exact ⟨ob.slots, u.keep b ob q n hb hx⟩
theorem Un.kept (k : ∀ b u, h.get? b = some u → h'.get? b = some u) : Un fs ex H H h h' :=
 ⟨fun b ob q _ _ _ => k b ob q, fun b ob q _ _ _ => ⟨ob.slots, k b ob q⟩, fun _ _ _ n _ => n, fun b ob q _ => ⟨ob, k b ob q⟩, fun _ _ q => q, fun _ _ _ q => q, fun _ ps q => ⟨#[], by rw [q]; simp⟩⟩
theorem Un.refl : Un fs ex H H h h := Un.kept fun _ _ q => q
theorem Un.laid (k : ∀ b u, h.get? b = some u → h'.get? b = some u) (hp : h.objs.size ≤ a) (hn : H a = none) : Un fs ex H (upd H a o) h h' where
 keep := fun b u q _ _ _ => k b u q
 slot := fun b u q _ _ _ => ⟨u.slots, k b u q⟩
 free := fun b u q n _ => by rw [upd_ne (Nat.ne_of_lt (Nat.lt_of_lt_of_le (Heap.lt_size q) hp))]; exact n
 there := fun b u q _ => ⟨u, k b u q⟩
 tups := fun b xs q => by rw [upd_ne (ne_of_none q hn)]; exact q
 frzs := fun b u xs q => by rw [upd_ne (ne_of_none q hn)]; exact q
 tbls := fun b ps q => ⟨#[], by rw [upd_ne (ne_of_none q hn), q]; simp⟩
theorem Un.write (mu : Mut (H x)) (he : e = x ∨ H e = some (.own x)) (k : ∀ b u, b ≠ e → h.get? b = some u → h'.get? b = some u) (heo : ∃ u, h'.get? e = some u) : Un fs ex H (upd H x o) h h' := by
 have hx : ∀ b, H b = none → b ≠ x := fun b n z => by subst z; rw [n] at mu; exact mu
 have hb : ∀ b, H b = none → b ≠ e := fun b n z => by
  subst z
  rcases he with r | r
  ·exact hx b n r
  ·rw [n] at r; cases r
 have hm : ∀ b u, H b = some u → ¬ Mut (some u) → b ≠ x := fun b u q nm z => by subst z; rw [q] at mu; exact nm mu
 refine ⟨fun b u q n _ _ => k b u (hb b n) q, fun b u q n _ _ => ⟨u.slots, k b u (hb b n) q⟩, fun b u q n _ => by rw [upd_ne (hx b n)]; exact n, fun b u q _ => ?_,
  fun b xs q => by rw [upd_ne (hm b _ q fun z => z)]; exact q, fun b u xs q => by rw [upd_ne (hm b _ q fun z => z)]; exact q, fun b ps q => ⟨#[], by rw [upd_ne (hm b _ q fun z => z), q]; simp⟩⟩
 by_cases hbe : b = e
 ·subst hbe; exact heo
 ·exact ⟨u, k b u hbe q⟩
end

def trk (h : Heap) (H : Hp) : List Addr := (List.range h.objs.size).filter fun a => (H a).isSome
def hidT (h : Heap) (H : Hp) : Heap := PySem.W.hideAll h (trk h H)
theorem hidT_size (h : Heap) (H : Hp) : (hidT h H).objs.size = h.objs.size := PySem.W.hideAll_size _ _
theorem hidT_get {h : Heap} {H : Hp} {b : Addr} {o : Obj} (e : h.get? b = some o) (n : H b = none) : (hidT h H).get? b = some o :=
 PySem.W.hideAll_get _ e fun hm => by
  have q : (H b).isSome = true := (List.mem_filter.mp hm).2
  rw [n] at q; simp at q
theorem of_hidT {h : Heap} {H : Hp} {b : Addr} {o : Obj} (e : (hidT h H).get? b = some o) : h.get? b = some o ∧ H b = none := by
 have e' : h.get? b = some o := PySem.W.of_hideAll (trk h H) e
 refine ⟨e', ?_⟩
 cases q : H b with
 | none => rfl
 | some x =>
  have hm : b ∈ trk h H := List.mem_filter.mpr ⟨List.mem_range.mpr (Heap.lt_size e'), by simp [q]⟩
  have z : (hidT h H).get? b = none := PySem.W.hideAll_none (trk h H) hm
  rw [z] at e; cases e

end L2

namespace L2
open PySem PySem.Spec PyProof.Rows

structure Mod (K : PySem.W.Frag) (mg : Str → Option Value) (base : Heap) : Prop where
 kin : K.In base
 glob : base.Ns mainGlobals mg
 blt : ∃ mb, base.Ns builtinsNs mb ∧ ∀ x : Str, x ≠ "__name__" → mb x = bootBuiltins x
 nolimit : base.NoLimit

structure Cx where
 prog : Program
 w : World
 K : PySem.W.Frag
 mg : Str → Option Value
 base : Heap
 A : Around
 N : List Str
 s₀ : Shared
 H₀ : Hp
 env : Env
 outer : List Env
 stack : List Env
 ex : List Addr
 fn : Str → Bool
 calm : Bool
 pn : List (Addr × Obj)
 xe : Value → Shared → Prop
def frs (l : List Env) : List Addr := l.filterMap (·.frame)
abbrev Cx.fs (X : Cx) : List Addr := frs X.outer

def Vis (sc : Scope) (x : Str) : Prop := sc.names.lookup x = some .local ∨ sc.names.lookup x = some .cell ∨ sc.names.lookup x = some .free
def Loc (sc : Scope) (x : Str) : Prop := sc.names.lookup x = some .local ∨ sc.names.lookup x = some .cell
def Look (env : Env) (h : Heap) (m : Str → Option Value) (x : Str) (u : Value) : Prop :=
 (env.kindOf x = some .local ∧ m x = some u) ∨ ((env.kindOf x = some .cell ∨ env.kindOf x = some .free) ∧ ∃ c, env.cells.lookup x = some c ∧ h.IsCell c (some u))

structure Cx.Ok (X : Cx) : Prop where
 mod : Mod X.K X.mg X.base
 kind : X.env.scope.kind = .function
 glob : X.env.globals = mainGlobals
 blt : X.env.builtins = builtinsNs
 above : X.s₀.heap.objs.size ≤ X.env.locals
 inj : ∀ x y c, X.env.cells.lookup x = some c → X.env.cells.lookup y = some c → x = y
 has : ∀ x, (X.env.kindOf x = some .cell ∨ X.env.kindOf x = some .free) → ∃ c, X.env.cells.lookup x = some c
 cab : ∀ x c, X.fn x = true → X.env.cells.lookup x = some c → X.s₀.heap.objs.size ≤ c
 hd : X.calm = true → X.A.handled = none
 frames : X.A.frames = some X.stack
 stk : X.stack = X.outer ∨ (X.stack = X.env :: X.outer ∧ X.env.frame = some X.env.locals)
 exf : ∀ b ∈ X.ex, b ≠ X.env.locals ∧ ∀ x c, X.env.cells.lookup x = some c → c ≠ b
 bs : ∀ b o, X.base.get? b = some o → X.s₀.heap.get? b = some o ∧ X.H₀ b = none
 bsz : X.base.objs.size ≤ X.s₀.heap.objs.size
 noex : ∀ b o, X.base.get? b = some o → b ∉ X.ex
 exfs : ∀ b ∈ X.ex, b ∉ X.fs
 funs : X.s₀.heap.FunFrames X.base X.outer
 frf : ∀ b ∈ X.fs, X.H₀ b = none

structure Inv (X : Cx) (pins : List (Addr × Obj)) (σ : List (Option V)) (H : Hp) (s : Shared) : Prop where
 ok : X.Ok
 os : s.os = X.s₀.os
 bare : AllBare s.gens
 base : Un X.fs X.ex X.H₀ H X.s₀.heap s.heap
 loc : ∃ m, s.heap.Ns X.env.locals m ∧ ∀ (i : Nat) (x : Str) (v : V), X.N[i]? = some x → σ[i]? = some (some v) → Vis X.env.scope x → ∃ u, RelV v u ∧ Look X.env s.heap m x u
 cell : ∀ x c, X.env.cells.lookup x = some c → ∃ v, s.heap.IsCell c v
 free : H X.env.locals = none
 freeC : ∀ x c, X.env.cells.lookup x = some c → H c = none
 pin : ∀ p ∈ X.pn ++ pins, s.heap.get? p.1 = some p.2 ∧ H p.1 = none ∧ p.1 ≠ X.env.locals ∧ p.1 ∉ X.fs ∧ ∀ v, p.2.data ≠ .cell v
 hok : HOk X.prog X.w H s.heap
 len : σ.length = X.N.length

section
variable {X : Cx} {pins : List (Addr × Obj)} {σ : List (Option V)} {H H' : Hp} {s : Shared} {h' : Heap}

theorem Cx.Ok.nofr (ok : X.Ok) {b : Addr} {o : Obj} (e : X.base.get? b = some o) : b ∉ X.fs := fun hb => by
 have := (ok.funs.mem hb).1
 rw [e] at this; cases this
theorem Inv.bs (I : Inv X pins σ H s) : ∀ b o, X.base.get? b = some o → s.heap.get? b = some o ∧ H b = none := fun b o e =>
 ⟨I.base.keep b o (I.ok.bs b o e).1 (I.ok.bs b o e).2 (I.ok.nofr e) (I.ok.noex b o e), I.base.free b o (I.ok.bs b o e).1 (I.ok.bs b o e).2 (I.ok.noex b o e)⟩
theorem Inv.bk (I : Inv X pins σ H s) : ∀ b o, X.base.get? b = some o → s.heap.get? b = some o := fun b o e => (I.bs b o e).1
theorem Inv.mod (I : Inv X pins σ H s) : Mod X.K X.mg X.base := I.ok.mod
theorem Inv.kIn (I : Inv X pins σ H s) : X.K.In s.heap := I.ok.mod.kin.keeps I.bk
theorem Inv.lt (I : Inv X pins σ H s) : X.env.locals < s.heap.objs.size := let ⟨_, hn, _⟩ := I.loc; hn.lt
theorem Inv.sz (I : Inv X pins σ H s) : X.s₀.heap.objs.size ≤ s.heap.objs.size := Nat.le_trans I.ok.above (Nat.le_of_lt I.lt)
theorem Inv.nofs (I : Inv X pins σ H s) {a : Addr} (h : s.heap.objs.size ≤ a) : a ∉ X.fs := fun hb => by
 walk_at "B"
 obtain ⟨_, o, ho, _⟩ := I.ok.funs.mem hb
 walk_at "C"
 exact absurd (Nat.lt_of_lt_of_le (Heap.lt_size ho) (Nat.le_trans I.sz h)) (Nat.lt_irrefl _)
theorem Inv.cne (I : Inv X pins σ H s) : ∀ x c, X.env.cells.lookup x = some c → c ≠ X.env.locals := fun x c e z => by
 walk_at "B"
 obtain ⟨v, o, ho, hd⟩ := I.cell x c e
 obtain ⟨m, ⟨o', es, ep, ho', hd', _⟩, _⟩ := I.loc
 walk_at "C"
 rw [z, ho'] at ho; cases ho; rw [hd'] at hd; cases hd
theorem Inv.funs (I : Inv X pins σ H s) : s.heap.FunFrames X.base X.outer := by
 have all : ∀ (l : List Env), (∀ b ∈ frs l, b ∈ X.fs) → X.s₀.heap.FunFrames X.base l → s.heap.FunFrames X.base l := by
  intro l
  induction l with
  | nil => intro _ _; trivial
  | cons env r ih =>
   intro hs hl
   walk_at "B"
   obtain ⟨hk, ⟨L, o, hf, hn, ho, hd⟩, hr⟩ := hl
   walk_at "C"
   have hL : L ∈ X.fs := hs L (by unfold frs; rw [List.filterMap_cons, hf]; exact List.mem_cons_self)
   obtain ⟨sl, e⟩ := I.base.slot L o ho (I.ok.frf L hL) hL fun z => I.ok.exfs L z hL
   exact ⟨hk, ⟨L, _, hf, hn, e, hd⟩, ih (fun b hb => hs b (by unfold frs; rw [List.filterMap_cons, hf]; exact List.mem_cons_of_mem _ hb)) hr⟩
 exact all X.outer (fun _ hb => hb) I.ok.funs

theorem Inv.stack (I : Inv X pins σ H s) : s.heap.FunFrames X.base X.stack := by
 rcases I.ok.stk with e | ⟨e, hf⟩
 ·rw [e]; exact I.funs
 ·rw [e]
  walk_at "B"
  obtain ⟨m, hn, _⟩ := I.loc
  walk_at "C"
  refine .cons (by rw [I.ok.kind]; decide) hf hn ?_ I.funs
  exact Heap.get?_none_of_le (Nat.le_trans I.ok.bsz I.ok.above)
theorem Inv.stkSub (I : Inv X pins σ H s) : ∀ b ∈ frs X.stack, b ∈ X.env.locals :: X.fs := fun b hb => by
 rcases I.ok.stk with e | ⟨e, hf⟩
 ·rw [e] at hb; exact List.mem_cons_of_mem _ hb
 ·rw [e] at hb
  unfold frs at hb
  rw [List.filterMap_cons, hf] at hb
  exact hb
theorem Inv.stkFree (I : Inv X pins σ H s) : ∀ b ∈ frs X.stack, H b = none := fun b hb => by
 rcases List.mem_cons.mp (I.stkSub b hb) with e | hb
 ·rw [e]; exact I.free
 ·walk_at "B"
  obtain ⟨_, o, ho, _⟩ := I.ok.funs.mem hb
  walk_at "C"
  exact I.base.free b o ho (I.ok.frf b hb) fun z => I.ok.exfs b z hb

theorem Inv.step {g' : Array GenState} {t' : Nat} {d' : Drawn} {ch : List Addr} (I : Inv X pins σ H s)
  (hch : ∀ b ∈ ch, (b ∈ X.ex ∨ X.s₀.heap.objs.size ≤ b) ∧ b ≠ X.env.locals ∧ (∀ x c, X.env.cells.lookup x = some c → c ≠ b) ∧ ∀ p ∈ X.pn ++ pins, p.1 ≠ b)
  (keep : ∀ b o, b ≠ X.env.locals → b ∉ X.fs → b ∉ ch → s.heap.get? b = some o → H b = none → h'.get? b = some o)
  (slot : ∀ b o, b ≠ X.env.locals → b ∈ X.fs → b ∉ ch → s.heap.get? b = some o → H b = none → ∃ sl, h'.get? b = some { o with slots := sl }) (free : ∀ b o, b ∉ ch → s.heap.get? b = some o → H b = none → H' b = none)
  (there : ∀ b o, b ∉ ch → s.heap.get? b = some o → ∃ o', h'.get? b = some o')
  (tups : ∀ b xs, H b = some (.tup xs) → H' b = some (.tup xs)) (frzs : ∀ b o u, H b = some (.frz o u) → H' b = some (.frz o u)) (tbls : ∀ b ps, H b = some (.tbl ps) → ∃ more, H' b = some (.tbl (ps ++ more)))
  (ns : ∀ m, s.heap.Ns X.env.locals m → h'.Ns X.env.locals m) (hok : HOk X.prog X.w H' h') (hg : AllBare g') :
  Inv X pins σ H' { s with heap := h', gens := g', drawn := d', toks := t' } := by
 have neL : ∀ b o, X.s₀.heap.get? b = some o → b ≠ X.env.locals := fun b o e => Nat.ne_of_lt (Nat.lt_of_lt_of_le (Heap.lt_size e) I.ok.above)
 have neC : ∀ b o, X.s₀.heap.get? b = some o → b ∉ X.ex → b ∉ ch := fun b o e hx hb => by
  rcases (hch b hb).1 with z | z
  ·exact hx z
  ·exact absurd (Nat.lt_of_lt_of_le (Heap.lt_size e) z) (Nat.lt_irrefl _)
 have cellK : ∀ x c, X.env.cells.lookup x = some c → ∀ v, s.heap.IsCell c v → h'.IsCell c v := fun x c e v ⟨o, ho, hd⟩ => by
  have nch : c ∉ ch := fun z => (hch c z).2.2.1 x c e rfl
  by_cases hc : c ∈ X.fs
  ·obtain ⟨sl, q⟩ := slot c o (I.cne x c e) hc nch ho (I.freeC x c e)
   exact ⟨_, q, hd⟩
  ·exact ⟨o, keep c o (I.cne x c e) hc nch ho (I.freeC x c e), hd⟩
 refine ⟨I.ok, I.os, hg, ⟨fun b o e n hb hx => ?_, fun b o e n hb hx => ?_, fun b o e n hx => ?_, fun b o e hx => ?_, fun b xs e => tups b xs (I.base.tups b xs e), fun b o xs e => frzs b o xs (I.base.frzs b o xs e), fun b ps e => ?_⟩, ?_, fun x c e => ?_, ?_, fun x c e => ?_, fun p hp => ?_, hok, I.len⟩
 ·exact keep b o (neL b o e) hb (neC b o e hx) (I.base.keep b o e n hb hx) (I.base.free b o e n hx)
 ·obtain ⟨sl, e1⟩ := I.base.slot b o e n hb hx
  obtain ⟨sl', e2⟩ := slot b _ (neL b o e) hb (neC b o e hx) e1 (I.base.free b o e n hx)
  exact ⟨sl', e2⟩
 ·obtain ⟨o', e1⟩ := I.base.there b o e hx
  exact free b o' (neC b o e hx) e1 (I.base.free b o e n hx)
 ·obtain ⟨o', e1⟩ := I.base.there b o e hx
  exact there b o' (neC b o e hx) e1
 ·obtain ⟨m1, e1⟩ := I.base.tbls b ps e
  obtain ⟨m2, e2⟩ := tbls b _ e1
  exact ⟨m1 ++ m2, by rw [e2, Array.append_assoc]⟩
 ·walk_at "B"
  obtain ⟨m, hn, hl⟩ := I.loc
  walk_at "C"
  refine ⟨m, ns m hn, fun i x v e1 e2 e3 => ?_⟩
  walk_at "B"
  obtain ⟨u, r, l⟩ := hl i x v e1 e2 e3
  walk_at "C"
  refine ⟨u, r, ?_⟩
  rcases l with l | ⟨k, c, e, z⟩
  ·exact .inl l
  ·exact .inr ⟨k, c, e, cellK x c e _ z⟩
 ·obtain ⟨v, z⟩ := I.cell x c e
  exact ⟨v, cellK x c e v z⟩
 ·walk_at "B"
  obtain ⟨m, ⟨o, _, _, ho, _⟩, _⟩ := I.loc
  walk_at "C"
  exact free _ o (fun z => (hch _ z).2.1 rfl) ho I.free
 ·walk_at "B"
  obtain ⟨v, o, ho, hd⟩ := I.cell x c e
  walk_at "C"
  exact free c o (fun z => (hch c z).2.2.1 x c e rfl) ho (I.freeC x c e)
 ·walk_at "B"
  obtain ⟨e, n, ne, nf, d⟩ := I.pin p hp
  walk_at "C"
  have nch : p.1 ∉ ch := fun z => (hch p.1 z).2.2.2 p hp rfl
  exact ⟨keep p.1 p.2 ne nf nch e n, free p.1 p.2 nch e n, ne, nf, d⟩
theorem Inv.un {t' : Nat} (I : Inv X pins σ H s) (u : Un X.fs [] H H' s.heap h') (hok : HOk X.prog X.w H' h') : Inv X pins σ H' { s with heap := h', toks := t' } := by
 walk_at "B"
 obtain ⟨m, ⟨o, es, ep, ho, r⟩, _⟩ := id I.loc
 obtain ⟨sl, hL⟩ := u.any ho I.free (by simp)
 walk_at "C"
 exact I.step (g' := s.gens) (d' := s.drawn) (ch := []) (fun _ z => nomatch z) (fun b o _ hb _ e n => u.keep b o e n hb (by simp)) (fun b o _ hb _ e n => u.slot b o e n hb (by simp)) (fun b o _ e n => u.free b o e n (by simp)) (fun b o _ e => u.there b o e (by simp)) u.tups u.frzs u.tbls (fun m' hm => by
  walk_at "B"
  obtain ⟨o', es', ep', ho', r'⟩ := hm
  walk_at "C"
  rw [ho] at ho'; cases ho'
  exact ⟨_, es', ep', hL, r'⟩) hok I.bare
theorem Inv.call {g' : Array GenState} {t' : Nat} {d' : Drawn} {ch : List Addr} (I : Inv X pins σ H s) (u : Un (frs X.stack) ch H H' s.heap h') (hok : HOk X.prog X.w H' h') (hg : AllBare g')
  (hch : ∀ b ∈ ch, (b ∈ X.ex ∨ X.s₀.heap.objs.size ≤ b) ∧ b ≠ X.env.locals ∧ (∀ x c, X.env.cells.lookup x = some c → c ≠ b) ∧ ∀ p ∈ X.pn ++ pins, p.1 ≠ b) :
  Inv X pins σ H' { s with heap := h', gens := g', drawn := d', toks := t' } := by
 walk_at "B"
 obtain ⟨m, ⟨o, es, ep, ho, r⟩, _⟩ := id I.loc
 obtain ⟨sl, hL⟩ := u.any ho I.free fun z => (hch _ z).2.1 rfl
 walk_at "C"
 exact I.step (ch := ch) hch (fun b o hL hb hc e n => u.keep b o e n (fun z => (List.mem_cons.mp (I.stkSub b z)).elim hL hb) hc) (fun b o _ _ hc e n => u.any e n hc) (fun b o hc e n => u.free b o e n hc) (fun b o hc e => u.there b o e hc) u.tups u.frzs u.tbls (fun m' hm => by
  walk_at "B"
  obtain ⟨o', es', ep', ho', r'⟩ := hm
  walk_at "C"
  rw [ho] at ho'; cases ho'
  exact ⟨_, es', ep', hL, r'⟩) hok hg
theorem Inv.turned {t' : Nat} {it : Addr} (I : Inv X pins σ H s) (k : ∀ b o, b ≠ it → s.heap.get? b = some o → h'.get? b = some o) (hn : H it = none) (hL : it ≠ X.env.locals)
  (h1 : it ∈ X.ex ∨ X.s₀.heap.objs.size ≤ it) (h2 : ∀ x c, X.env.cells.lookup x = some c → c ≠ it) (h3 : ∀ p ∈ X.pn ++ pins, p.1 ≠ it) : Inv X pins σ H { s with heap := h', toks := t' } := by
 have nit : ∀ b u, H b = some u → b ≠ it := fun b u e z => by rw [z, hn] at e; cases e
 refine I.step (g' := s.gens) (d' := s.drawn) (ch := [it]) (fun b hb => ?_) (fun b o _ _ hc e _ => k b o (fun z => hc (by simp [z])) e) (fun b o _ _ hc e _ => ⟨o.slots, k b o (fun z => hc (by simp [z])) e⟩) (fun _ _ _ _ n => n)
  (fun b o hc e => ⟨o, k b o (fun z => hc (by simp [z])) e⟩) (fun _ _ e => e) (fun _ _ _ e => e) (fun b ps e => ⟨#[], by rw [e]; simp⟩) (fun m hm => ?_) (fun b u e => ?_) I.bare
 ·have e : b = it := by simpa using hb
  subst e
  exact ⟨h1, hL, h2, h3⟩
 ·walk_at "B"
  obtain ⟨o, es, ep, ho, r⟩ := hm
  walk_at "C"
  exact ⟨o, es, ep, k _ o (Ne.symm hL) ho, r⟩
 ·refine (I.hok b u e).stay (fun c v hc q => k c v ?_ q) (fun _ q => q) fun _ _ q => q
  rcases hc with z | z
  ·rw [z]; exact nit b u e
  ·exact nit c _ z
theorem Inv.tok (I : Inv X pins σ H s) (t : Nat) : Inv X pins σ H { s with toks := t } := I.un (h' := s.heap) (t' := t) Un.refl I.hok
theorem Inv.kept {t' : Nat} (I : Inv X pins σ H s) (k : ∀ b u, s.heap.get? b = some u → h'.get? b = some u) : Inv X pins σ H { s with heap := h', toks := t' } := I.un (Un.kept k) (I.hok.kept k)
theorem Inv.laid {a : Addr} {o : HO} {t' : Nat} (I : Inv X pins σ H s) (k : ∀ b u, s.heap.get? b = some u → h'.get? b = some u) (hp : s.heap.objs.size ≤ a) (new : ObjOk X.prog X.w (upd H a o) h' a o) :
  Inv X pins σ (upd H a o) { s with heap := h', toks := t' } := I.un (Un.laid k hp (I.hok.fresh hp)) (I.hok.laid k hp new)
theorem Inv.write {x e : Addr} {o : HO} {t' : Nat} (I : Inv X pins σ H s) (mu : Mut (H x)) (he : e = x ∨ H e = some (.own x)) (k : ∀ b u, b ≠ e → s.heap.get? b = some u → h'.get? b = some u) (heo : ∃ u, h'.get? e = some u)
  (new : ObjOk X.prog X.w (upd H x o) h' x o) : Inv X pins σ (upd H x o) { s with heap := h', toks := t' } := I.un (Un.write mu he k heo) (I.hok.write mu he k heo new)
theorem Inv.pins_of {pins' : List (Addr × Obj)} (I : Inv X pins σ H s) (h : ∀ p ∈ pins', s.heap.get? p.1 = some p.2 ∧ H p.1 = none ∧ p.1 ≠ X.env.locals ∧ p.1 ∉ X.fs ∧ ∀ v, p.2.data ≠ .cell v) : Inv X pins' σ H s :=
 ⟨I.ok, I.os, I.bare, I.base, I.loc, I.cell, I.free, I.freeC, fun p hp => (List.mem_append.mp hp).elim (fun z => I.pin p (List.mem_append_left _ z)) (h p), I.hok, I.len⟩

theorem nodup_ix {N : List Str} (hN : N.Nodup) {i j : Nat} {x : Str} (a : N[i]? = some x) (b : N[j]? = some x) : i = j := by
 obtain ⟨h1, e1⟩ := List.getElem?_eq_some_iff.mp a
 obtain ⟨h2, e2⟩ := List.getElem?_eq_some_iff.mp b
 exact (List.getElem_inj hN).mp (e1.trans e2.symm)

theorem store_ok2 {M : Model} {A : Around} {E : Value → Shared → Prop} {i : Nat} {x : Str} {v : V} {u : Value} {Q : Unit → Shared → Prop} (I : Inv X pins σ H s) (hN : X.N.Nodup) (hi : X.N[i]? = some x) (hx : Loc X.env.scope x) (r : RelV v u)
  (h : ∀ s', Inv X pins (σ.set i (some v)) H s' → (∃ a, Heap.SameBut a s.heap s'.heap ∧ (a = X.env.locals ∨ X.env.cells.lookup x = some a)) → Q () s') (hf : X.fn x = true ∨ X.env.scope.names.lookup x = some .local := by first | exact .inl rfl | exact .inr rfl | assumption) : wpAny M A (storeName X.env x u) Q E s := by
 walk_at "B"
 obtain ⟨m, hn, hl⟩ := id I.loc
 walk_at "C"
 have hcls : (X.env.scope.kind == .class || (X.env.scope.kind == .module && X.env.locals != X.env.globals)) = false := by rw [I.ok.kind]; rfl
 have hiσ : i < σ.length := by rw [I.len]; exact (List.getElem?_eq_some_iff.mp hi).1
 have cne := I.cne
 have tracked : ∀ {a : Addr} {h' : Heap}, (∃ o, s.heap.get? a = some o ∧ H a = none) → Heap.SameBut a s.heap h' → HOk X.prog X.w H h' := fun {a h'} ha hs b ob e => by
  walk_at "B"
  obtain ⟨_, _, hfree⟩ := ha
  walk_at "C"
  refine (I.hok b ob e).stay (fun c w' hc q => (hs.2 c ?_).trans q) (fun _ q => q) fun _ _ q => q
  rintro rfl
  rcases hc with rfl | hc
  ·rw [hfree] at e; cases e
  ·rw [hfree] at hc; cases hc
 rcases hx with hk | hk
 ·refine wpAny_storeName_local hk hn (fun h' hn' hs => ?_) hcls
  walk_at "B"
  obtain ⟨oL, _, _, hoL, _⟩ := id hn
  walk_at "C"
  refine h _ ⟨I.ok, I.os, I.bare, ⟨fun b o e n hb hx => ?_, fun b o e n hb hx => ?_, I.base.free, fun b o e hx => ?_, I.base.tups, I.base.frzs, I.base.tbls⟩, ⟨_, hn', fun j y v' e1 e2 e3 => ?_⟩, fun y c e => ?_, I.free, I.freeC, fun p hp => ?_, tracked ⟨oL, hoL, I.free⟩ hs, by simpa using I.len⟩ ⟨_, hs, .inl rfl⟩
  ·exact (hs.2 b (Nat.ne_of_lt (Nat.lt_of_lt_of_le (Heap.lt_size e) I.ok.above))).trans (I.base.keep b o e n hb hx)
  ·obtain ⟨sl, e1⟩ := I.base.slot b o e n hb hx
   exact ⟨sl, (hs.2 b (Nat.ne_of_lt (Nat.lt_of_lt_of_le (Heap.lt_size e) I.ok.above))).trans e1⟩
  ·obtain ⟨o', e1⟩ := I.base.there b o e hx
   exact ⟨o', (hs.2 b (Nat.ne_of_lt (Nat.lt_of_lt_of_le (Heap.lt_size e) I.ok.above))).trans e1⟩
  ·by_cases hj : j = i
   ·subst hj
    rw [hi] at e1; cases e1
    rw [List.getElem?_set_self hiσ] at e2
    cases e2
    exact ⟨u, r, .inl ⟨hk, by simp⟩⟩
   ·rw [List.getElem?_set_ne (Ne.symm hj)] at e2
    walk_at "B"
    obtain ⟨u', r', q⟩ := hl j y v' e1 e2 e3
    walk_at "C"
    refine ⟨u', r', ?_⟩
    rcases q with ⟨k, e⟩ | ⟨k, c, e, z⟩
    ·refine .inl ⟨k, ?_⟩
     have : y ≠ x := fun e => hj (nodup_ix hN e1 (e ▸ hi))
     simp [this, e]
    ·exact .inr ⟨k, c, e, z.sameBut hs (cne y c e)⟩
  ·obtain ⟨w', z⟩ := I.cell y c e
   exact ⟨w', z.sameBut hs (cne y c e)⟩
  ·walk_at "B"
   obtain ⟨e, n, ne, nf, d⟩ := I.pin p hp
   walk_at "C"
   exact ⟨(hs.2 p.1 ne).trans e, n, ne, nf, d⟩
 ·have hfn : X.fn x = true := by
   rcases hf with z | z
   ·exact z
   ·rw [z] at hk; cases hk
  obtain ⟨c, hc⟩ := I.ok.has x (.inl hk)
  obtain ⟨w', z⟩ := I.cell x c hc
  refine wpAny_storeName_cell I.ok.kind hk hc z (fun h' hc' hs => ?_)
  walk_at "B"
  obtain ⟨oc, hoc, hocd⟩ := id z
  walk_at "C"
  refine h { s with heap := h' } ⟨I.ok, I.os, I.bare, ⟨fun b o e n hb hx => ?_, fun b o e n hb hx => ?_, I.base.free, fun b o e hx => ?_, I.base.tups, I.base.frzs, I.base.tbls⟩, ⟨m, hn.sameBut hs (Ne.symm (cne x c hc)), fun j y v' e1 e2 e3 => ?_⟩, fun y c' e => ?_, I.free, I.freeC, fun p hp => ?_, tracked ⟨oc, hoc, I.freeC x c hc⟩ hs, by simpa using I.len⟩ ⟨c, hs, .inr hc⟩
  ·exact (hs.2 b (Nat.ne_of_lt (Nat.lt_of_lt_of_le (Heap.lt_size e) (I.ok.cab x c hfn hc)))).trans (I.base.keep b o e n hb hx)
  ·obtain ⟨sl, e1⟩ := I.base.slot b o e n hb hx
   exact ⟨sl, (hs.2 b (Nat.ne_of_lt (Nat.lt_of_lt_of_le (Heap.lt_size e) (I.ok.cab x c hfn hc)))).trans e1⟩
  ·obtain ⟨o', e1⟩ := I.base.there b o e hx
   exact ⟨o', (hs.2 b (Nat.ne_of_lt (Nat.lt_of_lt_of_le (Heap.lt_size e) (I.ok.cab x c hfn hc)))).trans e1⟩
  ·by_cases hj : j = i
   ·subst hj
    rw [hi] at e1; cases e1
    rw [List.getElem?_set_self hiσ] at e2
    cases e2
    exact ⟨u, r, .inr ⟨.inl hk, c, hc, hc'⟩⟩
   ·rw [List.getElem?_set_ne (Ne.symm hj)] at e2
    walk_at "B"
    obtain ⟨u', r', q⟩ := hl j y v' e1 e2 e3
    walk_at "C"
    refine ⟨u', r', ?_⟩
    rcases q with q | ⟨k, c', e, z'⟩
    ·exact .inl q
    ·refine .inr ⟨k, c', e, z'.sameBut hs ?_⟩
     rintro rfl
     exact hj (nodup_ix hN e1 (I.ok.inj _ _ _ e hc ▸ hi))
  ·by_cases hcc : c' = c
   ·subst hcc; exact ⟨_, hc'⟩
   ·obtain ⟨w2, z2⟩ := I.cell y c' e
    exact ⟨w2, z2.sameBut hs hcc⟩
  ·walk_at "B"
   obtain ⟨e, n, ne, nf, d⟩ := I.pin p hp
   walk_at "C"
   refine ⟨(hs.2 p.1 ?_).trans e, n, ne, nf, d⟩
   intro q
   rw [q, hoc] at e
   have q' : oc = p.2 := Option.some.inj e
   exact d w' (by rw [← q']; exact hocd)
theorem store_ok {M : Model} {A : Around} {E : Value → Shared → Prop} {i : Nat} {x : Str} {v : V} {u : Value} {Q : Unit → Shared → Prop} (I : Inv X pins σ H s) (hN : X.N.Nodup) (hi : X.N[i]? = some x) (hx : Loc X.env.scope x) (r : RelV v u)
  (h : ∀ s', Inv X pins (σ.set i (some v)) H s' → Q () s') (hf : X.fn x = true ∨ X.env.scope.names.lookup x = some .local := by first | exact .inl rfl | exact .inr rfl | assumption) : wpAny M A (storeName X.env x u) Q E s :=
 store_ok2 I hN hi hx r (fun s' I' _ => h s' I') hf
theorem Inv.call' {s' : Shared} {ch : List Addr} (I : Inv X pins σ H s) (ho : s'.os = s.os) (u : Un (frs X.stack) ch H H' s.heap s'.heap) (hok : HOk X.prog X.w H' s'.heap) (hg : AllBare s'.gens)
  (hch : ∀ b ∈ ch, (b ∈ X.ex ∨ X.s₀.heap.objs.size ≤ b) ∧ b ≠ X.env.locals ∧ (∀ x c, X.env.cells.lookup x = some c → c ≠ b) ∧ ∀ p ∈ X.pn ++ pins, p.1 ≠ b) : Inv X pins σ H' s' := by
 walk_at "B"
 obtain ⟨h', g', d', t', o'⟩ := s'
 walk_at "C"
 have e : o' = s.os := ho
 subst e
 exact I.call (g' := g') (t' := t') (d' := d') u hok hg hch
end

abbrev XK := Value → Option Addr → Hp → Prop
abbrev St := List (Option V)
abbrev VK := V → Hp → Prop
abbrev TE := St → Hp → VK → Prop
abbrev TT := St → Hp → (Bool → Hp → Prop) → Prop
abbrev TA := St → Hp → (List V → Hp → Prop) → Prop
structure Ends where
 nx : St → Hp → Prop
 rt : VK
 bk : St → Hp → Prop := fun _ _ => False
 ct : St → Hp → Prop := fun _ _ => False
abbrev TS := Ends → St → Hp → Prop

def EP (X : Cx) (pins : List (Addr × Obj)) (σ : St) (Q : VK) (u : Value) (s' : Shared) : Prop := ∃ v H', Inv X pins σ H' s' ∧ RelV v u ∧ Q v H'
def TP (X : Cx) (pins : List (Addr × Obj)) (σ : St) (Q : Bool → Hp → Prop) (b : Bool) (s' : Shared) : Prop := ∃ H', Inv X pins σ H' s' ∧ Q b H'
def AP (X : Cx) (pins : List (Addr × Obj)) (σ : St) (Q : List V → Hp → Prop) (us : List Value) (s' : Shared) : Prop := ∃ vs H', Inv X pins σ H' s' ∧ Vals vs us ∧ Q vs H'
def SP (X : Cx) (pins : List (Addr × Obj)) (D : Ends) (f : Flow) (s' : Shared) : Prop :=
 match f with
 | .next => ∃ σ' H', Inv X pins σ' H' s' ∧ D.nx σ' H'
 | .brk => ∃ σ' H', Inv X pins σ' H' s' ∧ D.bk σ' H'
 | .cont => ∃ σ' H', Inv X pins σ' H' s' ∧ D.ct σ' H'
 | .ret u => ∃ v σ' H', Inv X pins σ' H' s' ∧ RelV v u ∧ D.rt v H'

def PE (X : Cx) (e : Expr) (t : TE) : Prop :=
 ∀ (pins : List (Addr × Obj)) (s : Shared) (σ : St) (H : Hp) (Q : VK), Inv X pins σ H s → t σ H Q → wpAny (model X.prog X.w) X.A (eval e X.env) (EP X pins σ Q) X.xe s
def PT (X : Cx) (e : Expr) (t : TT) : Prop :=
 ∀ (pins : List (Addr × Obj)) (s : Shared) (σ : St) (H : Hp) (Q : Bool → Hp → Prop), Inv X pins σ H s → t σ H Q → wpAny (model X.prog X.w) X.A (isTrue e X.env (eval e X.env)) (TP X pins σ Q) X.xe s
def PW (X : Cx) (e : Expr) (t : TT) : Prop :=
 ∀ (whole : Sem Value) (pins : List (Addr × Obj)) (s : Shared) (σ : St) (H : Hp) (Q : Bool → Hp → Prop), Inv X pins σ H s → t σ H Q → wpAny (model X.prog X.w) X.A (isTrue e X.env whole) (TP X pins σ Q) X.xe s
theorem PW.pt {X : Cx} {e : Expr} {t : TT} (h : PW X e t) : PT X e t := h _
def PA (X : Cx) (es : List Expr) (t : TA) : Prop :=
 ∀ (pos : Pos) (pins : List (Addr × Obj)) (s : Shared) (σ : St) (H : Hp) (Q : List V → Hp → Prop), Inv X pins σ H s → t σ H Q → wpAny (model X.prog X.w) X.A (spliced (backTo pos (starEach es X.env))) (AP X pins σ Q) X.xe s
def PS (X : Cx) (st : Stmt) (t : TS) : Prop :=
 ∀ (pins : List (Addr × Obj)) (s : Shared) (σ : St) (H : Hp) (D : Ends), Inv X pins σ H s → t D σ H → wpAny (model X.prog X.w) X.A (exec st X.env) (SP X pins D) X.xe s
def PSs (X : Cx) (st : List Stmt) (t : TS) : Prop :=
 ∀ (pins : List (Addr × Obj)) (s : Shared) (σ : St) (H : Hp) (D : Ends), Inv X pins σ H s → t D σ H → wpAny (model X.prog X.w) X.A (execs st X.env) (SP X pins D) X.xe s
theorem thn {α : Type} {t : Sem α} {Q Q' : α → Shared → Prop} {M : Model} {A : Around} {E : Value → Shared → Prop} {s : Shared} (h : wpAny M A t Q E s) (hQ : ∀ a s, Q a s → Q' a s) : wpAny M A t Q' E s := wpAny_mono h hQ fun _ _ x => x
end L2

namespace L2
open PySem PySem.Spec PyProof.Rows
section
variable {X : Cx}

def tVar (i : Nat) : TE := fun σ H Q => ∃ v, σ[i]? = some (some v) ∧ Q v H
def tC (v : V) : TE := fun _ H Q => Q v H
theorem pe_var {i : Nat} {x : Str} {pos : Pos} (hN : X.N[i]? = some x) (hv : Vis X.env.scope x) (hd : (x == ("__debug__" : Str)) = false := by decide) (hcd : (x == ("__classdict__" : Str)) = false := by decide) : PE X (.Name x pos) (tVar i) := by
 intro pins s σ H Q I h
 walk_at "B"
 obtain ⟨v, e, h⟩ := h
 obtain ⟨m, hn, hl⟩ := I.loc
 obtain ⟨u, r, l⟩ := hl i x v hN e hv
 walk_at "C"
 have fin : EP X pins σ Q u s := ⟨v, H, I, r, h⟩
 rcases l with ⟨hk, hm⟩ | ⟨hk, c, hc, hcell⟩
 ·exact wpAny_Name (wpAny_loadName_local I.ok.kind hk hn hm fin) hd
 ·rcases hk with hk | hk
  ·exact wpAny_Name (wpAny_loadName_cell I.ok.kind hk hc hcell fin) hd
  ·exact wpAny_Name (wpAny_loadName_free I.ok.kind hk hc hcell fin hcd) hd
theorem pe_int {i j pos} : PE X (.Constant (.int i) j pos) (tC (.int i)) := fun _ _ _ H _ I h => wpAny_Constant_int ⟨.int i, H, I.tok _, ⟨_, rfl⟩, h⟩
theorem pe_bl {b j pos} : PE X (.Constant (.bool b) j pos) (tC (.bl b)) := fun _ _ _ H _ I h => Constant_bool ⟨.bl b, H, I, rfl, h⟩
theorem pe_non {j pos} : PE X (.Constant .none j pos) (tC .non) := fun _ _ _ H _ I h => Constant_none ⟨.non, H, I, rfl, h⟩
theorem pe_str {x j pos} : PE X (.Constant (.str x) j pos) (tC (.str x)) := fun _ _ _ H _ I h => Calls.Constant_str ⟨.str x, H, I.tok _, ⟨_, rfl⟩, h⟩

def Gl (X : Cx) (x : Str) : Prop := X.env.kindOf x = some .globalImplicit
theorem ld_glob {E : Value → Shared → Prop} {pins : List (Addr × Obj)} {s : Shared} {σ : St} {H : Hp} {x : Str} {u : Value} {pos : Pos} {Q : Value → Shared → Prop} (I : Inv X pins σ H s) (hg : Gl X x) (hm : X.mg x = some u) (h : Q u s)
  (hd : (x == ("__debug__" : Str)) = false := by decide) : wpAny (model X.prog X.w) X.A (eval (.Name x pos) X.env) Q E s :=
 Calls.Name_function_global I.ok.kind hg (Calls.loadGlobal_global (by rw [I.ok.glob]; exact I.mod.glob.keeps I.bk) hm h) hd
theorem ld_blt {E : Value → Shared → Prop} {pins : List (Addr × Obj)} {s : Shared} {σ : St} {H : Hp} {x : Str} {u : Value} {pos : Pos} {Q : Value → Shared → Prop} (I : Inv X pins σ H s) (hg : Gl X x) (hm : X.mg x = none) (hv : bootBuiltins x = some u) (h : Q u s)
  (hn : x ≠ "__name__" := by decide) (hd : (x == ("__debug__" : Str)) = false := by decide) : wpAny (model X.prog X.w) X.A (eval (.Name x pos) X.env) Q E s := by
 walk_at "B"
 obtain ⟨mb, h1, h2⟩ := I.mod.blt
 walk_at "C"
 exact Calls.Name_function_global I.ok.kind hg (Calls.loadGlobal_builtin (by rw [I.ok.glob]; exact I.mod.glob.keeps I.bk) hm (by rw [I.ok.blt]; exact h1.keeps I.bk) ((h2 x hn).trans hv) h) hd
theorem pe_bltn {x : Str} {v : V} {u : Value} {pos : Pos} (hg : Gl X x) (hm : X.mg x = none) (hv : bootBuiltins x = some u) (r : RelV v u) (hn : x ≠ "__name__" := by decide) (hd : (x == ("__debug__" : Str)) = false := by decide) : PE X (.Name x pos) (tC v) :=
 fun _ _ _ H _ I h => ld_blt I hg hm hv ⟨v, H, I, r, h⟩ hn hd

variable {a b : Expr} {ta tb : TE} {pos : Pos}
variable {tA tB' : TT} {rest : List Expr}
def tAnd (t u : TT) : TT := fun σ H Q => t σ H fun c H1 => if c = true then u σ H1 Q else Q false H1
def tOr (t u : TT) : TT := fun σ H Q => t σ H fun c H1 => if c = true then Q true H1 else u σ H1 Q
def tNot (t : TT) : TT := fun σ H Q => t σ H fun c H1 => Q (!c) H1
theorem pw_and1 (ha : PT X a tA) : PW X (.BoolOp .And [a] pos) tA := by
 intro wh pins s σ H Q I h
 refine isTrue_and (thn (ha pins s σ H Q I h) fun c s1 e => ?_)
 cases c with
 | true => exact isTrue_and_nil e
 | false => exact e
theorem pw_or1 (ha : PT X a tA) : PW X (.BoolOp .Or [a] pos) tA := by
 intro wh pins s σ H Q I h
 refine isTrue_or (thn (ha pins s σ H Q I h) fun c s1 e => ?_)
 cases c with
 | false => exact isTrue_or_nil e
 | true => exact e
theorem pw_and (ha : PT X a tA) (hb : PW X (.BoolOp .And (b :: rest) pos) tB') : PW X (.BoolOp .And (a :: b :: rest) pos) (tAnd tA tB') := by
 intro wh pins s σ H Q I h
 refine isTrue_and (thn (ha pins s σ H _ I h) fun c s1 ⟨H1, I1, q1⟩ => ?_)
 cases c with
 | true => exact hb wh pins s1 σ H1 Q I1 q1
 | false => exact ⟨H1, I1, q1⟩
theorem pw_or (ha : PT X a tA) (hb : PW X (.BoolOp .Or (b :: rest) pos) tB') : PW X (.BoolOp .Or (a :: b :: rest) pos) (tOr tA tB') := by
 intro wh pins s σ H Q I h
 refine isTrue_or (thn (ha pins s σ H _ I h) fun c s1 ⟨H1, I1, q1⟩ => ?_)
 cases c with
 | true => exact ⟨H1, I1, q1⟩
 | false => exact hb wh pins s1 σ H1 Q I1 q1
theorem pt_not (ha : PT X a tA) : PT X (.UnaryOp .Not a pos) (tNot tA) := by
 intro pins s σ H Q I h
 exact isTrue_not (ha pins s σ H (fun c H1 => Q (!c) H1) I h)
theorem pe_one {op} {t : TE} (h : PE X a t) : PE X (.BoolOp op [a] pos) t := fun pins s σ H Q I hw => BoolOp_one (h pins s σ H Q I hw)
def tIf (t : TT) (ta tb : TE) : TE := fun σ H Q => t σ H fun c H1 => if c = true then ta σ H1 Q else tb σ H1 Q
theorem pe_ifExp {c : Expr} (hc : PT X c tA) (ha : PE X a ta) (hb : PE X b tb) : PE X (.IfExp c a b pos) (tIf tA ta tb) := by
 intro pins s σ H Q I h
 refine wpAny_IfExp (thn (hc pins s σ H _ I h) fun d s1 ⟨H1, I1, q1⟩ => ?_)
 cases d with
 | true => exact ha pins s1 σ H1 Q I1 q1
 | false => exact hb pins s1 σ H1 Q I1 q1
end
end L2

namespace L2
open PySem PySem.Spec PyProof.Rows

def SqL (K : PySem.W.Frag) (H : Hp) (a : Addr) (xs : List V) : Prop :=
 Rd H a (.lst xs) ∨
  ∃ (o : Obj) (its : Array Value) (n : Nat), K.lookup a = some o ∧ o.cls = .type "list" ∧ o.dict = none ∧ o.data = .seq its n ∧ its.size ≤ sizeLine ∧ Vals xs its.toList
def SqT (K : PySem.W.Frag) (H : Hp) (a : Addr) (xs : List V) : Prop :=
 Rd H a (.tup xs) ∨
  ∃ (o : Obj) (its : Array Value) (n : Nat), K.lookup a = some o ∧ o.cls = .type "tuple" ∧ o.data = .seq its n ∧ its.size ≤ sizeLine ∧ Vals xs its.toList
def absV : Value → Option V
 | .none => some .non
 | .bool b => some (.bl b)
 | .int i _ => some (.int i)
 | .str x _ => some (.str x)
 | .bytes b _ => some (.byt b)
 | .float b _ => some (.flt b)
 | .ref a => some (.ref a)
 | .type n => some (.ty n)
 | _ => none
theorem RelV.abs {x : V} {u : Value} (r : RelV x u) : absV u = some x := by
 cases x with
 | non => cases r; rfl
 | bl _ => cases r; rfl
 | int _ => obtain ⟨t, rfl⟩ := r; rfl
 | str _ => obtain ⟨t, rfl⟩ := r; rfl
 | byt _ => obtain ⟨t, rfl⟩ := r; rfl
 | flt _ => obtain ⟨t, rfl⟩ := r; rfl
 | ref _ => cases r; rfl
 | ty _ => cases r; rfl
theorem RelV.inj {x y : V} {u : Value} (r : RelV x u) (q : RelV y u) : x = y := Option.some.inj (r.abs.symm.trans q.abs)
theorem Vals.inj : ∀ {xs ys : List V} {us : List Value}, Vals xs us → Vals ys us → xs = ys
 | _, _, _, .nil, .nil => rfl
 | _, _, _, .cons r t, .cons r' t' => by rw [r.inj r', Vals.inj t t']
section
variable {X : Cx} {pins : List (Addr × Obj)} {σ : St} {H : Hp} {s : Shared} {a : Addr} {xs ys : List V}
theorem SqL.of {K : PySem.W.Frag} (h : H a = some (.lst xs)) : SqL K H a xs := .inl (.inl h)
theorem SqT.of {K : PySem.W.Frag} (h : H a = some (.tup xs)) : SqT K H a xs := .inl (.inl h)
theorem Inv.list (I : Inv X pins σ H s) (h : SqL X.K H a xs) : ∃ its : List Value, Vals xs its ∧ PlainL s.heap a its.toArray ∧ xs.length ≤ sizeLine := by
 rcases h with h | ⟨o, its, n, hk, hc, hd, hs, hz, r⟩
 ·walk_at "B"
  obtain ⟨z, its, n, r, e⟩ := h.ok I.hok
  walk_at "C"
  exact ⟨its, r, ⟨_, n, e, rfl, rfl, rfl⟩, z⟩
 ·refine ⟨its.toList, r, ⟨o, n, I.kIn a o hk, hc, hd, by simpa using hs⟩, ?_⟩
  have e := r.length
  simp only [Array.length_toList] at e
  omega
theorem Inv.tuple (I : Inv X pins σ H s) (h : SqT X.K H a xs) : ∃ its : List Value, Vals xs its ∧ IsTup s.heap a its.toArray ∧ xs.length ≤ sizeLine := by
 rcases h with h | ⟨o, its, n, hk, hc, hs, hz, r⟩
 ·walk_at "B"
  obtain ⟨z, its, r, p⟩ := h.ok I.hok
  walk_at "C"
  exact ⟨its, r, p, z⟩
 ·refine ⟨its.toList, r, ⟨o, I.kIn a o hk, hc, n, by simpa using hs⟩, ?_⟩
  have e := r.length
  simp only [Array.length_toList] at e
  omega
theorem Inv.list_inj (I : Inv X pins σ H s) (h : SqL X.K H a xs) (h' : SqL X.K H a ys) : xs = ys := by
 walk_at "B"
 obtain ⟨its, r, ⟨o, n, e, _, _, d⟩, _⟩ := I.list h
 obtain ⟨its', r', ⟨o', n', e', _, _, d'⟩, _⟩ := I.list h'
 walk_at "C"
 rw [e] at e'; cases e'
 rw [d] at d'
 injection d' with d1 _
 have : its = its' := by simpa using congrArg Array.toList d1
 subst this
 exact r.inj r'
theorem Inv.tuple_inj (I : Inv X pins σ H s) (h : SqT X.K H a xs) (h' : SqT X.K H a ys) : xs = ys := by
 walk_at "B"
 obtain ⟨its, r, ⟨o, e, _, n, d⟩, _⟩ := I.tuple h
 obtain ⟨its', r', ⟨o', e', _, n', d'⟩, _⟩ := I.tuple h'
 walk_at "C"
 rw [e] at e'; cases e'
 rw [d] at d'
 injection d' with d1 _
 have : its = its' := by simpa using congrArg Array.toList d1
 subst this
 exact r.inj r'
end

abbrev Cx.wish (X : Cx) (E : Value → Shared → Prop) : Cx := { X with xe := E }
abbrev Cx.nox (X : Cx) : Cx := X.wish fun _ _ => False
theorem Cx.Ok.wish {X : Cx} (ok : X.Ok) (E : Value → Shared → Prop) : (X.wish E).Ok :=
 ⟨ok.mod, ok.kind, ok.glob, ok.blt, ok.above, ok.inj, ok.has, ok.cab, ok.hd, ok.frames, ok.stk, ok.exf, ok.bs, ok.bsz, ok.noex, ok.exfs, ok.funs, ok.frf⟩
theorem Cx.Ok.unwish {X : Cx} {E : Value → Shared → Prop} (ok : (X.wish E).Ok) : X.Ok :=
 ⟨ok.mod, ok.kind, ok.glob, ok.blt, ok.above, ok.inj, ok.has, ok.cab, ok.hd, ok.frames, ok.stk, ok.exf, ok.bs, ok.bsz, ok.noex, ok.exfs, ok.funs, ok.frf⟩
section
variable {X : Cx} {pins : List (Addr × Obj)} {σ : St} {H : Hp} {s : Shared} {E : Value → Shared → Prop}
theorem Inv.wish (I : Inv X pins σ H s) (E : Value → Shared → Prop) : Inv (X.wish E) pins σ H s := ⟨I.ok.wish E, I.os, I.bare, I.base, I.loc, I.cell, I.free, I.freeC, I.pin, I.hok, I.len⟩
theorem Inv.unwish (I : Inv (X.wish E) pins σ H s) : Inv X pins σ H s := ⟨I.ok.unwish, I.os, I.bare, I.base, I.loc, I.cell, I.free, I.freeC, I.pin, I.hok, I.len⟩
theorem SP.unwish {D : Ends} {f : Flow} {s' : Shared} (h : SP (X.wish E) pins D f s') : SP X pins D f s' := by
 cases f with
 | next => obtain ⟨σ', H', I, q⟩ := h; exact ⟨σ', H', I.unwish, q⟩
 | brk => obtain ⟨σ', H', I, q⟩ := h; exact ⟨σ', H', I.unwish, q⟩
 | cont => obtain ⟨σ', H', I, q⟩ := h; exact ⟨σ', H', I.unwish, q⟩
 | ret u => obtain ⟨v, σ', H', I, r, q⟩ := h; exact ⟨v, σ', H', I.unwish, r, q⟩
theorem PE.nox {e : Expr} {t : TE} (h : PE X.nox e t) : PE X e t := fun pins s σ H Q I hw =>
 wpAny_mono (h pins s σ H Q (I.wish _) hw) (fun _ _ ⟨v, H', I', r, q⟩ => ⟨v, H', I'.unwish, r, q⟩) fun _ _ z => False.elim z
theorem PSs.nox {st : List Stmt} {t : TS} (h : PSs X.nox st t) : PSs X st t := fun pins s σ H D I hw =>
 wpAny_mono (h pins s σ H D (I.wish _) hw) (fun _ _ q => q.unwish) fun _ _ z => False.elim z
end

section
variable {X : Cx} {st : Stmt} {rest : List Stmt} {t u : TS} {e : Expr} {te : TE} {pos : Pos}
def tNext : TS := fun D σ H => D.nx σ H
def tSeq (t u : TS) : TS := fun D σ H => t { D with nx := u D } σ H
theorem pss_nil : PSs X [] tNext := fun _ _ σ H _ I h => wpAny_execs_nil ⟨σ, H, I, h⟩
theorem pss_cons (h1 : PS X st t) (h2 : PSs X rest u) : PSs X (st :: rest) (tSeq t u) := by
 intro pins s σ H D I h
 refine wpAny_execs_cons (thn (h1 pins s σ H { D with nx := u D } I h) fun f s1 q => ?_)
 cases f with
 | next =>
  walk_at "B"
  obtain ⟨σ', H', I', q⟩ := q
  walk_at "C"
  exact h2 pins s1 σ' H' D I' q
 | ret v => exact q
 | brk => exact q
 | cont => exact q
theorem pss_one (h1 : PS X st t) : PSs X [st] t := by
 intro pins s σ H D I h
 refine wpAny_execs_cons (thn (h1 pins s σ H D I h) fun f s1 q => ?_)
 cases f with
 | next => exact wpAny_execs_nil q
 | ret v => exact q
 | brk => exact q
 | cont => exact q
theorem Inv.quiet {pins : List (Addr × Obj)} {σ : St} {H : Hp} {s : Shared} (I : Inv X pins σ H s) : interactive X.env = false := by simp [interactive, I.ok.kind]
def tDrop (te : TE) : TS := fun D σ H => te σ H fun _ H1 => D.nx σ H1
theorem ps_expr (he : PE X e te) (hs : swapsWith e none pos.line X.env = pure false := by rfl) : PS X (.Expr e pos) (tDrop te) := by
 intro pins s σ H D I h
 exact wpAny_Expr_any (thn (he pins s σ H _ I h) fun v s1 ⟨x, H1, I1, r1, q1⟩ => ⟨σ, H1, I1, q1⟩) I.quiet hs
def tRet (te : TE) : TS := fun D σ H => te σ H D.rt
theorem ps_ret (he : PE X e te) : PS X (.Return (some e) pos) (tRet te) := by
 intro pins s σ H D I h
 exact wpAny_Return_some (thn (he pins s σ H _ I h) fun v s1 ⟨x, H1, I1, r1, q1⟩ => ⟨x, σ, H1, I1, r1, q1⟩)
def tIfS (c : TT) (t u : TS) : TS := fun D σ H => c σ H fun b H1 => if b = true then t D σ H1 else u D σ H1
theorem ps_if {c : Expr} {a b : List Stmt} {tc : TT} (hc : PT X c tc) (ha : PSs X a t) (hb : PSs X b u) : PS X (.If c a b pos) (tIfS tc t u) := by
 intro pins s σ H D I h
 refine wpAny_If (thn (hc pins s σ H _ I h) fun d s1 ⟨H1, I1, q1⟩ => ?_)
 cases d with
 | true => exact ha pins s1 σ H1 D I1 q1
 | false => exact hb pins s1 σ H1 D I1 q1
end

abbrev TG := V → St → Hp → (St → Hp → Prop) → Prop
abbrev TGs := List V → St → Hp → (St → Hp → Prop) → Prop
def PG (X : Cx) (target : Expr) (t : TG) : Prop :=
 ∀ (pins : List (Addr × Obj)) (s : Shared) (σ : St) (H : Hp) (v : V) (u : Value) (Q : St → Hp → Prop), Inv X pins σ H s → RelV v u → t v σ H Q →
  wpAny (model X.prog X.w) X.A (assign target X.env u) (fun _ s' => ∃ σ' H', Inv X pins σ' H' s' ∧ Q σ' H') X.xe s
def PGs (X : Cx) (ts : List Expr) (t : TGs) : Prop :=
 ∀ (pins : List (Addr × Obj)) (s : Shared) (σ : St) (H : Hp) (vs : List V) (us : List Value) (Q : St → Hp → Prop), Inv X pins σ H s → Vals vs us → t vs σ H Q →
  wpAny (model X.prog X.w) X.A (assignInOrder ((assignEach ts X.env).map (·.2)) us) (fun _ s' => ∃ σ' H', Inv X pins σ' H' s' ∧ Q σ' H') X.xe s
abbrev TSet := V → V → V → Hp → (Hp → Prop) → Prop
def PSet (X : Cx) (t : TSet) : Prop :=
 ∀ (pins : List (Addr × Obj)) (s : Shared) (σ : St) (H : Hp) (o i v : V) (ov iv u : Value) (Q : Hp → Prop), Inv X pins σ H s → RelV o ov → RelV i iv → RelV v u → t o i v H Q →
  wpAny (model X.prog X.w) X.A (setItem ov iv u) (fun _ s' => ∃ H', Inv X pins σ H' s' ∧ Q H') X.xe s
abbrev TIp := V → V → Hp → VK → Prop
def PIp (X : Cx) (op : Operator) (t : TIp) : Prop :=
 ∀ (pins : List (Addr × Obj)) (s : Shared) (σ : St) (H : Hp) (x y : V) (v u : Value) (Q : VK), Inv X pins σ H s → RelV x v → RelV y u → t x y H Q →
  wpAny (model X.prog X.w) X.A (inplaceOp op v u) (EP X pins σ Q) X.xe s
section
variable {X : Cx} {pos : Pos}
def gName (i : Nat) : TG := fun v σ H Q => Q (σ.set i (some v)) H
theorem pg_name {i : Nat} {x : Str} (hN : X.N.Nodup) (hi : X.N[i]? = some x) (hx : Loc X.env.scope x) (hf : X.fn x = true ∨ X.env.scope.names.lookup x = some .local := by first | exact .inl rfl | exact .inr rfl | assumption) : PG X (.Name x pos) (gName i) := by
 intro pins s σ H v u Q I r h
 exact wpAny_assign_Name (store_ok I hN hi hx r (fun s' I' => ⟨_, H, I', h⟩) hf)
def gNil : TGs := fun vs σ H Q => vs = [] ∧ Q σ H
def gCons (t : TG) (u : TGs) : TGs := fun vs σ H Q => ∃ v r, vs = v :: r ∧ t v σ H fun σ' H' => u r σ' H' Q
theorem pgs_nil : PGs X [] gNil := by
 intro pins s σ H vs us Q I r h
 obtain ⟨e, h⟩ := h
 subst e
 cases r
 exact assignInOrder_nil ⟨σ, H, I, h⟩
theorem pgs_cons {e : Expr} {es : List Expr} {t : TG} {u : TGs} (h1 : PG X e t) (h2 : PGs X es u)
  (hs : (assignEach (e :: es) X.env).map (·.2) = assign e X.env :: (assignEach es X.env).map (·.2) := by rfl) : PGs X (e :: es) (gCons t u) := by
 intro pins s σ H vs us Q I r h
 walk_at "B"
 obtain ⟨v, vr, e1, h⟩ := h
 walk_at "C"
 subst e1
 cases r with
 | cons r rr =>
  rw [hs]
  refine assignInOrder_cons (thn (h1 pins s σ H _ _ _ I r h) fun _ s1 ⟨σ1, H1, I1, q1⟩ => ?_)
  exact h2 pins s1 σ1 H1 _ _ Q I1 rr q1
def gTup (K : PySem.W.Frag) (n : Nat) (t : TGs) : TG := fun v σ H Q => ∃ a xs, v = .ref a ∧ SqT K H a xs ∧ xs.length = n ∧ t xs σ H Q
theorem pg_tup {es : List Expr} {k : Nat} {t : TGs} {n : Nat} (hc : X.calm = true) (h : PGs X es t)
  (hn : (assignEach es X.env).length = n := by rfl) (hst : (assignEach es X.env).findIdx? (·.1) = none := by rfl) : PG X (.Tuple es k pos) (gTup X.K n t) := by
 intro pins s σ H v u Q I r hw
 walk_at "B"
 obtain ⟨a, xs, e1, hq, hl, hw⟩ := hw
 walk_at "C"
 subst e1
 cases r
 walk_at "B"
 obtain ⟨its, rv, ht, hz⟩ := I.tuple hq
 walk_at "C"
 refine assign_Tuple_tuple (I.ok.hd hc) ht (by simp [hn, ← hl, rv.length]) hst fun h' hx => ?_
 have I1 : Inv X pins σ H { s with heap := h' } := I.kept (t' := s.toks) fun b o e => hx b o (Nat.ne_of_lt (Heap.lt_size e)) e
 exact h pins _ σ H xs _ Q I1 (by simpa using rv) hw
def gSub (to ti : TE) (t : TSet) : TG := fun v σ H Q => to σ H fun o H1 => ti σ H1 fun i H2 => t o i v H2 fun H3 => Q σ H3
theorem pg_sub {o i : Expr} {to ti : TE} {t : TSet} (ho : PE X o to) (hi : PE X i ti) (hs : PSet X t)
  (ha : ∀ v, assign (.Subscript o i pos) X.env v = (do
   let ov ← holding [v] (eval o X.env)
   let iv ← holding [v, ov] (eval i X.env)
   standAt pos
   holding [v, ov, iv] (setItem ov iv v)
   release [v, ov, iv] []) := by intro _; rfl) : PG X (.Subscript o i pos) (gSub to ti t) := by
 intro pins s σ H v u Q I r h
 rw [ha]
 refine wpAny_bind (wpAny_holding (thn (ho pins s σ H _ I h) fun ov s1 ⟨x, H1, I1, r1, q1⟩ => ?_))
 refine wpAny_bind (wpAny_holding (thn (hi pins s1 σ H1 _ I1 q1) fun iv s2 ⟨y, H2, I2, r2, q2⟩ => ?_))
 refine wpAny_bind (wpAny_standAt (wpAny_bind (wpAny_holding (thn (hs pins s2 σ H2 x y v ov iv u _ I2 r1 r2 r q2) fun _ s3 ⟨H3, I3, q3⟩ => ?_))))
 exact wpAny_release ⟨σ, H3, I3, q3⟩
def tAsg (te : TE) (g : TG) : TS := fun D σ H => te σ H fun x H1 => g x σ H1 D.nx
theorem ps_asg {tg e : Expr} {te : TE} {g : TG} (he : PE X e te) (hg : PG X tg g) (hs : swapsWithSole [tg] e pos.line X.env = pure false := by rfl) (hw : swappedStores [tg] e X.env = pure none := by rfl)
  (h1 : (assignEach [tg] X.env).map (·.2) = [assign tg X.env] := by rfl) : PS X (.Assign [tg] e pos) (tAsg te g) := by
 intro pins s σ H D I h
 refine wpAny_Assign_stores (thn (he pins s σ H _ I h) fun v s1 ⟨x, H1, I1, r1, q1⟩ => ?_) hs hw
 rw [h1]
 exact thn (hg pins s1 σ H1 x v _ I1 r1 q1) fun _ s2 q => q
def tAug (i : Nat) (te : TE) (ti : TIp) : TS := fun D σ H => ∃ x, σ[i]? = some (some x) ∧ te σ H fun y H1 => ti x y H1 fun z H2 => D.nx (σ.set i (some z)) H2
theorem ps_aug {i : Nat} {x : Str} {e : Expr} {te : TE} {op : Operator} {ti : TIp} {pos' : Pos} (hN : X.N.Nodup) (hi : X.N[i]? = some x) (hx : Loc X.env.scope x) (he : PE X e te) (ho : PIp X op ti) (hf : X.fn x = true ∨ X.env.scope.names.lookup x = some .local := by first | exact .inl rfl | exact .inr rfl | assumption) :
  PS X (.AugAssign (.Name x pos') op e pos) (tAug i te ti) := by
 intro pins s σ H D I h
 walk_at "B"
 obtain ⟨v, e1, h⟩ := h
 obtain ⟨m, hn, hl⟩ := I.loc
 walk_at "C"
 have vis : Vis X.env.scope x := by rcases hx with k | k; exact .inl k; exact .inr (.inl k)
 walk_at "B"
 obtain ⟨u, r, l⟩ := hl i x v hi e1 vis
 walk_at "C"
 refine wpAny_AugAssign_Name ?_
 have go : wpAny (model X.prog X.w) X.A (eval e X.env) (fun w s₂ => wpAny (model X.prog X.w) X.A (inplaceOp op u w) (fun r s₃ => wpAny (model X.prog X.w) X.A (storeName X.env x r) (fun _ => SP X pins D .next) X.xe s₃) X.xe s₂) X.xe s := by
  refine thn (he pins s σ H _ I h) fun w s1 ⟨y, H1, I1, r1, q1⟩ => ?_
  refine thn (ho pins s1 σ H1 v y u w _ I1 r r1 q1) fun z s2 ⟨zv, H2, I2, r2, q2⟩ => ?_
  exact store_ok I2 hN hi hx r2 (fun s3 I3 => ⟨_, H2, I3, q2⟩) hf
 rcases l with ⟨hk, hm⟩ | ⟨hk, c, hc, hcell⟩
 ·exact wpAny_loadName_local I.ok.kind hk hn hm go
 ·rcases hk with hk | hk
  ·exact wpAny_loadName_cell I.ok.kind hk hc hcell go
  ·rcases hx with k | k
   ·have : X.env.scope.names.lookup x = some .free := hk
    rw [k] at this; cases this
   ·have : X.env.scope.names.lookup x = some .free := hk
    rw [k] at this; cases this
def ipI (f : Int → Int → Int) : TIp := fun x y H Q => ∃ i j, x = .int i ∧ y = .int j ∧ Q (.int (f i j)) H
theorem ip_add : PIp X .Add (ipI fun i j => i + j) := by
 intro pins s σ H x y v u Q I r1 r2 h
 walk_at "B"
 obtain ⟨i, j, e1, e2, q⟩ := h
 walk_at "C"
 subst e1; subst e2
 obtain ⟨t, rfl⟩ := r1
 obtain ⟨t', rfl⟩ := r2
 exact iadd_int ⟨.int _, H, I.tok _, ⟨_, rfl⟩, q⟩
end

section
variable {X : Cx} {pos : Pos}
def tWhile (c : TT) (tb : TS) : TS := fun D σ H => ∃ W : Nat → St → Hp → Prop, (∃ m, W m σ H) ∧ ∀ m σ H, W m σ H →
 c σ H fun b H1 => if b = true then ∃ N : St → Hp → Prop, (∀ σ' H', N σ' H' → ∃ m', m' < m ∧ W m' σ' H') ∧ tb { D with nx := N, ct := N, bk := D.nx } σ H1 else D.nx σ H1
theorem ps_while {c : Expr} {body : List Stmt} {tc : TT} {tb : TS} (hp : PassesOwn (model X.prog X.w) X.A X.env X.xe) (hc : PT X c tc) (hb : PSs X body tb) : PS X (.While c body [] pos) (tWhile tc tb) := by
 intro pins s σ H D I h
 walk_at "B"
 obtain ⟨W, ⟨m0, w0⟩, turn⟩ := h
 walk_at "C"
 refine wpAny_While (codeAny_whileLoop (fun n s' => ∃ σ' H', Inv X pins σ' H' s' ∧ W n σ' H') ?_ m0 ⟨σ, H, I, w0⟩)
 intro n s1 hh_
 walk_at "B"
 obtain ⟨σ1, H1, I1, w1⟩ := hh_
 walk_at "C"
 refine wpAny_passesOwn hp (thn (hc pins s1 σ1 H1 _ I1 (turn n σ1 H1 w1)) fun b s2 ⟨H2, I2, q2⟩ => ?_)
 cases b with
 | true =>
  walk_at "B"
  obtain ⟨N, hN, q2⟩ := q2
  walk_at "C"
  rw [if_pos rfl]
  refine wpAny_passesOwn hp (thn (hb pins s2 σ1 H2 _ I2 q2) fun f s3 q3 => ?_)
  cases f with
  | next =>
   walk_at "B"
   obtain ⟨σ3, H3, I3, n3⟩ := q3
   obtain ⟨m', hm, w3⟩ := hN σ3 H3 n3
   walk_at "C"
   exact ⟨m', hm, σ3, H3, I3, w3⟩
  | cont =>
   walk_at "B"
   obtain ⟨σ3, H3, I3, n3⟩ := q3
   obtain ⟨m', hm, w3⟩ := hN σ3 H3 n3
   walk_at "C"
   exact ⟨m', hm, σ3, H3, I3, w3⟩
  | brk => exact q3
  | ret v => exact q3
 | false =>
  rw [if_neg Bool.false_ne_true]
  exact wpAny_execs_nil ⟨σ1, H2, I2, q2⟩
end

structure It where
 go : Nat → Hp → Prop
 yld : Nat → Hp → V → Hp → Prop
 stop : Nat → Hp → Prop
def FpOk (X : Cx) (pins : List (Addr × Obj)) (H : Hp) (b : Addr) : Prop :=
 H b = none ∧ b ≠ X.env.locals ∧ b ∉ X.fs ∧ (b ∈ X.ex ∨ X.s₀.heap.objs.size ≤ b) ∧ (∀ x c, X.env.cells.lookup x = some c → c ≠ b) ∧ ∀ p ∈ X.pn ++ pins, p.1 ≠ b
theorem Inv.fpOk {X : Cx} {pins : List (Addr × Obj)} {σ : St} {H H' : Hp} {s : Shared} {b : Addr} (I : Inv X pins σ H s) (hb : s.heap.objs.size ≤ b) (hn : H' b = none) : FpOk X pins H' b := by
 refine ⟨hn, Nat.ne_of_gt (Nat.lt_of_lt_of_le I.lt hb), I.nofs hb, .inr (Nat.le_trans I.sz hb), fun x c e z => ?_, fun p hp z => ?_⟩
 ·obtain ⟨v, q⟩ := I.cell x c e
  exact absurd (Nat.lt_of_lt_of_le q.lt (by rw [z]; exact hb)) (Nat.lt_irrefl _)
 ·exact absurd (Nat.lt_of_lt_of_le (Heap.lt_size (I.pin p hp).1) (by rw [z]; exact hb)) (Nat.lt_irrefl _)
structure Turn (P : Program) (w : World) (K : PySem.W.Frag) (tg : Expr) (J : It) (fp : List Addr) (it : Addr) (tn : Nat → Heap → Prop) : Prop where
 mem : it ∈ fp
 obj : ∀ i h, tn i h → ∀ b ∈ fp, ∃ o, h.get? b = some o ∧ ∀ v, o.data ≠ .cell v
 keep : ∀ i h h', tn i h → (∀ b ∈ fp, ∀ o, h.get? b = some o → h'.get? b = some o) → tn i h'
 item : ∀ (X : Cx), X.prog = P → X.w = w → X.K = K → X.calm = true → ∀ (i : Nat) (pins : List (Addr × Obj)) (s : Shared) (σ : St) (H : Hp) (E : Value → Shared → Prop), Inv X pins σ H s → (∀ b ∈ fp, FpOk X pins H b) → tn i s.heap → J.go i H →
  wpAny (model P w) X.A (pyNext (.ref it)) (fun r s1 => ∃ u, r = some u ∧
   wpAny (model P w) X.A (letOwnedTupleGo tg (.ref it) u) (fun _ s2 => ∃ x H', Inv X pins σ H' s2 ∧ RelV x u ∧ J.yld i H x H' ∧ tn (i + 1) s2.heap ∧ ∀ b ∈ fp, H' b = none) E s1) E s
 done : ∀ (X : Cx), X.prog = P → X.w = w → X.K = K → X.calm = true → ∀ (i : Nat) (pins : List (Addr × Obj)) (s : Shared) (σ : St) (H : Hp) (E : Value → Shared → Prop), Inv X pins σ H s → (∀ b ∈ fp, FpOk X pins H b) → tn i s.heap → J.stop i H →
  wpAny (model P w) X.A (pyNext (.ref it)) (fun r s1 => r = none ∧ Inv X pins σ H s1) E s
 self : ∀ (A : Around) (i : Nat) (s : Shared) (Q : Value → Shared → Prop) (E : Value → Shared → Prop), tn i s.heap → Q (.ref it) s → wpAny (model P w) A (pyIter (.ref it)) Q E s
abbrev TI := St → Hp → (It → Hp → Prop) → Prop
def PIE (X : Cx) (pins : List (Addr × Obj)) (σ : St) (tg : Expr) (R : It → Hp → Prop) (itv : Value) (s2 : Shared) : Prop :=
 ∃ (it : Addr) (fp : List Addr) (tn : Nat → Heap → Prop) (J : It) (H' : Hp), itv = .ref it ∧ Inv X pins σ H' s2 ∧ Turn X.prog X.w X.K tg J fp it tn ∧ tn 0 s2.heap ∧ (∀ b ∈ fp, FpOk X pins H' b) ∧ R J H'
def PI (X : Cx) (tg iter : Expr) (wi : TI) : Prop :=
 ∀ (pins : List (Addr × Obj)) (s : Shared) (σ : St) (H : Hp) (R : It → Hp → Prop), Inv X pins σ H s → wi σ H R →
  wpAny (model X.prog X.w) X.A (eval iter X.env) (fun v s1 => wpAny (model X.prog X.w) X.A (pyIter v) (PIE X pins σ tg R) X.xe s1) X.xe s

theorem go_of {M : Model} {A : Around} {E : Value → Shared → Prop} {s : Shared} {tg : Expr} {it : Addr} {u : Value} {o : Obj} {n : String} {vs : Array Value} {Q : Unit → Shared → Prop} (ho : s.heap.get? it = some o) (hc : o.cls = .type n) (hd : o.data = .fields vs)
  (hn : ["enumerate", "zip", "dict_itemiterator", "dict_reverseitemiterator", "odict_iterator", "itertools.zip_longest", "itertools.pairwise"].contains n = false) (hQ : Q () s) : wpAny M A (letOwnedTupleGo tg (.ref it) u) Q E s := by
 unfold letOwnedTupleGo
 cases tg <;> first
  | exact wpAny_pure hQ
  | (cases u <;> first
    | exact wpAny_pure hQ
    | (refine wpAny_bind (wpAny_load ho ?_)
       rw [hc, hd]
       show wpAny M A (if (["enumerate", "zip", "dict_itemiterator", "dict_reverseitemiterator", "odict_iterator", "itertools.zip_longest", "itertools.pairwise"].contains n && vs[0]? == some (rawInt _)) = true then _ else _) Q E s
       rw [if_neg (by intro h; rw [hn, Bool.false_and] at h; cases h)]
       exact wpAny_pure hQ))

def Itl (K : PySem.W.Frag) (a : Addr) : It :=
 ⟨fun i H => ∃ xs x, SqL K H a xs ∧ xs[i]? = some x, fun i H x H' => H' = H ∧ ∀ xs, SqL K H a xs → xs[i]? = some x, fun i H => ∃ xs, SqL K H a xs ∧ xs.length ≤ i⟩
def Itt (K : PySem.W.Frag) (a : Addr) : It :=
 ⟨fun i H => ∃ xs x, SqT K H a xs ∧ xs[i]? = some x, fun i H x H' => H' = H ∧ ∀ xs, SqT K H a xs → xs[i]? = some x, fun i H => ∃ xs, SqT K H a xs ∧ xs.length ≤ i⟩
def Itr (lo : Int) (n : Nat) : It := ⟨fun i _ => i < n, fun i H x H' => H' = H ∧ x = .int (lo + i), fun i _ => n ≤ i⟩
theorem turn_list {P : Program} {w : World} {K : PySem.W.Frag} {tg : Expr} (a it : Addr) : Turn P w K tg (Itl K a) [it] it (fun i h => h.IsListIter it a i) where
 mem := by simp
 obj := fun i h st b hb => by
  have e : b = it := by simpa using hb
  subst e
  walk_at "B"
  obtain ⟨o, e, c, d⟩ := st
  walk_at "C"
  exact ⟨o, e, fun v z => by rw [d] at z; cases z⟩
 keep := fun i h h' st k => st.at fun o e => k it (by simp) o e
 item := by
  intro X hP hw hK hc i pins s σ H E I hf st hg
  subst hP hw hK
  walk_at "B"
  obtain ⟨xs, x, hq, hx⟩ := hg
  obtain ⟨its, rv, p, hz⟩ := I.list hq
  obtain ⟨u, hu, ru⟩ := rv.get hx
  obtain ⟨f0, f1, f2, f3, f4, f5⟩ := hf it (by simp)
  walk_at "C"
  refine wpAny_pyNext_list_item st p.isList (x := u) (by simpa using hu) fun h' st' sb => ?_
  have I1 : Inv X pins σ H { s with heap := h' } := I.turned (t' := s.toks) (fun b o hb e => (sb.2 b hb).trans e) f0 f1 f3 f4 f5
  walk_at "B"
  obtain ⟨o, e, c, d⟩ := id st'
  walk_at "C"
  exact ⟨u, rfl, go_of (s := { s with heap := h' }) e c d (by decide) ⟨x, H, I1, ru, ⟨rfl, fun ys hy => by rw [I.list_inj hy hq]; exact hx⟩, st', fun b hb => (hf b hb).1⟩⟩
 done := by
  intro X hP hw hK hc i pins s σ H E I hf st hg
  subst hP hw hK
  walk_at "B"
  obtain ⟨xs, hq, hx⟩ := hg
  obtain ⟨its, rv, p, hz⟩ := I.list hq
  obtain ⟨f0, f1, f2, f3, f4, f5⟩ := hf it (by simp)
  walk_at "C"
  have hl := rv.length
  exact wpAny_pyNext_list_end (I.ok.hd hc) st p.isList (by simp; (clear hc hz f1 f2 f3; omega)) fun h' eb => ⟨rfl, I.turned (t' := s.toks) (fun b o hb e => eb b o hb e) f0 f1 f3 f4 f5⟩
 self := fun _ _ _ _ _ st h => wpAny_pyIter_listiter st h
theorem turn_tuple {P : Program} {w : World} {K : PySem.W.Frag} {tg : Expr} (a it : Addr) : Turn P w K tg (Itt K a) [it] it (fun i h => h.IsTupleIter it a i) where
 mem := by simp
 obj := fun i h st b hb => by
  have e : b = it := by simpa using hb
  subst e
  walk_at "B"
  obtain ⟨o, e, c, d⟩ := st
  walk_at "C"
  exact ⟨o, e, fun v z => by rw [d] at z; cases z⟩
 keep := fun i h h' st k => st.at fun o e => k it (by simp) o e
 item := by
  intro X hP hw hK hc i pins s σ H E I hf st hg
  subst hP hw hK
  walk_at "B"
  obtain ⟨xs, x, hq, hx⟩ := hg
  obtain ⟨its, rv, p, hz⟩ := I.tuple hq
  obtain ⟨u, hu, ru⟩ := rv.get hx
  obtain ⟨f0, f1, f2, f3, f4, f5⟩ := hf it (by simp)
  walk_at "C"
  refine wpAny_pyNext_tuple_item st (show s.heap.IsTuple a its.toArray from p) (x := u) (by simpa using hu) fun h' st' sb => ?_
  have I1 : Inv X pins σ H { s with heap := h' } := I.turned (t' := s.toks) (fun b o hb e => (sb.2 b hb).trans e) f0 f1 f3 f4 f5
  walk_at "B"
  obtain ⟨o, e, c, d⟩ := id st'
  walk_at "C"
  exact ⟨u, rfl, go_of (s := { s with heap := h' }) e c d (by decide) ⟨x, H, I1, ru, ⟨rfl, fun ys hy => by rw [I.tuple_inj hy hq]; exact hx⟩, st', fun b hb => (hf b hb).1⟩⟩
 done := by
  intro X hP hw hK hc i pins s σ H E I hf st hg
  subst hP hw hK
  walk_at "B"
  obtain ⟨xs, hq, hx⟩ := hg
  obtain ⟨its, rv, p, hz⟩ := I.tuple hq
  obtain ⟨f0, f1, f2, f3, f4, f5⟩ := hf it (by simp)
  walk_at "C"
  have hl := rv.length
  exact wpAny_pyNext_tuple_end (I.ok.hd hc) st (show s.heap.IsTuple a its.toArray from p) (by simp; (clear hc hz f1 f2 f3; omega)) fun h' eb => ⟨rfl, I.turned (t' := s.toks) (fun b o hb e => eb b o hb e) f0 f1 f3 f4 f5⟩
 self := fun _ _ _ _ _ st h => wpAny_pyIter_tupleiter st h
theorem turn_range {P : Program} {w : World} {K : PySem.W.Frag} {tg : Expr} (it : Addr) (lo : Int) (n : Nat) : Turn P w K tg (Itr lo n) [it] it (fun i h => IsRangeIter h it (lo + (i : Nat) * 1) ((n : Int) - (i : Nat)) 1) where
 mem := by simp
 obj := fun i h st b hb => by
  have e : b = it := by simpa using hb
  subst e
  exact ⟨_, st, fun v z => by
   have z' : Data.fields _ = Data.cell v := z
   cases z'⟩
 keep := fun i h h' st k => k it (by simp) _ st
 item := by
  intro X hP hw hK hc i pins s σ H E I hf st hg
  subst hP hw hK
  walk_at "B"
  obtain ⟨f0, f1, f2, f3, f4, f5⟩ := hf it (by simp)
  walk_at "C"
  have W := Walks.range (prog := X.prog) (w := X.w) (I.ok.hd hc) it lo 1 n
  refine W.item i s _ _ hg st fun v h' tk hv st' kk => ?_
  obtain ⟨t, rfl⟩ := hv
  have I1 : Inv X pins σ H { s with heap := h', toks := tk } := I.turned (fun b o hb e => kk b o (by simpa using hb) e) f0 f1 f3 f4 f5
  refine ⟨_, rfl, go_of (s := { s with heap := h', toks := tk }) (n := "range_iterator") st' rfl rfl (by decide) ⟨.int (lo + i), H, I1, ⟨t, ?_⟩, ⟨rfl, rfl⟩, st', fun b hb => (hf b hb).1⟩⟩
  rw [Int.mul_one]
 done := by
  intro X hP hw hK hc i pins s σ H E I hf st hg
  subst hP hw hK
  walk_at "B"
  obtain ⟨f0, f1, f2, f3, f4, f5⟩ := hf it (by simp)
  walk_at "C"
  exact wpAny_pyNext_range_end (I.ok.hd hc) st (by have : n ≤ i := hg; (clear hc f1 f2 f3; omega)) fun h' eb => ⟨rfl, I.turned (t' := s.toks) (fun b o hb e => eb b o hb e) f0 f1 f3 f4 f5⟩
 self := fun _ _ _ _ _ st h => wpAny_pyIter_rangeiter st h
end L2

namespace L2
open PySem PySem.Spec PyProof.Rows
section
variable {X : Cx} {tg : Expr}
def iTup (K : PySem.W.Frag) (tl : TE) : TI := fun σ H R => tl σ H fun x H1 => ∃ a, x = .ref a ∧ (∃ xs, SqT K H1 a xs) ∧ R (Itt K a) H1
theorem pi_tup {l : Expr} {tl : TE} (hl : PE X l tl) : PI X tg l (iTup X.K tl) := by
 intro pins s σ H R I h
 refine thn (hl pins s σ H _ I h) fun v s1 ⟨x, H1, I1, r1, q1⟩ => ?_
 walk_at "B"
 obtain ⟨a, e, ⟨xs, hq⟩, q⟩ := q1
 walk_at "C"
 subst e
 cases r1
 walk_at "B"
 obtain ⟨its, rv, p, hz⟩ := I1.tuple hq
 walk_at "C"
 refine wpAny_pyIter_tuple (show s1.heap.IsTuple a its.toArray from p) ?_
 refine ⟨s1.heap.objs.size, [s1.heap.objs.size], _, _, H1, rfl, I1.kept (t' := s1.toks) fun b o e => Heap.get?_push_of_some _ e, turn_tuple a _, ⟨_, Heap.get?_push_size _ rfl, rfl, rfl⟩, fun b hb => ?_, q⟩
 have e : b = s1.heap.objs.size := by simpa using hb
 subst e
 exact I1.fpOk (Nat.le_refl _) (I1.hok.fresh (Nat.le_refl _))
theorem range_it {pins : List (Addr × Obj)} {σ : St} {H : Hp} {s : Shared} {R : It → Hp → Prop} {E : Value → Shared → Prop} {lo hi : Int} {t u v : Tok} {tk : Nat} (I : Inv X pins σ H s) (h1 : -(2 ^ 62) ≤ lo) (h2 : lo < 2 ^ 62) (h3 : -(2 ^ 62) ≤ hi) (h4 : hi < 2 ^ 62)
  (q : R (Itr lo (hi - lo).toNat) H) : wpAny (model X.prog X.w) X.A (pyIter (.ref s.heap.objs.size)) (PIE X pins σ tg R) E { s with heap := s.heap.push { cls := .type "range", data := .fields #[.int lo t, .int hi u, .int 1 v] }, toks := tk } := by
 refine wpAny_pyIter_range (IsRange.new ..) (small_one h1 h2 h3 h4) ?_
 have I1 : Inv X pins σ H { s with heap := s.heap.push { cls := .type "range", data := .fields #[.int lo t, .int hi u, .int 1 v] }, toks := tk } := I.kept fun b o e => Heap.get?_push_of_some _ e
 refine ⟨(s.heap.push { cls := .type "range", data := .fields #[.int lo t, .int hi u, .int 1 v] }).objs.size, [(s.heap.push { cls := .type "range", data := .fields #[.int lo t, .int hi u, .int 1 v] }).objs.size], _, _, H, rfl,
  I1.kept (t' := tk) fun b o e => Heap.get?_push_of_some _ e, turn_range _ lo (hi - lo).toNat, ?_, fun b hb => ?_, q⟩
 ·have e1 : lo + ((0 : Nat) : Int) * 1 = lo := by simp
  have e2 : (((hi - lo).toNat : Nat) : Int) - ((0 : Nat) : Int) = Builtin.Range.rangeSize lo hi 1 := by rw [rangeSize_one]; split <;> (clear h1 h2 h3 h4 e1; omega)
  show IsRangeIter _ _ (lo + ((0 : Nat) : Int) * 1) ((((hi - lo).toNat : Nat) : Int) - ((0 : Nat) : Int)) 1
  rw [e1, e2]
  exact Heap.get?_push_size _ rfl
 ·have e : b = (s.heap.push { cls := .type "range", data := .fields #[.int lo t, .int hi u, .int 1 v] }).objs.size := by simpa using hb
  subst e
  exact I1.fpOk (Nat.le_refl _) (I1.hok.fresh (Nat.le_refl _))
def tFor (wi : TI) (g : TG) (tb : TS) : TS := fun D σ H => wi σ H fun J H1 => ∃ W : Nat → Nat → St → Hp → Prop, (∃ m, W 0 m σ H1) ∧ ∀ i m σ H, W i m σ H →
 (J.stop i H ∧ D.nx σ H) ∨ (J.go i H ∧ ∃ N : St → Hp → Prop, (∀ σ' H', N σ' H' → ∃ m', m' < m ∧ W (i + 1) m' σ' H') ∧ ∀ x H', J.yld i H x H' → g x σ H' fun σ2 H2 => tb { D with nx := N, ct := N, bk := D.nx } σ2 H2)
def pinsAt (fp : List Addr) (h : Heap) : List (Addr × Obj) := fp.filterMap fun b => (h.get? b).map fun o => (b, o)
theorem mem_pinsAt {fp : List Addr} {h : Heap} {b : Addr} {o : Obj} (hb : b ∈ fp) (e : h.get? b = some o) : (b, o) ∈ pinsAt fp h := List.mem_filterMap.mpr ⟨b, hb, by rw [e]; rfl⟩
theorem of_pinsAt {fp : List Addr} {h : Heap} {p : Addr × Obj} (hp : p ∈ pinsAt fp h) : p.1 ∈ fp ∧ h.get? p.1 = some p.2 := by
 walk_at "B"
 obtain ⟨b, hb, e⟩ := List.mem_filterMap.mp hp
 walk_at "C"
 cases q : h.get? b with
 | none => rw [q] at e; cases e
 | some o =>
  rw [q] at e
  have e' : (b, o) = p := Option.some.inj e
  subst e'
  exact ⟨hb, q⟩
theorem Inv.pinned {pins : List (Addr × Obj)} {σ : St} {H : Hp} {s : Shared} {fp : List Addr} (I : Inv X pins σ H s) (hf : ∀ b ∈ fp, FpOk X pins H b) (ho : ∀ b ∈ fp, ∃ o, s.heap.get? b = some o ∧ ∀ v, o.data ≠ .cell v) : Inv X (pins ++ pinsAt fp s.heap) σ H s :=
 I.pins_of fun p hp => (List.mem_append.mp hp).elim (fun z => I.pin p (List.mem_append_right _ z)) fun z => by
  obtain ⟨hb, e⟩ := of_pinsAt z
  walk_at "B"
  obtain ⟨f0, f1, f2, _⟩ := hf p.1 hb
  obtain ⟨o, e', d⟩ := ho p.1 hb
  walk_at "C"
  rw [e] at e'; cases e'
  exact ⟨e, f0, f1, f2, d⟩
theorem Inv.unpinned {pins pl : List (Addr × Obj)} {σ : St} {H : Hp} {s : Shared} (I : Inv X (pins ++ pl) σ H s) : Inv X pins σ H s := I.pins_of fun p hp => I.pin p (List.mem_append_right _ (List.mem_append_left _ hp))
theorem ps_for {iter : Expr} {body : List Stmt} {wi : TI} {g : TG} {tb : TS} {pos : Pos} (hp : PassesOwn (model X.prog X.w) X.A X.env X.xe) (hc : X.calm = true) (hi : PI X tg iter wi) (hg : PG X tg g) (hb : PSs X body tb)
  (hs : ∀ x, foldedSetIterable iter X.env x = pure x := by intro _; rfl) : PS X (.For tg iter body [] pos) (tFor wi g tb) := by
 intro pins s σ H D I h
 refine wpAny_For (thn (hi pins s σ H _ I h) fun v s1 h1 => thn h1 fun itv s2 h2 => ?_) hs
 walk_at "B"
 obtain ⟨it, fp, tn, J, H2, e, I2, T, st2, f2, W, ⟨m0, w0⟩, turn⟩ := h2
 walk_at "C"
 subst e
 -- what stays true of the iterator's objects through the loop
 have stat : ∀ {H' : Hp}, (∀ b ∈ fp, H' b = none) → ∀ b ∈ fp, FpOk X pins H' b := fun hn b hb => ⟨hn b hb, (f2 b hb).2⟩
 refine codeAny_forLoop_any (fun n s' => ∃ i σ' H', Inv X pins σ' H' s' ∧ tn i s'.heap ∧ (∀ b ∈ fp, H' b = none) ∧ W i n σ' H') ?_ m0 ⟨0, σ, H2, I2, st2, fun b hb => (f2 b hb).1, w0⟩
 intro n s3 hh_
 walk_at "B"
 obtain ⟨i, σ3, H3, I3, st3, fr3, w3⟩ := hh_
 walk_at "C"
 rcases turn i n σ3 H3 w3 with ⟨stop, qn⟩ | ⟨go, N, hN, step⟩
 ·refine wpAny_passesOwn hp (thn (T.done X rfl rfl rfl hc i pins s3 σ3 H3 X.xe I3 (stat fr3) st3 stop) fun r s4 ⟨hr, I4⟩ => ?_)
  subst hr
  exact wpAny_execs_nil ⟨σ3, H3, I4, qn⟩
 ·refine wpAny_passesOwn hp (thn (T.item X rfl rfl rfl hc i pins s3 σ3 H3 X.xe I3 (stat fr3) st3 go) fun r s4 ⟨u, hr, h4⟩ => ?_)
  subst hr
  refine wpAny_passesOwn hp (thn h4 fun _ s5 ⟨x, H5, I5, r5, y5, st5, fr5⟩ => ?_)
  have I5' := I5.pinned (stat fr5) (T.obj _ _ st5)
  refine wpAny_passesOwn hp (thn (hg _ s5 σ3 H5 x u _ I5' r5 (step x H5 y5)) fun _ s6 ⟨σ6, H6, I6, q6⟩ => ?_)
  refine wpAny_passesOwn hp (thn (hb _ s6 σ6 H6 _ I6 q6) fun f s7 q7 => ?_)
  have again : ∀ {σ7 : St} {H7 : Hp}, Inv X (pins ++ pinsAt fp s5.heap) σ7 H7 s7 → N σ7 H7 → ∃ m, m < n ∧ ∃ i σ' H', Inv X pins σ' H' s7 ∧ tn i s7.heap ∧ (∀ b ∈ fp, H' b = none) ∧ W i m σ' H' := fun {σ7 H7} I7 n7 => by
   walk_at "B"
   obtain ⟨m', hm, w7⟩ := hN σ7 H7 n7
   walk_at "C"
   refine ⟨m', hm, i + 1, σ7, H7, I7.unpinned, T.keep _ _ _ st5 fun b hb o e => (I7.pin (b, o) (List.mem_append_right _ (List.mem_append_right _ (mem_pinsAt hb e)))).1, fun b hb => ?_, w7⟩
   walk_at "B"
   obtain ⟨o, e, d⟩ := T.obj _ _ st5 b hb
   walk_at "C"
   exact (I7.pin (b, o) (List.mem_append_right _ (List.mem_append_right _ (mem_pinsAt hb e)))).2.1
  cases f with
  | next => obtain ⟨σ7, H7, I7, n7⟩ := q7; exact again I7 n7
  | cont => obtain ⟨σ7, H7, I7, n7⟩ := q7; exact again I7 n7
  | brk => obtain ⟨σ7, H7, I7, q7⟩ := q7; exact ⟨σ7, H7, I7.unpinned, q7⟩
  | ret v => obtain ⟨x7, σ7, H7, I7, r7, q7⟩ := q7; exact ⟨x7, σ7, H7, I7.unpinned, r7, q7⟩
end

end L2

namespace L2
open PySem PySem.Spec PyProof.Rows

abbrev R2 := V → V → Hp → VK → Prop
def OpR (X : Cx) (f : Value → Value → Sem Value) (r : R2) : Prop :=
 ∀ (pins : List (Addr × Obj)) (s : Shared) (σ : St) (H : Hp) (x y : V) (v u : Value) (Q : VK), Inv X pins σ H s → RelV x v → RelV y u → r x y H Q →
  wpAny (model X.prog X.w) X.A (f v u) (EP X pins σ Q) X.xe s
def UnR (X : Cx) (f : Value → Sem Value) (r : V → Hp → VK → Prop) : Prop :=
 ∀ (pins : List (Addr × Obj)) (s : Shared) (σ : St) (H : Hp) (x : V) (v : Value) (Q : VK), Inv X pins σ H s → RelV x v → r x H Q →
  wpAny (model X.prog X.w) X.A (f v) (EP X pins σ Q) X.xe s
def CallR (X : Cx) (f : Value) (r : List V → Hp → VK → Prop) : Prop :=
 ∀ (pins : List (Addr × Obj)) (s : Shared) (σ : St) (H : Hp) (xs : List V) (us : List Value) (Q : VK), Inv X pins σ H s → Vals xs us → r xs H Q →
  wpAny (model X.prog X.w) X.A (call f us) (EP X pins σ Q) X.xe s
def TruR (X : Cx) (r : V → Hp → (Bool → Hp → Prop) → Prop) : Prop :=
 ∀ (pins : List (Addr × Obj)) (s : Shared) (σ : St) (H : Hp) (x : V) (v : Value) (Q : Bool → Hp → Prop), Inv X pins σ H s → RelV x v → r x H Q →
  wpAny (model X.prog X.w) X.A (truthy v) (TP X pins σ Q) X.xe s

def tOp (r : R2) (ta tb : TE) : TE := fun σ H Q => ta σ H fun x H1 => tb σ H1 fun y H2 => r x y H2 Q
def tUn (r : V → Hp → VK → Prop) (ta : TE) : TE := fun σ H Q => ta σ H fun x H1 => r x H1 Q
def rI (C : Int → Int → Prop) (g : Int → Int → V) : R2 := fun x y H Q => ∃ i j, x = .int i ∧ y = .int j ∧ C i j ∧ Q (g i j) H
def rI0 (g : Int → Int → V) : R2 := fun x y H Q => ∃ i j, x = .int i ∧ y = .int j ∧ Q (g i j) H
def rU (g : Int → V) : V → Hp → VK → Prop := fun x H Q => ∃ i, x = .int i ∧ Q (g i) H

section
variable {X : Cx} {a b c : Expr} {ta tb tc : TE} {pos : Pos}

theorem binT (ha : PE X a ta) (hb : PE X b tb) {pins : List (Addr × Obj)} {s : Shared} {σ : St} {H : Hp} {R : V → V → Hp → Prop} (I : Inv X pins σ H s)
  (h : ta σ H fun x H1 => tb σ H1 fun y H2 => R x y H2) {Q : Value → Shared → Prop} {f : Value → Value → Sem Value}
  (hf : ∀ v u s2 x y H2, Inv X pins σ H2 s2 → RelV x v → RelV y u → R x y H2 → wpAny (model X.prog X.w) X.A (f v u) Q X.xe s2) :
  wpAny (model X.prog X.w) X.A (eval a X.env) (fun v s₁ => wpAny (model X.prog X.w) X.A (eval b X.env) (fun u s₂ => wpAny (model X.prog X.w) X.A (f v u) Q X.xe s₂) X.xe s₁) X.xe s := by
 refine thn (ha pins s σ H _ I h) fun v s1 ⟨x, H1, I1, r1, q1⟩ => ?_
 refine thn (hb pins s1 σ H1 _ I1 q1) fun u s2 ⟨y, H2, I2, r2, q2⟩ => ?_
 exact hf v u s2 x y H2 I2 r1 r2 q2

theorem pe_op {op : Operator} {r : R2} (ho : OpR X (binaryOp op) r) (ha : PE X a ta) (hb : PE X b tb) : PE X (.BinOp a op b pos) (tOp r ta tb) := by
 intro pins s σ H Q I h
 exact wpAny_BinOp (binT ha hb I h fun v u s2 x y H2 I2 rx ry q => ho pins s2 σ H2 x y v u Q I2 rx ry q)
theorem pe_un {op : UnaryOp} {r : V → Hp → VK → Prop} (ho : UnR X (unaryOp op) r) (ha : PE X a ta) : PE X (.UnaryOp op a pos) (tUn r ta) := by
 intro pins s σ H Q I h
 exact UnaryOp_ (thn (ha pins s σ H _ I h) fun v s1 ⟨x, H1, I1, r1, q1⟩ => ho pins s1 σ H1 x v Q I1 r1 q1)
theorem opI {f : Value → Value → Sem Value} {C : Int → Int → Prop} {g : Int → Int → Int}
  (rule : ∀ (i j : Int) (t u : Tok) (s : Shared) (Q : Value → Shared → Prop) (E : Value → Shared → Prop), C i j → Q (.int (g i j) s.toks) { s with toks := s.toks + 1 } → wpAny (model X.prog X.w) X.A (f (.int i t) (.int j u)) Q E s) :
  OpR X f (rI C fun i j => .int (g i j)) := by
 intro pins s σ H x y v u Q I rx ry h
 walk_at "B"
 obtain ⟨i, j, rfl, rfl, hc, q⟩ := h
 obtain ⟨t, rfl⟩ := rx
 obtain ⟨t', rfl⟩ := ry
 walk_at "C"
 exact rule i j t t' s _ _ hc ⟨.int (g i j), H, I.tok _, ⟨_, rfl⟩, q⟩
theorem opI0 {f : Value → Value → Sem Value} {g : Int → Int → Int}
  (rule : ∀ (i j : Int) (t u : Tok) (s : Shared) (Q : Value → Shared → Prop) (E : Value → Shared → Prop), Q (.int (g i j) s.toks) { s with toks := s.toks + 1 } → wpAny (model X.prog X.w) X.A (f (.int i t) (.int j u)) Q E s) :
  OpR X f (rI0 fun i j => .int (g i j)) := by
 intro pins s σ H x y v u Q I rx ry h
 walk_at "B"
 obtain ⟨i, j, rfl, rfl, q⟩ := h
 obtain ⟨t, rfl⟩ := rx
 obtain ⟨t', rfl⟩ := ry
 walk_at "C"
 exact rule i j t t' s _ _ ⟨.int (g i j), H, I.tok _, ⟨_, rfl⟩, q⟩
theorem opB0 {f : Value → Value → Sem Value} {g : Int → Int → Bool}
  (rule : ∀ (i j : Int) (t u : Tok) (s : Shared) (Q : Value → Shared → Prop) (E : Value → Shared → Prop), Q (.bool (g i j)) s → wpAny (model X.prog X.w) X.A (f (.int i t) (.int j u)) Q E s) :
  OpR X f (rI0 fun i j => .bl (g i j)) := by
 intro pins s σ H x y v u Q I rx ry h
 walk_at "B"
 obtain ⟨i, j, rfl, rfl, q⟩ := h
 obtain ⟨t, rfl⟩ := rx
 obtain ⟨t', rfl⟩ := ry
 walk_at "C"
 exact rule i j t t' s _ _ ⟨.bl (g i j), H, I, rfl, q⟩

def CDiv (i j : Int) : Prop := 0 < j ∧ j < 1073741824
def CPow (i j : Int) : Prop := 0 ≤ j ∧ j ≤ 1000000 ∧ i.natAbs < 2 ^ 64
def CMul (i j : Int) : Prop := (-(2 ^ 64) < i ∧ i < 2 ^ 64) ∨ (-(2 ^ 64) < j ∧ j < 2 ^ 64)
theorem CMul.ok {i j : Int} (h : CMul i j) : IntMulOk i j := by
 rcases h with ⟨h1, h2⟩ | ⟨h1, h2⟩
 ·exact .of_left (intBits_le_64 h1 h2)
 ·exact .of_right (intBits_le_64 h1 h2)
theorem two_pow_nn (k : Nat) : (0 : Int) ≤ 2 ^ k := by
 rw [two_pow_cast]
 exact Int.natCast_nonneg _

theorem op_add : OpR X (binaryOp .Add) (rI0 fun i j => .int (i + j)) := opI0 fun _ _ _ _ _ _ _ q => add_int q
theorem op_sub : OpR X (binaryOp .Sub) (rI0 fun i j => .int (i - j)) := opI0 fun _ _ _ _ _ _ _ q => sub_int q
theorem op_mul : OpR X (binaryOp .Mult) (rI CMul fun i j => .int (i * j)) := opI fun _ _ _ _ _ _ _ hc q => mul_int q hc.ok
theorem op_fdiv : OpR X (binaryOp .FloorDiv) (rI CDiv fun i j => .int (i / j)) := opI fun i j _ _ _ _ _ hc q => by
 have h1 : (0 : Int) < j := hc.1
 have h2 : j < 1073741824 := hc.2
 exact floordiv_int (by omega) (by rw [Int.fdiv_eq_ediv_of_nonneg i (by omega)]; exact q) (.inl (PyProof.noPylong_small (by omega)))
theorem op_mod : OpR X (binaryOp .Mod) (rI (fun _ j => 0 < j) fun i j => .int (i % j)) := opI fun i j _ _ _ _ _ hc q => by
 have h1 : (0 : Int) < j := hc
 exact mod_int' (by omega) (by rw [Int.fmod_eq_emod_of_nonneg i (by omega)]; exact q)
theorem op_pow : OpR X (binaryOp .Pow) (rI CPow fun i j => .int (i ^ j.toNat)) := opI fun _ _ _ _ _ _ _ hc q => pow_int_small hc.1 hc.2.1 hc.2.2 q
theorem op_shl : OpR X (binaryOp .LShift) (rI CPow fun i j => .int (i * 2 ^ j.toNat)) := opI fun _ _ _ _ _ _ _ hc q => lshift_int_small hc.1 hc.2.1 hc.2.2 q
theorem op_shr : OpR X (binaryOp .RShift) (rI (fun _ j => 0 ≤ j) fun i j => .int (i / 2 ^ j.toNat)) := opI fun i j _ _ _ _ _ hc q =>
 rshift_int hc (by rw [Int.fdiv_eq_ediv_of_nonneg i (two_pow_nn _)]; exact q)
theorem op_and : OpR X (binaryOp .BitAnd) (rI0 fun i j => .int (Builtin.bitAnd i j)) := opI0 fun _ _ _ _ _ _ _ q => and_int q
theorem unI {f : Value → Sem Value} {g : Int → Int}
  (rule : ∀ (i : Int) (t : Tok) (s : Shared) (Q : Value → Shared → Prop) (E : Value → Shared → Prop), Q (.int (g i) s.toks) { s with toks := s.toks + 1 } → wpAny (model X.prog X.w) X.A (f (.int i t)) Q E s) :
  UnR X f (rU fun i => .int (g i)) := by
 intro pins s σ H x v Q I rx h
 walk_at "B"
 obtain ⟨i, rfl, q⟩ := h
 obtain ⟨t, rfl⟩ := rx
 walk_at "C"
 exact rule i t s _ _ ⟨.int (g i), H, I.tok _, ⟨_, rfl⟩, q⟩
theorem un_neg : UnR X (unaryOp .USub) (rU fun i => .int (-i)) := unI fun _ _ _ _ _ q => neg_int q
end

def scal : V → V → Bool
 | .non, .non => true | .non, .int _ => true | .int _, .non => true | .non, .bl _ => true | .bl _, .non => true | .non, .str _ => true | .str _, .non => true
 | .int _, .int _ => true | .bl _, .bl _ => true | .str _, .str _ => true | .byt _, .byt _ => true
 | .int _, .str _ => true | .str _, .int _ => true | .bl _, .str _ => true | .str _, .bl _ => true
 | _, _ => false
def rEq : R2 := fun x y H Q => scal x y = true ∧ Q (.bl (decide (x = y))) H
def rNe : R2 := fun x y H Q => scal x y = true ∧ Q (.bl (!decide (x = y))) H

theorem dec_int {i j : Int} : decide (V.int i = V.int j) = (i == j) := by
 rw [Bool.eq_iff_iff]
 simp
theorem dec_bl {i j : Bool} : decide (V.bl i = V.bl j) = (i == j) := by
 rw [Bool.eq_iff_iff]
 simp
theorem dec_str {i j : Str} : decide (V.str i = V.str j) = (i == j) := by
 rw [Bool.eq_iff_iff]
 simp
theorem dec_byt {i j : Array UInt8} : decide (V.byt i = V.byt j) = (i.toList == j.toList) := by
 rw [Bool.eq_iff_iff]
 cases i
 cases j
 simp

section
variable {X : Cx} {a b c : Expr} {ta tb tc : TE} {pos : Pos}
theorem fin_bl {pins : List (Addr × Obj)} {σ : St} {H : Hp} {s : Shared} {Q : VK} {k k' : Bool} (I : Inv X pins σ H s) (q : Q (.bl k) H) (e : k = k') : EP X pins σ Q (.bool k') s := by
 subst e
 exact ⟨.bl k, H, I, rfl, q⟩
theorem op_eq : OpR X (compareOp .Eq) rEq := by
 intro pins s σ H x y v u Q I rx ry h
 obtain ⟨hs, q⟩ := h
 cases x with
 | non =>
  cases rx
  cases y with
  | non => cases ry; exact PySem.EqNone.eq_none_none (fin_bl I q (by simp))
  | bl j => cases ry; exact PySem.EqNone.eq_none_bool (fin_bl I q (by simp))
  | int j => obtain ⟨t', rfl⟩ := ry; exact PySem.EqNone.eq_none_int (fin_bl I q (by simp))
  | str j => obtain ⟨t', rfl⟩ := ry; exact PySem.EqNone.eq_none_str (fin_bl I q (by simp))
  | _ => exact absurd (show false = true from hs) Bool.false_ne_true
 | bl i =>
  cases rx
  cases y with
  | non => cases ry; exact PySem.EqNone.eq_bool_none (fin_bl I q (by simp))
  | bl j => cases ry; exact eq_bool (fin_bl I q dec_bl)
  | str j => obtain ⟨t', rfl⟩ := ry; exact PySem.EqMixed.eq_bool_str (fin_bl I q (by simp))
  | _ => exact absurd (show false = true from hs) Bool.false_ne_true
 | int i =>
  obtain ⟨t, rfl⟩ := rx
  cases y with
  | non => cases ry; exact PySem.EqNone.eq_int_none (fin_bl I q (by simp))
  | int j => obtain ⟨t', rfl⟩ := ry; exact eq_int (fin_bl I q dec_int)
  | str j => obtain ⟨t', rfl⟩ := ry; exact PySem.EqMixed.eq_int_str (fin_bl I q (by simp))
  | _ => exact absurd (show false = true from hs) Bool.false_ne_true
 | str i =>
  obtain ⟨t, rfl⟩ := rx
  cases y with
  | non => cases ry; exact PySem.EqNone.eq_str_none (fin_bl I q (by simp))
  | bl j => cases ry; exact PySem.EqMixed.eq_str_bool (fin_bl I q (by simp))
  | int j => obtain ⟨t', rfl⟩ := ry; exact PySem.EqMixed.eq_str_int (fin_bl I q (by simp))
  | str j => obtain ⟨t', rfl⟩ := ry; exact eq_str (fin_bl I q dec_str)
  | _ => exact absurd (show false = true from hs) Bool.false_ne_true
 | byt i =>
  obtain ⟨t, rfl⟩ := rx
  cases y with
  | byt j => obtain ⟨t', rfl⟩ := ry; exact PySem.W.eq_bytes (fin_bl I q dec_byt)
  | _ => exact absurd (show false = true from hs) Bool.false_ne_true
 | _ => cases y <;> exact absurd (show false = true from hs) Bool.false_ne_true
theorem op_ne : OpR X (compareOp .NotEq) rNe := by
 intro pins s σ H x y v u Q I rx ry h
 obtain ⟨hs, q⟩ := h
 cases x with
 | non =>
  cases rx
  cases y with
  | non => cases ry; exact PySem.EqNone.ne_none_none (fin_bl I q (by simp))
  | bl j => cases ry; exact PySem.EqNone.ne_none_bool (fin_bl I q (by simp))
  | int j => obtain ⟨t', rfl⟩ := ry; exact PySem.EqNone.ne_none_int (fin_bl I q (by simp))
  | str j => obtain ⟨t', rfl⟩ := ry; exact PySem.EqNone.ne_none_str (fin_bl I q (by simp))
  | _ => exact absurd (show false = true from hs) Bool.false_ne_true
 | bl i =>
  cases rx
  cases y with
  | non => cases ry; exact PySem.EqNone.ne_bool_none (fin_bl I q (by simp))
  | bl j => cases ry; exact ne_bool (fin_bl I q (congrArg not dec_bl))
  | str j => obtain ⟨t', rfl⟩ := ry; exact PySem.EqMixed.ne_bool_str (fin_bl I q (by simp))
  | _ => exact absurd (show false = true from hs) Bool.false_ne_true
 | int i =>
  obtain ⟨t, rfl⟩ := rx
  cases y with
  | non => cases ry; exact PySem.EqNone.ne_int_none (fin_bl I q (by simp))
  | int j => obtain ⟨t', rfl⟩ := ry; exact ne_int (fin_bl I q (congrArg not dec_int))
  | str j => obtain ⟨t', rfl⟩ := ry; exact PySem.EqMixed.ne_int_str (fin_bl I q (by simp))
  | _ => exact absurd (show false = true from hs) Bool.false_ne_true
 | str i =>
  obtain ⟨t, rfl⟩ := rx
  cases y with
  | non => cases ry; exact PySem.EqNone.ne_str_none (fin_bl I q (by simp))
  | bl j => cases ry; exact PySem.EqMixed.ne_str_bool (fin_bl I q (by simp))
  | int j => obtain ⟨t', rfl⟩ := ry; exact PySem.EqMixed.ne_str_int (fin_bl I q (by simp))
  | str j => obtain ⟨t', rfl⟩ := ry; exact ne_str (fin_bl I q (congrArg not dec_str))
  | _ => exact absurd (show false = true from hs) Bool.false_ne_true
 | byt i =>
  obtain ⟨t, rfl⟩ := rx
  cases y with
  | byt j => obtain ⟨t', rfl⟩ := ry; exact PySem.W.ne_bytes (fin_bl I q (congrArg not dec_byt))
  | _ => exact absurd (show false = true from hs) Bool.false_ne_true
 | _ => cases y <;> exact absurd (show false = true from hs) Bool.false_ne_true

theorem op_lt : OpR X (compareOp .Lt) (rI0 fun i j => .bl (decide (i < j))) := opB0 fun _ _ _ _ _ _ _ q => lt_int q
theorem op_le : OpR X (compareOp .LtE) (rI0 fun i j => .bl (decide (i ≤ j))) := opB0 fun _ _ _ _ _ _ _ q => le_int q
theorem op_gt : OpR X (compareOp .Gt) (rI0 fun i j => .bl (decide (j < i))) := opB0 fun _ _ _ _ _ _ _ q => gt_int q
theorem op_ge : OpR X (compareOp .GtE) (rI0 fun i j => .bl (decide (j ≤ i))) := opB0 fun _ _ _ _ _ _ _ q => ge_int q
theorem op_in_str : OpR X (compareOp .In) (fun x y H Q => ∃ i j, x = .str i ∧ y = .str j ∧ Q (.bl (!(Builtin.Str.occurrences j i 0 j.length 1).isEmpty)) H) := by
 intro pins s σ H x y v u Q I rx ry h
 walk_at "B"
 obtain ⟨i, j, rfl, rfl, q⟩ := h
 obtain ⟨t, rfl⟩ := rx
 obtain ⟨t', rfl⟩ := ry
 walk_at "C"
 exact in_str (fin_bl I q rfl)

theorem op_isN : OpR X (compareOp .Is) (fun x y H Q => y = .non ∧ Q (.bl (decide (x = .non))) H) := by
 intro pins s σ H x y v u Q I rx ry h
 obtain ⟨rfl, q⟩ := h
 cases ry
 refine is_none_gen (fin_bl I q ?_)
 cases x <;> first
  | (cases rx; rfl)
  | (obtain ⟨t, rfl⟩ := rx; rfl)
theorem op_notN : OpR X (compareOp .IsNot) (fun x y H Q => y = .non ∧ Q (.bl (!decide (x = .non))) H) := by
 intro pins s σ H x y v u Q I rx ry h
 obtain ⟨rfl, q⟩ := h
 cases ry
 refine isnot_none_gen (fin_bl I q ?_)
 cases x <;> first
  | (cases rx; rfl)
  | (obtain ⟨t, rfl⟩ := rx; rfl)

theorem OpR.or {f : Value → Value → Sem Value} {r r' : R2} (h : OpR X f r) (h' : OpR X f r') : OpR X f (fun x y H Q => r x y H Q ∨ r' x y H Q) := by
 intro pins s σ H x y v u Q I rx ry q
 rcases q with q | q
 ·exact h pins s σ H x y v u Q I rx ry q
 ·exact h' pins s σ H x y v u Q I rx ry q

theorem pe_cmpR {op : CmpOp} {r : R2} (ho : OpR X (compareOp op) r) (ha : PE X a ta) (hb : PE X b tb) (hm : behindInMarks op b = false) : PE X (.Compare a [op] [b] pos) (tOp r ta tb) := by
 intro pins s σ H Q I h
 exact wpAny_Compare1 (binT ha hb I h fun v u s2 x y H2 I2 rx ry q => ho pins s2 σ H2 x y v u Q I2 rx ry q) hm
def TruV (K : PySem.W.Frag) (x : V) (H : Hp) (k : Bool) : Prop :=
 match x with
 | .non => k = false
 | .bl b => k = b
 | .int i => k = (i != 0)
 | .str y => y.length ≤ sizeLine ∧ k = ((y.length : Int) != 0)
 | .byt y => y.size ≤ sizeLine ∧ k = ((y.size : Int) != 0)
 | .ref p => (∃ xs, SqL K H p xs ∧ k = !xs.isEmpty) ∨ (∃ xs, SqT K H p xs ∧ k = !xs.isEmpty) ∨ ∃ kvs, H p = some (.dK kvs) ∧ k = !kvs.isEmpty
 | _ => False
theorem isEmpty_kv {κ : Type} {kvs : List (κ × V)} {vs : List (κ × Value)} (r : KV kvs vs) : (!vs.isEmpty) = !kvs.isEmpty := by
 cases r <;> rfl
theorem isEmpty_of {xs : List V} {its : List Value} (r : Vals xs its) : (!its.toArray.isEmpty) = !xs.isEmpty := by
 cases r <;> simp
theorem line63 : (sizeLine : Nat) < 2 ^ 63 := by rw [sizeLine_eq]; decide
theorem tru_ok : TruR X (fun x H Q => ∃ k, TruV X.K x H k ∧ Q k H) := by
 intro pins s σ H x v Q I rx h
 walk_at "B"
 obtain ⟨k, e, q⟩ := h
 walk_at "C"
 have hl := line63
 have hs : sizeLine = 16777216 := sizeLine_eq
 cases x with
 | non =>
  cases rx
  have e' : k = false := e
  subst e'
  exact truthy_none ⟨H, I, q⟩
 | bl b =>
  cases rx
  have e' : k = b := e
  subst e'
  exact wpAny_truthy_bool ⟨H, I, q⟩
 | int i =>
  obtain ⟨t, rfl⟩ := rx
  have e' : k = (i != 0) := e
  subst e'
  exact PySem.P.truthy_int ⟨H, I, q⟩
 | str y =>
  obtain ⟨t, rfl⟩ := rx
  obtain ⟨hy, e'⟩ : y.length ≤ sizeLine ∧ k = ((y.length : Int) != 0) := e
  subst e'
  exact PySem.P.truthy_str (by omega) ⟨H, I.tok _, q⟩
 | byt y =>
  obtain ⟨t, rfl⟩ := rx
  obtain ⟨hy, e'⟩ : y.size ≤ sizeLine ∧ k = ((y.size : Int) != 0) := e
  subst e'
  exact PySem.W.truthy_bytes (by omega) ⟨H, I.tok _, q⟩
 | ref p =>
  cases rx
  have e' : (∃ xs, SqL X.K H p xs ∧ k = !xs.isEmpty) ∨ (∃ xs, SqT X.K H p xs ∧ k = !xs.isEmpty) ∨ ∃ kvs, H p = some (.dK kvs) ∧ k = !kvs.isEmpty := e
  rcases e' with ⟨xs, hx, e'⟩ | ⟨xs, hx, e'⟩ | ⟨kvs, hx, e'⟩
  ·subst e'
   walk_at "B"
   obtain ⟨its, r, pl, hz⟩ := I.list hx
   walk_at "C"
   have hlen := r.length
   exact wpAny_truthy_list pl.isList (by simp only [List.size_toArray]; (clear hl; omega)) ⟨H, I.tok _, by rw [isEmpty_of r]; exact q⟩
  ·subst e'
   walk_at "B"
   obtain ⟨its, r, pl, hz⟩ := I.tuple hx
   walk_at "C"
   have hlen := r.length
   exact truthy_tuple pl (by simp only [List.size_toArray]; (clear hl; omega)) ⟨H, I.tok _, by rw [isEmpty_of r]; exact q⟩
  ·subst e'
   obtain ⟨hz, hS, vs, r, m⟩ : kvs.length ≤ sizeLine ∧ (p == sysModules) = false ∧ ∃ vs, KV kvs vs ∧ s.heap.DictOf (mixKind X.prog X.w) p vs := I.hok p _ hx
   have hlen : kvs.length = vs.length := Paired.length r
   exact wpAny_truthy_dict hS m (by (clear hl hS; omega)) ⟨H, I.tok _, by rw [isEmpty_kv r]; exact q⟩
 | _ => exact (show False from e).elim
theorem op_add_str : OpR X (binaryOp .Add) (fun x y H Q => ∃ i j, x = .str i ∧ y = .str j ∧ i.length + j.length ≤ sizeLine ∧ Q (.str (i ++ j)) H) := by
 intro pins s σ H x y v u Q I rx ry h
 walk_at "B"
 obtain ⟨i, j, rfl, rfl, hz, q⟩ := h
 obtain ⟨t, rfl⟩ := rx
 obtain ⟨t', rfl⟩ := ry
 walk_at "C"
 exact add_str (fun t' tk => ⟨.str (i ++ j), H, I.tok _, ⟨_, rfl⟩, q⟩) hz
theorem vals1 {x : V} {us : List Value} (r : Vals [x] us) : ∃ u, us = [u] ∧ RelV x u := by
 cases r with
 | cons r1 r2 => cases r2; exact ⟨_, rfl, r1⟩
theorem vals2 {x y : V} {us : List Value} (r : Vals [x, y] us) : ∃ u w', us = [u, w'] ∧ RelV x u ∧ RelV y w' := by
 cases r with
 | cons r1 r2 =>
  cases r2 with
  | cons r3 r4 => cases r4; exact ⟨_, _, rfl, r1, r3⟩
theorem call_abs : CallR X (.builtin "abs") (fun xs H Q => ∃ i, xs = [.int i] ∧ Q (.int (if i < 0 then -i else i)) H) := by
 intro pins s σ H xs us Q I r h
 walk_at "B"
 obtain ⟨i, rfl, q⟩ := h
 obtain ⟨u, rfl, t, rfl⟩ := vals1 r
 walk_at "C"
 exact call_abs_int fun u tk => ⟨.int (if i < 0 then -i else i), H, I.tok _, ⟨_, rfl⟩, q⟩
theorem call_max2 (hc : X.calm = true) : CallR X (.builtin "max") (fun xs H Q => ∃ i j, xs = [.int i, .int j] ∧ Q (.int (if j > i then j else i)) H) := by
 intro pins s σ H xs us Q I r h
 walk_at "B"
 obtain ⟨i, j, rfl, q⟩ := h
 obtain ⟨u, w', rfl, ⟨t, rfl⟩, ⟨t', rfl⟩⟩ := vals2 r
 walk_at "C"
 refine max_two_ints (I.ok.hd hc) fun h' tk k => ⟨_, H, I.kept k, ?_, q⟩
 by_cases hj : j > i
 ·rw [if_pos hj, if_pos hj]; exact ⟨_, rfl⟩
 ·rw [if_neg hj, if_neg hj]; exact ⟨_, rfl⟩
theorem call_min2 (hc : X.calm = true) : CallR X (.builtin "min") (fun xs H Q => ∃ i j, xs = [.int i, .int j] ∧ Q (.int (if j < i then j else i)) H) := by
 intro pins s σ H xs us Q I r h
 walk_at "B"
 obtain ⟨i, j, rfl, q⟩ := h
 obtain ⟨u, w', rfl, ⟨t, rfl⟩, ⟨t', rfl⟩⟩ := vals2 r
 walk_at "C"
 refine min_two_ints (I.ok.hd hc) fun h' tk k => ⟨_, H, I.kept k, ?_, q⟩
 by_cases hj : j < i
 ·rw [if_pos hj, if_pos hj]; exact ⟨_, rfl⟩
 ·rw [if_neg hj, if_neg hj]; exact ⟨_, rfl⟩
theorem call_int1 : CallR X (.type "int") (fun xs H Q => (∃ i, xs = [.int i] ∧ Q (.int i) H) ∨ ∃ k, xs = [.bl k] ∧ Q (.int (if k then 1 else 0)) H) := by
 intro pins s σ H xs us Q I r h
 rcases h with ⟨i, rfl, q⟩ | ⟨k, rfl, q⟩
 ·walk_at "B"
  obtain ⟨u, rfl, t, rfl⟩ := vals1 r
  walk_at "C"
  exact call_int_int ⟨.int i, H, I, ⟨_, rfl⟩, q⟩
 ·walk_at "B"
  obtain ⟨u, rfl, r1⟩ := vals1 r
  walk_at "C"
  cases r1
  exact call_int_bool ⟨.int (if k then 1 else 0), H, I.tok _, ⟨_, rfl⟩, q⟩
end
end L2

namespace L2
open PySem PySem.Spec PyProof.Rows

section
variable {prog : Program} {w : World} {A : Around} {E : Value → Shared → Prop} {s : Shared} {K : PySem.W.Frag} {x dx C f : Addr} {mA : Str → Option Value} {name : Str} {v : Value}

end

theorem RelO.some_of {v : V} {o : Option Value} (r : RelO (some v) o) : ∃ u, o = some u ∧ RelV v u := by
 cases o with
 | none => exact (show False from r).elim
 | some u => exact ⟨u, rfl, r⟩
section
variable {P : Program} {w : World} {H H' : Hp} {h h' : Heap} {a C dx : Addr} {fs fs' : List (Str × V)}
end

section
variable {X : Cx} {pins : List (Addr × Obj)} {σ : St} {H : Hp} {s : Shared} {a C dx : Addr} {fs : List (Str × V)} {f : Str} {v : V} {A : Around} {E : Value → Shared → Prop}

end

section
variable {X : Cx} {o e value : Expr} {f : Str} {pos pos' tpos : Pos} {ta tv : TE}
end

section
variable {X : Cx} {pins : List (Addr × Obj)} {σ : St} {H : Hp} {s : Shared} {A : Around} {E : Value → Shared → Prop} {Q : Value → Shared → Prop} {c : Value} {b : Bool}
end
end L2

namespace L2
open PySem PySem.Spec PyProof.Rows

structure Room (k : Nat) (A : Around) : Prop where
 hd : A.handled = none
 dp : A.depth + 3 * k + 5 < recursionLimit
 un : A.units + 16 * k + 200 < cLine
theorem Room.mono {j k : Nat} {A : Around} (r : Room k A) (h : j ≤ k) : Room j A := ⟨r.hd, by have := r.dp; omega, by have := r.un; omega⟩
theorem Room.deeper {k : Nat} {A : Around} (r : Room (k + 1) A) (env : Env) : Room k (A.deeper env) :=
 ⟨r.hd, by have := r.dp; show A.depth + 1 + 3 * k + 5 < _; omega, by have := r.un; show A.units + 3 + 16 * k + 200 < _; omega⟩
theorem Room.depth {k : Nat} {A : Around} (r : Room k A) : A.depth < recursionLimit := by have := r.dp; omega
theorem Room.units {k : Nat} {A : Around} (r : Room k A) : A.units + 64 < cLine := by have := r.un; omega
def tNil : TA := fun _ H Q => Q [] H
def tCons (ta : TE) (tr : TA) : TA := fun σ H Q => ta σ H fun x H1 => tr σ H1 fun xs H2 => Q (x :: xs) H2
section
variable {X : Cx} {e : Expr} {es : List Expr} {te : TE} {t : TA} {pos : Pos}
theorem pa_nil : PA X [] tNil := fun _ _ _ _ H Q I h => Calls.spliced_nil ⟨[], H, I, .nil, h⟩
theorem pa_cons (ha : PE X e te) (hr : PA X es t) (hs : starEach (e :: es) X.env = (false, eval e X.env) :: starEach es X.env := by rfl) : PA X (e :: es) (tCons te t) := by
 intro pos pins s σ H Q I h
 rw [hs]
 show wpAny _ _ (spliced ((false, eval e X.env) :: backTo pos (starEach es X.env))) _ _ s
 refine Calls.spliced_cons (thn (ha pins s σ H _ I h) fun u s1 ⟨x, H1, I1, r1, q1⟩ => ?_)
 exact thn (hr pos pins s1 σ H1 _ I1 q1) fun us s2 ⟨xs, H2, I2, r2, q2⟩ => ⟨x :: xs, H2, I2, .cons r1 r2, q2⟩

def tTup (t : TA) : TE := fun σ H Q => t σ H fun xs H1 => xs.length ≤ sizeLine ∧ ∀ p, H1 p = none → Q (.ref p) (upd H1 p (.tup xs))
def tLst (t : TA) : TE := fun σ H Q => t σ H fun xs H1 => xs.length ≤ sizeLine ∧ ∀ p, H1 p = none → Q (.ref p) (upd H1 p (.lst xs))
theorem pe_tup {x1} (h : PA X es t) : PE X (.Tuple es x1 pos) (tTup t) := by
 intro pins s σ H Q I hq
 refine wpAny_Tuple_spliced (thn (h pos pins s σ H _ I hq) fun us s1 ⟨xs, H1, I1, r, z, q⟩ => ⟨by rw [← r.length]; exact z, ?_⟩)
 have hf : H1 s1.heap.objs.size = none := I1.hok.fresh (Nat.le_refl _)
 refine ⟨.ref s1.heap.objs.size, upd H1 s1.heap.objs.size (.tup xs), I1.laid (t' := s1.toks) (fun b u e => Heap.get?_push_of_some _ e) (Nat.le_refl _) ?_, rfl, q _ hf⟩
 exact ⟨z, us, r, ⟨_, Heap.get?_push_size _ rfl, rfl, _, rfl⟩⟩
theorem pe_lst (h : PA X es t) : PE X (.List es pos) (tLst t) := by
 intro pins s σ H Q I hq
 refine wpAny_List_spliced (thn (h pos pins s σ H _ I hq) fun us s1 ⟨xs, H1, I1, r, z, q⟩ => ⟨by rw [← r.length]; exact z, ?_⟩)
 have hf : H1 s1.heap.objs.size = none := I1.hok.fresh (Nat.le_refl _)
 refine ⟨.ref s1.heap.objs.size, upd H1 s1.heap.objs.size (.lst xs), I1.laid (t' := s1.toks) (fun b u e => Heap.get?_push_of_some _ e) (Nat.le_refl _) ?_, rfl, q _ hf⟩
 exact ⟨z, us, 0, r, Heap.get?_push_size _ rfl⟩
end

abbrev Sp := List V → Hp → VK → XK → Prop
abbrev CXT := List Env → Hp → Shared → XK → Value → Shared → Prop

structure Env0 (P : Program) (w : World) (K : PySem.W.Frag) (mg : Str → Option Value) (base : Heap) (A : Around) (outer : List Env) (s : Shared) (H : Hp) : Prop where
 frames : A.frames = some outer
 mod : Mod K mg base
 bs : ∀ b o, base.get? b = some o → s.heap.get? b = some o ∧ H b = none
 bsz : base.objs.size ≤ s.heap.objs.size
 funs : s.heap.FunFrames base outer
 frf : ∀ b ∈ frs outer, H b = none
 hok : HOk P w H s.heap
 bare : AllBare s.gens
def CE (outer : List Env) (P : Program) (w : World) (H : Hp) (s : Shared) (Q : VK) (u : Value) (s' : Shared) : Prop :=
 ∃ v H', s'.os = s.os ∧ AllBare s'.gens ∧ Un (frs outer) [] H H' s.heap s'.heap ∧ HOk P w H' s'.heap ∧ RelV v u ∧ Q v H'
def CR (CX : CXT) (outer : List Env) (P : Program) (w : World) (H : Hp) (s : Shared) (Q : VK) (E : XK) (r : Result) (s' : Shared) : Prop :=
 match r with
 | .ok (.ret u) => CE outer P w H s Q u s'
 | .ok _ => False
 | .error e => CX outer H s E e s'
structure FnOk (P : Program) (w : World) (K : PySem.W.Frag) (mg : Str → Option Value) (base : Heap) (CX : CXT) (k : Nat) (f : Addr) (fd : FuncData) (ps : List Str) (sp : Sp) : Prop where
 len : ∀ vs H Q E, sp vs H Q E → vs.length = ps.length
 run : ∀ (A : Around) (outer : List Env) (s : Shared) (H : Hp) (args : Args) (us : List Value) (vs : List V) (Q : VK) (E : XK), Room k A → Env0 P w K mg base A outer s H → BindsTo s fd args (ps.zip us) → Vals vs us → sp vs H Q E →
  codeAny (model P w) A (.call (.ref f) args) (CR CX outer P w H s Q E) s
section
variable {X : Cx} {pins : List (Addr × Obj)} {σ : St} {H : Hp} {s s' : Shared}
theorem Inv.env0 (I : Inv X pins σ H s) : Env0 X.prog X.w X.K X.mg X.base X.A X.stack s H :=
 ⟨I.ok.frames, I.ok.mod, I.bs, Nat.le_trans I.ok.bsz I.sz, I.stack, I.stkFree, I.hok, I.bare⟩
theorem Inv.after {Q : VK} {u : Value} (I : Inv X pins σ H s) (h : CE X.stack X.prog X.w H s Q u s') : EP X pins σ Q u s' := by
 walk_at "B"
 obtain ⟨v, H', os, bare, un, hok, r, q⟩ := h
 obtain ⟨hh, g, d, t, os'⟩ := s'
 walk_at "C"
 obtain rfl : os' = s.os := os
 exact ⟨v, H', I.call (h' := hh) (g' := g) (d' := d) (t' := t) (ch := []) un hok bare (fun b z => absurd z (by simp)), r, q⟩
end

def tCall (sp : Sp) (dvs : List V) (E : XK) (t : TA) : TE := fun σ H Q => t σ H fun vs H1 => sp (vs ++ dvs) H1 Q E
def Binds (K : PySem.W.Frag) (fd : FuncData) (ps : List Str) (ds : List Value) : Prop :=
 ∀ (s : Shared) (us : List Value), K.In s.heap → (us ++ ds).length = ps.length → BindsTo s fd ⟨us, []⟩ (ps.zip (us ++ ds))
theorem Binds.all {K : PySem.W.Frag} {fd : FuncData} {ps : List Str} (h : ∀ us : List Value, us.length = ps.length → bindArgs fd ⟨us, []⟩ = pure (ps.zip us)) : Binds K fd ps [] := fun s us _ hl => by
 rw [List.append_nil] at hl ⊢
 exact .of_eq (h us hl)

def Passes (CX : CXT) (X : Cx) (E : XK) : Prop := ∀ (pins : List (Addr × Obj)) (σ : St) (H : Hp) (s : Shared) (e : Value) (s' : Shared), Inv X pins σ H s → CX X.stack H s E e s' → X.xe e s'

section
variable {X : Cx} {CX : CXT} {k : Nat} {f C : Addr} {fd : FuncData} {ps : List Str} {sp : Sp} {dvs : List V} {ds : List Value} {E : XK} {x m : Str} {p pos apos : Pos} {e o : Expr} {es : List Expr} {ta : TE} {t : TA}

theorem run_fn {pins : List (Addr × Obj)} {σ : St} {H : Hp} {s : Shared} {Q : VK} {us : List Value} {vs : List V} (F : FnOk X.prog X.w X.K X.mg X.base CX k f fd ps sp) (hr : Room k X.A) (hb : Binds X.K fd ps ds) (hd : Vals dvs ds) (hx : Passes CX X E)
  (I : Inv X pins σ H s) (r : Vals vs us) (h : sp (vs ++ dvs) H Q E) : wpAny (model X.prog X.w) X.A (call (.ref f) us) (EP X pins σ Q) X.xe s := by
 have r2 : Vals (vs ++ dvs) (us ++ ds) := r.append hd
 have hl : (us ++ ds).length = ps.length := by rw [← r2.length]; exact F.len _ _ _ _ h
 refine wpAny_call (codeAny_mono (F.run X.A X.stack s H ⟨us, []⟩ (us ++ ds) (vs ++ dvs) Q E hr I.env0 (hb s us I.kIn hl) r2 h) fun r s' hq => ?_)
 cases r with
 | error e => exact hx pins σ H s e s' I hq
 | ok fl =>
  cases fl with
  | ret u => exact I.after hq
  | next => exact False.elim hq
  | brk => exact False.elim hq
  | cont => exact False.elim hq

theorem pe_call (F : FnOk X.prog X.w X.K X.mg X.base CX k f fd ps sp) (hr : Room k X.A) (hg : Gl X x) (hm : X.mg x = some (.ref f)) (hk : PySem.W.keepIn X.K (.ref f) = true) (hb : Binds X.K fd ps ds) (hd : Vals dvs ds) (hx : Passes CX X E)
  (ha : PA X (e :: es) t) (hdb : (x == ("__debug__" : Str)) = false := by decide) (he : starEach (e :: es) X.env = (false, eval e X.env) :: starEach es X.env := by rfl) (hpl : (backTo pos (starEach es X.env)).any (·.1) = false := by rfl) :
  PE X (.Call (.Name x p) (e :: es) [] pos) (tCall sp dvs E t) := by
 intro pins s σ H Q I h
 refine wpAny_Call_Name_kw (ld_glob I hg hm ?_ hdb)
 refine PySem.W.callWith_K (h₀ := X.base) I.ok.mod.kin hk (thn (ha pos pins s σ H _ I h) fun us s1 ⟨vs, H1, I1, r, q⟩ => ⟨I1.kIn, ?_⟩) he hpl
 exact run_fn F hr hb hd hx I1 r q
end

section
variable {X : Cx} {CX : CXT} {k : Nat} {f C : Addr} {fd : FuncData} {ps ks : List Str} {sp : Sp} {E : XK} {x m : Str} {p pos apos kpos : Pos} {e o : Expr} {es : List Expr} {kws : List Keyword} {te ta : TE} {t tk : TA} {nm : Option Str}
variable {g : List Value → List Value → List Value} {gV : List V → List V → List V}
end

structure FnScope (N P : List Str) (sc : Scope) : Prop where
 kind : sc.kind = .function
 co : sc.isCoroutine = false
 gen : sc.isGenerator = false
 nd : N.Nodup
 pre : N.take P.length = P
 par : ∀ x ∈ P, sc.names.lookup x = some .local ∨ sc.names.lookup x = some .cell
 nofree : ∀ y ∈ sc.names, y.2 ≠ .free

theorem bindL_out {kindOf : Str → Option NameKind} {x : Str} : ∀ {binds : List (Str × Value)} {m : Str → Option Value}, (∀ v, (x, v) ∉ binds) → bindL kindOf binds m x = m x
 | [], _, _ => rfl
 | (n, v) :: r, m, h => by
  unfold bindL
  rw [bindL_out fun w hw => h w (List.mem_cons_of_mem _ hw)]
  split
  ·have : x ≠ n := by rintro rfl; exact h v List.mem_cons_self
   simp [this]
  ·rfl
theorem bindC_out {kindOf : Str → Option NameKind} {x : Str} : ∀ {binds : List (Str × Value)} {m : Str → Option Value}, (∀ v, (x, v) ∉ binds) → bindC kindOf binds m x = m x
 | [], _, _ => rfl
 | (n, v) :: r, m, h => by
  unfold bindC
  rw [bindC_out fun w hw => h w (List.mem_cons_of_mem _ hw)]
  split
  ·rfl
  ·have : x ≠ n := by rintro rfl; exact h v List.mem_cons_self
   simp [this]
theorem bindL_get {kindOf : Str → Option NameKind} {x : Str} {v : Value} : ∀ {P : List Str} {vs : List Value} {i : Nat} {m : Str → Option Value}, P.Nodup → P[i]? = some x → vs[i]? = some v → kindOf x = some .local →
  bindL kindOf (P.zip vs) m x = some v
 | [], _, _, _, _, h, _, _ => by simp at h
 | _ :: _, [], _, _, _, _, h, _ => by simp at h
 | p :: P, w :: vs, 0, m, nd, h1, h2, hk => by
  simp at h1 h2; subst h1; subst h2
  show bindL kindOf ((p, w) :: P.zip vs) m p = _
  unfold bindL
  rw [bindL_out fun v hv => (List.nodup_cons.mp nd).1 (List.of_mem_zip hv).1, if_pos hk]
  simp
 | p :: P, w :: vs, i + 1, m, nd, h1, h2, hk => by
  show bindL kindOf ((p, w) :: P.zip vs) m x = _
  unfold bindL
  exact bindL_get (i := i) (List.nodup_cons.mp nd).2 (by simpa using h1) (by simpa using h2) hk
theorem bindC_get {kindOf : Str → Option NameKind} {x : Str} {v : Value} : ∀ {P : List Str} {vs : List Value} {i : Nat} {m : Str → Option Value}, P.Nodup → P[i]? = some x → vs[i]? = some v → kindOf x ≠ some .local →
  bindC kindOf (P.zip vs) m x = some v
 | [], _, _, _, _, h, _, _ => by simp at h
 | _ :: _, [], _, _, _, _, h, _ => by simp at h
 | p :: P, w :: vs, 0, m, nd, h1, h2, hk => by
  simp at h1 h2; subst h1; subst h2
  show bindC kindOf ((p, w) :: P.zip vs) m p = _
  unfold bindC
  rw [bindC_out fun v hv => (List.nodup_cons.mp nd).1 (List.of_mem_zip hv).1, if_neg hk]
  simp
 | p :: P, w :: vs, i + 1, m, nd, h1, h2, hk => by
  show bindC kindOf ((p, w) :: P.zip vs) m x = _
  unfold bindC
  exact bindC_get (i := i) (List.nodup_cons.mp nd).2 (by simpa using h1) (by simpa using h2) hk

def start (N : List Str) (vs : List V) : St := vs.map some ++ List.replicate (N.length - vs.length) none

def cxOf (CX : CXT) (P : Program) (w : World) (K : PySem.W.Frag) (mg : Str → Option Value) (base : Heap) (N : List Str) (qual : Str) (scope : Scope) (f : Addr) (cd : Value) (A : Around) (outer : List Env) (s : Shared) (H : Hp) (E : XK) : Cx where
 prog := P
 w := w
 K := K
 mg := mg
 base := base
 A := A.deeper (envOfC qual scope s.heap.objs.size f cd)
 N := N
 s₀ := s
 H₀ := H
 env := envOfC qual scope s.heap.objs.size f cd
 outer := outer
 stack := envOfC qual scope s.heap.objs.size f cd :: outer
 ex := []
 calm := true
 fn := fun _ => true
 pn := []
 xe := fun e s' => wpAny (model P w) (A.deeper (envOfC qual scope s.heap.objs.size f cd)) (leaving (envOfC qual scope s.heap.objs.size f cd) e) (fun _ s'' => CX outer H s E e s'') (fun e' s'' => CX outer H s E e' s'') s'

theorem cell_has {sc : Scope} {n : Nat} {x : Str} (h : sc.names.lookup x = some .cell) : ∃ c, (cellsFrom n sc.names []).lookup x = some c := by
 have q := PySem.W.cellsFrom_some sc.names n [] (.inl h)
 exact Option.isSome_iff_exists.mp q

theorem inv_start {CX : CXT} {P : Program} {w : World} {K : PySem.W.Frag} {mg : Str → Option Value} {base : Heap} {N ps : List Str} {qual : Str} {scope : Scope} {f : Addr} {cd : Value} {A : Around} {outer : List Env} {s s1 : Shared} {H : Hp} {E : XK} {us : List Value} {vs : List V}
  (S : FnScope N ps scope) (hd : A.handled = none) (e0 : Env0 P w K mg base A outer s H) (hl : vs.length = ps.length) (r : Vals vs us)
  (x : InCallC s s.heap.objs.size (bindL (envOfC qual scope s.heap.objs.size f cd).kindOf (ps.zip us) fun _ => none) (cellsFrom (s.heap.objs.size + 1) scope.names []) (bindC (envOfC qual scope s.heap.objs.size f cd).kindOf (ps.zip us) fun _ => none) s1) :
  Inv (cxOf CX P w K mg base N qual scope f cd A outer s H E) [] (start N vs) H s1 := by
 have hpl : ps.length ≤ N.length := by have := congrArg List.length S.pre; rw [List.length_take] at this; omega
 walk_at "B"
 obtain ⟨h1, tk, rfl, hk⟩ := x.done
 walk_at "C"
 have noA : ∀ b : Addr, b ∉ (cxOf CX P w K mg base N qual scope f cd A outer s H E).ex := fun b z => absurd (show b ∈ ([] : List Addr) from z) (by simp)
 refine ⟨⟨e0.mod, S.kind, rfl, rfl, Nat.le_refl _, fun y z c h1 h2 => ?_, fun y hy => ?_, fun y c _ h => ?_, fun _ => hd, Around.frames_deeper e0.frames, .inr ⟨rfl, rfl⟩, fun b z => absurd z (noA b), e0.bs, e0.bsz, fun b _ _ => noA b, fun b z => absurd z (noA b), e0.funs, e0.frf⟩,
  rfl, e0.bare, Un.kept hk, ⟨_, x.toInCall.ns, fun i y v h1 h2 h3 => ?_⟩, fun y c h => ⟨_, x.cell y c h⟩, e0.hok.fresh (Nat.le_refl _), fun y c h => ?_, fun p hp => absurd (show p ∈ ([] : List (Addr × Obj)) from hp) (by simp), e0.hok.kept hk, ?_⟩
 ·exact name_of_addr x.apart (PySem.mem_of_lookup h1) (PySem.mem_of_lookup h2)
 ·have hy : scope.names.lookup y = some .cell ∨ scope.names.lookup y = some .free := hy
  rcases hy with hy | hy
  ·exact cell_has hy
  ·exact absurd rfl (S.nofree _ (PySem.mem_of_lookup hy))
 ·exact Nat.le_of_lt (x.above y c (PySem.mem_of_lookup h))
 ·have hi : i < vs.length := by
   unfold start at h2
   by_cases hi : i < vs.length
   ·exact hi
   ·rw [List.getElem?_append_right (by simpa using hi)] at h2
    rw [List.getElem?_replicate] at h2
    split at h2 <;> cases h2
  have ha : vs[i]? = some v := by
   unfold start at h2
   rw [List.getElem?_append_left (by simpa using hi), List.getElem?_map] at h2
   cases e : vs[i]? with
   | none => rw [e] at h2; cases h2
   | some a => rw [e] at h2; cases h2; rfl
  walk_at "B"
  obtain ⟨u, hu, rv⟩ := r.get ha
  walk_at "C"
  have hp : ps[i]? = some y := by
   rw [← S.pre, List.getElem?_take_of_lt (by omega)]; exact h1
  have ndP : ps.Nodup := by rw [← S.pre]; exact S.nd.sublist (List.take_sublist _ _)
  refine ⟨u, rv, ?_⟩
  rcases S.par y (List.mem_of_getElem? hp) with k | k
  ·exact .inl ⟨k, bindL_get ndP hp hu k⟩
  ·obtain ⟨c, e⟩ := cell_has (n := s.heap.objs.size + 1) k
   refine .inr ⟨.inl k, c, e, ?_⟩
   have q := x.cell y c e
   rw [bindC_get ndP hp hu (by show scope.names.lookup y ≠ _; rw [k]; decide)] at q
   exact q
 ·exact e0.hok.fresh (Nat.le_of_lt (x.above y c (PySem.mem_of_lookup h)))
 ·unfold start
  show _ = N.length
  rw [List.length_append, List.length_map, List.length_replicate]
  omega

theorem fn_of {CX : CXT} {P : Program} {w : World} {K : PySem.W.Frag} {mg : Str → Option Value} {base : Heap} {k : Nat} {f : Addr} {name qual : Str} {params : Arguments} {body : List Stmt} {scope : Scope} {dV kV doc pm cdv ct oc : Value} {an od : Option Addr}
  {osl : Array (Option Value)} {N ps : List Str} {sp : Sp} (lk : K.lookup f = some ⟨oc, od, .func (PySem.W.fnOf name qual params body scope dV kV doc pm an cdv ct), osl⟩) (hcd : PySem.W.codeIn K cdv qual = true) (S : FnScope N ps scope)
  (len : ∀ vs H Q E, sp vs H Q E → vs.length = ps.length)
  (hbody : ∀ (A : Around) (outer : List Env) (s : Shared) (H : Hp) (vs : List V) (Q : VK) (E : XK), Room k (A.deeper (envOfC qual scope s.heap.objs.size f cdv)) → sp vs H Q E →
   ∃ t, PSs (cxOf CX P w K mg base N qual scope f cdv A outer s H E) body t ∧ t { nx := fun _ H' => Q .non H', rt := Q } (start N vs) H) :
  FnOk P w K mg base CX (k + 1) f (PySem.W.fnOf name qual params body scope dV kV doc pm an cdv ct) ps sp := by
 refine ⟨len, fun A outer s H args us vs Q E hr e0 hb r hsp => ?_⟩
 have hl := len _ _ _ _ hsp
 have KX : K.In s.heap := e0.mod.kin.keeps fun b o e => (e0.bs b o e).1
 have lim : s.heap.NoLimit := e0.mod.nolimit.keeps fun b o e => (e0.bs b o e).1
 have hkind : ∀ y ∈ ps.zip us, scope.names.lookup y.1 = some .local ∨ (scope.names.lookup y.1 = some .cell ∧ ((cellsFrom (s.heap.objs.size + 1) scope.names []).lookup y.1).isSome = true) := fun ⟨n, v⟩ hy => by
  rcases S.par n (List.of_mem_zip hy).1 with q | q
  ·exact .inl q
  ·exact .inr ⟨q, PySem.W.cellsFrom_some _ _ _ (.inl q)⟩
 refine codeAny_call_function hr.depth (KX _ _ lk) rfl S.co S.gen rfl (PySem.W.codeRec_of KX hcd) (hb _ _ _ _ ?_)
 refine wpAny_newFunctionEnv_cells S.kind hkind fun env he s1 x => ?_
 subst he
 refine ⟨lim.keeps x.toInCall.keep, codeAny_func ?_⟩
 walk_at "B"
 obtain ⟨t, ht, hq⟩ := hbody A outer s H vs Q E (hr.deeper _) hsp
 walk_at "C"
 have I : Inv (cxOf CX P w K mg base N qual scope f cdv A outer s H E) [] (start N vs) H s1 := inv_start S hr.hd e0 hl r x
 refine wpAny_mono (ht [] s1 (start N vs) H _ I hq) (fun fl s' hs => ?_) fun e s' hs => hs
 have fin : ∀ {σ' : St} {H' : Hp} {v : V} {u : Value}, Inv (cxOf CX P w K mg base N qual scope f cdv A outer s H E) [] σ' H' s' → RelV v u → Q v H' → CE outer P w H s Q u s' :=
  fun {σ' H' v u} J rv q => ⟨v, H', J.os, J.bare, J.base, J.hok, rv, q⟩
 cases fl with
 | ret u =>
  walk_at "B"
  obtain ⟨v, σ', H', J, rv, q⟩ := hs
  walk_at "C"
  exact fin J rv q
 | next =>
  walk_at "B"
  obtain ⟨σ', H', J, q⟩ := hs
  walk_at "C"
  exact fin (v := V.non) (u := Value.none) J rfl q
 | brk =>
  walk_at "B"
  obtain ⟨_, _, _, q⟩ := hs
  walk_at "C"
  exact False.elim q
 | cont =>
  walk_at "B"
  obtain ⟨_, _, _, q⟩ := hs
  walk_at "C"
  exact False.elim q
end L2

namespace L2
open PySem PySem.Spec PyProof.Rows
section
variable {X : Cx} {x : Str} {p pos : Pos} {e : Expr} {es : List Expr} {t : TA} {id T : String} {r : List V → Hp → VK → Prop}

def tCB (r : List V → Hp → VK → Prop) (t : TA) : TE := fun σ H Q => t σ H fun vs H1 => r vs H1 Q
theorem pe_callB (hc : CallR X (.builtin id) r) (hg : Gl X x) (hm : X.mg x = none) (hv : bootBuiltins x = some (.builtin id)) (ha : PA X (e :: es) t) (hn : x ≠ "__name__" := by decide) (hdb : (x == ("__debug__" : Str)) = false := by decide)
  (he : starEach (e :: es) X.env = (false, eval e X.env) :: starEach es X.env := by rfl) (hpl : (backTo pos (starEach es X.env)).any (·.1) = false := by rfl) : PE X (.Call (.Name x p) (e :: es) [] pos) (tCB r t) := by
 intro pins s σ H Q I h
 refine wpAny_Call_Name_kw (ld_blt I hg hm hv ?_ hn hdb)
 exact PyProof.Rows.callWith_builtin1 (thn (ha pos pins s σ H _ I h) fun us s1 ⟨vs, H1, I1, r1, q1⟩ => hc pins s1 σ H1 vs us Q I1 r1 q1) he hpl
theorem pe_callTy (hc : CallR X (.type T) r) (hg : Gl X x) (hm : X.mg x = none) (hv : bootBuiltins x = some (.type T)) (ha : PA X (e :: es) t) (hn : x ≠ "__name__" := by decide) (hdb : (x == ("__debug__" : Str)) = false := by decide)
  (he : starEach (e :: es) X.env = (false, eval e X.env) :: starEach es X.env := by rfl) (hpl : (backTo pos (starEach es X.env)).any (·.1) = false := by rfl) : PE X (.Call (.Name x p) (e :: es) [] pos) (tCB r t) := by
 intro pins s σ H Q I h
 refine wpAny_Call_Name_kw (ld_blt I hg hm hv ?_ hn hdb)
 exact PyProof.Rows.callWith_type1 (thn (ha pos pins s σ H _ I h) fun us s1 ⟨vs, H1, I1, r1, q1⟩ => hc pins s1 σ H1 vs us Q I1 r1 q1) he hpl
end
end L2

namespace HT
open PySem PyProof.Rows

section
open PySem.SeqAt
open PySem.AutoSeq1 (wpAny_loadPart')
open PySem.MeetsSeq PySem.MeetsSeq2 PySem.MeetsSeq3

end

section
variable {prog : Program} {w : World} {A : Around} {E : Value → Shared → Prop} {s : Shared}

def sIx (n d : Nat) : Option Int → Nat
 | none => d
 | some v => if v < 0 then (v + (n : Int)).toNat else min v.toNat n
end
end HT

namespace L2
open PySem PySem.Spec PyProof.Rows

abbrev TO := St → Hp → (Option Int → Hp → Prop) → Prop
def PO (X : Cx) (e : Option Expr) (t : TO) : Prop :=
 ∀ (pins : List (Addr × Obj)) (s : Shared) (σ : St) (H : Hp) (Q : Option Int → Hp → Prop), Inv X pins σ H s → t σ H Q →
  wpAny (model X.prog X.w) X.A (evalPart e X.env) (fun u s' => ∃ o H', Inv X pins σ H' s' ∧ IsPart u o ∧ Q o H') X.xe s
def tNoPart : TO := fun _ H Q => Q none H
section
variable {X : Cx} {e : Expr} {te : TE} {lo hi : Option Expr} {tl th : TO} {pos p2 : Pos}

theorem po_none : PO X none tNoPart := by
 intro pins s σ H Q I h
 rw [evalPart_none]
 exact wpAny_pure ⟨none, H, I, .none, h⟩
def SlR (X : Cx) (r : V → Option Int → Option Int → Hp → VK → Prop) : Prop :=
 ∀ (pins : List (Addr × Obj)) (s : Shared) (σ : St) (H : Hp) (x : V) (v vl vu : Value) (lo hi : Option Int) (sl : Addr) (Q : VK), Inv X pins σ H s → RelV x v → s.heap.IsSliceOf sl vl vu .none → IsPart vl lo → IsPart vu hi → r x lo hi H Q →
  ∃ T id, typeLookup (.type T) "__getitem__" = pure (some (.builtin id)) ∧ s.TypeIs v T ∧ wpAny (model X.prog X.w) X.A (getItem v (.ref sl)) (EP X pins σ Q) X.xe s
theorem SlR.or {r r' : V → Option Int → Option Int → Hp → VK → Prop} (h : SlR X r) (h' : SlR X r') : SlR X (fun x lo hi H Q => r x lo hi H Q ∨ r' x lo hi H Q) := by
 intro pins s σ H x v vl vu lo hi sl Q I rx hs pl pu q
 rcases q with q | q
 ·exact h pins s σ H x v vl vu lo hi sl Q I rx hs pl pu q
 ·exact h' pins s σ H x v vl vu lo hi sl Q I rx hs pl pu q
def tSl (r : V → Option Int → Option Int → Hp → VK → Prop) (te : TE) (tl th : TO) : TE := fun σ H Q => te σ H fun x H1 => tl σ H1 fun l H2 => th σ H2 fun u H3 => r x l u H3 Q
theorem pe_slice {r : V → Option Int → Option Int → Hp → VK → Prop} (hr : SlR X r) (he : PE X e te) (hl : PO X lo tl) (hu : PO X hi th) : PE X (.Subscript e (.Slice lo hi none p2) pos) (tSl r te tl th) := by
 intro pins s σ H Q I h
 refine Subscript_ (thn (he pins s σ H _ I h) fun v s1 ⟨x, H1, I1, r1, q1⟩ => ?_)
 refine wpAny_Slice (thn (hl pins s1 σ H1 _ I1 q1) fun vl s2 ⟨l, H2, I2, pl, q2⟩ => thn (hu pins s2 σ H2 _ I2 q2) fun vu s3 ⟨u, H3, I3, pu, q3⟩ => ?_)
 rw [evalPart_none]
 refine wpAny_pure ?_
 have I4 : Inv X pins σ H3 { s3 with heap := s3.heap.push { cls := .type "slice", data := .fields #[vl, vu, .none] } } := I3.kept (t' := s3.toks) fun b ob q => Heap.get?_push_of_some _ q
 walk_at "B"
 obtain ⟨T, id, hT, ht, hg⟩ := hr pins { s3 with heap := s3.heap.push { cls := .type "slice", data := .fields #[vl, vu, .none] } } σ H3 x v vl vu l u s3.heap.objs.size Q I4 r1 (Heap.IsSliceOf.new ..) pl pu q3
 walk_at "C"
 show wpAny (model X.prog X.w) X.A (subscriptTail e (.Slice lo hi none p2) v (.ref s3.heap.objs.size)) (EP X pins σ Q) X.xe { s3 with heap := s3.heap.push { cls := .type "slice", data := .fields #[vl, vu, .none] } }
 exact tail_any (ops := [.ref s3.heap.objs.size, v]) ht hT hg (by with_unfolding_all rfl)

def cutV (xs : List V) (lo hi : Option Int) : List V := (xs.drop (HT.sIx xs.length 0 lo)).take (HT.sIx xs.length xs.length hi - HT.sIx xs.length 0 lo)
theorem cutV_length (xs : List V) (lo hi : Option Int) : (cutV xs lo hi).length ≤ xs.length := by
 unfold cutV
 rw [List.length_take, List.length_drop]
 omega
end
end L2

namespace L2
open PySem PySem.Spec PyProof.Rows

def ixN (n : Nat) (i : Int) : Option Nat := if 0 ≤ i then (if i < n then some i.toNat else none) else if -(n : Int) ≤ i then some (i + n).toNat else none
def atI {α : Type} (xs : List α) (i : Int) : Option α := (ixN xs.length i).bind fun j => xs[j]?
theorem ixN_seq {n : Nat} {i : Int} {j : Nat} (h : ixN n i = some j) : seqIndex? i n = some j ∧ j < n ∧ -(n : Int) ≤ i ∧ i < n := by
 unfold ixN at h
 by_cases h0 : 0 ≤ i
 ·rw [if_pos h0] at h
  by_cases h1 : i < n
  ·rw [if_pos h1] at h
   have e : i.toNat = j := Option.some.inj h
   exact ⟨by rw [seqIndex_of h0 h1, e], by omega, by omega, h1⟩
  ·rw [if_neg h1] at h; cases h
 ·rw [if_neg h0] at h
  by_cases h1 : -(n : Int) ≤ i
  ·rw [if_pos h1] at h
   have e : (i + n).toNat = j := Option.some.inj h
   exact ⟨by rw [seqIndex_neg (by omega) h1, e], by omega, h1, by omega⟩
  ·rw [if_neg h1] at h; cases h
theorem atI_get {α : Type} {xs : List α} {i : Int} {v : α} (h : atI xs i = some v) : ∃ j, seqIndex? i xs.length = some j ∧ xs[j]? = some v ∧ j < xs.length ∧ -(xs.length : Int) ≤ i ∧ i < xs.length := by
 unfold atI at h
 cases e : ixN xs.length i with
 | none => rw [e] at h; cases h
 | some j =>
  rw [e] at h
  walk_at "B"
  obtain ⟨h1, h2, h3, h4⟩ := ixN_seq e
  walk_at "C"
  exact ⟨j, h1, h, h2, h3, h4⟩
theorem atI_nat {α : Type} {xs : List α} {j : Nat} {v : α} (h : xs[j]? = some v) : atI xs (j : Int) = some v := by
 have hj : j < xs.length := (List.getElem?_eq_some_iff.mp h).1
 have e : ixN xs.length (j : Int) = some j := by
  unfold ixN
  rw [if_pos (by omega), if_pos (by omega)]; simp
 unfold atI; rw [e]; exact h
def PlainIx (b : Expr) : Prop := ∀ o i, subscripted b false o i = operate [o, i] (getItem o i)
def IxR (X : Cx) (r : R2) : Prop :=
 ∀ (value slice : Expr) (pins : List (Addr × Obj)) (s : Shared) (σ : St) (H : Hp) (x y : V) (v u : Value) (Q : VK), Inv X pins σ H s → RelV x v → RelV y u → r x y H Q →
  subscripted slice false v u = operate [v, u] (getItem v u) → wpAny (model X.prog X.w) X.A (subscriptTail value slice v u) (EP X pins σ Q) X.xe s
section
variable {X : Cx} {a b : Expr} {ta tb : TE} {pos : Pos}
theorem IxR.or {r r' : R2} (h : IxR X r) (h' : IxR X r') : IxR X (fun x y H Q => r x y H Q ∨ r' x y H Q) := by
 intro value slice pins s σ H x y v u Q I rx ry q hs
 rcases q with q | q
 ·exact h value slice pins s σ H x y v u Q I rx ry q hs
 ·exact h' value slice pins s σ H x y v u Q I rx ry q hs
theorem pe_ix {r : R2} (hr : IxR X r) (ha : PE X a ta) (hb : PE X b tb) (hs : PlainIx b) : PE X (.Subscript a b pos) (tOp r ta tb) := by
 intro pins s σ H Q I h
 exact Subscript_ (binT ha hb I h fun v u s2 x y H2 I2 rx ry q => hr a b pins s2 σ H2 x y v u Q I2 rx ry q (hs _ _))

def rIxL (K : PySem.W.Frag) : R2 := fun x y H Q => ∃ p xs i v, x = .ref p ∧ y = .int i ∧ SqL K H p xs ∧ atI xs i = some v ∧ Q v H
def rIxT (K : PySem.W.Frag) : R2 := fun x y H Q => ∃ p xs i v, x = .ref p ∧ y = .int i ∧ SqT K H p xs ∧ atI xs i = some v ∧ Q v H
def rIxS : R2 := fun x y H Q => ∃ z i c, x = .str z ∧ y = .int i ∧ z.length ≤ sizeLine ∧ atI z.cps.toList i = some c ∧ Q (.str ⟨#[c]⟩) H
theorem ix_list : IxR X (rIxL X.K) := by
 intro value slice pins s σ H x y v u Q I rx ry h hs
 walk_at "B"
 obtain ⟨p, xs, i, z, rfl, rfl, hq, he, q⟩ := h
 walk_at "C"
 cases rx
 obtain ⟨t, rfl⟩ := ry
 walk_at "B"
 obtain ⟨its, r, pl, hz⟩ := I.list hq
 obtain ⟨j, h1, h2, h3, h4, h5⟩ := atI_get he
 obtain ⟨w, ew, rw'⟩ := r.get h2
 walk_at "C"
 have hl := r.length
 have hn := line63
 have fin : EP X pins σ Q w s := ⟨z, H, I, rw', q⟩
 by_cases h0 : 0 ≤ i
 ·have hj : i.toNat = j := by
   rw [seqIndex_of h0 h5] at h1
   exact Option.some.inj h1
  exact item_listR pl.isList h0 (by (clear h4 h5 hl h0; omega)) (by rw [hj]; simpa using ew) fin hs
 ·have hj : (i + (its.toArray.size : Int)).toNat = j := by
   rw [seqIndex_neg (by (clear hz h3 h4 h5 hl hn; omega)) h4] at h1
   rw [List.size_toArray, ← hl]
   exact Option.some.inj h1
  exact subscriptTail_builtinR (x := w) pl.isList.typeIs slot_list_getitem.lookup
   (wpAny_getItem_list_neg (Q := fun r s' => r = w ∧ EP X pins σ Q r s') pl.isList (by (clear hz h3 h4 h5 hl hn hj; omega)) (by rw [List.size_toArray] <;> (clear hz h3 h5 hn h0 hj; omega)) (by (clear h3 h5 hl h0 hj; omega)) (by rw [hj]; simpa using ew) ⟨rfl, fin⟩) hs
theorem ix_tup : IxR X (rIxT X.K) := by
 intro value slice pins s σ H x y v u Q I rx ry h hs
 walk_at "B"
 obtain ⟨p, xs, i, z, rfl, rfl, hq, he, q⟩ := h
 walk_at "C"
 cases rx
 obtain ⟨t, rfl⟩ := ry
 walk_at "B"
 obtain ⟨its, r, pl, hz⟩ := I.tuple hq
 obtain ⟨j, h1, h2, h3, h4, h5⟩ := atI_get he
 obtain ⟨w, ew, rw'⟩ := r.get h2
 walk_at "C"
 have hl := r.length
 have hn := line63
 have fin : EP X pins σ Q w s := ⟨z, H, I, rw', q⟩
 exact subscriptTail_builtinR (x := w) pl.typeIs slot_tuple_getitem.lookup
  (getItem_tuple (j := j) (Q := fun r s' => r = w ∧ EP X pins σ Q r s') pl (by (clear h3 h5 hl; omega)) (by (clear h3 h4 hl; omega)) (by rw [List.size_toArray, ← hl]; exact h1) (by simpa using ew) ⟨rfl, fin⟩) hs
theorem ix_str : IxR X rIxS := by
 intro value slice pins s σ H x y v u Q I rx ry h hs
 walk_at "B"
 obtain ⟨z, i, c, rfl, rfl, hz, he, q⟩ := h
 obtain ⟨t, rfl⟩ := rx
 obtain ⟨t', rfl⟩ := ry
 obtain ⟨j, h1, h2, h3, h4, h5⟩ := atI_get he
 walk_at "C"
 have hl : z.cps.toList.length = z.length := by simp [Str.length]
 rw [hl] at h1 h4 h5
 have hn := line63
 exact tail_any (typeIs_str s z t) slot_str_getitem.lookup (getItem_str (c := c) (by
  have e1 : decide (i < -(2 ^ 63 : Int)) = false := decide_eq_false (by (clear h3 h5 hl; omega))
  have e2 : decide (i ≥ 2 ^ 63) = false := decide_eq_false (by (clear h3 h4 hl e1; omega))
  rw [e1, e2, Bool.or_false]) (by rw [h1]; simpa using h2) ⟨.str ⟨#[c]⟩, H, I.tok _, ⟨_, rfl⟩, q⟩) hs
def rIx (K : PySem.W.Frag) : R2 := fun x y H Q => rIxL K x y H Q ∨ rIxT K x y H Q ∨ rIxS x y H Q
theorem ix_seq : IxR X (rIx X.K) := ix_list.or (ix_tup.or ix_str)

theorem mapSeq_set (its : List Value) (n j : Nat) (u : Value) : Obj.mapSeq (·.setIfInBounds j u) { cls := .type "list", data := .seq its.toArray n } = { cls := .type "list", data := .seq (its.set j u).toArray n } := by
 simp [Obj.mapSeq]
theorem Inv.lst {pins : List (Addr × Obj)} {σ : St} {H : Hp} {s : Shared} {p : Addr} {xs : List V} (I : Inv X pins σ H s) (h : H p = some (.lst xs)) :
  ∃ (its : List Value) (n : Nat), Vals xs its ∧ s.heap.get? p = some { cls := .type "list", data := .seq its.toArray n } ∧ xs.length ≤ sizeLine := by
 walk_at "B"
 obtain ⟨z, its, n, r, e⟩ := I.hok p _ h
 walk_at "C"
 exact ⟨its, n, r, e, z⟩
theorem Inv.lstUpd {pins : List (Addr × Obj)} {σ : St} {H : Hp} {s : Shared} {p : Addr} {xs ys : List V} {its its' : List Value} {n n' : Nat} {f : Obj → Obj} (I : Inv X pins σ H s) (h : H p = some (.lst xs))
  (ho : s.heap.get? p = some { cls := .type "list", data := .seq its.toArray n }) (hf : f { cls := .type "list", data := .seq its.toArray n } = { cls := .type "list", data := .seq its'.toArray n' }) (r : Vals ys its') (hz : ys.length ≤ sizeLine) (t : Nat) :
  Inv X pins σ (upd H p (.lst ys)) { s with heap := s.heap.update p f, toks := t } := by
 have e : (s.heap.update p f).get? p = some { cls := .type "list", data := .seq its'.toArray n' } := by
  rw [Heap.get?_update_self f ho (by rw [hf] <;> rfl), hf]
 refine I.write (x := p) (e := p) (by rw [h]; trivial) (.inl rfl) (fun b u hb q => (Heap.get?_update_other _ _ (Ne.symm hb)).trans q) ⟨_, e⟩ ?_
 exact ⟨hz, its', n', r, e⟩
def rSetL : V → V → V → Hp → (Hp → Prop) → Prop := fun o i v H Q => ∃ p xs k j, o = .ref p ∧ i = .int k ∧ H p = some (.lst xs) ∧ ixN xs.length k = some j ∧ Q (upd H p (.lst (xs.set j v)))
theorem set_list : PSet X rSetL := by
 intro pins s σ H o i v ov iv u Q I ro ri rv h
 walk_at "B"
 obtain ⟨p, xs, k, j, rfl, rfl, hp, hj, q⟩ := h
 walk_at "C"
 cases ro
 obtain ⟨t, rfl⟩ := ri
 walk_at "B"
 obtain ⟨its, n, r, ho, hz⟩ := I.lst hp
 obtain ⟨h1, h2, h3, h4⟩ := ixN_seq hj
 walk_at "C"
 have hl := r.length
 have hn := line63
 have I' : Inv X pins σ (upd H p (.lst (xs.set j v))) { s with heap := s.heap.update p (Obj.mapSeq (·.setIfInBounds j u)) } :=
  I.lstUpd hp ho (mapSeq_set its n j u) (r.set rv j) (by rw [List.length_set]; exact hz) s.toks
 by_cases h0 : 0 ≤ k
 ·have hk : k.toNat = j := by
   rw [seqIndex_of h0 h4] at h1
   exact Option.some.inj h1
  exact PySem.W.ki_setAt ho h0 (by (clear h3 h4 hl h0; omega)) (by rw [List.size_toArray, ← hl]; exact h4) (by rw [hk]; exact ⟨_, I', q⟩)
 ·have hk : (k + (its.toArray.size : Int)).toNat = j := by
   rw [seqIndex_neg (by (clear hz h2 h3 h4 hl hn; omega)) h3] at h1
   rw [List.size_toArray, ← hl]
   exact Option.some.inj h1
  exact PySem.W.ki_setBack ho (by (clear hz h2 h3 h4 hl hn hk; omega)) (by rw [List.size_toArray, ← hl]; exact h3) (by (clear h2 h4 hl h0 hk; omega)) (by rw [hk]; exact ⟨_, I', q⟩)

theorem slice_bounds (lo hi : Option Int) (n : Nat) : (sliceBounds lo hi none n).1 = ((HT.sIx n 0 lo : Nat) : Int) ∧ (sliceBounds lo hi none n).2.1 = ((HT.sIx n n hi : Nat) : Int) ∧ (sliceBounds lo hi none n).2.2 = 1 := by
 refine ⟨?_, ?_, rfl⟩
 ·cases lo with
  | none => simp [sliceBounds, HT.sIx]
  | some i =>
   simp only [sliceBounds, HT.sIx, Option.getD_none, show (1 : Int) > 0 by decide, if_true]
   by_cases h : i < 0
   ·simp only [h, if_true] <;> omega
   ·simp only [h, if_false] <;> omega
 ·cases hi with
  | none => simp [sliceBounds, HT.sIx]
  | some i =>
   simp only [sliceBounds, HT.sIx, Option.getD_none, show (1 : Int) > 0 by decide, if_true]
   by_cases h : i < 0
   ·simp only [h, if_true] <;> omega
   ·simp only [h, if_false] <;> omega
theorem slicePick_cut (its : List Value) (lo hi : Option Int) : slicePick its.toArray lo hi none = ((its.drop (HT.sIx its.length 0 lo)).take (HT.sIx its.length its.length hi - HT.sIx its.length 0 lo)).toArray := by
 walk_at "B"
 obtain ⟨h1, h2, h3⟩ := slice_bounds lo hi its.toArray.size
 walk_at "C"
 unfold slicePick
 rw [h1, h2, h3]
 simp only [sliceRange_one, pick_run, List.size_toArray] <;> rfl
def rSlL (K : PySem.W.Frag) : V → Option Int → Option Int → Hp → VK → Prop := fun x lo hi H Q => ∃ a xs, x = .ref a ∧ SqL K H a xs ∧ ∀ p, H p = none → Q (.ref p) (upd H p (.lst (cutV xs lo hi)))
theorem sl_list : SlR X (rSlL X.K) := by
 intro pins s σ H x v vl vu lo hi sl Q I rx hs pl pu h
 walk_at "B"
 obtain ⟨a, xs, rfl, hx, q⟩ := h
 walk_at "C"
 cases rx
 walk_at "B"
 obtain ⟨its, r, ht, hz⟩ := I.list hx
 walk_at "C"
 have hlen := r.length
 refine ⟨"list", _, slot_list_getitem.lookup, ht.isList.typeIs, ?_⟩
 refine wpAny_getItem_list_slice ht.isList hs pl pu .none (by simp) ?_ (by rw [List.size_toArray] <;> omega)
 rw [slicePick_cut, ← hlen]
 refine ⟨.ref s.heap.objs.size, _, I.laid (t' := s.toks) (o := .lst (cutV xs lo hi)) (fun b ob q => Heap.get?_push_of_some _ q) (Nat.le_refl _) ?_, rfl, q _ (I.hok.fresh (Nat.le_refl _))⟩
 exact ⟨Nat.le_trans (cutV_length xs lo hi) hz, _, 0, (r.drop (HT.sIx xs.length 0 lo)).take (HT.sIx xs.length xs.length hi - HT.sIx xs.length 0 lo), Heap.get?_push_size _ rfl⟩

def flatV : V → Bool
 | .non => true
 | .bl _ => true
 | .int _ => true
 | .str _ => true
 | _ => false
def eqV : V → V → Bool
 | .non, .non => true
 | .bl a, .bl b => a == b
 | .bl a, .int b => (if a then 1 else 0) == b
 | .int a, .bl b => a == (if b then 1 else 0)
 | .int a, .int b => a == b
 | .str a, .str b => a == b
 | _, _ => false
theorem eqAt_V {A : Around} {s : Shared} {y x : V} {u v : Value} (ry : RelV y u) (rx : RelV x v) (fy : flatV y = true) (fx : flatV x = true) : SeqAt.EqAt A s u v (eqV y x) := by
 cases y with
 | non =>
  cases ry
  cases x with
  | non => cases rx; exact SeqAt.EqAt.same _
  | bl b => cases rx; exact SeqAt.EqAt.none_bool b
  | int b => obtain ⟨t, rfl⟩ := rx; exact SeqAt.EqAt.none_int b t
  | str b => obtain ⟨t, rfl⟩ := rx; exact SeqAt.EqAt.none_str b t
  | _ => exact absurd (show false = true from fx) Bool.false_ne_true
 | bl a =>
  cases ry
  cases x with
  | non => cases rx; exact SeqAt.EqAt.bool_none a
  | bl b => cases rx; exact SeqAt.EqAt.bool_bool a b
  | int b => obtain ⟨t, rfl⟩ := rx; exact SeqAt.EqAt.bool_int a b t
  | str b => obtain ⟨t, rfl⟩ := rx; exact SeqAt.EqAt.bool_str a b t
  | _ => exact absurd (show false = true from fx) Bool.false_ne_true
 | int a =>
  obtain ⟨t', rfl⟩ := ry
  cases x with
  | non => cases rx; exact SeqAt.EqAt.int_none a t'
  | bl b => cases rx; exact SeqAt.EqAt.int_bool a t' b
  | int b => obtain ⟨t, rfl⟩ := rx; exact SeqAt.EqAt.int_int a t' b t
  | str b => obtain ⟨t, rfl⟩ := rx; exact SeqAt.EqAt.int_str a t' b t
  | _ => exact absurd (show false = true from fx) Bool.false_ne_true
 | str a =>
  obtain ⟨t', rfl⟩ := ry
  cases x with
  | non => cases rx; exact SeqAt.EqAt.str_none a t'
  | bl b => cases rx; exact SeqAt.EqAt.str_bool a t' b
  | int b => obtain ⟨t, rfl⟩ := rx; exact SeqAt.EqAt.str_int a t' b t
  | str b => obtain ⟨t, rfl⟩ := rx; exact SeqAt.EqAt.str_str a t' b t
  | _ => exact absurd (show false = true from fx) Bool.false_ne_true
 | _ => exact absurd (show false = true from fy) Bool.false_ne_true
def eqU (x : V) (u : Value) : Bool := match u with
 | .none => eqV .non x
 | .bool b => eqV (.bl b) x
 | .int i _ => eqV (.int i) x
 | .str z _ => eqV (.str z) x
 | _ => false
theorem eqU_of {x y : V} {u : Value} (r : RelV y u) (f : flatV y = true) : eqU x u = eqV y x := by
 cases y with
 | non => cases r; rfl
 | bl b => cases r; rfl
 | int i => obtain ⟨t, rfl⟩ := r; rfl
 | str z => obtain ⟨t, rfl⟩ := r; rfl
 | _ => exact absurd (show false = true from f) Bool.false_ne_true
theorem any_eqU {x : V} : ∀ {xs : List V} {us : List Value}, Vals xs us → xs.all flatV = true → us.any (eqU x) = xs.any fun y => eqV y x
 | _, _, .nil, _ => rfl
 | y :: xs, u :: us, .cons r t, f => by
  rw [List.all_cons, Bool.and_eq_true] at f
  rw [List.any_cons, List.any_cons, eqU_of r f.1, any_eqU t f.2]
theorem mem_eqAt {A : Around} {s : Shared} {x : V} {v : Value} (rx : RelV x v) (fx : flatV x = true) : ∀ {xs : List V} {us : List Value}, Vals xs us → xs.all flatV = true → ∀ u ∈ us, SeqAt.EqAt A s u v (eqU x u)
 | _, _, .nil, _ => fun u hu => by cases hu
 | y :: xs, u :: us, .cons r t, f => fun u' hu => by
  rw [List.all_cons, Bool.and_eq_true] at f
  rcases List.mem_cons.mp hu with rfl | hu
  ·rw [eqU_of r f.1]; exact eqAt_V r rx f.1 fx
  ·exact mem_eqAt rx fx t f.2 u' hu
def inV (x : V) (xs : List V) : Bool := xs.any fun y => eqV y x
def rIn (K : PySem.W.Frag) (neg : Bool) : R2 := fun x y H Q => ∃ p xs, y = .ref p ∧ (SqL K H p xs ∨ SqT K H p xs) ∧ flatV x = true ∧ xs.all flatV = true ∧ Q (.bl (if neg then !inV x xs else inV x xs)) H
theorem op_notIn_seq : OpR X (compareOp .NotIn) (rIn X.K true) := by
 intro pins s σ H x y v u Q I rx ry h
 walk_at "B"
 obtain ⟨p, xs, rfl, hq, fx, fs, q⟩ := h
 walk_at "C"
 cases ry
 rcases hq with hq | hq
 ·walk_at "B"
  obtain ⟨its, r, pl, hz⟩ := I.list hq
  walk_at "C"
  refine SeqAt.notIn_listAt (eqU x) pl.isList (fun w hw => mem_eqAt rx fx r fs w (by simpa using hw)) ⟨.bl _, H, I, rfl, ?_⟩
  rw [show its.toArray.any (eqU x) = its.any (eqU x) by simp, any_eqU r fs]
  exact q
 ·walk_at "B"
  obtain ⟨its, r, pl, hz⟩ := I.tuple hq
  walk_at "C"
  refine SeqAt.notIn_tupleAt (eqU x) pl (fun w hw => mem_eqAt rx fx r fs w (by simpa using hw)) ⟨.bl _, H, I, rfl, ?_⟩
  rw [show its.toArray.any (eqU x) = its.any (eqU x) by simp, any_eqU r fs]
  exact q
theorem call_len_seq : CallR X (.builtin "len") (fun xs H Q => ∃ p ys, xs = [.ref p] ∧ (SqL X.K H p ys ∨ SqT X.K H p ys) ∧ Q (.int ys.length) H) := by
 intro pins s σ H xs us Q I r h
 walk_at "B"
 obtain ⟨p, ys, rfl, hq, q⟩ := h
 obtain ⟨u, rfl, rx⟩ := vals1 r
 walk_at "C"
 cases rx
 have hn := line63
 rcases hq with hq | hq
 ·walk_at "B"
  obtain ⟨its, r', pl, hz⟩ := I.list hq
  walk_at "C"
  have hlen := r'.length
  exact Calls.call_len_list pl.isList (by simp only [List.size_toArray] <;> omega) ⟨.int ys.length, H, I.tok _, ⟨s.toks + 1, by rw [List.size_toArray, hlen]⟩, q⟩
 ·walk_at "B"
  obtain ⟨its, r', pl, hz⟩ := I.tuple hq
  walk_at "C"
  have hlen := r'.length
  exact len_tuple pl (by simp only [List.size_toArray] <;> omega) ⟨.int ys.length, H, I.tok _, ⟨s.toks + 1, by rw [List.size_toArray, hlen]⟩, q⟩
theorem call_len_str : CallR X (.builtin "len") (fun xs H Q => ∃ z, xs = [.str z] ∧ z.length ≤ sizeLine ∧ Q (.int z.length) H) := by
 intro pins s σ H xs us Q I r h
 walk_at "B"
 obtain ⟨z, rfl, hz, q⟩ := h
 obtain ⟨u, rfl, t, rfl⟩ := vals1 r
 walk_at "C"
 have hn := line63
 exact len_str (by omega) ⟨.int z.length, H, I.tok _, ⟨_, rfl⟩, q⟩
theorem CallR.or {f : Value} {r r' : List V → Hp → VK → Prop} (h : CallR X f r) (h' : CallR X f r') : CallR X f (fun xs H Q => r xs H Q ∨ r' xs H Q) := by
 intro pins s σ H xs us Q I rs q
 rcases q with q | q
 ·exact h pins s σ H xs us Q I rs q
 ·exact h' pins s σ H xs us Q I rs q
theorem call_list_of : CallR X (.type "list") (fun xs H Q => ∃ p ys, xs = [.ref p] ∧ (SqL X.K H p ys ∨ SqT X.K H p ys) ∧ ∀ l, H l = none → Q (.ref l) (upd H l (.lst ys))) := by
 intro pins s σ H xs us Q I r h
 walk_at "B"
 obtain ⟨p, ys, rfl, hq, q⟩ := h
 obtain ⟨u, rfl, rx⟩ := vals1 r
 walk_at "C"
 cases rx
 have fin : ∀ (its : List Value), Vals ys its → ys.length ≤ sizeLine → ∀ (h' : Heap) (c' : Nat), (∀ b o', s.heap.get? b = some o' → h'.get? b = some o') →
   h'.get? s.heap.objs.size = some { cls := .type "list", dict := none, data := .seq its.toArray c', slots := #[] } → EP X pins σ Q (.ref s.heap.objs.size) { s with heap := h' } := fun its r' hz h' c' kp e =>
  ⟨.ref s.heap.objs.size, _, I.laid (t' := s.toks) kp (Nat.le_refl _) (show ObjOk X.prog X.w _ h' _ (.lst ys) from ⟨hz, its, c', r', e⟩), rfl, q _ (I.hok.fresh (Nat.le_refl _))⟩
 rcases hq with hq | hq
 ·walk_at "B"
  obtain ⟨its, r', pl, hz⟩ := I.list hq
  walk_at "C"
  have hlen := r'.length
  walk_at "B"
  obtain ⟨o, ho, hc, n, hd⟩ := pl.isList
  walk_at "C"
  exact call_list_seq p (.inl rfl) ho hc hd (fun h' c' kp e => fin its r' hz h' c' kp e) (by simp only [List.size_toArray] <;> omega)
 ·walk_at "B"
  obtain ⟨its, r', pl, hz⟩ := I.tuple hq
  walk_at "C"
  have hlen := r'.length
  walk_at "B"
  obtain ⟨o, ho, hc, n, hd⟩ := pl
  walk_at "C"
  exact call_list_seq p (.inr rfl) ho hc hd (fun h' c' kp e => fin its r' hz h' c' kp e) (by simp only [List.size_toArray] <;> omega)
def tyV (K : PySem.W.Frag) (T : String) (x : V) (H : Hp) : Prop := match x with
 | .str _ => T = "str"
 | .int _ => T = "int"
 | .ref p => (T = "list" ∧ ∃ xs, SqL K H p xs) ∨ (T = "tuple" ∧ ∃ o, K.lookup p = some o ∧ o.cls = .type "tuple" ∧ o.dict = none) ∨
   (T = "dict" ∧ ((∃ kvs, H p = some (.dK kvs)) ∨ ∃ kvs, H p = some (.dT kvs))) ∨ (T = "set" ∧ ∃ S n, H p = some (.set S n))
 | _ => False
theorem tyV_is {pins : List (Addr × Obj)} {σ : St} {H : Hp} {s : Shared} {T : String} {x : V} {v : Value} (I : Inv X pins σ H s) (r : RelV x v) (ty : tyV X.K T x H) :
  s.TypeIs v T ∧ ∀ a, v = .ref a → ∃ ob, s.heap.get? a = some ob ∧ ob.dict = none := by
 cases x with
 | str z =>
  obtain ⟨t, rfl⟩ := r
  cases (show T = "str" from ty)
  exact ⟨typeIs_str s z t, fun _ e => nomatch e⟩
 | int i =>
  obtain ⟨t, rfl⟩ := r
  cases (show T = "int" from ty)
  exact ⟨typeIs_int s i t, fun _ e => nomatch e⟩
 | ref p =>
  cases r
  rcases ty with ⟨rfl, xs, hq⟩ | ⟨rfl, o, hk, hc, hd⟩ | ⟨rfl, hk⟩ | ⟨rfl, S, n, hk⟩
  ·walk_at "B"
   obtain ⟨its, _, pl, _⟩ := I.list hq
   walk_at "C"
   refine ⟨pl.isList.typeIs, fun a e => ?_⟩
   cases e
   walk_at "B"
   obtain ⟨o, n, e, c, hd, _⟩ := pl
   walk_at "C"
   exact ⟨o, e, hd⟩
  ·refine ⟨⟨o, I.kIn p o hk, hc⟩, fun a e => ?_⟩
   cases e
   exact ⟨o, I.kIn _ o hk, hd⟩
  ·have z : ∃ o, s.heap.get? p = some o ∧ o.ExactDict := by
    rcases hk with ⟨kvs, hk⟩ | ⟨kvs, hk⟩
    ·walk_at "B"
     obtain ⟨_, _, _, _, o, _, _, e, ex, _⟩ := I.hok p _ hk
     walk_at "C"
     exact ⟨o, e, ex⟩
    ·walk_at "B"
     obtain ⟨_, _, _, _, o, _, _, e, ex, _⟩ := I.hok p _ hk
     walk_at "C"
     exact ⟨o, e, ex⟩
   walk_at "B"
   obtain ⟨o, e, ex⟩ := z
   walk_at "C"
   refine ⟨⟨o, e, ex.1⟩, fun a e2 => ?_⟩
   cases e2
   exact ⟨o, e, ex.2.1⟩
  ·walk_at "B"
   obtain ⟨o, _, _, _, e, ex, _⟩ := I.hok p _ hk
   walk_at "C"
   refine ⟨⟨o, e, ex.1⟩, fun a e2 => ?_⟩
   cases e2
   exact ⟨o, e, ex.2.1⟩
 | _ => exact False.elim ty
variable {o e : Expr} {es : List Expr} {to : TE} {t : TA} {name : Str} {apos cpos : Pos} {T id : String} {r : V → List V → Hp → VK → Prop}
/- xs.append(e), list.index on a module's tuple .. are MtR facts of 06m -/
end
end L2

namespace L2
open PySem PySem.Spec PyProof.Rows

def MtM (X : Cx) (id : String) (r : V → List V → Hp → VK → Prop) : Prop :=
 ∀ (pins : List (Addr × Obj)) (s : Shared) (σ : St) (H : Hp) (x : V) (xs : List V) (v : Value) (us : List Value) (Q : VK), Inv X pins σ H s → RelV x v → Vals xs us → r x xs H Q →
  wpAny (model X.prog X.w) X.A (call (.builtin id) (v :: us)) (EP X pins σ Q) X.xe s

theorem Vals.one : ∀ {x : V} {us : List Value}, Vals [x] us → ∃ u, us = [u] ∧ RelV x u
 | _, _, .cons r .nil => ⟨_, rfl, r⟩
theorem Vals.rep {xs : List V} {us : List Value} (h : Vals xs us) : ∀ k : Nat, Vals (List.replicate k xs).flatten (List.replicate k us).flatten
 | 0 => .nil
 | k + 1 => by
  rw [List.replicate_succ, List.replicate_succ, List.flatten_cons, List.flatten_cons]
  exact Vals.append h (Vals.rep h k)
theorem foldl_rep (its : List Value) : ∀ (k : Nat) (acc : List Value),
  List.foldl (fun x1 x2 => x1 ++ x2) acc.toArray (List.replicate k its.toArray) = (acc ++ (List.replicate k its).flatten).toArray
 | 0, acc => by simp
 | k + 1, acc => by
  have e : acc.toArray ++ its.toArray = (acc ++ its).toArray := by simp
  have e2 : (acc ++ its) ++ (List.replicate k its).flatten = acc ++ (List.replicate (k + 1) its).flatten := by
   rw [List.replicate_succ, List.flatten_cons, List.append_assoc]
  rw [← e2, ← foldl_rep its k (acc ++ its), ← e, List.replicate_succ, List.foldl_cons]

section
variable {X : Cx} {pins : List (Addr × Obj)} {σ : St} {H : Hp} {s : Shared} {l b : Addr} {xs ys zs : List V}

theorem Inv.lset {its its' : List Value} {n : Nat} {f : Array Value → Array Value} {t' : Nat} (I : Inv X pins σ H s) (hH : H l = some (.lst xs))
  (e : s.heap.get? l = some { cls := .type "list", data := .seq its.toArray n }) (hf : f its.toArray = its'.toArray) (hv : Vals ys its') (hz : ys.length ≤ sizeLine) :
  Inv X pins σ (upd H l (.lst ys)) { s with heap := s.heap.update l (Obj.mapSeq f), toks := t' } := by
 have q := PySem.IsL.update e f
 rw [hf] at q
 refine I.write (x := l) (e := l) (by rw [hH]; exact trivial) (.inl rfl) (fun b' u hb hu => (Heap.get?_update_other s.heap (Obj.mapSeq f) (Ne.symm hb)).trans hu) ⟨_, q⟩ ?_
 exact ⟨hz, its', _, hv, q⟩
theorem Inv.lnew {its : List Value} {t' : Nat} (I : Inv X pins σ H s) (hv : Vals ys its) (hz : ys.length ≤ sizeLine) :
  Inv X pins σ (upd H s.heap.objs.size (.lst ys)) { s with heap := s.heap.push { cls := .type "list", data := .seq its.toArray }, toks := t' } :=
 I.laid (fun _ _ q => Heap.get?_push_of_some _ q) (Nat.le_refl _) ⟨hz, its, 0, hv, Heap.get?_push_size _ rfl⟩
theorem Inv.fresh (I : Inv X pins σ H s) : H s.heap.objs.size = none := I.hok.fresh (Nat.le_refl _)
theorem Inv.lstM (I : Inv X pins σ H s) (hH : H l = some (.lst xs)) : xs.length ≤ sizeLine ∧ ∃ (its : List Value) (n : Nat), Vals xs its ∧ xs.length = its.length ∧ s.heap.get? l = some { cls := .type "list", data := .seq its.toArray n } := by
 walk_at "B"
 obtain ⟨z, its, n, r, e⟩ := I.hok l _ hH
 walk_at "C"
 exact ⟨z, its, n, r, r.length, e⟩

theorem notLongL {n : Nat} (h : n ≤ sizeLine) : Builtin.List.listTooLong n = false := by
 unfold Builtin.List.listTooLong
 exact decide_eq_false (by omega)
end

section
variable {X : Cx}

def rAppend : V → List V → Hp → VK → Prop := fun x vs H Q => ∃ l xs y, x = .ref l ∧ vs = [y] ∧ H l = some (.lst xs) ∧ xs.length < sizeLine ∧ Q .non (upd H l (.lst (xs ++ [y])))
theorem mt_append : MtM X "list.append" rAppend := by
 intro pins s σ H x vs v us Q I rx rv h
 walk_at "B"
 obtain ⟨l, xs, y, rfl, rfl, hH, hz, q⟩ := h
 walk_at "C"
 cases rx
 walk_at "B"
 obtain ⟨u, rfl, ru⟩ := rv.one
 obtain ⟨z, its, n, r, hl, e⟩ := I.lstM hH
 walk_at "C"
 refine call_meets F.slot_list_append ⟨_, e, rfl⟩ F.entry_list_append (F.args_list_append_2 _ _) (PySem.list_append l its.toArray n u (by rw [List.size_toArray]; omega)) ⟨e, ?_⟩
 refine ⟨.non, _, I.lset (its' := its ++ [u]) hH e (by simp) (r.append (.cons ru .nil)) ?_, rfl, q⟩
 rw [List.length_append, List.length_singleton]
 omega

def rCat : R2 := fun x y H Q => ∃ l b xs zs, x = .ref l ∧ y = .ref b ∧ H l = some (.lst xs) ∧ H b = some (.lst zs) ∧ xs.length + zs.length ≤ sizeLine ∧ ∀ p, H p = none → Q (.ref p) (upd H p (.lst (xs ++ zs)))
theorem op_cat : OpR X (binaryOp .Add) rCat := by
 intro pins s σ H x y v u Q I rx ry h
 walk_at "B"
 obtain ⟨l, b, xs, zs, rfl, rfl, hH, hB, hz, q⟩ := h
 walk_at "C"
 cases rx
 cases ry
 walk_at "B"
 obtain ⟨z, its, n, r, hl, e⟩ := I.lstM hH
 obtain ⟨z2, its2, n2, r2, hl2, e2⟩ := I.lstM hB
 walk_at "C"
 refine PySem.P.add_list e e2 ?_ (by rw [List.size_toArray, List.size_toArray]; (clear z z2; omega))
 have ea : its.toArray ++ its2.toArray = (its ++ its2).toArray := by simp
 rw [ea]
 exact ⟨.ref _, _, I.lnew (t' := s.toks) (r.append r2) (by rw [List.length_append]; (clear z hl z2 hl2; omega)), rfl, q _ I.fresh⟩
def rRep : R2 := fun x y H Q => ∃ l k xs, x = .ref l ∧ y = .int k ∧ H l = some (.lst xs) ∧ -(2 ^ 63) ≤ k ∧ k < 2 ^ 63 ∧ xs.length * k.toNat ≤ sizeLine ∧
 ∀ p, H p = none → Q (.ref p) (upd H p (.lst (List.replicate k.toNat xs).flatten))
theorem len_rep {α : Type} (xs : List α) (k : Nat) : (List.replicate k xs).flatten.length = k * xs.length := by
 induction k with
 | zero => simp
 | succ k ih => rw [List.replicate_succ, List.flatten_cons, List.length_append, ih, Nat.succ_mul, Nat.add_comm]
theorem op_rep : OpR X (binaryOp .Mult) rRep := by
 intro pins s σ H x y v u Q I rx ry h
 walk_at "B"
 obtain ⟨l, k, xs, rfl, rfl, hH, h1, h2, hz, q⟩ := h
 walk_at "C"
 cases rx
 obtain ⟨t, rfl⟩ := ry
 walk_at "B"
 obtain ⟨z, its, n, r, hl, e⟩ := I.lstM hH
 walk_at "C"
 have hlen : its.toArray.size * k.toNat ≤ sizeLine := by rw [List.size_toArray, ← hl]; exact hz
 have hcap : ¬ its.toArray.size * k.toNat > (2 ^ 63 - 1) / 8 := by
  have : (sizeLine : Nat) ≤ (2 ^ 63 - 1) / 8 := by decide
  (clear h1 h2 hz z hl; omega)
 have hfit : ¬ (!Builtin.List.listFitsIndex k) = true := by
  rw [fitsIndex_both h1 h2]
  exact Bool.false_ne_true
 have hlong : ¬ Builtin.List.listTooLong (its.toArray.size * k.toNat) = true := by
  rw [notLongL hlen]
  exact Bool.false_ne_true
 have hnew : List.foldl (fun x1 x2 => x1 ++ x2) #[] (List.replicate (if its.toArray.isEmpty = true then 0 else k.toNat) its.toArray) = (List.replicate k.toNat its).flatten.toArray := by
  have f0 : ∀ m : Nat, List.foldl (fun x1 x2 => x1 ++ x2) #[] (List.replicate m its.toArray) = (List.replicate m its).flatten.toArray := fun m => by
   have := foldl_rep its m []
   rw [List.nil_append] at this
   exact this
  rw [f0]
  cases its with
  | nil => simp
  | cons a r' => rw [if_neg (by simp)]
 refine wpAny_binaryOp_repeat_ref (T := "list") (U := "int") (by decide) ⟨_, e, rfl⟩ (fun s' => typeIs_int s' k t) noFill_list_mul F.fills_int_mul F.slot_int_rmul repeat_list F.slot_int_index.lookup
  (call_meets F.slot_int_rmul (typeIs_int s k t) F.entry_int_rmul (F.args_int_rmul_2 _ _) (int___rmul___int_list k t l its.toArray n)
   ⟨e, rfl, ⟨_, e, rfl⟩, call_meets F.slot_list_mul ⟨_, e, rfl⟩ F.entry_list_mul (F.args_list_mul_2 _ _) (AutoListH.list___mul___list_int_3 l its.toArray n k t hfit hcap hlong) ⟨e, ?_⟩⟩)
 rw [hnew]
 exact ⟨.ref _, _, I.lnew (t' := s.toks) (r.rep k.toNat) (by rw [len_rep, Nat.mul_comm]; exact hz), rfl, q _ I.fresh⟩

end

section
variable {prog : Program} {w : World} {A : Around} {E : Value → Shared → Prop} {s : Shared}
set_option maxRecDepth 100000 in
end

section
variable {X : Cx}
end
end L2

namespace Att
open PySem PySem.W PySem.Calls PyProof.Rows

theorem ints_of_wellAll {P : Params} {h : Heap} : ∀ (ns : List Int) (vs : List Value), WellAll P h vs (ns.map WData.int) → IntsAre vs ns := by
 intro ns
 induction ns with
 | nil =>
  intro vs w
  rw [List.map_nil] at w
  cases w
  exact .nil
 | cons n ns ih =>
  intro vs w
  rw [List.map_cons] at w
  cases w with
  | cons a b =>
   cases a
   exact .cons _ _ (ih _ b)

theorem script_of {l : OpenLaw} {n : Nat} (hn : l.most = some n) {P : Params} {h : Heap} {args : List WData} {vals : List Value}
  (hpre : l.row.toRowW.claim.pre args = true) (hwl : WellAll P h vals args) :
  ∃ a vs ns, vals = [Value.ref a] ∧ args = [WData.list (ns.map WData.int)] ∧ h.get? a = some { cls := .type "list", data := .seq vs.toArray } ∧ IntsAre vs ns ∧ ns.length ≤ n := by
 have hsh : WShape.hasAll [] args [.list .int] = true := (pre_splitW hpre).1
 have hc : l.pre.holds [] { args := args } = true := (pre_splitW hpre).2
 walk_at "B"
 obtain ⟨d, r, rfl, h1, h2⟩ := hasAllW_cons hsh
 walk_at "C"
 obtain rfl := hasAllW_nil h2
 walk_at "B"
 obtain ⟨xs, rfl, h3⟩ := hasW_list h1
 obtain ⟨ns, rfl⟩ := items_int h3
 walk_at "C"
 have hlen : ns.length ≤ n := by
  unfold OpenLaw.pre at hc
  have h4 : (WTm.not (.lt (.lit (.int (n : Int))) (.len (.arg 0)))).holds [] { args := [.list (ns.map .int)] } = true := by
   have h4 := (holds_andW hc).1
   rw [hn] at h4
   exact h4
  have h5 := condW_of h4 (w_not (w_lt w_lit (w_len_list (w_arg rfl))))
  rw [List.length_map] at h5
  refine Nat.le_of_not_lt fun q => ?_
  have q' : (n : Int) < ((ns.length : Nat) : Int) := by (clear h2 h3 h1 hpre hsh hc h4 h5; omega)
  first
   | (rw [decide_eq_true q'] at h5; exact absurd h5 (by decide))
   | (simp at h5; omega)
 cases hwl with
 | cons w1 w2 =>
  cases w2
  cases w1 with
  | list ho hall => exact ⟨_, _, ns, rfl, rfl, ho, ints_of_wellAll ns _ hall, hlen⟩

theorem post_true (l : OpenLaw) (args : List WData) : l.row.toRowW.claim.post args (.bool true) args = true :=
 postW_of (r := l.row.toRowW) (X := (true == true))
  (show WShape.has [] (.bool true) .bool = true by first | rfl | decide | simp [WShape.has, WShape.arms, WShape.armsAll])
  (show (WTm.eq .res (.lit (.bool true))).value [] { args := args, res := some (.bool true), after := args } = some (.bool (true == true)) from w_eq_bool (w_res rfl) w_lit) rfl

theorem attach_call {l : OpenLaw} {n : Nat} {q : Program} {loose : List Str} {XP : (Str → Option Value) → Heap → Prop} {YP : World → Heap → Prop} {d : DefRec}
  (hn : l.most = some n) (hdf : d.params.defaults = [])
  (call : ∀ (w : World) (s₀ s₁ : Shared) (mg mb : Str → Option Value) (fa : Addr) (o : Obj) (pm cd doc : Value) (a : Addr) (vs : List Value) (ns : List Int),
   Ground q loose [] XP w s₀ mg mb s₁.heap → YP w s₁.heap →
   s₁.heap.get? fa = some o → o.data = .func (docDef d.name d.params d.body d.scope pm cd doc) → s₁.heap.CodeRec cd d.name → mg d.name = some (.ref fa) →
   s₁.heap.get? a = some { cls := .type "list", data := .seq vs.toArray } → IntsAre vs ns → ns.length ≤ n → s₁.gens = #[] →
   codeAny (model l.prog w) callerA (.call (.ref fa) ⟨[.ref a], []⟩) (fun r s' => r = .ok (.ret (.bool true)) ∧ OldK s₁.heap s'.heap ∧ s'.os = s₁.os ∧ AllBare s'.gens) s₁) :
  WalkO q loose XP YP l.row.toRowW d [] (fun f vs => PySem.call f vs) := by
 intro w s₀ s₁ mg mb G Y fa o pm cd doc dV kV ho hd hcd hD hmg hg args vals as hpre hlay hrd hwl hlo
 obtain rfl : dV = .none := Dflts.none hD hdf
 obtain rfl : kV = .none := Dflts.noKw hD
 walk_at "B"
 obtain ⟨a, vs, ns, rfl, rfl, hobj, hints, hlen⟩ := script_of hn hpre hwl
 walk_at "C"
 refine enter_call (codeAny_mono (call w s₀ s₁ mg mb fa o pm cd doc a vs ns G Y ho (fd_plain hd) hcd hmg hobj hints hlen hg) fun r s' hq => ?_)
 walk_at "B"
 obtain ⟨rfl, h2, h3, h4⟩ := hq
 walk_at "C"
 exact ⟨.inl ⟨.bool true, .bool true, [], rfl, fun _ => rfl, .bool true, post_true l _, fun _ => ⟨List.Pairwise.nil, fun _ hm => (nomatch hm)⟩⟩, h2, h3, h4⟩

section
variable {prog : Program} {w : World} {A : Around} {E : Value → Shared → Prop} {s : Shared} {K : Frag}

end
end Att

namespace L2
open PySem PySem.Spec PyProof.Rows

theorem vals_ints : ∀ {vs : List Value} {ns : List Int}, IntsAre vs ns → Vals (ns.map V.int) vs
 | _, _, .nil => .nil
 | _, _, .cons n t h => .cons ⟨t, rfl⟩ (vals_ints h)

end L2

namespace L2
open PySem PySem.Spec PyProof.Rows

end L2

/- THE LAST THEOREM (shape; LID, My.* are yours):
   My.Adr: a structure of the addresses that your layer names (classes, functions); My.Txt K t: a structure (Prop) of the equations over K;
   My.txt_mk : {K} {implicit addresses ..} (e1 : nsIn K mainGlobals "law" = some (some (.ref f))) (e2 : K.lookup f = some ⟨oc, od, .func (fnOf "law" "law" params body scope dV kV doc pm an cdv ct), sl⟩) (e3 : codeIn K cdv "law" = true) .. : ∃ t, My.Txt K t

set_option maxRecDepth 100000 in
set_option maxHeartbeats 0 in
theorem PySem.Challenge.cw_LID_holds : PySem.Challenge.rw_LID.Holds := by
 w_on; o_law; k_head; (case hw => w_witness2)
 k_fill
 refine L2.walk_of (l := PySem.Challenge.rw_LID) (n := 63) (k := 40) (x := "script") (CX := fun w => ..) (sp := fun _ => My.sp_law) rfl (by decide) rfl ⟨rfl, by decide, by decide⟩ (fun w h Y => PySem.W.kIn_of Y) ?F ?S ?C
 case F =>
  intro w mg fa h KX G hmg
  have T : ∃ t, My.Txt (L2.KOf KX) t := by
   dsimp only [L2.KOf]                          -- K must stand as «<heap const> w.params» for k_is
   refine' My.txt_mk ?e1 ?e2 ?e3 ..
   (case e1 => PySem.W.k_is)                    -- in the order: a name -> its address -> its object -> its parts
   (case e2 => PySem.W.k_is)
   ..
  obtain ⟨t, T⟩ := T
  have e0 := hmg.symm.trans (PySem.W.mg_of KX G T.law)
  cases e0                                       -- fa is the law's own address
  exact ⟨_, fun s u => .of_eq rfl, fun base kb nb => My.law_fn T kb nb⟩     -- if «.of_eq rfl» comes too early: refine' ⟨_, ?b, fun base kb nb => My.law_fn T kb nb⟩; exact fun s u => .of_eq rfl
 case S => exact fun w H a ns hl hO hS => ..
 case C => exact ..
(the tactic k_is has no namespace: write k_is) -/

namespace L2
open PySem PySem.Spec PyProof.Rows

def defArgs (s : Stmt) : Arguments := match s with
 | .FunctionDef _ a _ _ _ _ _ _ _ _ => a
 | _ => { posonlyargs := [], args := [], vararg := none, kwonlyargs := [], kw_defaults := [], kwarg := none, defaults := [] }
def defBody (s : Stmt) : List Stmt := match s with
 | .FunctionDef _ _ b _ _ _ _ _ _ _ => b
 | _ => []
def defScope (s : Stmt) : Scope := match s with
 | .FunctionDef _ _ _ _ _ _ sc _ _ _ => sc
 | _ => { kind := .function, names := [], isGenerator := false, isCoroutine := false }

abbrev CX0 : CXT := fun _ _ _ _ _ _ => False
abbrev E0 : XK := fun _ _ _ => False
theorem pass0 {X : Cx} : Passes CX0 X E0 := fun _ _ _ _ _ _ _ h => h.elim

structure Fun (K : PySem.W.Frag) (x qual : Str) (st : Stmt) (f : Addr) (fd : FuncData) : Prop where
 ex : ∃ (oc : Value) (od : Option Addr) (kV doc pm : Value) (an : Option Addr) (cdv ct : Value) (osl : Array (Option Value)),
  fd = PySem.W.fnOf x qual (defArgs st) (defBody st) (defScope st) .none kV doc pm an cdv ct ∧ K.lookup f = some ⟨oc, od, .func fd, osl⟩ ∧ PySem.W.codeIn K cdv qual = true
 kp : PySem.W.keepIn K (.ref f) = true
section
variable {P : Program} {w : World} {K : PySem.W.Frag} {mg : Str → Option Value} {base : Heap}
theorem Fun.ok {x qual : Str} {st : Stmt} {f : Addr} {fd : FuncData} {N ps : List Str} {k : Nat} {sp : Sp} (F : Fun K x qual st f fd) (S : FnScope N ps (defScope st)) (len : ∀ vs H Q E, sp vs H Q E → vs.length = ps.length)
  (hbody : ∀ (cdv : Value) (A : Around) (outer : List Env) (s : Shared) (H : Hp) (vs : List V) (Q : VK) (E : XK), Room k (A.deeper (envOfC qual (defScope st) s.heap.objs.size f cdv)) → sp vs H Q E →
   ∃ t, PSs (cxOf CX0 P w K mg base N qual (defScope st) f cdv A outer s H E).nox (defBody st) t ∧ t { nx := fun _ H' => Q .non H', rt := Q } (start N vs) H) : FnOk P w K mg base CX0 (k + 1) f fd ps sp := by
 walk_at "B"
 obtain ⟨oc, od, kV, doc, pm, an, cdv, ct, osl, rfl, lk, hcd⟩ := F.ex
 walk_at "C"
 refine fn_of lk hcd S len fun A outer s H vs Q E hr hsp => ?_
 walk_at "B"
 obtain ⟨t, h, q⟩ := hbody cdv A outer s H vs Q E hr hsp
 walk_at "C"
 exact ⟨t, h.nox, q⟩
theorem Fun.binds {x qual : Str} {st : Stmt} {f : Addr} {fd : FuncData} {ps : List Str} (F : Fun K x qual st f fd)
  (h : ∀ (kV doc pm : Value) (an : Option Addr) (cdv ct : Value) (us : List Value), us.length = ps.length → bindArgs (PySem.W.fnOf x qual (defArgs st) (defBody st) (defScope st) .none kV doc pm an cdv ct) ⟨us, []⟩ = pure (ps.zip us)) : Binds K fd ps [] := by
 walk_at "B"
 obtain ⟨oc, od, kV, doc, pm, an, cdv, ct, osl, rfl, lk, hcd⟩ := F.ex
 walk_at "C"
 exact .all (h kV doc pm an cdv ct)
theorem fun_mk {x qual : Str} {st : Stmt} {f : Addr} {oc : Value} {od an : Option Addr} {osl : Array (Option Value)} {kV doc pm cdv ct : Value} (l : K.lookup f = some ⟨oc, od, .func (PySem.W.fnOf x qual (defArgs st) (defBody st) (defScope st) .none kV doc pm an cdv ct), osl⟩)
  (c : PySem.W.codeIn K cdv qual = true) (k : PySem.W.keepIn K (.ref f) = true) : Fun K x qual st f (PySem.W.fnOf x qual (defArgs st) (defBody st) (defScope st) .none kV doc pm an cdv ct) := ⟨⟨oc, od, kV, doc, pm, an, cdv, ct, osl, rfl, l, c⟩, k⟩
end
section
variable {X : Cx}
end

theorem ite2 {c A B : Prop} [Decidable c] (h1 : c → A) (h2 : ¬ c → B) : if c then A else B := by
 by_cases h : c
 ·rw [if_pos h]
  exact h1 h
 ·rw [if_neg h]
  exact h2 h
def Same (H H' : Hp) : Prop := ∀ b o, H b = some o → H' b = some o
theorem Same.refl (H : Hp) : Same H H := fun _ _ h => h
theorem Same.trans {H H1 H2 : Hp} (a : Same H H1) (b : Same H1 H2) : Same H H2 := fun c o h => b c o (a c o h)
theorem Same.free {H H' : Hp} (e : Same H H') {l : Addr} (h : H' l = Option.none) : H l = Option.none := by
 cases q : H l with
 | none => rfl
 | some o =>
  rw [e l o q] at h
  cases h
theorem Same.seq {K : PySem.W.Frag} {H H' : Hp} {a : Addr} {xs : List V} (e : Same H H') (h : SqL K H a xs) : SqL K H' a xs := by
 rcases h with (h | ⟨o, h⟩) | h
 ·exact .inl (.inl (e _ _ h))
 ·exact .inl (.inr ⟨o, e _ _ h⟩)
 ·exact .inr h

end L2

section
set_option Elab.async false
set_option maxRecDepth 100000
namespace L2
open PySem
section
variable {prog : Program} {w : World} {A : Around} {R : Result → Shared → Prop} {s : Shared}
theorem compLoop_any {elt target iter : Expr} {ifs : List Expr} {scope : Scope} {pos : Pos} {it acc : Value} {env : Env} (I : Nat → Shared → Prop)
  (turn : ∀ n s, I n s → wpAny (model prog w) A (pyNext it) (fun r s₁ => match r with
   | none => R (.ok .next) s₁
   | some v => wpAny (model prog w) A (letOwnedTupleGo target it v) (fun _ s₁' => wpAny (model prog w) A (assign target env v) (fun _ s₂ =>
     wpAny (model prog w) A (forIn ifs true fun c r => if r = true then do let ok ← isTrue c env (eval c env); pure (ForInStep.yield ok) else pure (ForInStep.yield r)) (fun ok s₃ =>
      if ok = true then wpAny (model prog w) A (eval elt env) (fun x s₄ =>
       wpAny (model prog w) A (call (.builtin "list.append") [acc, x]) (fun _ s₅ => ∃ m, m < n ∧ I m s₅) (fun _ _ => False) s₄) (fun _ _ => False) s₃
      else ∃ m, m < n ∧ I m s₃) (fun _ _ => False) s₂) (fun _ _ => False) s₁') (fun _ _ => False) s₁) (fun _ _ => False) s)
  (n : Nat) (h : I n s) :
  codeAny (model prog w) A (.compLoop (.ListComp elt [⟨target, iter, ifs, 0⟩] scope pos) 0 it acc env) R s := by
 refine codeAny_loop rfl I (fun n s hI => ?_) n h
 show wpAny _ A ((compTurn (.ListComp elt [⟨target, iter, ifs, 0⟩] scope pos) 0 it acc env).onRaise (fun x => do noteFrame x env; theTreesLotGoes x)) _ _ s
 refine wpAny_noted ?_
 rw [compTurn_list]
 refine wpAny_bind (wpAny_standAt (wpAny_bind (wpAny_mono (turn n s hI) (fun r s₁ h₁ => ?_) fun _ _ h' => h'.elim)))
 cases r with
 | none => exact wpAny_pure h₁
 | some v =>
  refine wpAny_bind (wpAny_mono h₁ (fun _ s₁' h₁' => ?_) fun _ _ h' => h'.elim)
  refine wpAny_bind (wpAny_mono h₁' (fun _ s₂ h₂ => wpAny_bind (wpAny_mono h₂ (fun ok s₃ h₃ => ?_) fun _ _ h' => h'.elim)) fun _ _ h' => h'.elim)
  cases ok with
  | false => exact wpAny_pure ⟨rfl, h₃⟩
  | true =>
   exact wpAny_bind (wpAny_bind (wpAny_mono h₃ (fun x s₄ h₄ => wpAny_bind (wpAny_mono h₄ (fun _ s₅ h₅ => wpAny_pure (wpAny_pure ⟨rfl, h₅⟩)) fun _ _ h' => h'.elim)) fun _ _ h' => h'.elim))
end
theorem closure_from {env : Env} : ∀ (names : List (Str × NameKind)) (acc : List (Str × Addr)), (∀ y ∈ names, y.2 = .free → ∃ c, env.cells.lookup y.1 = some c) → (∀ x c, acc.lookup x = some c → env.cells.lookup x = some c) →
  ∃ cl : List (Str × Addr), (forIn names acc fun (x : Str × NameKind) (r : List (Str × Addr)) => (match x with | (name, kind) => if (kind == NameKind.free) = true then do let a ← cellOf env name; pure (ForInStep.yield ((name, a) :: r)) else pure (ForInStep.yield r) : Sem (ForInStep (List (Str × Addr))))) = pure cl ∧
   (∀ x c, cl.lookup x = some c → env.cells.lookup x = some c) ∧ (∀ y ∈ names, y.2 = .free → ∃ c, cl.lookup y.1 = some c) ∧ ∀ x c, acc.lookup x = some c → ∃ c', cl.lookup x = some c'
 | [], acc, _, h => ⟨acc, rfl, h, (fun y z => by cases z), fun _ c e => ⟨c, e⟩⟩
 | (name, kind) :: r, acc, hf, h => by
  by_cases hk : kind = .free
  ·subst hk
   obtain ⟨c, hc⟩ := hf (name, .free) List.mem_cons_self rfl
   have h2 : ∀ x d, ((name, c) :: acc).lookup x = some d → env.cells.lookup x = some d := fun x d e => by
    rw [List.lookup_cons] at e
    cases hx : x == name with
    | true => rw [hx] at e; cases e; rw [eq_of_beq hx]; exact hc
    | false => rw [hx] at e; exact h x d e
   walk_at "B"
   obtain ⟨cl, e, h3, h4, h5⟩ := closure_from r ((name, c) :: acc) (fun y hy => hf y (List.mem_cons_of_mem _ hy)) h2
   walk_at "C"
   refine ⟨cl, ?_, h3, fun y hy hyf => ?_, fun x d hx => ?_⟩
   ·rw [List.forIn_cons]
    simp only [beq_self_eq_true, if_true, cellOf, hc, pure_bind]
    exact e
   ·rcases List.mem_cons.mp hy with rfl | hy
    ·exact h5 name c (by simp [List.lookup_cons])
    ·exact h4 y hy hyf
   ·cases hxn : x == name with
    | true => exact h5 x c (by rw [List.lookup_cons, hxn])
    | false => exact h5 x d (by rw [List.lookup_cons, hxn]; exact hx)
  ·walk_at "B"
   obtain ⟨cl, e, h3, h4, h5⟩ := closure_from r acc (fun y hy => hf y (List.mem_cons_of_mem _ hy)) h
   walk_at "C"
   have hb : (kind == NameKind.free) = false := by simpa using hk
   refine ⟨cl, ?_, h3, fun y hy hyf => ?_, h5⟩
   ·rw [List.forIn_cons]
    simp only [hb, Bool.false_eq_true, if_false, pure_bind]
    exact e
   ·rcases List.mem_cons.mp hy with rfl | hy
    ·exact absurd hyf hk
    ·exact h4 y hy hyf
theorem closure_ok {env : Env} {scope : Scope} (hf : ∀ y ∈ scope.names, y.2 = .free → ∃ c, env.cells.lookup y.1 = some c) :
  ∃ cl, closureFor scope env = pure cl ∧ (∀ x c, cl.lookup x = some c → env.cells.lookup x = some c) ∧ ∀ y ∈ scope.names, y.2 = .free → ∃ c, cl.lookup y.1 = some c := by
 walk_at "B"
 obtain ⟨cl, e, h1, h2, _⟩ := closure_from (env := env) scope.names [] hf (fun x c e => by simp at e)
 walk_at "C"
 refine ⟨cl, ?_, h1, h2⟩
 unfold closureFor
 exact (congrArg (· >>= pure) e).trans (pure_bind _ _)
end L2
end
section
set_option Elab.async false
set_option linter.all false
set_option maxRecDepth 100000
set_option maxHeartbeats 4000000
namespace L2
open PySem PySem.Spec PyProof.Rows

abbrev Cx.block (X : Cx) (scope : Scope) (cl : List (Str × Addr)) (C : Addr) (N : List Str) (s : Shared) (H : Hp) (fp : List Addr) : Cx :=
 { X with N := N, s₀ := s, H₀ := H, env := compEnvC scope cl C X.env, outer := X.stack, ex := fp, fn := fun _ => false, pn := [], xe := fun _ _ => False }
def compOk (osc : Scope) (oN : List Str) (sc : Scope) (N : List Str) (js : List Nat) : Bool :=
 sc.names.all (fun y => y.2 != .cell) && (sc.names.all (fun y => y.2 != .local || sc.names.lookup y.1 == some .local) && (decide (js.length ≤ N.length) &&
  (sc.names.all (fun y => y.2 != .free || (osc.names.lookup y.1 == some .cell || osc.names.lookup y.1 == some .free)) &&
   (List.range js.length).all (fun i => match N[N.length - js.length + i]?, oN[js.getD i 0]? with | some x, some y => x == y && sc.names.lookup x == some .free | _, _ => false))))
structure CompSc (osc : Scope) (oN : List Str) (sc : Scope) (N : List Str) (js : List Nat) : Prop where
 nocell : ∀ y ∈ sc.names, y.2 ≠ .cell
 names : ∀ y ∈ sc.names, y.2 = .local → sc.names.lookup y.1 = some .local
 len : js.length ≤ N.length
 tk : ∀ y ∈ sc.names, y.2 = .free → osc.names.lookup y.1 = some .cell ∨ osc.names.lookup y.1 = some .free
 fr : ∀ (i j : Nat), js[i]? = some j → ∃ x, N[N.length - js.length + i]? = some x ∧ oN[j]? = some x ∧ sc.names.lookup x = some .free
theorem compOk_sc {osc : Scope} {oN : List Str} {sc : Scope} {N : List Str} {js : List Nat} (h : compOk osc oN sc N js = true) : CompSc osc oN sc N js := by
 unfold compOk at h
 simp only [Bool.and_eq_true] at h
 walk_at "B"
 obtain ⟨h1, h2, h3, h4, h5⟩ := h
 walk_at "C"
 refine ⟨fun y hy => ?_, fun y hy hl => ?_, of_decide_eq_true h3, fun y hy hf => ?_, fun i j hj => ?_⟩
 ·have := List.all_eq_true.mp h1 y hy
  simpa using this
 ·have := List.all_eq_true.mp h2 y hy
  rw [hl] at this
  simpa using this
 ·have := List.all_eq_true.mp h4 y hy
  rw [hf] at this
  simpa using this
 ·have hi : i < js.length := (List.getElem?_eq_some_iff.mp hj).1
  have := List.all_eq_true.mp h5 i (List.mem_range.mpr hi)
  have e : js.getD i 0 = j := by rw [List.getD_eq_getElem?_getD, hj]; rfl
  rw [e] at this
  split at this
  ·rename_i x y e1 e2
   simp only [Bool.and_eq_true, beq_iff_eq] at this
   obtain ⟨rfl, h⟩ := this
   exact ⟨x, e1, e2, h⟩
  ·cases this
def blk (n : Nat) (js : List Nat) (σ : St) : St := List.replicate n none ++ js.map fun j => (σ[j]?).join
theorem blk_get {n : Nat} {js : List Nat} {σ : St} {i : Nat} {v : V} (h : (blk n js σ)[i]? = some (some v)) : ∃ k j, i = n + k ∧ js[k]? = some j ∧ σ[j]? = some (some v) := by
 unfold blk at h
 by_cases hi : i < n
 ·rw [List.getElem?_append_left (by simpa using hi), List.getElem?_replicate] at h
  split at h <;> cases h
 ·rw [List.getElem?_append_right (by simpa using hi), List.length_replicate, List.getElem?_map] at h
  cases e : js[i - n]? with
  | none => rw [e] at h; cases h
  | some j =>
   rw [e] at h
   refine ⟨i - n, j, by omega, e, ?_⟩
   have h' : (σ[j]?).join = some v := by simpa using h
   cases q : σ[j]? with
   | none => rw [q] at h'; cases h'
   | some o =>
    rw [q] at h'
    have : o = some v := h'
    rw [this]

theorem relabel_lookup {env : Env} : ∀ {names : List (Str × NameKind)} {x : Str} {k : NameKind},
  (names.map fun (n, k) => if (k == NameKind.free && env.scope.kind == .function && env.kindOf n == some .cell) then (n, NameKind.cell) else (n, k)).lookup x = some k → k = .cell ∨ k = .free → (∀ y ∈ names, y.2 ≠ .cell) → (x, NameKind.free) ∈ names
 | [], _, _, h, _, _ => by simp at h
 | (n, k1) :: r, x, k, h, hk, hc => by
  have ih := @relabel_lookup env r x k
  have hc' : ∀ y ∈ r, y.2 ≠ .cell := fun y hy => hc y (List.mem_cons_of_mem _ hy)
  have h1 : k1 ≠ .cell := hc (n, k1) List.mem_cons_self
  have h : List.lookup x ((if (k1 == NameKind.free && env.scope.kind == .function && env.kindOf n == some .cell) = true then (n, NameKind.cell) else (n, k1)) :: _) = some k := h
  by_cases c : (k1 == NameKind.free && env.scope.kind == .function && env.kindOf n == some .cell) = true
  ·rw [if_pos c, List.lookup_cons] at h
   cases hx : x == n with
   | true =>
    have e : k1 = .free := by simp only [Bool.and_eq_true, beq_iff_eq] at c; exact c.1.1
    rw [eq_of_beq hx, e]
    exact List.mem_cons_self
   | false => rw [hx] at h; exact List.mem_cons_of_mem _ (ih h hk hc')
  ·rw [if_neg c, List.lookup_cons] at h
   cases hx : x == n with
   | true =>
    rw [hx] at h
    have e : k1 = k := Option.some.inj h
    have e2 : k1 = .free := by
     rcases hk with z | z
     ·exact absurd (e.trans z) h1
     ·exact e.trans z
    rw [eq_of_beq hx, e2]
    exact List.mem_cons_self
   | false => rw [hx] at h; exact List.mem_cons_of_mem _ (ih h hk hc')
theorem relabel_free {env : Env} : ∀ {names : List (Str × NameKind)} {x : Str}, names.lookup x = some .free →
  (names.map fun (n, k) => if (k == NameKind.free && env.scope.kind == .function && env.kindOf n == some .cell) then (n, NameKind.cell) else (n, k)).lookup x = some .cell ∨
  (names.map fun (n, k) => if (k == NameKind.free && env.scope.kind == .function && env.kindOf n == some .cell) then (n, NameKind.cell) else (n, k)).lookup x = some .free
 | [], _, h => by simp at h
 | (n, k1) :: r, x, h => by
  have ih := @relabel_free env r x
  show List.lookup x ((if (k1 == NameKind.free && env.scope.kind == .function && env.kindOf n == some .cell) = true then (n, NameKind.cell) else (n, k1)) :: _) = _ ∨ List.lookup x ((if (k1 == NameKind.free && env.scope.kind == .function && env.kindOf n == some .cell) = true then (n, NameKind.cell) else (n, k1)) :: _) = _
  rw [List.lookup_cons] at h
  by_cases c : (k1 == NameKind.free && env.scope.kind == .function && env.kindOf n == some .cell) = true
  ·rw [if_pos c, List.lookup_cons]
   cases hx : x == n with
   | true => exact .inl rfl
   | false => rw [hx] at h; exact ih h
  ·rw [if_neg c, List.lookup_cons]
   cases hx : x == n with
   | true => rw [hx] at h; exact .inr h
   | false => rw [hx] at h; exact ih h

def PF (X : Cx) (ifs : List Expr) (t : TT) : Prop :=
 ∀ (pins : List (Addr × Obj)) (s : Shared) (σ : St) (H : Hp) (Q : Bool → Hp → Prop), Inv X pins σ H s → t σ H Q →
  wpAny (model X.prog X.w) X.A (forIn ifs true fun c r => if r = true then do let ok ← isTrue c X.env (eval c X.env); pure (ForInStep.yield ok) else pure (ForInStep.yield r)) (TP X pins σ Q) X.xe s
def tYes : TT := fun _ H Q => Q true H
theorem pf_nil {X : Cx} : PF X [] tYes := fun _ _ _ H _ I h => wpAny_tests_nil ⟨H, I, h⟩
theorem pf_one {X : Cx} {c : Expr} {t : TT} (h : PT X c t) : PF X [c] t := fun pins s σ H Q I hw => wpAny_tests_one (h pins s σ H Q I hw)

def tComp (n : Nat) (js : List Nat) (wi : TI) (g : TG) (tt : TT) (te : TE) : TE := fun σ H Q => wi σ H fun J H1 => ∀ D, H1 D = none → ∃ W : Nat → Nat → St → Hp → List V → Prop,
 (∃ m, W 0 m (blk n js σ) (upd H1 D (.lst [])) []) ∧ ∀ i m τ H2 ys, W i m τ H2 ys → H2 D = some (.lst ys) ∧
  ((J.stop i H2 ∧ Q (.ref D) H2) ∨ (J.go i H2 ∧ ys.length < sizeLine ∧ ∃ N : St → Hp → List V → Prop, (∀ τ' H' ys', N τ' H' ys' → ∃ m', m' < m ∧ W (i + 1) m' τ' H' ys') ∧ ∀ x H3, J.yld i H2 x H3 → g x τ H3 fun τ4 H4 => tt τ4 H4 fun b H5 =>
   if b = true then te τ4 H5 fun y H6 => H6 D = some (.lst ys) ∧ N τ4 (upd H6 D (.lst (ys ++ [y]))) (ys ++ [y])
   else N τ4 H5 ys))

section
variable {X : Cx}
theorem block_inv {pins : List (Addr × Obj)} {σ : St} {H : Hp} {s : Shared} {h₁ : Heap} {tk : Nat} {scope : Scope} {N : List Str} {js : List Nat} {cl : List (Str × Addr)} {fp : List Addr}
  (I : Inv X pins σ H s) (hk : scope.kind = .function) (hN : N.Nodup) (S : CompSc X.env.scope X.N scope N js) (hcl : ∀ x c, cl.lookup x = some c → X.env.cells.lookup x = some c) (hcl2 : ∀ y ∈ scope.names, y.2 = .free → ∃ c, cl.lookup y.1 = some c)
  (hf : ∀ b ∈ fp, b < s.heap.objs.size ∧ b ≠ X.env.locals ∧ b ∉ X.fs ∧ (b ∈ X.ex ∨ X.s₀.heap.objs.size ≤ b) ∧ (∀ x c, X.env.cells.lookup x = some c → c ≠ b))
  (hns : h₁.Ns s.heap.objs.size fun _ => none) (old : ∀ b o, s.heap.get? b = some o → h₁.get? b = some o) :
  Inv (X.block scope cl s.heap.objs.size N s H fp) [] (blk (N.length - js.length) js σ) H { s with heap := h₁, toks := tk } := by
 have look : ∀ x, ((relabel scope X.env).names.lookup x = some .cell ∨ (relabel scope X.env).names.lookup x = some .free) → ∃ c, cl.lookup x = some c := fun x hx => by
  have hm : (x, NameKind.free) ∈ scope.names := by
   rcases hx with z | z
   ·exact relabel_lookup z (.inl rfl) S.nocell
   ·exact relabel_lookup z (.inr rfl) S.nocell
  exact hcl2 _ hm rfl
 refine ⟨⟨I.ok.mod, hk, I.ok.glob, I.ok.blt, Nat.le_refl _, fun x y c h1 h2 => I.ok.inj x y c (hcl x c h1) (hcl y c h2), look, fun x c h => (by cases h), I.ok.hd, I.ok.frames, .inl rfl, fun b hb => ?_, I.bs, Nat.le_trans I.ok.bsz I.sz, fun b o e hb => ?_, fun b hb z => ?_, I.stack, I.stkFree⟩,
  rfl, I.bare, Un.kept old, ⟨_, hns, fun i x v h1 h2 h3 => ?_⟩, fun x c h => ?_, I.hok.fresh (Nat.le_refl _), fun x c h => I.freeC x c (hcl x c h), fun p hp => absurd (show p ∈ ([] : List (Addr × Obj)) from hp) (by simp), I.hok.kept old, ?_⟩
 ·exact ⟨Nat.ne_of_lt (hf b hb).1, fun x c h => (hf b hb).2.2.2.2 x c (hcl x c h)⟩
 ·rcases (hf b hb).2.2.2.1 with z | z
  ·exact I.ok.noex b o e z
  ·exact absurd (Nat.lt_of_lt_of_le (Heap.lt_size e) (Nat.le_trans I.ok.bsz z)) (Nat.lt_irrefl _)
 ·rcases List.mem_cons.mp (I.stkSub b z) with q | q
  ·exact (hf b hb).2.1 q
  ·exact (hf b hb).2.2.1 q
 ·walk_at "B"
  obtain ⟨k, j, rfl, hj, hσ⟩ := blk_get h2
  obtain ⟨x', e1, e2, e3⟩ := S.fr k j hj
  walk_at "C"
  rw [e1] at h1
  have ex : x' = x := Option.some.inj h1
  subst ex
  have ok := S.tk _ (PySem.mem_of_lookup e3) rfl
  walk_at "B"
  obtain ⟨m, _, hl⟩ := I.loc
  obtain ⟨u, r, l⟩ := hl j x' v e2 hσ (.inr ok)
  walk_at "C"
  refine ⟨u, r, ?_⟩
  rcases l with ⟨hk', _⟩ | ⟨_, c, hc, hcell⟩
  ·have hk2 : X.env.scope.names.lookup x' = some .local := hk'
   rcases ok with z | z <;> (rw [hk2] at z; cases z)
  ·obtain ⟨c', hc'⟩ := hcl2 _ (PySem.mem_of_lookup e3) rfl
   have : c' = c := Option.some.inj ((hcl _ _ hc').symm.trans hc)
   subst this
   walk_at "B"
   obtain ⟨o, ho, hd⟩ := hcell
   walk_at "C"
   exact .inr ⟨relabel_free e3, c', hc', ⟨o, old _ _ ho, hd⟩⟩
 ·walk_at "B"
  obtain ⟨v, o, ho, hd⟩ := I.cell x c (hcl x c h)
  walk_at "C"
  exact ⟨v, o, old _ _ ho, hd⟩
 ·show (blk (N.length - js.length) js σ).length = N.length
  unfold blk
  rw [List.length_append, List.length_replicate, List.length_map]
  have := S.len
  omega

theorem comp_block {pins : List (Addr × Obj)} {σ : St} {H : Hp} {s : Shared} {elt target iter : Expr} {ifs : List Expr} {scope : Scope} {pos : Pos} {N : List Str} {js : List Nat} {cl : List (Str × Addr)} {J : It} {fp : List Addr} {it : Addr} {tn : Nat → Heap → Prop}
  {g : TG} {tt : TT} {te : TE} {E : Value → Shared → Prop} {RR : Value → Addr → Result → Shared → Prop} {Q : VK}
  (hc : X.calm = true) (I : Inv X pins σ H s) (T : Turn X.prog X.w X.K target J fp it tn) (st : tn 0 s.heap) (hf : ∀ b ∈ fp, FpOk X pins H b)
  (hk : scope.kind = .function) (hN : N.Nodup) (S : CompSc X.env.scope X.N scope N js) (hcl : ∀ x c, cl.lookup x = some c → X.env.cells.lookup x = some c) (hcl2 : ∀ y ∈ scope.names, y.2 = .free → ∃ c, cl.lookup y.1 = some c)
  (hg : ∀ cl C s H fp, PG (X.block scope cl C N s H fp) target g) (ht : ∀ cl C s H fp, PF (X.block scope cl C N s H fp) ifs tt) (he : ∀ cl C s H fp, PE (X.block scope cl C N s H fp) elt te)
  (h : ∀ D, H D = none → ∃ W : Nat → Nat → St → Hp → List V → Prop, (∃ m, W 0 m (blk (N.length - js.length) js σ) (upd H D (.lst [])) []) ∧ ∀ i m τ H2 ys, W i m τ H2 ys → H2 D = some (.lst ys) ∧
   ((J.stop i H2 ∧ Q (.ref D) H2) ∨ (J.go i H2 ∧ ys.length < sizeLine ∧ ∃ N : St → Hp → List V → Prop, (∀ τ' H' ys', N τ' H' ys' → ∃ m', m' < m ∧ W (i + 1) m' τ' H' ys') ∧ ∀ x H3, J.yld i H2 x H3 → g x τ H3 fun τ4 H4 => tt τ4 H4 fun b H5 =>
    if b = true then te τ4 H5 fun y H6 => H6 D = some (.lst ys) ∧ N τ4 (upd H6 D (.lst (ys ++ [y]))) (ys ++ [y])
    else N τ4 H5 ys)))
  (hend : ∀ D C H' s', (∃ m, s'.heap.Ns C m) → FpOk X pins H' C → Inv X pins σ H' s' → Q (.ref D) H' → RR (.ref D) C (.ok .next) s') :
  wpAny (model X.prog X.w) X.A (newList []) (fun acc s₃ => wpAny (model X.prog X.w) X.A (newFunctionEnv scope X.env.globals cl [] X.env.qual none .none (some X.env)) (fun cenv s₄ =>
   codeAny (model X.prog X.w) X.A (.compStart (.ListComp elt [⟨target, iter, ifs, 0⟩] scope pos) 0 (.ref it) acc { cenv with scope := relabel scope X.env }) (RR acc cenv.locals) s₄) E s₃) E s := by
 walk_at "B"
 obtain ⟨W, ⟨m0, w0⟩, turn⟩ := h s.heap.objs.size I.fresh
 walk_at "C"
 refine wpAny_newObj_type (wpAny_newFunctionEnv S.nocell (by intro y hy; simp at hy) (fun h₁ hns₁ hsb₁ => ?_) hk)
 have I3 : Inv X pins σ (upd H s.heap.objs.size (.lst [])) { s with heap := s.heap.push { cls := .type "list", dict := none, data := .seq ([] : List Value).toArray } } := I.lnew (its := []) (ys := []) (t' := s.toks) .nil (Nat.zero_le _)
 have hF3 : ∀ b ∈ fp, b < s.heap.objs.size := fun b hb => by
  walk_at "B"
  obtain ⟨o, e, _⟩ := T.obj 0 s.heap st b hb
  walk_at "C"
  exact Heap.lt_size e
 have st3 : tn 0 (s.heap.push { cls := .type "list", dict := none, data := .seq ([] : List Value).toArray }) := T.keep 0 _ _ st fun b hb o e => Heap.get?_push_of_some _ e
 generalize hs3 : ({ s with heap := s.heap.push { cls := .type "list", dict := none, data := .seq ([] : List Value).toArray } } : Shared) = s3 at I3 hns₁ hsb₁ ⊢
 have e3 : s3.heap = s.heap.push { cls := .type "list", dict := none, data := .seq ([] : List Value).toArray } := by rw [← hs3]
 rw [← e3] at st3
 have z3 : s.heap.objs.size ≤ s3.heap.objs.size := by rw [e3, Heap.size_push]; exact Nat.le_succ _
 have old : ∀ b o, s3.heap.get? b = some o → h₁.get? b = some o := fun b o e => hsb₁.extBut b o (Nat.ne_of_lt (Heap.lt_size e)) (Heap.get?_push_of_some _ e)
 have hf3 : ∀ b ∈ fp, b < s3.heap.objs.size ∧ b ≠ X.env.locals ∧ b ∉ X.fs ∧ (b ∈ X.ex ∨ X.s₀.heap.objs.size ≤ b) ∧ (∀ x c, X.env.cells.lookup x = some c → c ≠ b) := fun b hb =>
  let ⟨_, q1, q2, q3, q4, _⟩ := hf b hb
  ⟨Nat.lt_of_lt_of_le (hF3 b hb) z3, q1, q2, q3, q4⟩
 have nD : ∀ b ∈ fp, upd H s.heap.objs.size (.lst []) b = none := fun b hb => by
  rw [upd_ne (Nat.ne_of_lt (hF3 b hb))]
  exact (hf b hb).1
 have I4 : Inv (X.block scope cl s3.heap.objs.size N s3 (upd H s.heap.objs.size (.lst [])) fp) [] (blk (N.length - js.length) js σ) (upd H s.heap.objs.size (.lst [])) { s3 with heap := h₁, toks := s3.toks + ([] : List (Str × Value)).length } :=
  block_inv I3 hk hN S hcl hcl2 hf3 hns₁ old
 have st4 : tn 0 h₁ := T.keep 0 _ _ st3 fun b hb o e => old b o e
 have hg' := hg cl s3.heap.objs.size s3 (upd H s.heap.objs.size (.lst [])) fp
 have ht' := ht cl s3.heap.objs.size s3 (upd H s.heap.objs.size (.lst [])) fp
 have he' := he cl s3.heap.objs.size s3 (upd H s.heap.objs.size (.lst [])) fp
 -- what stays true of the iterator's objects
 have stat : ∀ {H' : Hp}, (∀ b ∈ fp, H' b = none) → ∀ b ∈ fp, FpOk (X.block scope cl s3.heap.objs.size N s3 (upd H s.heap.objs.size (.lst [])) fp) [] H' b := fun hn b hb =>
  ⟨hn b hb, (I4.ok.exf b hb).1, I4.ok.exfs b hb, .inl hb, (I4.ok.exf b hb).2, fun p hp => absurd (show p ∈ ([] : List (Addr × Obj)) from hp) (by simp)⟩
 have loop : codeAny (model X.prog X.w) X.A (.compLoop (.ListComp elt [⟨target, iter, ifs, 0⟩] scope pos) 0 (.ref it) (.ref s.heap.objs.size) (compEnvC scope cl s3.heap.objs.size X.env)) (RR (.ref s.heap.objs.size) s3.heap.objs.size) { s3 with heap := h₁, toks := s3.toks + ([] : List (Str × Value)).length } := by
  refine compLoop_any (fun n s' => ∃ i τ H' ys, Inv (X.block scope cl s3.heap.objs.size N s3 (upd H s.heap.objs.size (.lst [])) fp) [] τ H' s' ∧ tn i s'.heap ∧ (∀ b ∈ fp, H' b = none) ∧ W i n τ H' ys) ?_ m0 ⟨0, _, _, [], I4, st4, nD, w0⟩
  intro n s5 hh_
  walk_at "B"
  obtain ⟨i, τ, H5, ys, I5, st5, fr5, w5⟩ := hh_
  walk_at "C"
  obtain ⟨hD, hw⟩ := turn i n τ H5 ys w5
  rcases hw with ⟨stop, qn⟩ | ⟨go, hz, M, hM, step⟩
  ·refine thn (T.done (X.block scope cl s3.heap.objs.size N s3 (upd H s.heap.objs.size (.lst [])) fp) rfl rfl rfl hc i [] s5 τ H5 (fun _ _ => False) I5 (stat fr5) st5 stop) fun r s6 ⟨hr, I6⟩ => ?_
   subst hr
   refine hend _ _ H5 s6 (let ⟨m, hn, _⟩ := I6.loc; ⟨m, hn⟩) (I3.fpOk (Nat.le_refl _) I6.free) ?_ qn
   exact I3.call' (ch := fp) I6.os I6.base I6.hok I6.bare fun b hb => ⟨(hf b hb).2.2.2.1, (hf b hb).2.1, (hf b hb).2.2.2.2.1, (hf b hb).2.2.2.2.2⟩
  ·refine thn (T.item (X.block scope cl s3.heap.objs.size N s3 (upd H s.heap.objs.size (.lst [])) fp) rfl rfl rfl hc i [] s5 τ H5 (fun _ _ => False) I5 (stat fr5) st5 go) fun r s6 ⟨u, hr, h6⟩ => ?_
   subst hr
   refine thn h6 fun _ s7 ⟨x, H7, I7, r7, y7, st7, fr7⟩ => ?_
   have I7' := I7.pinned (stat fr7) (T.obj _ _ st7)
   refine thn (hg' _ s7 τ H7 x u _ I7' r7 (step x H7 y7)) fun _ s8 ⟨τ8, H8, I8, q8⟩ => ?_
   refine thn (ht' _ s8 τ8 H8 _ I8 q8) fun b s9 ⟨H9, I9, q9⟩ => ?_
   have again : ∀ {τ' : St} {H' : Hp} {s' : Shared} {ys' : List V}, Inv (X.block scope cl s3.heap.objs.size N s3 (upd H s.heap.objs.size (.lst [])) fp) ([] ++ pinsAt fp s7.heap) τ' H' s' → M τ' H' ys' →
     ∃ m, m < n ∧ ∃ i τ H' ys, Inv (X.block scope cl s3.heap.objs.size N s3 (upd H s.heap.objs.size (.lst [])) fp) [] τ H' s' ∧ tn i s'.heap ∧ (∀ b ∈ fp, H' b = none) ∧ W i m τ H' ys := fun {τ' H' s' ys'} I' hm' => by
    walk_at "B"
    obtain ⟨m', hm, w'⟩ := hM _ _ _ hm'
    walk_at "C"
    refine ⟨m', hm, i + 1, τ', H', ys', I'.unpinned, T.keep _ _ _ st7 fun b hb o e => (I'.pin (b, o) (List.mem_append_right _ (List.mem_append_right _ (mem_pinsAt hb e)))).1, fun b hb => ?_, w'⟩
    walk_at "B"
    obtain ⟨o, e, d⟩ := T.obj _ _ st7 b hb
    walk_at "C"
    exact (I'.pin (b, o) (List.mem_append_right _ (List.mem_append_right _ (mem_pinsAt hb e)))).2.1
   cases b with
   | false => exact again I9 q9
   | true =>
    refine thn (he' _ s9 τ8 H9 _ I9 q9) fun y s10 ⟨v10, H10, I10, r10, hD10, q10⟩ => ?_
    refine thn (mt_append (X := X.block scope cl s3.heap.objs.size N s3 (upd H s.heap.objs.size (.lst [])) fp) _ s10 τ8 H10 (.ref s.heap.objs.size) [v10] (.ref s.heap.objs.size) [y] (fun _ H' => M τ8 H' (ys ++ [v10])) I10 rfl (.cons r10 .nil) ⟨_, ys, v10, rfl, rfl, hD10, hz, q10⟩) fun _ s11 ⟨_, H11, I11, _, q11⟩ => ?_
    exact again I11 q11
 exact codeAny_compStart_list loop (T.self X.A 0 _ _ _ st4 loop)

variable {elt target iter : Expr} {ifs : List Expr} {scope : Scope} {pos spos : Pos} {wi : TI} {g : TG} {tt : TT} {te : TE}
theorem pe_comp (N : List Str) (js : List Nat) (hok : compOk X.env.scope X.N scope N js = true) (hN : N.Nodup) (hc : X.calm = true) (hi : PI X target iter wi)
  (hg : ∀ cl C s H fp, PG (X.block scope cl C N s H fp) target g) (ht : ∀ cl C s H fp, PF (X.block scope cl C N s H fp) ifs tt) (he : ∀ cl C s H fp, PE (X.block scope cl C N s H fp) elt te)
  (hk : scope.kind = .function := by rfl) (hs : ∀ x, foldedSetIterable iter X.env x = pure x := by intro _; rfl) :
  PE X (.ListComp elt [⟨target, iter, ifs, 0⟩] scope pos) (tComp (N.length - js.length) js wi g tt te) := by
 intro pins s σ H Q I h
 have S := compOk_sc hok
 walk_at "B"
 obtain ⟨cl, hclos, hcl, hcl2⟩ := closure_ok (env := X.env) (scope := scope) fun y hy hf => I.ok.has _ (S.tk y hy hf)
 walk_at "C"
 rw [eval_ListComp]
 refine wpAny_comprehension_free (use := none) rfl hs hclos hk S.names (thn (hi pins s σ H _ I h) fun v s1 h1 => thn h1 fun itv s2 h2 => ?_)
 walk_at "B"
 obtain ⟨it, fp, tn, J, H2, e, I2, T, st2, f2, hw⟩ := h2
 walk_at "C"
 subst e
 refine comp_block (RR := fun acc C => compPost (model X.prog X.w) X.A X.xe none (EP X pins σ Q) acc C) (Q := Q) hc I2 T st2 f2 hk hN S hcl hcl2 hg ht he hw ?_
 rintro D C H' s' ⟨m, hn⟩ ⟨c0, c1, c2, c3, c4, c5⟩ I' q
 exact ⟨m, hn, fun h' hs' => ⟨.ref D, H', I'.turned (t' := s'.toks) (fun b o hb e => (hs'.2 b hb).trans e) c0 c1 c3 c4 c5, rfl, q⟩⟩
theorem ps_setComp {i : Nat} {y : Str} {py : Pos} (N : List Str) (js : List Nat) (hok : compOk X.env.scope X.N scope N js = true) (hN : N.Nodup) (hc : X.calm = true) (hXN : X.N.Nodup) (hyi : X.N[i]? = some y) (hy : Loc X.env.scope y) (hi : PI X target iter wi)
  (hg : ∀ cl C s H fp, PG (X.block scope cl C N s H fp) target g) (ht : ∀ cl C s H fp, PF (X.block scope cl C N s H fp) ifs tt) (he : ∀ cl C s H fp, PE (X.block scope cl C N s H fp) elt te)
  (hsw : swapsWith (.ListComp elt [⟨target, iter, ifs, 0⟩] scope pos) (some (.Name y py)) spos.line X.env = pure true := by rfl)
  (hk : scope.kind = .function := by rfl) (hs : ∀ x, foldedSetIterable iter X.env x = pure x := by intro _; rfl) (hf : X.fn y = true ∨ X.env.scope.names.lookup y = some .local := by first | exact .inl rfl | exact .inr rfl | assumption) :
  PS X (.Assign [.Name y py] (.ListComp elt [⟨target, iter, ifs, 0⟩] scope pos) spos) (tAsg (tComp (N.length - js.length) js wi g tt te) (gName i)) := by
 intro pins s σ H D I h
 have S := compOk_sc hok
 walk_at "B"
 obtain ⟨cl, hclos, hcl, hcl2⟩ := closure_ok (env := X.env) (scope := scope) fun y hy hf => I.ok.has _ (S.tk y hy hf)
 walk_at "C"
 rw [exec_Assign_Name_used _ _ _ _ hsw]
 refine wpAny_bind (wpAny_standAt (wpAny_bind ?_))
 show wpAny _ X.A (do let _ ← comprehension (.ListComp elt [⟨target, iter, ifs, 0⟩] scope pos) scope X.env _ (newList []) false (eval iter X.env) (some (assign (.Name y py) X.env))) _ _ s
 refine wpAny_bind (wpAny_mono (wpAny_comprehension_free (use := some (assign (.Name y py) X.env)) (Q := fun _ s' => SP X pins D .next s') rfl hs hclos hk S.names
  (thn (hi pins s σ H _ I h) fun v s1 h1 => thn h1 fun itv s2 h2 => ?_)) (fun _ s' hq => wpAny_pure (wpAny_pure hq)) fun _ _ e => e)
 walk_at "B"
 obtain ⟨it, fp, tn, J, H2, e, I2, T, st2, f2, hw⟩ := h2
 walk_at "C"
 subst e
 refine comp_block (RR := fun acc C => compPost (model X.prog X.w) X.A X.xe (some (assign (.Name y py) X.env)) (fun _ s' => SP X pins D .next s') acc C) (Q := fun v H' => D.nx (σ.set i (some v)) H') hc I2 T st2 f2 hk hN S hcl hcl2 hg ht he hw ?_
 rintro E C H' s' ⟨m, hn⟩ ⟨c0, c1, c2, c3, c4, c5⟩ I' q
 show wpAny _ X.A (assign (.Name y py) X.env (.ref E)) _ _ _
 walk_at "B"
 obtain ⟨oC, es, ep, hoC, hdC, hrC⟩ := id hn
 walk_at "C"
 have I2' : Inv X (pins ++ [(C, oC)]) σ H' s' := I'.pins_of fun p hp => (List.mem_append.mp hp).elim (fun z => I'.pin p (List.mem_append_right _ z)) fun z => by
  have e : p = (C, oC) := by simpa using z
  subst e
  exact ⟨hoC, c0, c1, c2, fun v z => by rw [hdC] at z; cases z⟩
 refine wpAny_assign_Name (store_ok I2' hXN hyi hy (v := .ref E) rfl (fun s'' I'' => ?_) hf)
 have hC2 := (I''.pin (C, oC) (List.mem_append_right _ (List.mem_append_right _ (by simp)))).1
 have I3 : Inv X pins (σ.set i (some (.ref E))) H' s'' := I''.unpinned
 exact ⟨m, ⟨oC, es, ep, hC2, hdC, hrC⟩, fun h' hs' => ⟨_, H', I3.turned (t' := s''.toks) (fun b o hb e => (hs'.2 b hb).trans e) c0 c1 c3 c4 c5, q⟩⟩
end

structure ItOk (J : It) (xs : List V) (ok : Hp → Prop) : Prop where
 stop : ∀ H, ok H → J.stop xs.length H
 go : ∀ i H, ok H → i < xs.length → J.go i H
 yld : ∀ i H x H', ok H → i < xs.length → J.yld i H x H' → H' = H ∧ xs[i]? = some x
theorem it_list (K : PySem.W.Frag) (a : Addr) (xs : List V) : ItOk (Itl K a) xs fun H => SqL K H a xs :=
 ⟨fun H h => ⟨xs, h, Nat.le_refl _⟩, fun i H h hi => ⟨xs, xs[i], h, by simp [hi]⟩, fun i H x H' h hi y => ⟨y.1, y.2 xs h⟩⟩
theorem it_tup (K : PySem.W.Frag) (a : Addr) (xs : List V) : ItOk (Itt K a) xs fun H => SqT K H a xs :=
 ⟨fun H h => ⟨xs, h, Nat.le_refl _⟩, fun i H h hi => ⟨xs, xs[i], h, by simp [hi]⟩, fun i H x H' h hi y => ⟨y.1, y.2 xs h⟩⟩
theorem it_range (lo : Int) (n : Nat) : ItOk (Itr lo n) ((List.range n).map fun i => V.int (lo + (i : Nat))) fun _ => True :=
 ⟨fun H _ => by show n ≤ _; simp, fun i H _ hi => (by show i < n; simpa using hi), fun i H x H' _ hi y => ⟨y.1, by
  have hi' : i < n := by simpa using hi
  obtain ⟨_, rfl⟩ := y
  simp [hi']⟩⟩
theorem comp_by {J : It} {D : Addr} {xs : List V} {ok : Hp → Prop} {g : TG} {tt : TT} {te : TE} {Q : Hp → Prop} {τ : St} {H : Hp} (IO : ItOk J xs ok) (Pv : Nat → St → Hp → List V → Prop) (hz : xs.length ≤ sizeLine) (h0 : Pv 0 τ H [])
  (hl : ∀ i τ H ys, i ≤ xs.length → Pv i τ H ys → ok H ∧ H D = some (.lst ys) ∧ ys.length ≤ i)
  (hs : ∀ i x τ H ys, i < xs.length → xs[i]? = some x → Pv i τ H ys → g x τ H fun τ4 H4 => tt τ4 H4 fun b H5 =>
   if b = true then te τ4 H5 fun y H6 => H6 D = some (.lst ys) ∧ Pv (i + 1) τ4 (upd H6 D (.lst (ys ++ [y]))) (ys ++ [y]) else Pv (i + 1) τ4 H5 ys)
  (hd : ∀ τ H ys, Pv xs.length τ H ys → Q H) :
  ∃ W : Nat → Nat → St → Hp → List V → Prop, (∃ m, W 0 m τ H []) ∧ ∀ i m τ H2 ys, W i m τ H2 ys → H2 D = some (.lst ys) ∧
   ((J.stop i H2 ∧ Q H2) ∨ (J.go i H2 ∧ ys.length < sizeLine ∧ ∃ N : St → Hp → List V → Prop, (∀ τ' H' ys', N τ' H' ys' → ∃ m', m' < m ∧ W (i + 1) m' τ' H' ys') ∧ ∀ x H3, J.yld i H2 x H3 → g x τ H3 fun τ4 H4 => tt τ4 H4 fun b H5 =>
    if b = true then te τ4 H5 fun y H6 => H6 D = some (.lst ys) ∧ N τ4 (upd H6 D (.lst (ys ++ [y]))) (ys ++ [y])
    else N τ4 H5 ys)) := by
 refine ⟨fun i m τ H ys => m = xs.length - i ∧ i ≤ xs.length ∧ Pv i τ H ys, ⟨xs.length, by simp, Nat.zero_le _, h0⟩, ?_⟩
 intro i m τ H ys hh_
 walk_at "B"
 obtain ⟨rfl, hi, p⟩ := hh_
 walk_at "C"
 walk_at "B"
 obtain ⟨q, hD, hy⟩ := hl i τ H ys hi p
 walk_at "C"
 refine ⟨hD, ?_⟩
 by_cases hlt : i < xs.length
 ·refine .inr ⟨IO.go i H q hlt, by (clear hi; omega), Pv (i + 1), fun τ' H' ys' p' => ⟨xs.length - (i + 1), by (clear hz hi hy; omega), rfl, hlt, p'⟩, fun x H' y => ?_⟩
  obtain ⟨e, hx⟩ := IO.yld i H x H' q hlt y
  subst e
  exact hs i x τ _ ys hlt hx p
 ·have e : i = xs.length := by (clear hz hy; omega)
  subst e
  exact .inl ⟨IO.stop H q, hd τ H ys p⟩
theorem for_by {J : It} {xs : List V} {ok : Hp → Prop} {g : TG} {tb : TS} {D : Ends} {σ : St} {H : Hp} (IO : ItOk J xs ok) (Pv : Nat → St → Hp → Prop) (h0 : Pv 0 σ H) (hl : ∀ i σ H, i ≤ xs.length → Pv i σ H → ok H)
  (hs : ∀ i x σ H, i < xs.length → xs[i]? = some x → Pv i σ H → g x σ H fun σ2 H2 => tb { D with nx := Pv (i + 1), ct := Pv (i + 1), bk := D.nx } σ2 H2) (hd : ∀ σ H, Pv xs.length σ H → D.nx σ H) :
  ∃ W : Nat → Nat → St → Hp → Prop, (∃ m, W 0 m σ H) ∧ ∀ i m σ H, W i m σ H →
   (J.stop i H ∧ D.nx σ H) ∨ (J.go i H ∧ ∃ N : St → Hp → Prop, (∀ σ' H', N σ' H' → ∃ m', m' < m ∧ W (i + 1) m' σ' H') ∧ ∀ x H', J.yld i H x H' → g x σ H' fun σ2 H2 => tb { D with nx := N, ct := N, bk := D.nx } σ2 H2) := by
 refine ⟨fun i m σ H => m = xs.length - i ∧ i ≤ xs.length ∧ Pv i σ H, ⟨xs.length, by simp, Nat.zero_le _, h0⟩, ?_⟩
 intro i m σ H hh_
 walk_at "B"
 obtain ⟨rfl, hi, p⟩ := hh_
 walk_at "C"
 have q := hl i σ H hi p
 by_cases hlt : i < xs.length
 ·refine .inr ⟨IO.go i H q hlt, Pv (i + 1), fun σ' H' p' => ⟨xs.length - (i + 1), by omega, rfl, hlt, p'⟩, fun x H' y => ?_⟩
  obtain ⟨e, hx⟩ := IO.yld i H x H' q hlt y
  subst e
  exact hs i x σ _ hlt hx p
 ·have e : i = xs.length := by omega
  subst e
  exact .inl ⟨IO.stop H q, hd σ H p⟩
end L2
end
section
set_option Elab.async false
set_option linter.all false
set_option maxRecDepth 100000
set_option maxHeartbeats 4000000
namespace L2
open PySem PySem.Spec PyProof.Rows

section
variable {X : Cx}
def tyN (H : Hp) : V → Option String
 | .non => some "NoneType"
 | .bl _ => some "bool"
 | .int _ => some "int"
 | .str _ => some "str"
 | .ref a => match H a with
  | some (.lst _) => some "list"
  | some (.tup _) => some "tuple"
  | some (.dK _) => some "dict"
  | _ => none
 | _ => none
theorem call_isinst : CallR X (.builtin "isinstance") (fun xs H Q => ∃ x T Tx, xs = [x, .ty T] ∧ tyN H x = some Tx ∧ T ∈ ["int", "bool", "list", "tuple", "str"] ∧ Q (.bl (Tx == T || (Tx == "bool" && T == "int"))) H) := by
 intro pins s σ H xs us Q I r h
 walk_at "B"
 obtain ⟨x, T, Tx, rfl, hT, hm, q⟩ := h
 obtain ⟨u, w', rfl, r1, r2⟩ := vals2 r
 walk_at "C"
 obtain rfl : w' = .type T := r2
 have no : ∀ {b : Bool}, b = (Tx == T || (Tx == "bool" && T == "int")) → ∀ tk, EP X pins σ Q (.bool b) { s with toks := tk } := fun {b} hb tk => ⟨.bl b, H, I.tok _, rfl, by rw [hb]; exact q⟩
 have ye : ∀ {b : Bool}, b = (Tx == T || (Tx == "bool" && T == "int")) → EP X pins σ Q (.bool b) s := fun {b} hb => ⟨.bl b, H, I, rfl, by rw [hb]; exact q⟩
 simp only [List.mem_cons, List.not_mem_nil, or_false] at hm
 cases x with
 | int i =>
  obtain ⟨t, rfl⟩ := r1
  cases hT
  rcases hm with rfl | rfl | rfl | rfl | rfl
  ·exact IsiPair.int_int (ye (by decide))
  ·exact IsiPair.int_bool (no (by decide) _)
  ·exact IsiPair.int_list (no (by decide) _)
  ·exact IsiPair.int_tuple (no (by decide) _)
  ·exact IsiPair.int_str (no (by decide) _)
 | str i =>
  obtain ⟨t, rfl⟩ := r1
  cases hT
  rcases hm with rfl | rfl | rfl | rfl | rfl
  ·exact IsiPair.str_int (no (by decide) _)
  ·exact IsiPair.str_bool (no (by decide) _)
  ·exact IsiPair.str_list (no (by decide) _)
  ·exact IsiPair.str_tuple (no (by decide) _)
  ·exact IsiPair.str_str (ye (by decide))
 | bl i =>
  cases r1
  cases hT
  rcases hm with rfl | rfl | rfl | rfl | rfl
  ·exact IsiPair.bool_int (ye (by decide))
  ·exact IsiPair.bool_bool (ye (by decide))
  ·exact IsiPair.bool_list (no (by decide) _)
  ·exact IsiPair.bool_tuple (no (by decide) _)
  ·exact IsiPair.bool_str (no (by decide) _)
 | ref a =>
  cases r1
  cases hH : H a with
  | none => simp [tyN, hH] at hT
  | some o =>
   cases o with
   | lst ys =>
    simp [tyN, hH] at hT
    subst hT
    walk_at "B"
    obtain ⟨_, its, n, _, e⟩ := I.hok a _ hH
    walk_at "C"
    have hx : ∃ o, s.heap.get? a = some o ∧ o.cls = .type "list" := ⟨_, e, rfl⟩
    rcases hm with rfl | rfl | rfl | rfl | rfl
    ·exact call_isinstance (isinstance_false_list (by decide +kernel) F.isi_meta_int F.sub_list_int) ⟨hx, no (by decide) _⟩
    ·exact call_isinstance (isinstance_false_list (by decide +kernel) F.isi_meta_bool F.sub_list_bool) ⟨hx, no (by decide) _⟩
    ·exact call_isinstance (isinstance_true (Tx := "list") F.isi_meta_list F.sub_list_list) ⟨⟨_, e, rfl⟩, ye (by decide)⟩
    ·exact call_isinstance (isinstance_false_list (by decide +kernel) F.isi_meta_tuple F.sub_list_tuple) ⟨hx, no (by decide) _⟩
    ·exact call_isinstance (isinstance_false_list (by decide +kernel) F.isi_meta_str F.sub_list_str) ⟨hx, no (by decide) _⟩
   | tup ys =>
    simp [tyN, hH] at hT
    subst hT
    walk_at "B"
    obtain ⟨_, its, _, o, e, hc, _⟩ := I.hok a _ hH
    walk_at "C"
    have hx : ∃ o, s.heap.get? a = some o ∧ o.cls = .type "tuple" := ⟨_, e, hc⟩
    rcases hm with rfl | rfl | rfl | rfl | rfl
    ·exact call_isinstance (isinstance_false_tuple (by decide +kernel) F.isi_meta_int F.sub_tuple_int) ⟨hx, no (by decide) _⟩
    ·exact call_isinstance (isinstance_false_tuple (by decide +kernel) F.isi_meta_bool F.sub_tuple_bool) ⟨hx, no (by decide) _⟩
    ·exact call_isinstance (isinstance_false_tuple (by decide +kernel) F.isi_meta_list F.sub_tuple_list) ⟨hx, no (by decide) _⟩
    ·exact call_isinstance (isinstance_true (Tx := "tuple") F.isi_meta_tuple F.sub_tuple_tuple) ⟨⟨_, e, hc⟩, ye (by decide)⟩
    ·exact call_isinstance (isinstance_false_tuple (by decide +kernel) F.isi_meta_str F.sub_tuple_str) ⟨hx, no (by decide) _⟩
   | dK ys =>
    simp [tyN, hH] at hT
    subst hT
    walk_at "B"
    obtain ⟨_, _, vs, _, dd⟩ := I.hok a _ hH
    obtain ⟨o, es, ep, e, hc, _⟩ := dd
    walk_at "C"
    have hx : ∃ o, s.heap.get? a = some o ∧ o.cls = .type "dict" := ⟨o, e, hc.1⟩
    rcases hm with rfl | rfl | rfl | rfl | rfl
    ·exact call_isinstance (isinstance_false_dict (by decide +kernel) F.isi_meta_int F.sub_dict_int) ⟨hx, no (by decide) _⟩
    ·exact call_isinstance (isinstance_false_dict (by decide +kernel) F.isi_meta_bool F.sub_dict_bool) ⟨hx, no (by decide) _⟩
    ·exact call_isinstance (isinstance_false_dict (by decide +kernel) F.isi_meta_list F.sub_dict_list) ⟨hx, no (by decide) _⟩
    ·exact call_isinstance (isinstance_false_dict (by decide +kernel) F.isi_meta_tuple F.sub_dict_tuple) ⟨hx, no (by decide) _⟩
    ·exact call_isinstance (isinstance_false_dict (by decide +kernel) F.isi_meta_str F.sub_dict_str) ⟨hx, no (by decide) _⟩
   | _ => simp [tyN, hH] at hT
 | non =>
  cases r1
  cases hT
  rcases hm with rfl | rfl | rfl | rfl | rfl
  ·exact IsiPair.NoneType_int (no (by decide) _)
  ·exact IsiPair.NoneType_bool (no (by decide) _)
  ·exact IsiPair.NoneType_list (no (by decide) _)
  ·exact IsiPair.NoneType_tuple (no (by decide) _)
  ·exact IsiPair.NoneType_str (no (by decide) _)
 | _ => cases hT

theorem vals_bools : ∀ {bs : List Bool} {us : List Value}, Vals (bs.map V.bl) us → us = bs.map Value.bool
 | [], us, r => by cases r; rfl
 | b :: bs, us, r => by
  cases r with
  | cons r1 r2 =>
   cases r1
   rw [vals_bools r2]; rfl
theorem all_range (bs : List Bool) : (List.range bs.length).all (fun i => bs.getD i true) = bs.all id := by
 rw [Bool.eq_iff_iff, List.all_eq_true, List.all_eq_true]
 constructor
 ·intro h b hb
  walk_at "B"
  obtain ⟨i, hi, rfl⟩ := List.mem_iff_getElem.mp hb
  walk_at "C"
  have := h i (List.mem_range.mpr hi)
  rw [List.getD_eq_getElem?_getD, List.getElem?_eq_getElem hi] at this
  exact this
 ·intro h i hi
  have hi := List.mem_range.mp hi
  rw [List.getD_eq_getElem?_getD, List.getElem?_eq_getElem hi]
  exact h _ (List.getElem_mem hi)
theorem call_all (hc : X.calm = true) : CallR X (.builtin "all") (fun xs H Q => ∃ (p : Addr) (bs : List Bool), xs = [.ref p] ∧ H p = some (.lst (bs.map V.bl)) ∧ Q (.bl (bs.all id)) H) := by
 intro pins s σ H xs us Q I r h
 walk_at "B"
 obtain ⟨p, bs, rfl, hH, q⟩ := h
 obtain ⟨u, rfl, r1⟩ := vals1 r
 walk_at "C"
 cases r1
 walk_at "B"
 obtain ⟨z, its, n, rv, e⟩ := I.hok p _ hH
 walk_at "C"
 have ei := vals_bools rv
 subst ei
 have hl : s.heap.IsList p (bs.map Value.bool).toArray := ⟨_, e, rfl, _, rfl⟩
 have hp : p < s.heap.objs.size := Heap.lt_size e
 refine call_all_walk (wpAny_pyIter_list hl ?_)
 refine ⟨s.heap.objs.size, _, [s.heap.objs.size], _, _, _, (fun i => bs.getD i true), rfl, Walks.list (A := X.A.in1) (I.ok.hd hc) s.heap.objs.size p (Nat.ne_of_lt hp) (bs.map Value.bool).toArray, ⟨⟨_, Heap.get?_push_size _ rfl, rfl, rfl⟩, hl.push _⟩, ?_, fun h' tk hk => ?_⟩
 ·intro i v s' Q' E' hP hQ
  have hP : (bs.map Value.bool).toArray[i]? = some v := hP
  have hb : ∃ b, bs[i]? = some b ∧ v = .bool b := by
   rw [List.getElem?_toArray, List.getElem?_map] at hP
   cases e : bs[i]? with
   | none => rw [e] at hP; cases hP
   | some b => rw [e] at hP; exact ⟨b, rfl, (Option.some.inj hP).symm⟩
  walk_at "B"
  obtain ⟨b, hb, rfl⟩ := hb
  walk_at "C"
  have e : bs.getD i true = b := by rw [List.getD_eq_getElem?_getD, hb]; rfl
  dsimp only at hQ
  rw [e] at hQ
  exact wpAny_truthy_bool hQ
 ·have hn : (bs.map Value.bool).toArray.size = bs.length := by simp
  rw [hn, all_range]
  exact ⟨.bl (bs.all id), H, I.kept fun b o e => hk b o (fun hm => by
   have : b = s.heap.objs.size := by simpa using hm
   exact absurd (this ▸ Heap.lt_size e) (Nat.lt_irrefl _)) (Heap.get?_push_of_some _ e), rfl, q⟩

theorem vals_strs : ∀ {ws : List Str} {us : List Value}, Vals (ws.map V.str) us → StrsAre us ws
 | [], us, r => by cases r; exact .nil
 | w :: ws, us, r => by
  cases r with
  | cons r1 r2 =>
   obtain ⟨t, rfl⟩ := r1
   exact .cons w t (vals_strs r2)
theorem mt_join : MtM X "str.join" (fun x vs H Q => ∃ (sep : Str) (p : Addr) (ws : List Str), x = .str sep ∧ vs = [.ref p] ∧ H p = some (.lst (ws.map V.str)) ∧ (ws.map (·.length)).sum + ws.length * sep.length ≤ 16777216 ∧ Q (.str (Txt.join sep ws)) H) := by
 intro pins s σ H x vs v us Q I rx rv h
 walk_at "B"
 obtain ⟨sep, p, ws, rfl, rfl, hH, hz, q⟩ := h
 obtain ⟨t, rfl⟩ := rx
 obtain ⟨u, rfl, ru⟩ := rv.one
 walk_at "C"
 cases ru
 walk_at "B"
 obtain ⟨z, its, n, r, e⟩ := I.hok p _ hH
 walk_at "C"
 exact join_list (items := its.toArray) ⟨_, e, rfl, _, rfl⟩ (vals_strs r) hz fun t' k => ⟨.str _, H, I.tok _, ⟨_, rfl⟩, q⟩
theorem sl_str : SlR X (fun x lo hi H Q => ∃ z, x = .str z ∧ z.length ≤ sizeLine ∧ Q (.str (Txt.slice z lo hi)) H) := by
 intro pins s σ H x v vl vu lo hi sl Q I rx hs pl pu h
 walk_at "B"
 obtain ⟨z, rfl, hz, q⟩ := h
 obtain ⟨t, rfl⟩ := rx
 walk_at "C"
 have fin : ∀ t' k, EP X pins σ Q (.str (Txt.slice z lo hi) t') { s with toks := k } := fun t' k => ⟨.str _, H, I.tok _, ⟨_, rfl⟩, q⟩
 refine ⟨"str", _, F.slot_str_getitem.lookup, typeIs_str _ _ _, ?_⟩
 cases pl with
 | none =>
  cases pu with
  | none => exact wpAny_getItem_str_slice (l := none) (u := none) (st := none) hs rfl (post_val_or_str ⟨Nat.le_trans (Txt.slice_le z _ _) hz, fin⟩)
  | int j uj => exact wpAny_getItem_str_slice (l := none) (u := some (j, uj)) (st := none) hs rfl (post_val_or_str ⟨Nat.le_trans (Txt.slice_le z _ _) hz, fin⟩)
 | int i ui =>
  cases pu with
  | none => exact wpAny_getItem_str_slice (l := some (i, ui)) (u := none) (st := none) hs rfl (post_val_or_str ⟨Nat.le_trans (Txt.slice_le z _ _) hz, fin⟩)
  | int j uj => exact wpAny_getItem_str_slice (l := some (i, ui)) (u := some (j, uj)) (st := none) hs rfl (post_val_or_str ⟨Nat.le_trans (Txt.slice_le z _ _) hz, fin⟩)
theorem call_int_bit : CallR X (.type "int") (fun xs H Q => ∃ b : Bool, xs = [.str (if b then ("1" : Str) else "0")] ∧ Q (.int (if b then 1 else 0)) H) := by
 intro pins s σ H xs us Q I r h
 walk_at "B"
 obtain ⟨b, rfl, q⟩ := h
 obtain ⟨u, rfl, t, rfl⟩ := vals1 r
 walk_at "C"
 cases b with
 | true => exact PySem.W.KIN.call_text (x := ("1" : Str)) (n := 1) (by decide +kernel) (by decide +kernel) ⟨.int 1, H, I.tok _, ⟨_, rfl⟩, q⟩
 | false => exact PySem.W.KIN.call_text (x := ("0" : Str)) (n := 0) (by decide +kernel) (by decide +kernel) ⟨.int 0, H, I.tok _, ⟨_, rfl⟩, q⟩
end
end L2
end
section
set_option Elab.async false
set_option linter.all false
set_option maxRecDepth 100000
set_option maxHeartbeats 4000000
namespace L2
open PySem PySem.Spec PyProof.Rows

mutual
inductive DV (H : Hp) : V → PyData → Prop
 | non : DV H .non .none
 | bl (b : Bool) : DV H (.bl b) (.bool b)
 | int (i : Int) : DV H (.int i) (.int i)
 | str (x : Str) : DV H (.str x) (.str x)
 | lst {a : Addr} {xs : List V} {ds : List PyData} : H a = some (.lst xs) → DVs H xs ds → DV H (.ref a) (.list ds)
 | tup {a : Addr} {xs : List V} {ds : List PyData} : H a = some (.tup xs) → DVs H xs ds → DV H (.ref a) (.tuple ds)
 | dic {a : Addr} : H a = some (.dK []) → DV H (.ref a) (.dict [])
inductive DVs (H : Hp) : List V → List PyData → Prop
 | nil : DVs H [] []
 | cons {x : V} {d : PyData} {xs : List V} {ds : List PyData} : DV H x d → DVs H xs ds → DVs H (x :: xs) (d :: ds)
end
mutual
theorem DV.mono {H H' : Hp} (k : Same H H') : ∀ {v : V} {d : PyData}, DV H v d → DV H' v d
 | _, _, .non => .non
 | _, _, .bl b => .bl b
 | _, _, .int i => .int i
 | _, _, .str x => .str x
 | _, _, .lst h r => .lst (k _ _ h) (DVs.mono k r)
 | _, _, .tup h r => .tup (k _ _ h) (DVs.mono k r)
 | _, _, .dic h => .dic (k _ _ h)
theorem DVs.mono {H H' : Hp} (k : Same H H') : ∀ {vs : List V} {ds : List PyData}, DVs H vs ds → DVs H' vs ds
 | _, _, .nil => .nil
 | _, _, .cons h r => .cons (DV.mono k h) (DVs.mono k r)
end
section
variable {X : Cx} {pins : List (Addr × Obj)} {σ : St} {H : Hp} {s : Shared}
mutual
theorem DV.reads (I : Inv X pins σ H s) : ∀ {v : V} {d : PyData} {u : Value}, DV H v d → d.canLay0 = true → RelV v u → ∃ as, Reads s.heap u d as
 | _, _, _, .non, _, r => by cases r; exact ⟨_, .none⟩
 | _, _, _, .bl b, _, r => by cases r; exact ⟨_, .bool b⟩
 | _, _, _, .int i, _, r => by obtain ⟨t, rfl⟩ := r; exact ⟨_, .int i t⟩
 | _, _, _, .str x, _, r => by obtain ⟨t, rfl⟩ := r; exact ⟨_, .str x t⟩
 | _, _, _, .lst h rr, c, r => by
  cases r
  walk_at "B"
  obtain ⟨_, its, n, rv, e⟩ := I.hok _ _ h
  obtain ⟨as, q⟩ := DVs.reads I rr (by simpa [PyData.canLay0] using c) rv
  walk_at "C"
  exact ⟨_, .list e rfl rfl (by simpa using q)⟩
 | _, _, _, .tup h rr, c, r => by
  cases r
  walk_at "B"
  obtain ⟨_, its, rv, o, e, hc, n, hd⟩ := I.hok _ _ h
  obtain ⟨as, q⟩ := DVs.reads I rr (by simpa [PyData.canLay0] using c) rv
  walk_at "C"
  exact ⟨_, .tuple e hc hd (by simpa using q)⟩
 | _, _, _, .dic h, c, r => by simp [PyData.canLay0] at c
theorem DVs.reads (I : Inv X pins σ H s) : ∀ {vs : List V} {ds : List PyData} {us : List Value}, DVs H vs ds → PyData.canLayAll0 ds = true → Vals vs us → ∃ as, ReadsAll s.heap us ds as
 | _, _, _, .nil, _, r => by cases r; exact ⟨_, .nil⟩
 | _, _, _, .cons h rr, c, r => by
  have c' := by simpa [PyData.canLayAll0] using c
  cases r with
  | cons r1 r2 =>
   obtain ⟨as, q⟩ := DV.reads I h c'.1 r1
   obtain ⟨bs, p⟩ := DVs.reads I rr c'.2 r2
   exact ⟨_, .cons q p⟩
end
end
section
variable {X : Cx}
theorem op_eqD (hu : X.A.units + 64 < cLine) : OpR X (compareOp .Eq) (fun x y H Q => ∃ d e, DV H x d ∧ DV H y e ∧ SeqAt.shaped d = true ∧ SeqAt.shaped e = true ∧ Q (.bl (PyData.eqv d e)) H) := by
 intro pins s σ H x y v u Q I rx ry h
 walk_at "B"
 obtain ⟨d, e, hd, he, sd, se, q⟩ := h
 obtain ⟨as, ra⟩ := hd.reads I (SeqAt.canLay_of_shaped sd) rx
 obtain ⟨bs, rb⟩ := he.reads I (SeqAt.canLay_of_shaped se) ry
 walk_at "C"
 exact eq_dataH ra rb sd se hu ⟨.bl _, H, I, rfl, q⟩
theorem op_neD (hu : X.A.units + 64 < cLine) : OpR X (compareOp .NotEq) (fun x y H Q => ∃ d e, DV H x d ∧ DV H y e ∧ SeqAt.shaped d = true ∧ SeqAt.shaped e = true ∧ Q (.bl (!PyData.eqv d e)) H) := by
 intro pins s σ H x y v u Q I rx ry h
 walk_at "B"
 obtain ⟨d, e, hd, he, sd, se, q⟩ := h
 obtain ⟨as, ra⟩ := hd.reads I (SeqAt.canLay_of_shaped sd) rx
 obtain ⟨bs, rb⟩ := he.reads I (SeqAt.canLay_of_shaped se) ry
 walk_at "C"
 exact ne_dataH ra rb sd se hu ⟨.bl _, H, I, rfl, q⟩
end
def sg (b : Bool) : Nat := if b then 49 else 48
def bs (w : List Bool) : Str := ⟨(w.map sg).toArray⟩
theorem bs_len (w : List Bool) : (bs w).length = w.length := by show ((w.map sg).toArray).size = _; simp
theorem sg_inj {a b : Bool} (h : sg a = sg b) : a = b := by cases a <;> cases b <;> first | rfl | cases h
theorem bs_inj {v w : List Bool} (h : bs v = bs w) : v = w := by
 have h1 : (v.map sg).toArray = (w.map sg).toArray := congrArg Str.cps h
 have h2 : v.map sg = w.map sg := by simpa using congrArg Array.toList h1
 clear h h1
 induction v generalizing w with
 | nil => cases w <;> simp_all
 | cons a v ih =>
  cases w with
  | nil => simp at h2
  | cons b w =>
   simp only [List.map_cons, List.cons.injEq] at h2
   rw [sg_inj h2.1, ih h2.2]
theorem bs_app (v w : List Bool) : bs v ++ bs w = bs (v ++ w) := by
 show (⟨(v.map sg).toArray ++ (w.map sg).toArray⟩ : Str) = ⟨((v ++ w).map sg).toArray⟩
 simp
theorem bs_ok (w : List Bool) : PyData.strOk (bs w) = true := by
 unfold PyData.strOk bs
 rw [Array.all_eq_true']
 intro x hx
 have hx : x ∈ w.map sg := by simpa using hx
 walk_at "B"
 obtain ⟨b, _, rfl⟩ := List.mem_map.mp hx
 walk_at "C"
 cases b <;> decide
theorem bs_1 : ("1" : Str) = bs [true] := by decide +kernel
theorem bs_get {w : List Bool} {i : Nat} {b : Bool} (h : w[i]? = some b) : (bs w).cps[i]? = some (sg b) := by
 show ((w.map sg).toArray)[i]? = _
 simp [h]
theorem bs_if (b : Bool) : bs [b] = (if b then ("1" : Str) else "0") := by cases b <;> decide +kernel
end L2
end
section
set_option Elab.async false
set_option linter.all false
set_option maxRecDepth 100000
set_option maxHeartbeats 4000000
namespace L2
open PySem PySem.Spec PyProof.Rows

section
variable {X : Cx} {a b c e o : Expr} {es : List Expr} {pos : Pos}
theorem PE.of {t t' : TE} (h : PE X e t) (k : ∀ σ H Q, t' σ H Q → t σ H Q) : PE X e t' := fun pins s σ H Q I q => h pins s σ H Q I (k _ _ _ q)
theorem OpR.of {f : Value → Value → Sem Value} {r r' : R2} (h : OpR X f r) (k : ∀ x y H Q, r' x y H Q → r x y H Q) : OpR X f r' := fun pins s σ H x y v u Q I rx ry q => h pins s σ H x y v u Q I rx ry (k _ _ _ _ q)
def tV (i : Nat) : TE := fun σ H Q => match σ[i]? with
 | some (some v) => Q v H
 | _ => False
theorem vr (i : Nat) {x : Str} (hN : X.N[i]? = some x := by rfl) (hv : Vis X.env.scope x := by first | exact Or.inl rfl | exact Or.inr (Or.inl rfl) | exact Or.inr (Or.inr rfl)) (hd : (x == ("__debug__" : Str)) = false := by decide)
  (hcd : (x == ("__classdict__" : Str)) = false := by decide) : PE X (.Name x pos) (tV i) := (pe_var hN hv hd hcd).of fun σ H Q q => by
 unfold tV at q
 split at q
 ·exact ⟨_, by assumption, q⟩
 ·exact q.elim
def rN (C : Int → Int → Prop) (g : Int → Int → V) : R2 := fun x y H Q => match x, y with
 | .int i, .int j => C i j ∧ Q (g i j) H
 | _, _ => False
def rN0 (g : Int → Int → V) : R2 := fun x y H Q => match x, y with
 | .int i, .int j => Q (g i j) H
 | _, _ => False
theorem OpR.n {f : Value → Value → Sem Value} {C : Int → Int → Prop} {g : Int → Int → V} (h : OpR X f (rI C g)) : OpR X f (rN C g) := h.of fun x y H Q q => by
 unfold rN at q
 split at q
 ·exact ⟨_, _, rfl, rfl, q⟩
 ·exact q.elim
theorem OpR.n0 {f : Value → Value → Sem Value} {g : Int → Int → V} (h : OpR X f (rI0 g)) : OpR X f (rN0 g) := h.of fun x y H Q q => by
 unfold rN0 at q
 split at q
 ·exact ⟨_, _, rfl, rfl, q⟩
 ·exact q.elim
def rAddU : R2 := fun x y H Q => match x, y with
 | .int i, .int j => Q (.int (i + j)) H
 | .str i, .str j => i.length + j.length ≤ sizeLine ∧ Q (.str (i ++ j)) H
 | .ref p, .ref q => ∃ xs zs, H p = some (.lst xs) ∧ H q = some (.lst zs) ∧ xs.length + zs.length ≤ sizeLine ∧ ∀ n, H n = none → Q (.ref n) (upd H n (.lst (xs ++ zs)))
 | _, _ => False
theorem op_addU : OpR X (binaryOp .Add) rAddU := (op_add.or (op_add_str.or op_cat)).of fun x y H Q q => by
 unfold rAddU at q
 split at q
 ·exact .inl ⟨_, _, rfl, rfl, q⟩
 ·exact .inr (.inl ⟨_, _, rfl, rfl, q⟩)
 ·walk_at "B"
  obtain ⟨xs, zs, h1, h2, h3, h4⟩ := q
  walk_at "C"
  exact .inr (.inr ⟨_, _, xs, zs, rfl, rfl, h1, h2, h3, h4⟩)
 ·exact q.elim
def rMulU : R2 := fun x y H Q => match x, y with
 | .int i, .int j => CMul i j ∧ Q (.int (i * j)) H
 | .ref p, .int k => ∃ xs, H p = some (.lst xs) ∧ -(2 ^ 63) ≤ k ∧ k < 2 ^ 63 ∧ xs.length * k.toNat ≤ sizeLine ∧ ∀ n, H n = none → Q (.ref n) (upd H n (.lst (List.replicate k.toNat xs).flatten))
 | _, _ => False
theorem op_mulU : OpR X (binaryOp .Mult) rMulU := (op_mul.or op_rep).of fun x y H Q q => by
 unfold rMulU at q
 split at q
 ·exact .inl ⟨_, _, rfl, rfl, q⟩
 ·walk_at "B"
  obtain ⟨xs, h1, h2, h3, h4, h5⟩ := q
  walk_at "C"
  exact .inr ⟨_, _, xs, rfl, rfl, h1, h2, h3, h4, h5⟩
 ·exact q.elim
def rEqU : R2 := fun x y H Q => match x, y with
 | .int i, .int j => Q (.bl (decide (i = j))) H
 | .str i, .str j => Q (.bl (decide (i = j))) H
 | .bl i, .bl j => Q (.bl (decide (i = j))) H
 | .ref p, .ref q => ∃ d e, DV H (.ref p) d ∧ DV H (.ref q) e ∧ SeqAt.shaped d = true ∧ SeqAt.shaped e = true ∧ Q (.bl (PyData.eqv d e)) H
 | _, _ => False
theorem vint_dec (i j : Int) : decide (V.int i = V.int j) = decide (i = j) := by simp
theorem vstr_dec (i j : Str) : decide (V.str i = V.str j) = decide (i = j) := by simp
theorem vbl_dec (i j : Bool) : decide (V.bl i = V.bl j) = decide (i = j) := by simp
theorem op_eqU (hu : X.A.units + 64 < cLine) : OpR X (compareOp .Eq) rEqU := (op_eq.or (op_eqD hu)).of fun x y H Q q => by
 unfold rEqU at q
 split at q
 ·exact .inl ⟨rfl, by rw [vint_dec]; exact q⟩
 ·exact .inl ⟨rfl, by rw [vstr_dec]; exact q⟩
 ·exact .inl ⟨rfl, by rw [vbl_dec]; exact q⟩
 ·exact .inr q
 ·exact q.elim
def rNeU : R2 := fun x y H Q => rEqU x y H fun v H' => match v with
 | .bl k => Q (.bl (!k)) H'
 | _ => False
theorem op_neU (hu : X.A.units + 64 < cLine) : OpR X (compareOp .NotEq) rNeU := (op_ne.or (op_neD hu)).of fun x y H Q q => by
 unfold rNeU rEqU at q
 split at q
 ·exact .inl ⟨rfl, by rw [vint_dec]; exact q⟩
 ·exact .inl ⟨rfl, by rw [vstr_dec]; exact q⟩
 ·exact .inl ⟨rfl, by rw [vbl_dec]; exact q⟩
 ·exact .inr q
 ·exact q.elim
def getV (H : Hp) (x : V) (i : Int) : Option V := match x with
 | .ref p => match H p with
  | some (.lst xs) => atI xs i
  | some (.tup xs) => atI xs i
  | some (.frz _ (.lst xs)) => atI xs i
  | _ => none
 | .str z => if z.length ≤ sizeLine then (atI z.cps.toList i).map fun c => V.str ⟨#[c]⟩ else none
 | _ => none
theorem getV_lst {H : Hp} {p : Addr} {xs : List V} {i : Int} (h : H p = some (.lst xs)) : getV H (.ref p) i = atI xs i := by simp [getV, h]
theorem getV_tup {H : Hp} {p : Addr} {xs : List V} {i : Int} (h : H p = some (.tup xs)) : getV H (.ref p) i = atI xs i := by simp [getV, h]
def rIxU : R2 := fun x y H Q => match y with
 | .int i => ∃ v, getV H x i = some v ∧ Q v H
 | _ => False
theorem ixU : IxR X rIxU := by
 intro value slice pins s σ H x y v u Q I rx ry q hs
 refine ix_seq value slice pins s σ H x y v u Q I rx ry ?_ hs
 unfold rIxU at q
 split at q
 ·walk_at "B"
  obtain ⟨z, hz, q⟩ := q
  walk_at "C"
  unfold getV at hz
  split at hz
  ·split at hz
   ·rename_i xs hx
    exact .inl ⟨_, xs, _, z, rfl, rfl, SqL.of hx, hz, q⟩
   ·rename_i xs hx
    exact .inr (.inl ⟨_, xs, _, z, rfl, rfl, SqT.of hx, hz, q⟩)
   ·rename_i oo xs hx
    exact .inl ⟨_, xs, _, z, rfl, rfl, .inl (.inr ⟨_, hx⟩), hz, q⟩
   ·cases hz
  ·split at hz
   ·rename_i hl
    walk_at "B"
    obtain ⟨c, hc, rfl⟩ := Option.map_eq_some_iff.mp hz
    walk_at "C"
    exact .inr (.inr ⟨_, _, c, rfl, rfl, hl, hc, q⟩)
   ·cases hz
  ·cases hz
 ·exact q.elim
def rSlU : V → Option Int → Option Int → Hp → VK → Prop := fun x lo hi H Q => match x with
 | .ref p => ∃ xs, H p = some (.lst xs) ∧ ∀ n, H n = none → Q (.ref n) (upd H n (.lst (cutV xs lo hi)))
 | .str z => z.length ≤ sizeLine ∧ Q (.str (Txt.slice z lo hi)) H
 | _ => False
theorem slU : SlR X rSlU := by
 intro pins s σ H x v vl vu lo hi sl Q I rx hs pl pu q
 refine (sl_list.or sl_str) pins s σ H x v vl vu lo hi sl Q I rx hs pl pu ?_
 unfold rSlU at q
 split at q
 ·walk_at "B"
  obtain ⟨xs, h, q⟩ := q
  walk_at "C"
  exact .inl ⟨_, xs, rfl, SqL.of h, q⟩
 ·exact .inr ⟨_, rfl, q⟩
 ·exact q.elim
def tPartU (t : TE) : TO := fun σ H Q => t σ H fun x H1 => match x with
 | .int i => Q (some i) H1
 | _ => False
theorem po_someU {te : TE} (h : PE X e te) : PO X (some e) (tPartU te) := by
 intro pins s σ H Q I hw
 rw [evalPart_some]
 refine thn (h pins s σ H _ I hw) fun u s1 ⟨x, H1, I1, r1, q1⟩ => ?_
 dsimp only at q1
 split at q1
 ·obtain ⟨t, rfl⟩ := r1
  exact ⟨some _, H1, I1, .int _ t, q1⟩
 ·exact q1.elim
def tBU (t : TE) : TT := fun σ H Q => t σ H fun x H1 => match x with
 | .bl c => Q c H1
 | _ => False
theorem bu_of {Q : Bool → Hp → Prop} {x : V} {H1 : Hp} (q : match x with | .bl c => Q c H1 | _ => False) : ∃ c, x = .bl c ∧ Q c H1 := by
 split at q
 ·exact ⟨_, rfl, q⟩
 ·exact q.elim
theorem pt_cmpU {op : CmpOp} {r : R2} {ta tb : TE} (ho : OpR X (compareOp op) r) (ha : PE X a ta) (hb : PE X b tb) (hm : behindInMarks op b = false := by first | exact nomark _ | rfl | (with_unfolding_all rfl)) : PT X (.Compare a [op] [b] pos) (tBU (tOp r ta tb)) := by
 intro pins s σ H Q I h
 refine wpAny_isTrue_Compare1 (thn (ha pins s σ H _ I h) fun v s1 ⟨x, H1, I1, r1, q1⟩ => thn (hb pins s1 σ H1 _ I1 q1) fun u s2 ⟨y, H2, I2, r2, q2⟩ =>
  thn (ho pins s2 σ H2 x y v u _ I2 r1 r2 q2) fun c s3 ⟨z, H3, I3, r3, q3⟩ => ?_) hm
 walk_at "B"
 obtain ⟨k, e, q3⟩ := bu_of q3
 walk_at "C"
 subst e
 cases r3
 exact wpAny_truthy_bool ⟨H3, I3, q3⟩
theorem pe_cmpU {op : CmpOp} {r : R2} {ta tb : TE} (ho : OpR X (compareOp op) r) (ha : PE X a ta) (hb : PE X b tb) (hm : behindInMarks op b = false := by first | exact nomark _ | rfl | (with_unfolding_all rfl)) : PE X (.Compare a [op] [b] pos) (tOp r ta tb) := pe_cmpR ho ha hb hm
def tAndU (ta tb : TE) : TE := fun σ H Q => ta σ H fun x H1 => match x with
 | .bl c => if c = true then tb σ H1 Q else Q (.bl false) H1
 | _ => False
def tOrU (ta tb : TE) : TE := fun σ H Q => ta σ H fun x H1 => match x with
 | .bl c => if c = true then Q (.bl true) H1 else tb σ H1 Q
 | _ => False
def tNotU (ta : TE) : TE := fun σ H Q => ta σ H fun x H1 => match x with
 | .bl c => Q (.bl (!c)) H1
 | _ => False
variable {ta tb tc : TE} {rest : List Expr}
theorem pe_andU (ha : PE X a ta) (hb : PE X (.BoolOp .And (b :: rest) pos) tb) : PE X (.BoolOp .And (a :: b :: rest) pos) (tAndU ta tb) := by
 intro pins s σ H Q I h
 refine BoolOp_and (thn (ha pins s σ H _ I h) fun v s1 ⟨x, H1, I1, r1, q1⟩ => ?_)
 dsimp only at q1
 split at q1
 ·rename_i c
  cases r1
  refine wpAny_truthy_bool ?_
  cases c with
  | true => exact hb pins s1 σ H1 Q I1 q1
  | false => exact ⟨.bl false, H1, I1, rfl, q1⟩
 ·exact q1.elim
theorem pe_orU (ha : PE X a ta) (hb : PE X (.BoolOp .Or (b :: rest) pos) tb) : PE X (.BoolOp .Or (a :: b :: rest) pos) (tOrU ta tb) := by
 intro pins s σ H Q I h
 refine BoolOp_or (thn (ha pins s σ H _ I h) fun v s1 ⟨x, H1, I1, r1, q1⟩ => ?_)
 dsimp only at q1
 split at q1
 ·rename_i c
  cases r1
  refine wpAny_truthy_bool ?_
  cases c with
  | false => exact hb pins s1 σ H1 Q I1 q1
  | true => exact ⟨.bl true, H1, I1, rfl, q1⟩
 ·exact q1.elim
theorem pe_notU (ha : PE X a ta) : PE X (.UnaryOp .Not a pos) (tNotU ta) := by
 intro pins s σ H Q I h
 refine UnaryOp_ (thn (ha pins s σ H _ I h) fun v s1 ⟨x, H1, I1, r1, q1⟩ => ?_)
 dsimp only at q1
 split at q1
 ·cases r1
  exact not_of (wpAny_truthy_bool ⟨.bl _, H1, I1, rfl, q1⟩)
 ·exact q1.elim
theorem CallR.of {f : Value} {r r' : List V → Hp → VK → Prop} (h : CallR X f r) (k : ∀ xs H Q, r' xs H Q → r xs H Q) : CallR X f r' := fun pins s σ H xs us Q I rx q => h pins s σ H xs us Q I rx (k _ _ _ q)
theorem MtM.of {id : String} {r r' : V → List V → Hp → VK → Prop} (h : MtM X id r) (k : ∀ x xs H Q, r' x xs H Q → r x xs H Q) : MtM X id r' := fun pins s σ H x xs v us Q I rx rs q => h pins s σ H x xs v us Q I rx rs (k _ _ _ _ q)
def lenV (H : Hp) (x : V) : Option Nat := match x with
 | .str z => if z.length ≤ sizeLine then some z.length else none
 | .ref p => match H p with
  | some (.lst xs) => some xs.length
  | some (.tup xs) => some xs.length
  | some (.frz _ (.lst xs)) => some xs.length
  | _ => none
 | _ => none
def rLen : List V → Hp → VK → Prop := fun vs H Q => match vs with
 | [x] => ∃ k : Nat, lenV H x = some k ∧ Q (.int k) H
 | _ => False
theorem call_lenU : CallR X (.builtin "len") rLen := (call_len_seq.or call_len_str).of fun xs H Q q => by
 unfold rLen at q
 split at q
 ·walk_at "B"
  obtain ⟨k, hk, q⟩ := q
  walk_at "C"
  unfold lenV at hk
  split at hk
  ·split at hk
   ·rename_i hl
    cases hk
    exact .inr ⟨_, rfl, hl, q⟩
   ·cases hk
  ·split at hk
   ·cases hk; exact .inl ⟨_, _, rfl, .inl (SqL.of (by assumption)), q⟩
   ·cases hk; exact .inl ⟨_, _, rfl, .inr (SqT.of (by assumption)), q⟩
   ·cases hk; exact .inl ⟨_, _, rfl, .inl (.inl (.inr ⟨_, by assumption⟩)), q⟩
   ·cases hk
  ·cases hk
 ·exact q.elim
def rListOf : List V → Hp → VK → Prop := fun vs H Q => match vs with
 | [.ref p] => ∃ xs, (H p = some (.lst xs) ∨ H p = some (.tup xs)) ∧ ∀ l, H l = none → Q (.ref l) (upd H l (.lst xs))
 | _ => False
theorem call_listU : CallR X (.type "list") rListOf := call_list_of.of fun xs H Q q => by
 unfold rListOf at q
 split at q
 ·walk_at "B"
  obtain ⟨ys, h, q⟩ := q
  walk_at "C"
  exact ⟨_, ys, rfl, h.elim (fun z => .inl (SqL.of z)) (fun z => .inr (SqT.of z)), q⟩
 ·exact q.elim
def rMax : List V → Hp → VK → Prop := fun vs H Q => match vs with
 | [.int i, .int j] => Q (.int (if j > i then j else i)) H
 | _ => False
theorem call_maxU (hc : X.calm = true) : CallR X (.builtin "max") rMax := (call_max2 hc).of fun xs H Q q => by
 unfold rMax at q
 split at q
 ·exact ⟨_, _, rfl, q⟩
 ·exact q.elim
def rMin : List V → Hp → VK → Prop := fun vs H Q => match vs with
 | [.int i, .int j] => Q (.int (if j < i then j else i)) H
 | _ => False
theorem call_minU (hc : X.calm = true) : CallR X (.builtin "min") rMin := (call_min2 hc).of fun xs H Q q => by
 unfold rMin at q
 split at q
 ·exact ⟨_, _, rfl, q⟩
 ·exact q.elim
def rIntOf : List V → Hp → VK → Prop := fun vs H Q => match vs with
 | [.int i] => Q (.int i) H
 | [.bl k] => Q (.int (if k then 1 else 0)) H
 | [.str z] => ∃ k : Bool, z = bs [k] ∧ Q (.int (if k then 1 else 0)) H
 | _ => False
theorem call_intU : CallR X (.type "int") rIntOf := (call_int1.or call_int_bit).of fun xs H Q q => by
 unfold rIntOf at q
 split at q
 ·exact .inl (.inl ⟨_, rfl, q⟩)
 ·exact .inl (.inr ⟨_, rfl, q⟩)
 ·walk_at "B"
  obtain ⟨k, h, q⟩ := q
  walk_at "C"
  exact .inr ⟨k, by rw [h, bs_if], q⟩
 ·exact q.elim
def rIsI : List V → Hp → VK → Prop := fun vs H Q => match vs with
 | [x, .ty T] => ∃ Tx, tyN H x = some Tx ∧ T ∈ ["int", "bool", "list", "tuple", "str"] ∧ Q (.bl (Tx == T || (Tx == "bool" && T == "int"))) H
 | _ => False
theorem call_isU : CallR X (.builtin "isinstance") rIsI := call_isinst.of fun xs H Q q => by
 unfold rIsI at q
 split at q
 ·walk_at "B"
  obtain ⟨Tx, h1, h2, q⟩ := q
  walk_at "C"
  exact ⟨_, _, Tx, rfl, h1, h2, q⟩
 ·exact q.elim
def rAll : List V → Hp → VK → Prop := fun vs H Q => match vs with
 | [.ref p] => ∃ bl : List Bool, H p = some (.lst (bl.map V.bl)) ∧ Q (.bl (bl.all id)) H
 | _ => False
theorem call_allU (hc : X.calm = true) : CallR X (.builtin "all") rAll := (call_all hc).of fun xs H Q q => by
 unfold rAll at q
 split at q
 ·walk_at "B"
  obtain ⟨bl, h, q⟩ := q
  walk_at "C"
  exact ⟨_, bl, rfl, h, q⟩
 ·exact q.elim

def rApp : V → List V → Hp → VK → Prop := fun x vs H Q => match x, vs with
 | .ref l, [y] => ∃ xs, H l = some (.lst xs) ∧ xs.length < sizeLine ∧ Q .non (upd H l (.lst (xs ++ [y])))
 | _, _ => False
theorem mt_appU : MtM X "list.append" rApp := mt_append.of fun x xs H Q q => by
 unfold rApp at q
 split at q
 ·walk_at "B"
  obtain ⟨ys, h1, h2, q⟩ := q
  walk_at "C"
  exact ⟨_, ys, _, rfl, rfl, h1, h2, q⟩
 ·exact q.elim
def rJoin : V → List V → Hp → VK → Prop := fun x vs H Q => match x, vs with
 | .str sep, [.ref p] => ∃ ws : List Str, H p = some (.lst (ws.map V.str)) ∧ (ws.map (·.length)).sum + ws.length * sep.length ≤ 16777216 ∧ Q (.str (Txt.join sep ws)) H
 | _, _ => False
theorem mt_joinU : MtM X "str.join" rJoin := mt_join.of fun x xs H Q q => by
 unfold rJoin at q
 split at q
 ·walk_at "B"
  obtain ⟨ws, h1, h2, q⟩ := q
  walk_at "C"
  exact ⟨_, _, ws, rfl, rfl, h1, h2, q⟩
 ·exact q.elim
def tyU (H : Hp) (T : String) : V → Prop
 | .str _ => T = "str"
 | .int _ => T = "int"
 | .ref p => ∃ xs, T = "list" ∧ H p = some (.lst xs)
 | _ => False
theorem tyU_of {K : PySem.W.Frag} {H : Hp} {T : String} {x : V} (h : tyU H T x) : tyV K T x H := by
 cases x with
 | str z => exact h
 | int z => exact h
 | ref p => obtain ⟨xs, h1, h2⟩ := h; exact .inl ⟨h1, xs, SqL.of h2⟩
 | _ => exact h.elim
end
theorem le_line {n : Nat} (h : n ≤ 1000) : n ≤ sizeLine := Nat.le_trans h (by decide)
theorem lB_ {n : Nat} (h : Nat.ble n 1000 = true := by rfl) : n ≤ sizeLine := le_line (Nat.le_of_ble_eq_true h)
theorem lt_line {n : Nat} (h : n ≤ 1000) : n < sizeLine := Nat.lt_of_le_of_lt h (by decide)
theorem Same.upd {H : Hp} {p : Addr} {o : HO} (h : H p = none) : Same H (upd H p o) := fun b u e => by rw [upd_ne (ne_of_none e h)]; exact e
theorem atI_int {α : Type} {xs : List α} {i : Int} {v : α} (h0 : 0 ≤ i) (h : xs[i.toNat]? = some v) : atI xs i = some v := by
 have e : i = (i.toNat : Int) := by omega
 rw [e]
 exact atI_nat h
theorem gl {H : Hp} {p : Addr} {xs : List V} {i : Int} {v : V} (h : H p = some (.lst xs)) (h0 : 0 ≤ i) (hv : xs[i.toNat]? = some v) : getV H (.ref p) i = some v := by rw [getV_lst h]; exact atI_int h0 hv
theorem gt {H : Hp} {p : Addr} {xs : List V} {i : Int} {v : V} (h : H p = some (.tup xs)) (h0 : 0 ≤ i) (hv : xs[i.toNat]? = some v) : getV H (.ref p) i = some v := by rw [getV_tup h]; exact atI_int h0 hv
theorem lenL {H : Hp} {p : Addr} {xs : List V} (h : H p = some (.lst xs)) : lenV H (.ref p) = some xs.length := by simp [lenV, h]
theorem gs {H : Hp} {w : List Bool} {i : Int} {b : Bool} (hz : w.length ≤ sizeLine) (h0 : 0 ≤ i) (hv : w[i.toNat]? = some b) : getV H (.str (bs w)) i = some (.str (bs [b])) := by
 show (if (bs w).length ≤ sizeLine then (atI (bs w).cps.toList i).map fun c => V.str ⟨#[c]⟩ else none) = _
 rw [if_pos (by rw [bs_len]; exact hz)]
 have : atI (bs w).cps.toList i = some (sg b) := atI_int h0 (by show ((w.map sg).toArray.toList)[i.toNat]? = _; simp [hv])
 rw [this]
 rfl
theorem lenS {H : Hp} {w : List Bool} (hz : w.length ≤ sizeLine) : lenV H (.str (bs w)) = some w.length := by
 show (if (bs w).length ≤ sizeLine then some (bs w).length else none) = _
 rw [if_pos (by rw [bs_len]; exact hz), bs_len]
end L2
end
section
namespace L2
open PySem
end L2
end
section
set_option Elab.async false
set_option linter.all false
set_option maxRecDepth 100000
set_option maxHeartbeats 4000000
namespace L2
open PySem PySem.Spec PyProof.Rows

def FnX (K : PySem.W.Frag) (mg : Str → Option Value) (x : Str) (st : Stmt) (ps : List Str) : Prop := ∃ f fd, Fun K x x st f fd ∧ mg x = some (.ref f) ∧ Binds K fd ps []
def Can (P : Program) (w : World) (K : PySem.W.Frag) (mg : Str → Option Value) (base : Heap) (x : Str) (k : Nat) (ps : List Str) (sp : Sp) : Prop :=
 ∃ f fd, FnOk P w K mg base CX0 k f fd ps sp ∧ mg x = some (.ref f) ∧ PySem.W.keepIn K (.ref f) = true ∧ Binds K fd ps []
section
variable {P : Program} {w : World} {K : PySem.W.Frag} {mg : Str → Option Value} {base : Heap}
theorem can_fn {x : Str} {st : Stmt} {N ps : List Str} {k : Nat} {sp : Sp} (D : FnX K mg x st ps) (S : FnScope N ps (defScope st)) (len : ∀ vs H Q E, sp vs H Q E → vs.length = ps.length)
  (hbody : ∀ (f : Addr) (cdv : Value) (A : Around) (outer : List Env) (s : Shared) (H : Hp) (vs : List V) (Q : VK) (E : XK), Room k (A.deeper (envOfC x (defScope st) s.heap.objs.size f cdv)) → sp vs H Q E →
   ∃ t, PSs (cxOf CX0 P w K mg base N x (defScope st) f cdv A outer s H E).nox (defBody st) t ∧ t { nx := fun _ H' => Q .non H', rt := Q } (start N vs) H) : Can P w K mg base x (k + 1) ps sp := by
 walk_at "B"
 obtain ⟨f, fd, F, hm, hb⟩ := D
 walk_at "C"
 exact ⟨f, fd, F.ok S len fun cdv A outer s H vs Q E hr h => hbody f cdv A outer s H vs Q E hr h, hm, F.kp, hb⟩
end
section
variable {X : Cx} {x : Str} {p pos apos : Pos} {e o : Expr} {es : List Expr} {t : TA} {te to ti : TE} {k : Nat} {ps : List Str} {sp : Sp}
def tCan (sp : Sp) (t : TA) : TE := fun σ H Q => t σ H fun vs H1 => sp vs H1 Q E0
theorem pe_can (C : Can X.prog X.w X.K X.mg X.base x k ps sp) (hr : Room k X.A) (ha : PA X (e :: es) t) (hg : Gl X x := by rfl)
  (hdb : (x == ("__debug__" : Str)) = false := by decide) (he : starEach (e :: es) X.env = (false, eval e X.env) :: starEach es X.env := by rfl) (hpl : (backTo pos (starEach es X.env)).any (·.1) = false := by rfl) :
  PE X (.Call (.Name x p) (e :: es) [] pos) (tCan sp t) := by
 walk_at "B"
 obtain ⟨f, fd, F, hm, hk, hb⟩ := C
 walk_at "C"
 have h := pe_call (pos := pos) (p := p) F hr hg hm hk hb .nil pass0 ha hdb he hpl
 intro pins s σ H Q I q
 refine thn (h pins s σ H Q I ?_) fun _ _ z => z
 have ee : tCall sp [] E0 t = tCan sp t := by funext σ H Q; unfold tCall tCan; simp only [List.append_nil]
 rw [ee]
 exact q
theorem pe_len (hm : X.mg "len" = none) (ha : PA X (e :: es) t) (hg : Gl X "len" := by rfl) (he : starEach (e :: es) X.env = (false, eval e X.env) :: starEach es X.env := by rfl) (hpl : (backTo pos (starEach es X.env)).any (·.1) = false := by rfl) :
  PE X (.Call (.Name "len" p) (e :: es) [] pos) (tCB rLen t) := pe_callB call_lenU hg hm PySem.boot_len ha (he := he) (hpl := hpl)
theorem pe_isinst (hm : X.mg "isinstance" = none) (ha : PA X (e :: es) t) (hg : Gl X "isinstance" := by rfl) (he : starEach (e :: es) X.env = (false, eval e X.env) :: starEach es X.env := by rfl) (hpl : (backTo pos (starEach es X.env)).any (·.1) = false := by rfl) :
  PE X (.Call (.Name "isinstance" p) (e :: es) [] pos) (tCB rIsI t) := pe_callB call_isU hg hm PyProof.Rows.boot_isinstance ha (he := he) (hpl := hpl)
theorem pe_all (hc : X.calm = true) (hm : X.mg "all" = none) (ha : PA X (e :: es) t) (hg : Gl X "all" := by rfl) (he : starEach (e :: es) X.env = (false, eval e X.env) :: starEach es X.env := by rfl) (hpl : (backTo pos (starEach es X.env)).any (·.1) = false := by rfl) :
  PE X (.Call (.Name "all" p) (e :: es) [] pos) (tCB rAll t) := pe_callB (call_allU hc) hg hm PyProof.Rows.boot_all ha (he := he) (hpl := hpl)
theorem pe_max (hc : X.calm = true) (hm : X.mg "max" = none) (ha : PA X (e :: es) t) (hg : Gl X "max" := by rfl) (he : starEach (e :: es) X.env = (false, eval e X.env) :: starEach es X.env := by rfl) (hpl : (backTo pos (starEach es X.env)).any (·.1) = false := by rfl) :
  PE X (.Call (.Name "max" p) (e :: es) [] pos) (tCB rMax t) := pe_callB (call_maxU hc) hg hm PyProof.Rows.boot_max ha (he := he) (hpl := hpl)
theorem pe_min (hc : X.calm = true) (hm : X.mg "min" = none) (ha : PA X (e :: es) t) (hg : Gl X "min" := by rfl) (he : starEach (e :: es) X.env = (false, eval e X.env) :: starEach es X.env := by rfl) (hpl : (backTo pos (starEach es X.env)).any (·.1) = false := by rfl) :
  PE X (.Call (.Name "min" p) (e :: es) [] pos) (tCB rMin t) := pe_callB (call_minU hc) hg hm PyProof.Rows.boot_min ha (he := he) (hpl := hpl)
theorem pe_intf (hm : X.mg "int" = none) (ha : PA X (e :: es) t) (hg : Gl X "int" := by rfl) (he : starEach (e :: es) X.env = (false, eval e X.env) :: starEach es X.env := by rfl) (hpl : (backTo pos (starEach es X.env)).any (·.1) = false := by rfl) :
  PE X (.Call (.Name "int" p) (e :: es) [] pos) (tCB rIntOf t) := pe_callTy call_intU hg hm PyProof.Rows.boot_int ha (he := he) (hpl := hpl)
theorem pe_listf (hm : X.mg "list" = none) (ha : PA X (e :: es) t) (hg : Gl X "list" := by rfl) (he : starEach (e :: es) X.env = (false, eval e X.env) :: starEach es X.env := by rfl) (hpl : (backTo pos (starEach es X.env)).any (·.1) = false := by rfl) :
  PE X (.Call (.Name "list" p) (e :: es) [] pos) (tCB rListOf t) := pe_callTy call_listU hg hm PyProof.Rows.boot_list ha (he := he) (hpl := hpl)
theorem pe_ty {T : String} (hb : bootBuiltins x = some (.type T)) (hm : X.mg x = none) (hg : Gl X x := by rfl) (hn : x ≠ "__name__" := by decide) (hd : (x == ("__debug__" : Str)) = false := by decide) : PE X (.Name x pos) (tC (.ty T)) := pe_bltn hg hm hb rfl hn hd

def tMt (T : String) (r : V → List V → Hp → VK → Prop) (to : TE) (t : TA) : TE := fun σ H Q => to σ H fun x H1 => tyU H1 T x ∧ t σ H1 fun xs H2 => r x xs H2 Q
theorem pe_mt {T id : String} {name : Str} {cpos : Pos} {r : V → List V → Hp → VK → Prop} (pa : PlainAttrs T) (slot : Slot T name id) (hty : typeOf (.builtin id) = pure (.type "method_descriptor")) (hm : MtM X id r) (ho : PE X o to) (ha : PA X (e :: es) t)
  (hbase : attributeBase o name X.env (eval o X.env) = eval o X.env := by rfl)
  (hfew : ((backTo cpos (starEach (e :: es) X.env)).all (fun x => !x.1) && (backToKw cpos (keywordEach [] X.env)).all (fun x => x.1.isSome)
   && decide ((e :: es).length + ([] : List Keyword).length + (if ([] : List Keyword).isEmpty then 0 else 1) < 30)) = true := by rfl)
  (hline : (apos.endLine == cpos.line) = true := by rfl) (hs : starEach (e :: es) X.env = (false, eval e X.env) :: starEach es X.env := by rfl) (hplain : (backTo cpos (starEach es X.env)).any (·.1) = false := by rfl) :
  PE X (.Call (.Attribute o name apos) (e :: es) [] cpos) (tMt T r to t) := by
 intro pins s σ H Q I h
 refine wpAny_Call_method_late hbase hfew hline rfl (thn (ho pins s σ H _ I h) fun v s1 ⟨x, H1, I1, r1, ty, q1⟩ => ?_)
 obtain ⟨h1, h2⟩ := tyV_is I1 r1 (tyU_of ty)
 refine ⟨T, id, pa, slot, hty, h1, h2, ?_⟩
 have hA := ha cpos pins s1 σ H1 _ I1 q1
 rw [hs] at hA ⊢
 refine Calls.callWith_builtin (by show (false || (backTo cpos (starEach es X.env)).any (·.1)) = false; rw [hplain] <;> rfl) (Calls.evalArgs_plain ?_)
 exact thn hA fun us s2 ⟨vs, H2, I2, r2, q2⟩ => hm pins s2 σ H2 x vs v us Q I2 r1 r2 q2
def rSetU : V → V → V → Hp → (Hp → Prop) → Prop := fun o i v H Q => match o, i with
 | .ref p, .int k => ∃ xs j, H p = some (.lst xs) ∧ ixN xs.length k = some j ∧ Q (upd H p (.lst (xs.set j v)))
 | _, _ => False
theorem setU : PSet X rSetU := by
 intro pins s σ H o i v ov iv u Q I ro ri rv q
 refine set_list pins s σ H o i v ov iv u Q I ro ri rv ?_
 unfold rSetU at q
 split at q
 ·walk_at "B"
  obtain ⟨xs, j, h1, h2, q⟩ := q
  walk_at "C"
  exact ⟨_, xs, _, j, rfl, rfl, h1, h2, q⟩
 ·exact q.elim
def gConsU (t : TG) (u : TGs) : TGs := fun vs σ H Q => match vs with
 | v :: r => t v σ H fun σ' H' => u r σ' H' Q
 | [] => False
theorem pgs_consU {es : List Expr} {t : TG} {u : TGs} (h1 : PG X e t) (h2 : PGs X es u)
  (hs : (assignEach (e :: es) X.env).map (·.2) = assign e X.env :: (assignEach es X.env).map (·.2) := by rfl) : PGs X (e :: es) (gConsU t u) := by
 intro pins s σ H vs us Q I r hw
 refine pgs_cons h1 h2 hs pins s σ H vs us Q I r ?_
 unfold gConsU at hw
 split at hw
 ·exact ⟨_, _, rfl, hw⟩
 ·exact hw.elim
variable {tg : Expr}
def iLst (K : PySem.W.Frag) (tl : TE) : TI := fun σ H R => tl σ H fun x H1 => match x with
 | .ref a => (∃ xs, SqL K H1 a xs) ∧ R (Itl K a) H1
 | _ => False
theorem pi_lst {l : Expr} {tl : TE} (hl : PE X l tl) : PI X tg l (iLst X.K tl) := by
 intro pins s σ H R I h
 refine thn (hl pins s σ H _ I h) fun v s1 ⟨x, H1, I1, r1, q1⟩ => ?_
 dsimp only at q1
 split at q1
 ·rename_i a
  walk_at "B"
  obtain ⟨⟨xs, hq⟩, q⟩ := q1
  walk_at "C"
  cases r1
  walk_at "B"
  obtain ⟨its, rv, p, hz⟩ := I1.list hq
  walk_at "C"
  refine wpAny_pyIter_list p.isList ?_
  refine ⟨s1.heap.objs.size, [s1.heap.objs.size], _, _, H1, rfl, I1.kept (t' := s1.toks) fun b o e => Heap.get?_push_of_some _ e, turn_list a _, ⟨_, Heap.get?_push_size _ rfl, rfl, rfl⟩, fun b hb => ?_, q⟩
  have e : b = s1.heap.objs.size := by simpa using hb
  subst e
  exact I1.fpOk (Nat.le_refl _) (I1.hok.fresh (Nat.le_refl _))
 ·exact q1.elim
def iR1 (ta : TA) : TI := fun σ H R => ta σ H fun vs H1 => match vs with
 | [.int j] => -(2 ^ 62) ≤ j ∧ j < 2 ^ 62 ∧ R (Itr 0 j.toNat) H1
 | _ => False
theorem pi_r1 {a : Expr} {ta : TA} (hm : X.mg "range" = none) (ha : PA X [a] ta) (hg : Gl X "range" := by rfl) (hs : starEach [a] X.env = [(false, eval a X.env)] := by rfl) : PI X tg (.Call (.Name "range" p) [a] [] pos) (iR1 ta) := by
 intro pins s σ H R I h
 refine Call_ (ld_blt I hg hm boot_range (PyProof.Rows.callWith_type1 (thn (ha pos pins s σ H _ I h) fun us s1 ⟨vs, H1, I1, r1, q1⟩ => ?_) hs rfl))
 dsimp only at q1
 split at q1
 ·walk_at "B"
  obtain ⟨q1, q2, q⟩ := q1
  obtain ⟨u, rfl, t, rfl⟩ := vals1 r1
  walk_at "C"
  exact call_range_1 (range_it I1 (by omega) (by omega) q1 q2 (by simpa using q))
 ·exact q1.elim
end
end L2
end
section
set_option Elab.async false
set_option linter.all false
set_option maxRecDepth 100000
set_option maxHeartbeats 4000000
namespace L2
open PySem PySem.Spec PyProof.Rows
def visB (sc : Scope) (x : Str) : Bool := (match sc.names.lookup x with
 | some .local => true
 | some .cell => true
 | some .free => true
 | _ => false) && (!(x == ("__debug__" : Str)) && !(x == ("__classdict__" : Str)))
theorem vis_of {sc : Scope} {x : Str} (h : visB sc x = true) : Vis sc x ∧ (x == ("__debug__" : Str)) = false ∧ (x == ("__classdict__" : Str)) = false := by
 unfold visB at h
 simp only [Bool.and_eq_true, Bool.not_eq_true'] at h
 walk_at "B"
 obtain ⟨h1, h2, h3⟩ := h
 walk_at "C"
 refine ⟨?_, h2, h3⟩
 split at h1
 ·exact .inl (by assumption)
 ·exact .inr (.inl (by assumption))
 ·exact .inr (.inr (by assumption))
 ·cases h1
def locB (sc : Scope) (x : Str) : Bool := match sc.names.lookup x with
 | some .local => true
 | some .cell => true
 | _ => false
theorem loc_of {sc : Scope} {x : Str} (h : locB sc x = true) : Loc sc x := by
 unfold locB at h
 split at h
 ·exact .inl (by assumption)
 ·exact .inr (by assumption)
 ·cases h
section
variable {X : Cx} {x : Str} {pos : Pos}
theorem vk (i : Nat) (hN : X.N[i]? = some x := by rfl) (hv : visB X.env.scope x = true := by kernel_rfl) : PE X (.Name x pos) (tV i) :=
 vr i hN (vis_of hv).1 (vis_of hv).2.1 (vis_of hv).2.2
theorem gk (i : Nat) (hN : X.N.Nodup) (hi : X.N[i]? = some x := by rfl) (hx : locB X.env.scope x = true := by kernel_rfl) (hf : (X.fn x || X.env.scope.names.lookup x == some .local) = true := by kernel_rfl) : PG X (.Name x pos) (gName i) :=
 pg_name hN hi (loc_of hx) (by
  rw [Bool.or_eq_true] at hf
  exact hf.elim .inl fun z => .inr (eq_of_beq z))
theorem vn (x : Str) (i : Nat) (hN : X.N[i]? = some x := by with_unfolding_all rfl) (hv : visB X.env.scope x = true := by kernel_rfl) : PE X (.Name x pos) (tV i) := vk i hN hv
theorem gn (x : Str) (i : Nat) (hN : X.N.Nodup) (hi : X.N[i]? = some x := by with_unfolding_all rfl) (hx : locB X.env.scope x = true := by kernel_rfl) (hf : (X.fn x || X.env.scope.names.lookup x == some .local) = true := by kernel_rfl) : PG X (.Name x pos) (gName i) := gk i hN hi hx hf
def gB (X : Cx) (x : Str) : Bool := X.env.scope.names.lookup x == some .globalImplicit
theorem gl_of (h : gB X x = true) : Gl X x := eq_of_beq h
variable {p apos : Pos} {e o : Expr} {es : List Expr} {t : TA} {te to ti : TE} {k : Nat} {ps : List Str} {sp : Sp} {tg : Expr}
theorem fn_can (x : Str) {P' : Program} {w' : World} {K' : PySem.W.Frag} {mg' : Str → Option Value} {base' : Heap} (C : Can P' w' K' mg' base' x k ps sp) (hX : X.prog = P' ∧ X.w = w' ∧ X.K = K' ∧ X.mg = mg' ∧ X.base = base') (hr : Room k X.A) (ha : PA X (e :: es) t) (hg : gB X x = true := by kernel_rfl)
  (hdb : (x == ("__debug__" : Str)) = false := by kernel_rfl) (he : starEach (e :: es) X.env = (false, eval e X.env) :: starEach es X.env := by kernel_rfl) (hpl : (backTo pos (starEach es X.env)).any (·.1) = false := by kernel_rfl) :
  PE X (.Call (.Name x p) (e :: es) [] pos) (tCan sp t) := by
 walk_at "B"
 obtain ⟨rfl, rfl, rfl, rfl, rfl⟩ := hX
 walk_at "C"
 exact pe_can C hr ha (gl_of hg) hdb he hpl
theorem fn_len {mg' : Str → Option Value} (hm : mg' "len" = none) (hX : X.mg = mg') (ha : PA X (e :: es) t) (hg : gB X "len" = true := by kernel_rfl) (he : starEach (e :: es) X.env = (false, eval e X.env) :: starEach es X.env := by kernel_rfl) (hpl : (backTo pos (starEach es X.env)).any (·.1) = false := by kernel_rfl) :
  PE X (.Call (.Name "len" p) (e :: es) [] pos) (tCB rLen t) := pe_len (by rw [hX]; exact hm) ha (gl_of hg) he hpl
theorem fn_isinst {mg' : Str → Option Value} (hm : mg' "isinstance" = none) (hX : X.mg = mg') (ha : PA X (e :: es) t) (hg : gB X "isinstance" = true := by kernel_rfl) (he : starEach (e :: es) X.env = (false, eval e X.env) :: starEach es X.env := by kernel_rfl) (hpl : (backTo pos (starEach es X.env)).any (·.1) = false := by kernel_rfl) :
  PE X (.Call (.Name "isinstance" p) (e :: es) [] pos) (tCB rIsI t) := pe_isinst (by rw [hX]; exact hm) ha (gl_of hg) he hpl
theorem fn_all {mg' : Str → Option Value} (hm : mg' "all" = none) (hX : X.mg = mg') (ha : PA X (e :: es) t) (hc : X.calm = true := by kernel_rfl) (hg : gB X "all" = true := by kernel_rfl) (he : starEach (e :: es) X.env = (false, eval e X.env) :: starEach es X.env := by kernel_rfl) (hpl : (backTo pos (starEach es X.env)).any (·.1) = false := by kernel_rfl) :
  PE X (.Call (.Name "all" p) (e :: es) [] pos) (tCB rAll t) := pe_all hc (by rw [hX]; exact hm) ha (gl_of hg) he hpl
theorem fn_max {mg' : Str → Option Value} (hm : mg' "max" = none) (hX : X.mg = mg') (ha : PA X (e :: es) t) (hc : X.calm = true := by kernel_rfl) (hg : gB X "max" = true := by kernel_rfl) (he : starEach (e :: es) X.env = (false, eval e X.env) :: starEach es X.env := by kernel_rfl) (hpl : (backTo pos (starEach es X.env)).any (·.1) = false := by kernel_rfl) :
  PE X (.Call (.Name "max" p) (e :: es) [] pos) (tCB rMax t) := pe_max hc (by rw [hX]; exact hm) ha (gl_of hg) he hpl
theorem fn_min {mg' : Str → Option Value} (hm : mg' "min" = none) (hX : X.mg = mg') (ha : PA X (e :: es) t) (hc : X.calm = true := by kernel_rfl) (hg : gB X "min" = true := by kernel_rfl) (he : starEach (e :: es) X.env = (false, eval e X.env) :: starEach es X.env := by kernel_rfl) (hpl : (backTo pos (starEach es X.env)).any (·.1) = false := by kernel_rfl) :
  PE X (.Call (.Name "min" p) (e :: es) [] pos) (tCB rMin t) := pe_min hc (by rw [hX]; exact hm) ha (gl_of hg) he hpl
theorem fn_int {mg' : Str → Option Value} (hm : mg' "int" = none) (hX : X.mg = mg') (ha : PA X (e :: es) t) (hg : gB X "int" = true := by kernel_rfl) (he : starEach (e :: es) X.env = (false, eval e X.env) :: starEach es X.env := by kernel_rfl) (hpl : (backTo pos (starEach es X.env)).any (·.1) = false := by kernel_rfl) :
  PE X (.Call (.Name "int" p) (e :: es) [] pos) (tCB rIntOf t) := pe_intf (by rw [hX]; exact hm) ha (gl_of hg) he hpl
theorem fn_list {mg' : Str → Option Value} (hm : mg' "list" = none) (hX : X.mg = mg') (ha : PA X (e :: es) t) (hg : gB X "list" = true := by kernel_rfl) (he : starEach (e :: es) X.env = (false, eval e X.env) :: starEach es X.env := by kernel_rfl) (hpl : (backTo pos (starEach es X.env)).any (·.1) = false := by kernel_rfl) :
  PE X (.Call (.Name "list" p) (e :: es) [] pos) (tCB rListOf t) := pe_listf (by rw [hX]; exact hm) ha (gl_of hg) he hpl
theorem ty_int {mg' : Str → Option Value} (hm : mg' "int" = none) (hX : X.mg = mg') (hg : gB X "int" = true := by kernel_rfl) : PE X (.Name "int" pos) (tC (.ty "int")) := pe_ty PyProof.Rows.boot_int (by rw [hX]; exact hm) (gl_of hg)
theorem ty_bool {mg' : Str → Option Value} (hm : mg' "bool" = none) (hX : X.mg = mg') (hg : gB X "bool" = true := by kernel_rfl) : PE X (.Name "bool" pos) (tC (.ty "bool")) := pe_ty PyProof.Rows.boot_bool (by rw [hX]; exact hm) (gl_of hg)
theorem ty_list {mg' : Str → Option Value} (hm : mg' "list" = none) (hX : X.mg = mg') (hg : gB X "list" = true := by kernel_rfl) : PE X (.Name "list" pos) (tC (.ty "list")) := pe_ty PyProof.Rows.boot_list (by rw [hX]; exact hm) (gl_of hg)
theorem ty_tuple {mg' : Str → Option Value} (hm : mg' "tuple" = none) (hX : X.mg = mg') (hg : gB X "tuple" = true := by kernel_rfl) : PE X (.Name "tuple" pos) (tC (.ty "tuple")) := pe_ty PyProof.Rows.boot_tuple (by rw [hX]; exact hm) (gl_of hg)
theorem it_r1 {a : Expr} {ta : TA} {mg' : Str → Option Value} (hm : mg' "range" = none) (hX : X.mg = mg') (ha : PA X [a] ta) (hg : gB X "range" = true := by kernel_rfl) (hs : starEach [a] X.env = [(false, eval a X.env)] := by kernel_rfl) : PI X tg (.Call (.Name "range" p) [a] [] pos) (iR1 ta) := pi_r1 (by rw [hX]; exact hm) ha (gl_of hg) hs
theorem ix_at {a b : Expr} {ta tb : TE} (ha : PE X a ta) (hb : PE X b tb) (hs : ∀ o i, subscripted b false o i = operate [o, i] (getItem o i) := by intro _ _; kernel_rfl) : PE X (.Subscript a b pos) (tOp rIxU ta tb) := pe_ix ixU ha hb hs
theorem a_cons {e : Expr} {es : List Expr} {te : TE} {t : TA} (ha : PE X e te) (hr : PA X es t) (hs : starEach (e :: es) X.env = (false, eval e X.env) :: starEach es X.env := by kernel_rfl) : PA X (e :: es) (tCons te t) := pa_cons ha hr hs
theorem t_cmp {op : CmpOp} {r : R2} {a b : Expr} {ta tb : TE} (ho : OpR X (compareOp op) r) (ha : PE X a ta) (hb : PE X b tb) (hm : behindInMarks op b = false := by kernel_rfl) : PT X (.Compare a [op] [b] pos) (tBU (tOp r ta tb)) := pt_cmpU ho ha hb hm
theorem e_cmp {op : CmpOp} {r : R2} {a b : Expr} {ta tb : TE} (ho : OpR X (compareOp op) r) (ha : PE X a ta) (hb : PE X b tb) (hm : behindInMarks op b = false := by kernel_rfl) : PE X (.Compare a [op] [b] pos) (tOp r ta tb) := pe_cmpU ho ha hb hm
theorem s_asg {tg e : Expr} {te : TE} {g : TG} (he : PE X e te) (hg : PG X tg g) (hs : swapsWithSole [tg] e pos.line X.env = pure false := by kernel_rfl) (hw : swappedStores [tg] e X.env = pure none := by kernel_rfl)
  (h1 : (assignEach [tg] X.env).map (·.2) = [assign tg X.env] := by kernel_rfl) : PS X (.Assign [tg] e pos) (tAsg te g) := ps_asg he hg hs hw h1
theorem s_expr {e : Expr} {te : TE} (he : PE X e te) (hs : swapsWith e none pos.line X.env = pure false := by kernel_rfl) : PS X (.Expr e pos) (tDrop te) := ps_expr he hs
theorem s_for {iter : Expr} {body : List Stmt} {wi : TI} {g : TG} {tb : TS} (hi : PI X tg iter wi) (hg : PG X tg g) (hb : PSs X body tb) (hp : PassesOwn (model X.prog X.w) X.A X.env X.xe := by exact PassesOwn.never) (hc : X.calm = true := by kernel_rfl)
  (hs : ∀ x, foldedSetIterable iter X.env x = pure x := by intro _; kernel_rfl) : PS X (.For tg iter body [] pos) (tFor wi g tb) := ps_for hp hc hi hg hb hs
theorem s_while {c : Expr} {body : List Stmt} {tc : TT} {tb : TS} (hc : PT X c tc) (hb : PSs X body tb) (hp : PassesOwn (model X.prog X.w) X.A X.env X.xe := by exact PassesOwn.never) : PS X (.While c body [] pos) (tWhile tc tb) := ps_while hp hc hb
theorem gs_cons {es : List Expr} {t : TG} {u : TGs} (h1 : PG X e t) (h2 : PGs X es u)
  (hs : (assignEach (e :: es) X.env).map (·.2) = assign e X.env :: (assignEach es X.env).map (·.2) := by kernel_rfl) : PGs X (e :: es) (gConsU t u) := pgs_consU h1 h2 hs
theorem m_append {cpos : Pos} (ho : PE X o to) (ha : PA X (e :: es) t)
  (hbase : attributeBase o "append" X.env (eval o X.env) = eval o X.env := by kernel_rfl)
  (hfew : ((backTo cpos (starEach (e :: es) X.env)).all (fun x => !x.1) && (backToKw cpos (keywordEach [] X.env)).all (fun x => x.1.isSome)
   && decide ((e :: es).length + ([] : List Keyword).length + (if ([] : List Keyword).isEmpty then 0 else 1) < 30)) = true := by kernel_rfl)
  (hline : (apos.endLine == cpos.line) = true := by kernel_rfl) (hs : starEach (e :: es) X.env = (false, eval e X.env) :: starEach es X.env := by kernel_rfl) (hplain : (backTo cpos (starEach es X.env)).any (·.1) = false := by kernel_rfl) :
  PE X (.Call (.Attribute o "append" apos) (e :: es) [] cpos) (tMt "list" rApp to t) := pe_mt PySem.F.plainAttrs_list PySem.F.slot_list_append PySem.F.type_list_append mt_appU ho ha hbase hfew hline hs hplain
theorem m_join {cpos : Pos} (ho : PE X o to) (ha : PA X (e :: es) t)
  (hbase : attributeBase o "join" X.env (eval o X.env) = eval o X.env := by kernel_rfl)
  (hfew : ((backTo cpos (starEach (e :: es) X.env)).all (fun x => !x.1) && (backToKw cpos (keywordEach [] X.env)).all (fun x => x.1.isSome)
   && decide ((e :: es).length + ([] : List Keyword).length + (if ([] : List Keyword).isEmpty then 0 else 1) < 30)) = true := by kernel_rfl)
  (hline : (apos.endLine == cpos.line) = true := by kernel_rfl) (hs : starEach (e :: es) X.env = (false, eval e X.env) :: starEach es X.env := by kernel_rfl) (hplain : (backTo cpos (starEach es X.env)).any (·.1) = false := by kernel_rfl) :
  PE X (.Call (.Attribute o "join" apos) (e :: es) [] cpos) (tMt "str" rJoin to t) := pe_mt PySem.F.plainAttrs_str PySem.F.slot_str_join PySem.F.type_str_join mt_joinU ho ha hbase hfew hline hs hplain
theorem c_comp (N : List Str) (js : List Nat) {elt target iter : Expr} {ifs : List Expr} {scope : Scope} {wi : TI} {g : TG} {tt : TT} {te : TE} (hN : N.Nodup) (hi : PI X target iter wi)
  (hg : ∀ cl C s H fp, PG (X.block scope cl C N s H fp) target g) (ht : ∀ cl C s H fp, PF (X.block scope cl C N s H fp) ifs tt) (he : ∀ cl C s H fp, PE (X.block scope cl C N s H fp) elt te)
  (hok : compOk X.env.scope X.N scope N js = true := by kernel_rfl) (hc : X.calm = true := by kernel_rfl) (hk : scope.kind = .function := by kernel_rfl) (hs : ∀ x, foldedSetIterable iter X.env x = pure x := by intro _; kernel_rfl) :
  PE X (.ListComp elt [⟨target, iter, ifs, 0⟩] scope pos) (tComp (N.length - js.length) js wi g tt te) := pe_comp N js hok hN hc hi hg ht he hk hs
theorem s_comp (y : Str) (i : Nat) (N : List Str) (js : List Nat) {elt target iter : Expr} {ifs : List Expr} {scope : Scope} {wi : TI} {g : TG} {tt : TT} {te : TE} {py spos : Pos} (hN : N.Nodup) (hXN : X.N.Nodup) (hi : PI X target iter wi)
  (hg : ∀ cl C s H fp, PG (X.block scope cl C N s H fp) target g) (ht : ∀ cl C s H fp, PF (X.block scope cl C N s H fp) ifs tt) (he : ∀ cl C s H fp, PE (X.block scope cl C N s H fp) elt te)
  (hyi : X.N[i]? = some y := by with_unfolding_all rfl) (hy : locB X.env.scope y = true := by kernel_rfl)
  (hok : compOk X.env.scope X.N scope N js = true := by kernel_rfl) (hc : X.calm = true := by kernel_rfl) (hk : scope.kind = .function := by kernel_rfl) (hs : ∀ x, foldedSetIterable iter X.env x = pure x := by intro _; kernel_rfl)
  (hsw : swapsWith (.ListComp elt [⟨target, iter, ifs, 0⟩] scope pos) (some (.Name y py)) spos.line X.env = pure true := by kernel_rfl) (hf : (X.fn y || X.env.scope.names.lookup y == some .local) = true := by kernel_rfl) :
  PS X (.Assign [.Name y py] (.ListComp elt [⟨target, iter, ifs, 0⟩] scope pos) spos) (tAsg (tComp (N.length - js.length) js wi g tt te) (gName i)) :=
 ps_setComp N js hok hN hc hXN hyi (loc_of hy) hi hg ht he hsw hk hs (by
  rw [Bool.or_eq_true] at hf
  exact hf.elim .inl fun z => .inr (eq_of_beq z))
end
theorem iteP {c A B : Prop} [Decidable c] (hc : c) (h : A) : if c then A else B := by rw [if_pos hc]; exact h
end L2
end
section
set_option Elab.async false
set_option linter.all false
set_option maxRecDepth 100000
set_option maxHeartbeats 4000000
namespace L2
open PySem PySem.Spec PyProof.Rows
end L2
namespace L2
open PySem PySem.Spec PyProof.Rows
section
variable {H : Hp}
theorem DV.lst_inv {v : V} {ds : List PyData} (h : DV H v (.list ds)) : ∃ a xs, v = .ref a ∧ H a = some (.lst xs) ∧ DVs H xs ds := by
 cases h with
 | lst h r => exact ⟨_, _, rfl, h, r⟩
theorem DV.tup_inv {v : V} {ds : List PyData} (h : DV H v (.tuple ds)) : ∃ a xs, v = .ref a ∧ H a = some (.tup xs) ∧ DVs H xs ds := by
 cases h with
 | tup h r => exact ⟨_, _, rfl, h, r⟩
theorem DV.int_inv {v : V} {i : Int} (h : DV H v (.int i)) : v = .int i := by cases h; rfl
theorem DV.str_inv {v : V} {x : Str} (h : DV H v (.str x)) : v = .str x := by cases h; rfl
theorem DVs.length : ∀ {xs : List V} {ds : List PyData}, DVs H xs ds → xs.length = ds.length
 | _, _, .nil => rfl
 | _, _, .cons _ r => by rw [List.length_cons, List.length_cons, DVs.length r]
theorem DVs.get : ∀ {xs : List V} {ds : List PyData} {i : Nat} {d : PyData}, DVs H xs ds → ds[i]? = some d → ∃ x, xs[i]? = some x ∧ DV H x d
 | _, _, _, _, .nil, h => by simp at h
 | _, _, 0, _, .cons h _, e => by
  simp at e
  subst e
  exact ⟨_, rfl, h⟩
 | _, _, i + 1, d, .cons _ r, e => by
  walk_at "B"
  obtain ⟨x, h1, h2⟩ := DVs.get (i := i) (d := d) r (by simpa using e)
  walk_at "C"
  exact ⟨x, by simpa using h1, h2⟩
theorem DVs.app : ∀ {xs ys : List V} {ds es : List PyData}, DVs H xs ds → DVs H ys es → DVs H (xs ++ ys) (ds ++ es)
 | _, _, _, _, .nil, s => s
 | _, _, _, _, .cons h r, s => .cons h (DVs.app r s)
theorem DVs.ints : ∀ (ns : List Int), DVs H (ns.map V.int) (ns.map PyData.int)
 | [] => .nil
 | n :: r => .cons (.int n) (DVs.ints r)
end
end L2
end
section
namespace Om
abbrev Rows := List (List (List Bool × Nat))
structure CodeOk (k n : Nat) (rows : Rows) : Prop where
 k1 : 1 ≤ k
 k3 : k ≤ 3
 n1 : 1 ≤ n
 n6 : n ≤ 6
 s1 : 1 ≤ rows.length
 s8 : rows.length ≤ 8
 len : ∀ st ∈ rows, st.length = 2 ^ k
 row : ∀ st ∈ rows, ∀ r ∈ st, r.1.length = n ∧ r.2 < rows.length
end Om
end
section
set_option Elab.async false
set_option linter.all false
set_option maxRecDepth 100000
set_option maxHeartbeats 4000000
namespace L2
open PySem PySem.Spec PyProof.Rows
theorem bs_join (ws : List (List Bool)) : Txt.join ("" : Str) (ws.map bs) = bs ws.flatten := by
 rw [eq_of_beq (join_plain_closes _ _)]
 have e0 : ("" : Str) = (⟨#[]⟩ : Str) := by decide +kernel
 rw [e0]
 induction ws with
 | nil => rfl
 | cons w ws ih => rw [List.map_cons, join_nil_cons, ih, bs_app, List.flatten_cons]
def rowD (r : List Bool × Nat) : PyData := .tuple [.str (bs r.1), .int (r.2 : Nat)]
def stateD (st : List (List Bool × Nat)) : PyData := .list (st.map rowD)
def codeD (k n : Nat) (rows : Om.Rows) : PyData := .tuple [.int (k : Nat), .int (n : Nat), .list (rows.map stateD)]
end L2
namespace L2
open PySem PySem.Spec PyProof.Rows
theorem SqL.upd {K : PySem.W.Frag} {H : Hp} {a D : Addr} {xs : List V} {o : HO} (h : H a = some (.lst xs)) (hD : H D = none) : SqL K (upd H D o) a xs := SqL.of (Same.upd hD _ _ h)
end L2
end
section
set_option Elab.async false
set_option linter.all false
set_option maxRecDepth 100000
set_option maxHeartbeats 4000000
namespace L2
open PySem PySem.Spec PyProof.Rows
section
variable {prog : Program} {w : World} {A : Around} {E : Value → Shared → Prop}
theorem draw_list {it l : Addr} {items : Array Value} (hne : l ≠ it) : ∀ (n i : Nat) (s : Shared) (Q : List Value → Shared → Prop), s.heap.IsListIter it l i → s.heap.IsList l items → i + n ≤ items.size →
  (∀ h', h'.IsListIter it l (i + n) → Heap.SameBut it s.heap h' → Q ((items.toList.drop i).take n) { s with heap := h' }) → wpAny (model prog w) A (draw (.ref it) n) Q E s
 | 0, i, s, Q, hit, _, _, hQ => by
  show wpAny _ _ (pure []) Q E s
  exact wpAny_pure (by simpa using hQ s.heap hit (Heap.SameBut.refl ..))
 | n + 1, i, s, Q, hit, ht, hle, hQ => by
  have hlt : i < items.size := by omega
  show wpAny _ _ (pyNext (.ref it) >>= _) Q E s
  refine wpAny_bind (wpAny_pyNext_list_item hit ht (x := items[i]) (by simp [hlt]) fun h₁ hit₁ hs₁ => ?_)
  refine wpAny_bind (wpAny_holding (draw_list hne n (i + 1) _ _ hit₁ (ht.extBut hs₁.extBut hne) (by omega) fun h₂ hit₂ hs₂ => wpAny_pure ?_))
  have hd : items.toList.drop i = items[i] :: items.toList.drop (i + 1) := by simp [List.drop_eq_getElem_cons, hlt]
  have := hQ h₂ (by rw [show i + (n + 1) = i + 1 + n by omega]; exact hit₂) (hs₁.trans hs₂)
  rw [hd, List.take_succ_cons] at this
  exact this
theorem unpackItems_list {s : Shared} {t : Addr} {items : Array Value} {Q : List Value → Shared → Prop} (hh : A.handled = none) (ht : s.heap.IsList t items)
  (hQ : ∀ h', Heap.ExtBut s.heap.objs.size s.heap h' → Q items.toList { s with heap := h' }) : wpAny (model prog w) A (unpackItems (.ref t) items.size none) Q E s := by
 have hlt : t ≠ s.heap.objs.size := by obtain ⟨o, ho, _⟩ := ht; exact Nat.ne_of_lt (Heap.lt_size ho)
 unfold unpackItems
 refine wpAny_bind ?_
 ·unfold notIterableAtAll
  refine wpAny_bind (wpAny_specialOf ht.typeIs slot_list_iter.lookup ?_)
  refine wpAny_pure ?_
  simp only [Bool.false_eq_true, if_false]
  refine wpAny_bind (wpAny_holding (wpAny_pyIter_list ht ?_))
  refine wpAny_bind (wpAny_holding (draw_list hlt items.size 0 _ _ ⟨_, Heap.get?_push_size _ rfl, rfl, rfl⟩ (ht.push _) (by omega) fun h₁ hit₁ hs₁ => ?_))
  have hall : List.take items.size (List.drop 0 items.toList) = items.toList := by
   rw [List.drop_zero]; exact List.take_of_length_le (by simp)
  rw [hall]
  rw [if_neg (by simp)]
  have ht₁ : h₁.IsList t items := (ht.push _).extBut hs₁.extBut hlt
  refine wpAny_bind (wpAny_holding (wpAny_pyNext_list_end hh hit₁ ht₁ (by simp) fun h₂ he₂ => ?_))
  simp only [Option.isSome_none, Bool.false_eq_true, if_false]
  refine wpAny_pure (hQ h₂ fun b o hb e => he₂ b o hb (hs₁.extBut b o hb (Heap.get?_push_of_some _ e)))
theorem assign_Tuple_list {s : Shared} {env : Env} {elts : List Expr} {x1} {pos : Pos} {t : Addr} {items : Array Value} {Q : Unit → Shared → Prop} (hh : A.handled = none) (ht : s.heap.IsList t items)
  (hn : (assignEach elts env).length = items.size) (hstar : (assignEach elts env).findIdx? (·.1) = none)
  (h : ∀ h', Heap.ExtBut s.heap.objs.size s.heap h' → wpAny (model prog w) A (assignInOrder ((assignEach elts env).map (·.2)) items.toList) Q E { s with heap := h' }) :
  wpAny (model prog w) A (assign (.Tuple elts x1 pos) env (.ref t)) Q E s := by
 rw [assign_Tuple]
 refine wpAny_bind (wpAny_standAt ?_)
 unfold unpack
 rw [hn, hstar]
 exact wpAny_bind (wpAny_holding (unpackItems_list hh ht h))
end
section
variable {X : Cx} {pos : Pos}
def gTupL (K : PySem.W.Frag) (n : Nat) (t : TGs) : TG := fun v σ H Q => match v with
 | .ref a => ∃ xs, (H a = some (.tup xs) ∨ H a = some (.lst xs)) ∧ xs.length = n ∧ t xs σ H Q
 | _ => False
theorem g_tupL {es : List Expr} {k : Nat} {t : TGs} (h : PGs X es t) (hc : X.calm = true := by kernel_rfl)
  (hst : (assignEach es X.env).findIdx? (·.1) = none := by kernel_rfl) : PG X (.Tuple es k pos) (gTupL X.K (assignEach es X.env).length t) := by
 intro pins s σ H v u Q I r hw
 unfold gTupL at hw
 split at hw
 ·obtain ⟨xs, h1 | h1, h2, hw⟩ := hw
  ·exact pg_tup hc h rfl hst pins s σ H _ u Q I r ⟨_, xs, rfl, SqT.of h1, h2, hw⟩
  ·cases r
   walk_at "B"
   obtain ⟨its, rv, p, hz⟩ := I.list (SqL.of h1)
   walk_at "C"
   refine assign_Tuple_list (I.ok.hd hc) p.isList (by simp [← rv.length, h2]) hst fun h' hx => ?_
   have I1 : Inv X pins σ H { s with heap := h' } := I.kept (t' := s.toks) fun b o e => hx b o (Nat.ne_of_lt (Heap.lt_size e)) e
   exact h pins _ σ H xs _ Q I1 (by simpa using rv) hw
 ·exact hw.elim
theorem op_isB : OpR X (compareOp .Is) (fun x y H Q => match x, y with
  | .bl a, .bl b => Q (.bl (a == b)) H
  | _, _ => False) := by
 intro pins s σ H x y v u Q I rx ry h
 split at h
 ·cases rx
  cases ry
  exact is_bool ⟨.bl _, H, I, rfl, h⟩
 ·exact h.elim
end
section
variable {X : Cx}
def tTru (t : TE) : TT := fun σ H Q => t σ H fun x H1 => match x with
 | .bl c => Q c H1
 | .ref p => ∃ xs, H1 p = some (.lst xs) ∧ Q (!xs.isEmpty) H1
 | _ => False
theorem t_tru {e : Expr} {t : TE} (h : PE X e t) (he : ∀ whole, isTrue e X.env whole = (do let v ← whole; standAt e.pos; holding [v] (truthy v)) := by intro _; kernel_rfl) : PT X e (tTru t) := by
 intro pins s σ H Q I hw
 refine isTrue_plain (thn (h pins s σ H _ I hw) fun v s1 ⟨x, H1, I1, r1, q1⟩ => ?_) (he _)
 refine tru_ok pins s1 σ H1 x v Q I1 r1 ?_
 dsimp only at q1
 split at q1
 ·exact ⟨_, rfl, q1⟩
 ·walk_at "B"
  obtain ⟨xs, h1, q⟩ := q1
  walk_at "C"
  exact ⟨_, .inl ⟨xs, SqL.of h1, rfl⟩, q⟩
 ·exact q1.elim
end
section
variable {X : Cx}
def rNeg : V → Hp → VK → Prop := fun x H Q => match x with
 | .int i => Q (.int (-i)) H
 | _ => False
theorem e_neg {a : Expr} {ta : TE} {pos : Pos} (ha : PE X a ta) : PE X (.UnaryOp .USub a pos) (tUn rNeg ta) := by
 refine pe_un (fun pins s σ H x v Q I rx q => ?_) ha
 unfold rNeg at q
 split at q
 ·exact un_neg pins s σ H _ v Q I rx ⟨_, rfl, q⟩
 ·exact q.elim
end
section
variable {H : Hp}
theorem code_inv {cv : V} {k n : Nat} {rows : Om.Rows} (h : DV H cv (codeD k n rows)) : ∃ a b ss, cv = .ref a ∧ H a = some (.tup [.int k, .int n, .ref b]) ∧ H b = some (.lst ss) ∧ DVs H ss (rows.map stateD) := by
 walk_at "B"
 obtain ⟨a, xs, rfl, ha, hx⟩ := h.tup_inv
 walk_at "C"
 cases hx with
 | cons h1 hx =>
  cases hx with
  | cons h2 hx =>
   cases hx with
   | cons h3 hx =>
    cases hx
    obtain rfl := h1.int_inv
    obtain rfl := h2.int_inv
    walk_at "B"
    obtain ⟨b, ss, rfl, hb, hs⟩ := h3.lst_inv
    walk_at "C"
    exact ⟨a, b, ss, rfl, ha, hb, hs⟩
theorem state_at {ss : List V} {rows : Om.Rows} (h : DVs H ss (rows.map stateD)) {s : Nat} {st : List (List Bool × Nat)} (hs : rows[s]? = some st) : ∃ q rs, ss[s]? = some (.ref q) ∧ H q = some (.lst rs) ∧ DVs H rs (st.map rowD) := by
 obtain ⟨x, hx, d⟩ := h.get (i := s) (d := stateD st) (by rw [List.getElem?_map, hs]; rfl)
 walk_at "B"
 obtain ⟨q, rs, rfl, hq, hr⟩ := d.lst_inv
 walk_at "C"
 exact ⟨q, rs, hx, hq, hr⟩
theorem row_at {rs : List V} {st : List (List Bool × Nat)} (h : DVs H rs (st.map rowD)) {l : Nat} {r : List Bool × Nat} (hl : st[l]? = some r) : ∃ p, rs[l]? = some (.ref p) ∧ H p = some (.tup [.str (bs r.1), .int (r.2 : Nat)]) := by
 obtain ⟨x, hx, d⟩ := h.get (i := l) (d := rowD r) (by rw [List.getElem?_map, hl]; rfl)
 walk_at "B"
 obtain ⟨p, xs, rfl, hp, hd⟩ := d.tup_inv
 walk_at "C"
 cases hd with
 | cons h1 hd =>
  cases hd with
  | cons h2 hd =>
   cases hd
   obtain rfl := h1.str_inv
   obtain rfl := h2.int_inv
   exact ⟨p, hx, hp⟩
end
end L2
namespace Om
end Om
end
section
set_option Elab.async false
set_option linter.all false
set_option maxRecDepth 100000
set_option maxHeartbeats 4000000
namespace L2
open PySem PySem.Spec PyProof.Rows
section
variable {X : Cx} {x : Str} {p pos : Pos} {e : Expr} {es : List Expr} {t : TA}
end
theorem bs_01 : ("01" : Str) = bs [false, true] := by decide +kernel
theorem g01 {H : Hp} {r : Int} (h0 : 0 ≤ r) (h1 : r < 2) : getV H (.str ("01" : Str)) r = some (.str (bs [decide (r = 1)])) := by
 rw [bs_01]
 refine gs (lB_) h0 ?_
 have : r = 0 ∨ r = 1 := by omega
 rcases this with rfl | rfl <;> rfl
theorem bs_ones (w : List Bool) : Txt.join ("" : Str) (w.map fun b => bs [b]) = bs w := by
 have e : (w.map fun b => bs [b]) = (w.map fun b => [b]).map bs := by rw [List.map_map]; rfl
 rw [e, bs_join]
 congr 1
 clear e
 induction w with
 | nil => rfl
 | cons a w ih => rw [List.map_cons, List.flatten_cons, ih]; rfl
end L2
end
section
set_option Elab.async false
set_option linter.all false
set_option maxRecDepth 100000
set_option maxHeartbeats 4000000
namespace L2
open PySem PySem.Spec PyProof.Rows
theorem seq_by {t u : TS} {D : Ends} {σ : St} {H : Hp} (M : St → Hp → Prop) (fin : ∀ σ' H', M σ' H' → u D σ' H') (h : (∀ σ' H', M σ' H' → u D σ' H') → t { D with nx := u D } σ H) : tSeq t u D σ H := h fin
def WS (ws : List (List Bool)) : HO := .lst (ws.map fun w => V.str (bs w))
theorem ws_len {ws : List (List Bool)} : (ws.map fun w => V.str (bs w)).length = ws.length := by simp
theorem ws_get {ws : List (List Bool)} {i : Nat} {w : List Bool} (h : ws[i]? = some w) : (ws.map fun w => V.str (bs w))[i]? = some (.str (bs w)) := by rw [List.getElem?_map, h]; rfl
theorem lay_all : ∀ {ds : List PyData}, (∀ d ∈ ds, d.canLay0 = true) → PyData.canLayAll0 ds = true
 | [], _ => rfl
 | d :: ds, h => by rw [PyData.canLayAll0, h d List.mem_cons_self, lay_all fun x hx => h x (List.mem_cons_of_mem _ hx)]; rfl
theorem depth_all {k : Nat} : ∀ {ds : List PyData}, (∀ d ∈ ds, d.depth ≤ k) → PyData.depthAll ds ≤ k
 | [], _ => Nat.zero_le _
 | d :: ds, h => by
  rw [PyData.depthAll]
  exact Nat.max_le.mpr ⟨h d List.mem_cons_self, depth_all fun x hx => h x (List.mem_cons_of_mem _ hx)⟩
theorem shaped_list {k : Nat} {ds : List PyData} (h1 : ∀ d ∈ ds, d.canLay0 = true) (h2 : ∀ d ∈ ds, d.depth ≤ k) (hk : k < 64) : SeqAt.shaped (.list ds) = true := by
 unfold SeqAt.shaped
 rw [Bool.and_eq_true]
 refine ⟨by rw [PyData.canLay0]; exact lay_all h1, decide_eq_true ?_⟩
 have := depth_all h2
 rw [PyData.depth]
 omega
theorem shaped_tup {k : Nat} {ds : List PyData} (h1 : ∀ d ∈ ds, d.canLay0 = true) (h2 : ∀ d ∈ ds, d.depth ≤ k) (hk : k < 64) : SeqAt.shaped (.tuple ds) = true := by
 unfold SeqAt.shaped
 rw [Bool.and_eq_true]
 refine ⟨by rw [PyData.canLay0]; exact lay_all h1, decide_eq_true ?_⟩
 have := depth_all h2
 rw [PyData.depth]
 omega
end L2
namespace L2
open PySem PySem.Spec PyProof.Rows
end L2
end
section
set_option Elab.async false
set_option linter.all false
set_option maxRecDepth 100000
set_option maxHeartbeats 4000000
namespace L2
open PySem PySem.Spec PyProof.Rows
section
variable {F : Addr → Prop} {st p : Addr} {G H H' : Hp} {o : HO}
end
end L2
end
section
set_option Elab.async false
set_option linter.all false
set_option maxRecDepth 100000
set_option maxHeartbeats 4000000
namespace L2
open PySem PySem.Spec PyProof.Rows
theorem DVs.of_get {H : Hp} : ∀ {xs : List V} {ds : List PyData}, xs.length = ds.length → (∀ (i : Nat) (d : PyData), ds[i]? = some d → ∃ x, xs[i]? = some x ∧ DV H x d) → DVs H xs ds
 | [], [], _, _ => .nil
 | [], _ :: _, h, _ => by simp at h
 | _ :: _, [], h, _ => by simp at h
 | x :: xs, d :: ds, h, k => by
  walk_at "B"
  obtain ⟨x', e, hd⟩ := k 0 d rfl
  walk_at "C"
  have : x = x' := Option.some.inj e
  subst this
  exact .cons hd (DVs.of_get (by simpa using h) fun i d' h' => by
   walk_at "B"
   obtain ⟨y, e1, e2⟩ := k (i + 1) d' (by simpa using h')
   walk_at "C"
   exact ⟨y, by simpa using e1, e2⟩)
def gTupN (n : Nat) (t : TGs) : TG := fun v σ H Q => match v with
 | .ref a => ∃ xs, (H a = some (.tup xs) ∨ H a = some (.lst xs)) ∧ xs.length = n ∧ t xs σ H Q
 | _ => False
theorem g_tupN {X : Cx} {pos : Pos} {es : List Expr} {k : Nat} {t : TGs} (h : PGs X es t) (hc : X.calm = true := by kernel_rfl)
  (hst : (assignEach es X.env).findIdx? (·.1) = none := by kernel_rfl) (hn : (assignEach es X.env).length = es.length := by kernel_rfl) : PG X (.Tuple es k pos) (gTupN es.length t) := by
 intro pins s σ H v u Q I r hw
 exact g_tupL h hc hst pins s σ H v u Q I r (by
  unfold gTupN at hw
  unfold gTupL
  split at hw
  ·exact hn ▸ hw
  ·exact hw.elim)
end L2
namespace Om
section
variable {ord : List Nat} {rows : Rows} {k n : Nat}
end
end Om
end
section
set_option Elab.async false
set_option linter.all false
set_option maxRecDepth 100000
set_option maxHeartbeats 4000000
namespace L2
open PySem PySem.Spec PyProof.Rows
def tupD (w : List Bool) (s : Nat) : PyData := .tuple [.str (bs w), .int (s : Nat)]
theorem tupD_lay (w : List Bool) (s : Nat) : (tupD w s).canLay0 = true := by
 unfold tupD
 rw [PyData.canLay0]
 refine lay_all fun d hd => ?_
 rcases List.mem_cons.mp hd with rfl | hd
 ·exact bs_ok w
 ·rw [List.mem_singleton.mp hd]; rfl
theorem ints_shaped (ns : List Int) : SeqAt.shaped (.list (ns.map PyData.int)) = true := by
 refine shaped_list (k := 0) (fun d hd => ?_) (fun d hd => ?_) (by decide)
 ·obtain ⟨n, _, rfl⟩ := List.mem_map.mp hd; rfl
 ·obtain ⟨n, _, rfl⟩ := List.mem_map.mp hd; exact Nat.le_refl _
theorem ints_DV {H : Hp} {p : Addr} {ns : List Int} (h : H p = some (.lst (ns.map V.int))) : DV H (.ref p) (.list (ns.map PyData.int)) := .lst h (DVs.ints ns)
end L2
end
section
set_option Elab.async false
set_option linter.all false
set_option maxRecDepth 100000
set_option maxHeartbeats 4000000
namespace L2
open PySem PySem.Spec PyProof.Rows
section
variable {X : Cx} {pins : List (Addr × Obj)} {σ : List (Option V)} {H : Hp} {s : Shared} {h' : Heap}
theorem Inv.turnedL {t' : Nat} {ch : List Addr} (I : Inv X pins σ H s) (hch : ∀ b ∈ ch, FpOk X pins H b) (k : ∀ b o, b ∉ ch → s.heap.get? b = some o → h'.get? b = some o) : Inv X pins σ H { s with heap := h', toks := t' } := by
 have nit : ∀ b u, H b = some u → b ∉ ch := fun b u e z => by rw [(hch b z).1] at e; cases e
 refine I.step (g' := s.gens) (d' := s.drawn) (ch := ch) (fun b hb => ?_) (fun b o _ _ hc e _ => k b o hc e) (fun b o _ _ hc e _ => ⟨o.slots, k b o hc e⟩) (fun _ _ _ _ n => n)
  (fun b o hc e => ⟨o, k b o hc e⟩) (fun _ _ e => e) (fun _ _ _ e => e) (fun b ps e => ⟨#[], by rw [e]; simp⟩) (fun m hm => ?_) (fun b u e => ?_) I.bare
 ·walk_at "B"
  obtain ⟨_, q1, _, q3, q4, q5⟩ := hch b hb
  walk_at "C"
  exact ⟨q3, q1, q4, q5⟩
 ·walk_at "B"
  obtain ⟨o, es, ep, ho, r⟩ := hm
  walk_at "C"
  exact ⟨o, es, ep, k _ o (fun z => (hch _ z).2.1 rfl) ho, r⟩
 ·refine (I.hok b u e).stay (fun c v hc q => k c v ?_ q) (fun _ q => q) fun _ _ q => q
  rcases hc with z | z
  ·rw [z]; exact nit b u e
  ·exact nit c _ z
theorem Inv.turnLaid {t' : Nat} {ch : List Addr} {a : Addr} {o' : HO} (I : Inv X pins σ H s) (hch : ∀ b ∈ ch, FpOk X pins H b) (k : ∀ b o, b ∉ ch → s.heap.get? b = some o → h'.get? b = some o)
  (hp : s.heap.objs.size ≤ a) (new : ObjOk X.prog X.w (upd H a o') h' a o') : Inv X pins σ (upd H a o') { s with heap := h', toks := t' } := by
 have nit : ∀ b u, H b = some u → b ∉ ch := fun b u e z => by rw [(hch b z).1] at e; cases e
 have ha : H a = none := I.hok.fresh hp
 have na : ∀ b o, s.heap.get? b = some o → b ≠ a := fun b o e z => absurd (Nat.lt_of_lt_of_le (Heap.lt_size e) hp) (by rw [z]; exact Nat.lt_irrefl _)
 refine I.step (g' := s.gens) (d' := s.drawn) (ch := ch) (fun b hb => ?_) (fun b o _ _ hc e _ => k b o hc e) (fun b o _ _ hc e _ => ⟨o.slots, k b o hc e⟩) (fun b o _ e n => by rw [upd_ne (na b o e)]; exact n)
  (fun b o hc e => ⟨o, k b o hc e⟩) (fun b xs e => by rw [upd_ne (ne_of_none e ha)]; exact e) (fun b o u e => by rw [upd_ne (ne_of_none e ha)]; exact e) (fun b ps e => ⟨#[], by rw [upd_ne (ne_of_none e ha), e]; simp⟩) (fun m hm => ?_) (fun b u e => ?_) I.bare
 ·walk_at "B"
  obtain ⟨_, q1, _, q3, q4, q5⟩ := hch b hb
  walk_at "C"
  exact ⟨q3, q1, q4, q5⟩
 ·walk_at "B"
  obtain ⟨o, es, ep, ho, r⟩ := hm
  walk_at "C"
  exact ⟨o, es, ep, k _ o (fun z => (hch _ z).2.1 rfl) ho, r⟩
 ·by_cases hb : b = a
  ·subst hb
   rw [upd_same] at e
   cases e
   exact new
  ·rw [upd_ne hb] at e
   refine (I.hok b u e).stay (fun c v hc q => k c v ?_ q) (fun c q => by rw [upd_ne (ne_of_none q ha)]; exact q) fun c xs q => by rw [upd_ne (ne_of_none q ha)]; exact q
   rcases hc with z | z
   ·rw [z]; exact nit b u e
   ·exact nit c _ z
end
def Ite (K : PySem.W.Frag) (a : Addr) : It :=
 ⟨fun i H => ∃ xs x, SqL K H a xs ∧ xs[i]? = some x, fun i H x H' => ∃ t y, (∀ xs, SqL K H a xs → xs[i]? = some y) ∧ H t = none ∧ x = .ref t ∧ H' = upd H t (.tup [.int (i : Nat), y]), fun i H => ∃ xs, SqL K H a xs ∧ xs.length ≤ i⟩
theorem turn_enum {P : Program} {w : World} {K : PySem.W.Frag} {es : List Expr} {k : Nat} {pos : Pos} (a it e : Addr) (hne : e ≠ it) : Turn P w K (.Tuple es k pos) (Ite K a) [e, it] e (fun i h => (∃ old, IsEnum h e it (i : Nat) old) ∧ h.IsListIter it a i) where
 mem := by simp
 obj := fun i h st b hb => by
  walk_at "B"
  obtain ⟨⟨old, he⟩, o, ho, c, d⟩ := st
  walk_at "C"
  have hb' : b = e ∨ b = it := by simpa using hb
  rcases hb' with rfl | rfl
  ·exact ⟨_, he, fun v z => by cases z⟩
  ·exact ⟨o, ho, fun v z => by rw [d] at z; cases z⟩
 keep := fun i h h' st k => ⟨let ⟨old, he⟩ := st.1; ⟨old, k e (by simp) _ he⟩, st.2.at fun o e => k it (by simp) o e⟩
 item := by
  intro X hP hw hK hc i pins s σ H E I hf st hg
  subst hP hw hK
  walk_at "B"
  obtain ⟨xs, x, hq, hx⟩ := hg
  obtain ⟨its, rv, p, hz⟩ := I.list hq
  obtain ⟨u, hu, ru⟩ := rv.get hx
  obtain ⟨⟨old, he⟩, hit⟩ := st
  walk_at "C"
  have helt : e < s.heap.objs.size := Heap.lt_size he
  have hilt : it < s.heap.objs.size := by obtain ⟨_, x, _⟩ := hit; exact Heap.lt_size x
  have fT := I.fresh
  refine wpAny_pyNext_enum_item he hit p.isList (x := u) (by simpa using hu) hne fun h' ho hit' hT hsz hk => ⟨_, rfl, ?_⟩
  refine wpAny_letOwnedTupleGo_enum ho fun h2 he2 hs2 => ?_
  have hs2 : Heap.SameBut e h' h2 := hs2
  have up : ∀ b o, b ∉ [e, it] → s.heap.get? b = some o → h2.get? b = some o := fun b o hb ee => by
   have h1 : b ≠ e := fun z => hb (by simp [z])
   have h2' : b ≠ it := fun z => hb (by simp [z])
   exact (hs2.2 b h1).trans (hk b o h1 h2' ee)
  have hT2 : h2.get? s.heap.objs.size = some { cls := .type "tuple", data := .seq #[.int (i : Nat) s.toks, u] } := (hs2.2 _ (Nat.ne_of_gt helt)).trans hT
  refine ⟨.ref s.heap.objs.size, upd H s.heap.objs.size (.tup [.int (i : Nat), x]), ?_, rfl, ⟨_, x, fun ys hy => by rw [I.list_inj hy hq]; exact hx, fT, rfl, rfl⟩, ⟨⟨_, by simpa using he2⟩, hit'.at fun o y => (hs2.2 it hne.symm).trans y⟩, fun b hb => ?_⟩
  ·exact I.turnLaid (t' := s.toks + 1) hf up (Nat.le_refl _) ⟨Nat.le_of_ble_eq_true rfl, [.int (i : Nat) s.toks, u], .cons ⟨_, rfl⟩ (.cons ru .nil), ⟨_, hT2, rfl, 0, rfl⟩⟩
  ·have hb' : b = e ∨ b = it := by simpa using hb
   rcases hb' with rfl | rfl
   ·rw [upd_ne (Nat.ne_of_lt helt)]; exact (hf _ hb).1
   ·rw [upd_ne (Nat.ne_of_lt hilt)]; exact (hf _ hb).1
 done := by
  intro X hP hw hK hc i pins s σ H E I hf st hg
  subst hP hw hK
  walk_at "B"
  obtain ⟨xs, hq, hx⟩ := hg
  obtain ⟨its, rv, p, hz⟩ := I.list hq
  walk_at "C"
  have hl := rv.length
  walk_at "B"
  obtain ⟨⟨old, he⟩, hit⟩ := st
  walk_at "C"
  exact wpAny_pyNext_enum_end (I.ok.hd hc) he hit p.isList (by simp; (clear hne hc hz; omega)) fun h' eb => ⟨rfl, I.turnedL (t' := s.toks) hf fun b o hb e' => eb b o (fun z => hb (by simp [z])) e'⟩
 self := fun _ _ _ _ _ st h => let ⟨_, he⟩ := st.1; wpAny_pyIter_enum he h
section
variable {X : Cx} {p pos tpos : Pos} {a b : Expr} {es : List Expr} {tk : Nat}
def iEnum (K : PySem.W.Frag) (ta : TA) : TI := fun σ H R => ta σ H fun vs H1 => match vs with
 | [.ref l] => (∃ xs, SqL K H1 l xs) ∧ R (Ite K l) H1
 | _ => False
theorem it_enum {ta : TA} {mg' : Str → Option Value} (hm : mg' "enumerate" = none) (hX : X.mg = mg') (ha : PA X [a] ta) (hg : gB X "enumerate" = true := by kernel_rfl) (hs : starEach [a] X.env = [(false, eval a X.env)] := by kernel_rfl) :
  PI X (.Tuple es tk tpos) (.Call (.Name "enumerate" p) [a] [] pos) (iEnum X.K ta) := by
 intro pins s σ H R I h
 refine Call_ (ld_blt I (gl_of hg) (by rw [hX]; exact hm) boot_enumerate (PyProof.Rows.callWith_type1 (thn (ha pos pins s σ H _ I h) fun us s1 ⟨vs, H1, I1, r1, q1⟩ => ?_) hs rfl))
 dsimp only at q1
 split at q1
 ·rename_i l
  walk_at "B"
  obtain ⟨⟨xs, hq⟩, q⟩ := q1
  obtain ⟨u, rfl, r⟩ := vals1 r1
  walk_at "C"
  cases r
  walk_at "B"
  obtain ⟨its, rv, pl, hz⟩ := I1.list hq
  walk_at "C"
  refine call_enumerate_list pl.isList fun h' hE hI hsz hk => wpAny_pyIter_enum hE ?_
  refine ⟨s1.heap.objs.size + 1, [s1.heap.objs.size + 1, s1.heap.objs.size], _, _, H1, rfl, I1.kept (t' := s1.toks) hk, turn_enum l s1.heap.objs.size (s1.heap.objs.size + 1) (Nat.succ_ne_self _), ⟨⟨_, hE⟩, hI⟩, fun c hc => ?_, q⟩
  have hb' : c = s1.heap.objs.size + 1 ∨ c = s1.heap.objs.size := by simpa using hc
  have hle : s1.heap.objs.size ≤ c := by rcases hb' with rfl | rfl <;> first | exact Nat.le_refl _ | exact Nat.le_add_right _ _
  exact I1.fpOk hle (I1.hok.fresh hle)
 ·exact q1.elim
structure ItPr (J : It) (n : Nat) (row : Nat → List V) (ok : Hp → Prop) : Prop where
 stop : ∀ H, ok H → J.stop n H
 go : ∀ i H, ok H → i < n → J.go i H
 yld : ∀ i H x H', ok H → i < n → J.yld i H x H' → ∃ t, H t = none ∧ x = .ref t ∧ H' = upd H t (.tup (row i))
theorem for_pr {J : It} {n : Nat} {row : Nat → List V} {ok : Hp → Prop} {g : TG} {tb : TS} {D : Ends} {σ : St} {H : Hp} (IO : ItPr J n row ok) (Pv : Nat → St → Hp → Prop) (h0 : Pv 0 σ H) (hl : ∀ i σ H, i ≤ n → Pv i σ H → ok H)
  (hs : ∀ i t σ H, i < n → Pv i σ H → H t = none → g (.ref t) σ (upd H t (.tup (row i))) fun σ2 H2 => tb { D with nx := Pv (i + 1), ct := Pv (i + 1), bk := D.nx } σ2 H2) (hd : ∀ σ H, Pv n σ H → D.nx σ H) :
  ∃ W : Nat → Nat → St → Hp → Prop, (∃ m, W 0 m σ H) ∧ ∀ i m σ H, W i m σ H →
   (J.stop i H ∧ D.nx σ H) ∨ (J.go i H ∧ ∃ N : St → Hp → Prop, (∀ σ' H', N σ' H' → ∃ m', m' < m ∧ W (i + 1) m' σ' H') ∧ ∀ x H', J.yld i H x H' → g x σ H' fun σ2 H2 => tb { D with nx := N, ct := N, bk := D.nx } σ2 H2) := by
 refine ⟨fun i m σ H => m = n - i ∧ i ≤ n ∧ Pv i σ H, ⟨n, by simp, Nat.zero_le _, h0⟩, ?_⟩
 intro i m σ H hh_
 walk_at "B"
 obtain ⟨rfl, hi, p⟩ := hh_
 walk_at "C"
 have q := hl i σ H hi p
 by_cases hlt : i < n
 ·refine .inr ⟨IO.go i H q hlt, Pv (i + 1), fun σ' H' p' => ⟨n - (i + 1), by omega, rfl, hlt, p'⟩, fun x H' y => ?_⟩
  walk_at "B"
  obtain ⟨t, ht, rfl, rfl⟩ := IO.yld i H x H' q hlt y
  walk_at "C"
  exact hs i t σ _ hlt p ht
 ·have e : i = n := by omega
  subst e
  exact .inl ⟨IO.stop H q, hd σ H p⟩
theorem it_enumP (K : PySem.W.Frag) (a : Addr) (xs : List V) : ItPr (Ite K a) xs.length (fun i => [.int (i : Nat), xs.getD i .non]) fun H => H a = some (.lst xs) :=
 ⟨fun H h => ⟨xs, SqL.of h, Nat.le_refl _⟩, fun i H h hi => ⟨xs, xs[i], SqL.of h, by simp [hi]⟩, fun i H x H' h hi y => by
  walk_at "B"
  obtain ⟨t, y', hq, ht, e1, e2⟩ := y
  walk_at "C"
  have hy := hq xs (SqL.of h)
  have e3 : xs.getD i .non = y' := by rw [List.getD_eq_getElem?_getD, hy]; rfl
  exact ⟨t, ht, e1, by rw [e2, e3]⟩⟩
end
end L2
end
section
set_option Elab.async false
set_option linter.all false
set_option maxRecDepth 100000
set_option maxHeartbeats 4000000
namespace L2
open PySem PySem.Spec PyProof.Rows
section
variable {X : Cx} {a b c d e o : Expr} {es : List Expr} {pos apos : Pos} {ta tb tc td te to : TE}
def tChainT (r r' : R2) (ta tb tc : TE) : TT := fun σ H Q => ta σ H fun x H1 => tb σ H1 fun y H2 => r x y H2 fun z H3 => match z with
 | .bl k => if k = true then tc σ H3 fun w' H4 => r' y w' H4 fun z' H5 => match z' with
   | .bl k' => Q k' H5
   | _ => False
  else Q false H3
 | _ => False
theorem t_chain {op op' : CmpOp} {r r' : R2} (ho : OpR X (compareOp op) r) (ho' : OpR X (compareOp op') r') (ha : PE X a ta) (hb : PE X b tb) (hc : PE X c tc)
  (hm : lastMarks [op, op'] [b, c] = false := by kernel_rfl) : PT X (.Compare a [op, op'] [b, c] pos) (tChainT r r' ta tb tc) := by
 intro pins s σ H Q I h
 refine isTrue_chain (thn (ha pins s σ H _ I h) fun v s1 ⟨x, H1, I1, r1, q1⟩ => test_link (thn (hb pins s1 σ H1 _ I1 q1) fun u s2 ⟨y, H2, I2, r2, q2⟩ =>
  thn (ho pins s2 σ H2 x y v u _ I2 r1 r2 q2) fun d s3 ⟨z, H3, I3, r3, q3⟩ => ?_)) hm
 dsimp only at q3
 split at q3
 ·rename_i k
  cases r3
  refine wpAny_truthy_bool ?_
  cases k with
  | false => exact ite_ff ⟨H3, I3, q3⟩
  | true =>
   refine ite_tt (test_last (thn (hc pins s3 σ H3 _ I3 q3) fun w' s4 ⟨z', H4, I4, r4, q4⟩ => thn (ho' pins s4 σ H4 y z' u w' _ I4 r2 r4 q4) fun d' s5 ⟨z5, H5, I5, r5, q5⟩ => ?_))
   walk_at "B"
   obtain ⟨k', e, q5⟩ := bu_of q5
   walk_at "C"
   subst e
   cases r5
   exact wpAny_truthy_bool ⟨H5, I5, q5⟩
 ·exact q3.elim
def rIsU : R2 := fun x y H Q => match y with
 | .non => Q (.bl (decide (x = .non))) H
 | .bl b => match x with
  | .bl a => Q (.bl (a == b)) H
  | _ => False
 | _ => False
theorem op_isU : OpR X (compareOp .Is) rIsU := (op_isN.or op_isB).of fun x y H Q q => by
 unfold rIsU at q
 split at q
 ·exact .inl ⟨rfl, q⟩
 ·split at q
  ·exact .inr q
  ·exact q.elim
 ·exact q.elim
def rIsNotU : R2 := fun x y H Q => match y with
 | .non => Q (.bl (!decide (x = .non))) H
 | _ => False
theorem op_isNotU : OpR X (compareOp .IsNot) rIsNotU := op_notN.of fun x y H Q q => by
 unfold rIsNotU at q
 split at q
 ·exact ⟨rfl, q⟩
 ·exact q.elim
theorem mt_count : MtM X "str.count" (fun x vs H Q => match x, vs with
  | .str z, [.str y] => Q (.int (Txt.count z y)) H
  | _, _ => False) := by
 intro pins s σ H x vs v us Q I rx rv h
 split at h
 ·obtain ⟨t, rfl⟩ := rx
  walk_at "B"
  obtain ⟨u, rfl, t', rfl⟩ := rv.one
  walk_at "C"
  exact SC.count ⟨.int _, H, I.tok _, ⟨_, rfl⟩, h⟩
 ·exact h.elim
def rCount : V → List V → Hp → VK → Prop := fun x vs H Q => match x, vs with
  | .str z, [.str y] => Q (.int (Txt.count z y)) H
  | _, _ => False
theorem m_count {cpos : Pos} {t : TA} (ho : PE X o to) (ha : PA X (e :: es) t)
  (hbase : attributeBase o "count" X.env (eval o X.env) = eval o X.env := by kernel_rfl)
  (hfew : ((backTo cpos (starEach (e :: es) X.env)).all (fun x => !x.1) && (backToKw cpos (keywordEach [] X.env)).all (fun x => x.1.isSome)
   && decide ((e :: es).length + ([] : List Keyword).length + (if ([] : List Keyword).isEmpty then 0 else 1) < 30)) = true := by kernel_rfl)
  (hline : (apos.endLine == cpos.line) = true := by kernel_rfl) (hs : starEach (e :: es) X.env = (false, eval e X.env) :: starEach es X.env := by kernel_rfl) (hplain : (backTo cpos (starEach es X.env)).any (·.1) = false := by kernel_rfl) :
  PE X (.Call (.Attribute o "count" apos) (e :: es) [] cpos) (tMt "str" rCount to t) := pe_mt PySem.F.plainAttrs_str PySem.F.slot_str_count PySem.F.type_str_count mt_count ho ha hbase hfew hline hs hplain
end
theorem comp_pick {J : It} {D : Addr} {xs : List V} {ok : Hp → Prop} {tt : TT} {te : TE} {Q : Hp → Prop} {v0 : Option V} {fr : St} {H : Hp} (IO : ItOk J xs ok) (f : V → Bool) (hz : xs.length ≤ sizeLine) (hok : ∀ o, ok (upd H D o))
  (ht : ∀ (i : Nat) (x : V) (ys : List V), xs[i]? = some x → ∀ C : Bool → Hp → Prop, C (f x) (upd H D (.lst ys)) → tt (some x :: fr) (upd H D (.lst ys)) C)
  (hs : ∀ (i : Nat) (x : V) (ys : List V), xs[i]? = some x → ∀ C : VK, C x (upd H D (.lst ys)) → te (some x :: fr) (upd H D (.lst ys)) C)
  (hd : Q (upd H D (.lst (xs.filter f)))) :
  ∃ W : Nat → Nat → St → Hp → List V → Prop, (∃ m, W 0 m (v0 :: fr) (upd H D (.lst [])) []) ∧ ∀ i m τ H2 ys, W i m τ H2 ys → H2 D = some (.lst ys) ∧
   ((J.stop i H2 ∧ Q H2) ∨ (J.go i H2 ∧ ys.length < sizeLine ∧ ∃ N : St → Hp → List V → Prop, (∀ τ' H' ys', N τ' H' ys' → ∃ m', m' < m ∧ W (i + 1) m' τ' H' ys') ∧ ∀ x H3, J.yld i H2 x H3 → gName 0 x τ H3 fun τ4 H4 => tt τ4 H4 fun b H5 =>
    if b = true then te τ4 H5 fun y H6 => H6 D = some (.lst ys) ∧ N τ4 (upd H6 D (.lst (ys ++ [y]))) (ys ++ [y])
    else N τ4 H5 ys)) := by
 refine comp_by IO (fun i τ H2 ys => (∃ v, τ = v :: fr) ∧ H2 = upd H D (.lst ys) ∧ ys = (xs.take i).filter f ∧ i ≤ xs.length) hz ⟨⟨v0, rfl⟩, rfl, rfl, Nat.zero_le _⟩ ?_ ?_ ?_
 ·intro i τ H2 ys hi hh_
  walk_at "B"
  obtain ⟨_, rfl, rfl, _⟩ := hh_
  walk_at "C"
  refine ⟨hok _, upd_same, ?_⟩
  have h1 := List.length_filter_le f (xs.take i)
  have h2 : (xs.take i).length ≤ i := by simp [List.length_take]; (clear hz hi h1; omega)
  (clear hz hi; omega)
 ·intro i x τ H2 ys hi hx hh_
  walk_at "B"
  obtain ⟨⟨v, rfl⟩, rfl, rfl, _⟩ := hh_
  walk_at "C"
  refine ht i x _ hx _ ?_
  have e : (xs.take (i + 1)).filter f = (xs.take i).filter f ++ (if f x = true then [x] else []) := by
   rw [List.take_add_one, hx, List.filter_append]
   congr 1
   show List.filter f [x] = _
   rw [List.filter_cons]
   rfl
  by_cases hf : f x = true
  ·rw [if_pos hf] at e ⊢
   refine hs i x _ hx _ ⟨upd_same, ⟨_, rfl⟩, upd_upd, ?_, hi⟩
   rw [e]
  ·rw [if_neg hf] at e ⊢
   refine ⟨⟨_, rfl⟩, rfl, ?_, hi⟩
   rw [e, List.append_nil]
 ·intro τ H2 ys hh_
  walk_at "B"
  obtain ⟨_, rfl, rfl, _⟩ := hh_
  walk_at "C"
  rw [List.take_length]
  exact hd
section
variable {H H' G : Hp} {a p : Addr} {o : HO}
theorem Same.own (h : Same G H) (hG : G p = none) : Same G (L2.upd H p o) := fun b u e => by rw [upd_ne (ne_of_none e hG)]; exact h b u e
end
end L2
end
section
set_option Elab.async false
set_option linter.all false
set_option maxRecDepth 100000
set_option maxHeartbeats 4000000
namespace L2
open PySem PySem.Spec PyProof.Rows
section
variable {G H0 H H' : Hp} {a p : Addr} {o : HO}
end
end L2
end
section
set_option Elab.async false
set_option linter.all false
set_option maxRecDepth 100000
set_option maxHeartbeats 4000000
namespace L2
open PySem PySem.Spec PyProof.Rows
section
variable {G H0 H : Hp} {L p : Addr} {vs : List V} {o : HO}
end
end L2
end
section
set_option Elab.async false
set_option linter.all false
set_option maxRecDepth 100000
set_option maxHeartbeats 4000000
namespace L2
open PySem PySem.Spec PyProof.Rows
section
variable {H H' : Hp} {a l : Addr}
end
section
variable {G H H2 H3 : Hp} {a T U L p : Addr} {xs ys : List Int} {vs : List V} {ps : List (Nat × Nat)} {m : Nat} {o : HO}
end
end L2
end
section
set_option Elab.async false
set_option linter.all false
set_option maxRecDepth 100000
set_option maxHeartbeats 4000000
namespace Om
end Om
namespace L2
open PySem PySem.Spec PyProof.Rows
end L2
end
section
set_option Elab.async false
set_option linter.all false
set_option maxRecDepth 100000
set_option maxHeartbeats 4000000
namespace L2
open PySem PySem.Spec PyProof.Rows
theorem rowD_lay (r : List Bool × Nat) : (rowD r).canLay0 = true := tupD_lay r.1 r.2
theorem rowD_depth (r : List Bool × Nat) : (rowD r).depth ≤ 1 := by
 rw [rowD, PyData.depth]
 have := depth_all (k := 0) (ds := [.str (bs r.1), .int (r.2 : Nat)]) (fun d hd => by
  rcases List.mem_cons.mp hd with rfl | hd
  ·exact Nat.le_refl _
  ·rw [List.mem_singleton.mp hd]; exact Nat.le_refl _)
 omega
theorem stateD_lay (st : List (List Bool × Nat)) : (stateD st).canLay0 = true := by
 rw [stateD, PyData.canLay0]
 refine lay_all fun d hd => ?_
 walk_at "B"
 obtain ⟨r, _, rfl⟩ := List.mem_map.mp hd
 walk_at "C"
 exact rowD_lay r
theorem stateD_depth (st : List (List Bool × Nat)) : (stateD st).depth ≤ 2 := by
 rw [stateD, PyData.depth]
 have := depth_all (k := 1) (ds := st.map rowD) (fun d hd => by
  walk_at "B"
  obtain ⟨r, _, rfl⟩ := List.mem_map.mp hd
  walk_at "C"
  exact rowD_depth r)
 omega
theorem states_lay (rows : Om.Rows) : PyData.canLay0 (.list (rows.map stateD)) = true := by
 rw [PyData.canLay0]
 refine lay_all fun d hd => ?_
 walk_at "B"
 obtain ⟨r, _, rfl⟩ := List.mem_map.mp hd
 walk_at "C"
 exact stateD_lay r
theorem states_depth (rows : Om.Rows) : PyData.depth (.list (rows.map stateD)) ≤ 3 := by
 rw [PyData.depth]
 have := depth_all (k := 2) (ds := rows.map stateD) (fun d hd => by
  walk_at "B"
  obtain ⟨r, _, rfl⟩ := List.mem_map.mp hd
  walk_at "C"
  exact stateD_depth r)
 omega
theorem codeD_lay (k n : Nat) (rows : Om.Rows) : (codeD k n rows).canLay0 = true := by
 rw [codeD, PyData.canLay0]
 refine lay_all fun d hd => ?_
 rcases List.mem_cons.mp hd with rfl | hd
 ·rfl
 rcases List.mem_cons.mp hd with rfl | hd
 ·rfl
 ·rw [List.mem_singleton.mp hd]; exact states_lay rows
theorem codeD_shaped (k n : Nat) (rows : Om.Rows) : SeqAt.shaped (codeD k n rows) = true := by
 refine shaped_tup (k := 3) (fun d hd => ?_) (fun d hd => ?_) (by decide)
 ·rcases List.mem_cons.mp hd with rfl | hd
  ·rfl
  rcases List.mem_cons.mp hd with rfl | hd
  ·rfl
  ·rw [List.mem_singleton.mp hd]; exact states_lay rows
 ·rcases List.mem_cons.mp hd with rfl | hd
  ·exact Nat.zero_le _
  rcases List.mem_cons.mp hd with rfl | hd
  ·exact Nat.zero_le _
  ·rw [List.mem_singleton.mp hd]; exact states_depth rows
theorem codeD_eq (k n : Nat) (rows : Om.Rows) : PyData.eqv (codeD k n rows) (codeD k n rows) = true := SeqAt.eqv_refl _ (codeD_lay k n rows)
section
variable {G H0 H : Hp} {p : Addr}
end
section
variable {G H H' : Hp} {a T U p : Addr} {xs ys : List Int} {m : Nat} {o : HO}
end
end L2
end
section
set_option Elab.async false
set_option linter.all false
set_option maxRecDepth 100000
set_option maxHeartbeats 4000000
namespace L2
open PySem
def DefIn (K : PySem.W.Frag) (x : Str) (st : Stmt) : Prop := ∃ (f : Addr) (oc : Value) (od an : Option Addr) (osl : Array (Option Value)) (kV dc pm cd ct : Value), PySem.W.nsIn K mainGlobals x = some (some (.ref f)) ∧
 K.lookup f = some ⟨oc, od, .func (PySem.W.fnOf x x (defArgs st) (defBody st) (defScope st) .none kV dc pm an cd ct), osl⟩ ∧ PySem.W.codeIn K cd x = true ∧ PySem.W.keepIn K (.ref f) = true
theorem DefIn.mk {K : PySem.W.Frag} {x : Str} {st : Stmt} {f : Addr} {oc : Value} {od an : Option Addr} {osl : Array (Option Value)} {kV dc pm cd ct : Value} (a : PySem.W.nsIn K mainGlobals x = some (some (.ref f)))
  (l : K.lookup f = some ⟨oc, od, .func (PySem.W.fnOf x x (defArgs st) (defBody st) (defScope st) .none kV dc pm an cd ct), osl⟩) (c : PySem.W.codeIn K cd x = true) (k : PySem.W.keepIn K (.ref f) = true) : DefIn K x st := ⟨f, oc, od, an, osl, kV, dc, pm, cd, ct, a, l, c, k⟩
theorem DefIn.fnX {K : PySem.W.Frag} {h : Heap} {mg : Str → Option Value} {x : Str} {st : Stmt} {ps : List Str} (D : DefIn K x st) (X : K.In h) (G : h.Ns mainGlobals mg)
  (hb : ∀ (kV doc pm : Value) (an : Option Addr) (cdv ct : Value) (us : List Value), us.length = ps.length → bindArgs (PySem.W.fnOf x x (defArgs st) (defBody st) (defScope st) .none kV doc pm an cdv ct) ⟨us, []⟩ = pure (ps.zip us)) : FnX K mg x st ps := by
 walk_at "B"
 obtain ⟨f, oc, od, an, osl, kV, dc, pm, cd, ct, h1, h2, h3, h4⟩ := D
 walk_at "C"
 have F := fun_mk (st := st) h2 h3 h4
 exact ⟨f, _, F, PySem.W.mg_of X G h1, F.binds hb⟩
end L2
end
section
set_option Elab.async false
set_option linter.all false
set_option maxRecDepth 100000
set_option maxHeartbeats 4000000
namespace L2
open PySem PySem.Spec PyProof.Rows
section
variable {X : Cx} {p pos : Pos} {e : Expr} {es : List Expr} {t : TA}
theorem vals_intsA : ∀ {ns : List Int} {us : List Value}, Vals (ns.map V.int) us → IntsAre us ns
 | [], us, r => by cases r; exact .nil
 | n :: ns, us, r => by
  cases r with
  | cons r1 r2 =>
   obtain ⟨t, rfl⟩ := r1
   exact .cons n t (vals_intsA r2)
theorem ints_vals : ∀ {us : List Value} {ns : List Int}, IntsAre us ns → Vals (ns.map V.int) us
 | _, _, .nil => .nil
 | _, _, .cons n t r => .cons ⟨t, rfl⟩ (ints_vals r)
def rSorted : List V → Hp → VK → Prop := fun vs H Q => match vs with
 | [.ref p] => ∃ ns : List Int, H p = some (.lst (ns.map V.int)) ∧ ns.length < 64 ∧ ∀ (l : Addr) (ns' : List Int), H l = none → ns'.Perm ns → ns'.Pairwise (· ≤ ·) → Q (.ref l) (upd H l (.lst (ns'.map V.int)))
 | _ => False
theorem call_sortedU : CallR X (.builtin "sorted") rSorted := by
 intro pins s σ H xs us Q I r h
 unfold rSorted at h
 split at h
 ·rename_i p
  walk_at "B"
  obtain ⟨ns, hH, hl, q⟩ := h
  obtain ⟨u, rfl, r1⟩ := vals1 r
  walk_at "C"
  cases r1
  walk_at "B"
  obtain ⟨z, its, n, rv, e⟩ := I.hok p _ hH
  walk_at "C"
  have hI := vals_intsA rv
  have hlen : its.length = ns.length := by have := rv.length; simpa using this.symm
  refine sorted_ints (vs := its) ⟨_, e, rfl, _, rfl⟩ hI (by omega) fun out ns' a1 a2 a3 => ?_
  obtain ⟨ep, he⟩ := sortedAll_at s.heap its out
  have hz : (ns'.map V.int).length ≤ sizeLine := by rw [List.length_map, a2.length_eq]; exact le_line (by omega)
  refine ⟨.ref (s.heap.objs.size + 1), upd H (s.heap.objs.size + 1) (.lst (ns'.map V.int)), I.laid (t' := s.toks) (fun b u hb => sortedAll_old hb) (Nat.le_succ _) ⟨hz, out.toList, ep, ints_vals a1, ?_⟩, rfl, q _ _ (I.hok.fresh (Nat.le_succ _)) a2 a3⟩
  exact he
 ·exact h.elim
theorem fn_sorted {mg' : Str → Option Value} (hm : mg' "sorted" = none) (hX : X.mg = mg') (ha : PA X (e :: es) t) (hg : gB X "sorted" = true := by kernel_rfl) (he : starEach (e :: es) X.env = (false, eval e X.env) :: starEach es X.env := by kernel_rfl) (hpl : (backTo pos (starEach es X.env)).any (·.1) = false := by kernel_rfl) :
  PE X (.Call (.Name "sorted" p) (e :: es) [] pos) (tCB rSorted t) := pe_callB call_sortedU (gl_of hg) (by rw [hX]; exact hm) PyProof.Rows.boot_sorted ha (he := he) (hpl := hpl)
def rInL (neg : Bool) : R2 := fun x y H Q => match x, y with
 | .int i, .ref p => ∃ ns : List Int, H p = some (.lst (ns.map V.int)) ∧ Q (.bl (if neg then !decide (i ∈ ns) else decide (i ∈ ns))) H
 | _, _ => False
theorem flat_ints (ns : List Int) : (ns.map V.int).all flatV = true := by
 rw [List.all_map, List.all_eq_true]
 intro x _
 rfl
theorem inV_ints (i : Int) (ns : List Int) : inV (.int i) (ns.map V.int) = decide (i ∈ ns) := by
 unfold inV
 rw [Bool.eq_iff_iff, List.any_eq_true, decide_eq_true_eq]
 constructor
 ·intro hh_
  walk_at "B"
  obtain ⟨x, hx, e⟩ := hh_
  walk_at "C"
  walk_at "B"
  obtain ⟨n, hn, rfl⟩ := List.mem_map.mp hx
  walk_at "C"
  have : n = i := by simpa [eqV] using e
  rw [← this]; exact hn
 ·intro h
  exact ⟨.int i, List.mem_map_of_mem h, by simp [eqV]⟩
theorem op_notInL : OpR X (compareOp .NotIn) (rInL true) := op_notIn_seq.of fun x y H Q q => by
 unfold rInL at q
 split at q
 ·walk_at "B"
  obtain ⟨ns, h, q⟩ := q
  walk_at "C"
  refine ⟨_, _, rfl, .inl (SqL.of h), rfl, flat_ints ns, ?_⟩
  simp only [if_true] at q ⊢
  rw [inV_ints]; exact q
 ·exact q.elim
end
end L2
end
section
set_option Elab.async false
set_option linter.all false
set_option maxRecDepth 100000
set_option maxHeartbeats 4000000
namespace L2
open PySem PySem.Spec PyProof.Rows
end L2
end
section
set_option Elab.async false
set_option linter.all false
set_option maxRecDepth 100000
set_option maxHeartbeats 4000000
namespace Om
end Om
namespace L2
open PySem PySem.Spec PyProof.Rows
section
variable {F : Addr → Prop} {H0 H H' : Hp} {a p : Addr} {ob : HO}
end
theorem eqvAll_ints : ∀ xs ys : List Int, PyData.eqvAll (xs.map PyData.int) (ys.map PyData.int) = decide (xs = ys)
 | [], [] => by simp [PyData.eqvAll]
 | [], _ :: _ => by simp [PyData.eqvAll]
 | _ :: _, [] => by simp [PyData.eqvAll]
 | x :: xs, y :: ys => by
  rw [List.map_cons, List.map_cons, PyData.eqvAll, eqvAll_ints xs ys, PyData.eqv, Bool.eq_iff_iff, Bool.and_eq_true]
  simp
theorem eqv_ints (xs ys : List Int) : PyData.eqv (.list (xs.map PyData.int)) (.list (ys.map PyData.int)) = decide (xs = ys) := by rw [PyData.eqv, eqvAll_ints]
end L2
end
section
set_option Elab.async false
set_option linter.all false
set_option maxRecDepth 100000
set_option maxHeartbeats 4000000
namespace L2
open PySem PySem.Spec PyProof.Rows
end L2
end
section
set_option Elab.async false
set_option linter.all false
set_option maxRecDepth 100000
set_option maxHeartbeats 4000000
namespace Om
section
variable {most : Int} {ts bits : List Int}
end
end Om
end
section
set_option Elab.async false
set_option linter.all false
set_option maxRecDepth 100000
set_option maxHeartbeats 4000000
namespace Om
section
variable {most : Int} {ts bits : List Int}
end
end Om
namespace L2
open PySem PySem.Spec PyProof.Rows
theorem comp_pr {J : It} {D : Addr} {n : Nat} {row : Nat → List V} {ok : Hp → Prop} {g : TG} {tt : TT} {te : TE} {Q : Hp → Prop} {τ : St} {H : Hp} (IO : ItPr J n row ok) (Pv : Nat → St → Hp → List V → Prop) (hz : n ≤ sizeLine) (h0 : Pv 0 τ H [])
  (hl : ∀ i τ H ys, i ≤ n → Pv i τ H ys → ok H ∧ H D = some (.lst ys) ∧ ys.length ≤ i)
  (hs : ∀ i t τ H ys, i < n → Pv i τ H ys → H t = none → g (.ref t) τ (upd H t (.tup (row i))) fun τ4 H4 => tt τ4 H4 fun b H5 =>
   if b = true then te τ4 H5 fun y H6 => H6 D = some (.lst ys) ∧ Pv (i + 1) τ4 (upd H6 D (.lst (ys ++ [y]))) (ys ++ [y]) else Pv (i + 1) τ4 H5 ys)
  (hd : ∀ τ H ys, Pv n τ H ys → Q H) :
  ∃ W : Nat → Nat → St → Hp → List V → Prop, (∃ m, W 0 m τ H []) ∧ ∀ i m τ H2 ys, W i m τ H2 ys → H2 D = some (.lst ys) ∧
   ((J.stop i H2 ∧ Q H2) ∨ (J.go i H2 ∧ ys.length < sizeLine ∧ ∃ N : St → Hp → List V → Prop, (∀ τ' H' ys', N τ' H' ys' → ∃ m', m' < m ∧ W (i + 1) m' τ' H' ys') ∧ ∀ x H3, J.yld i H2 x H3 → g x τ H3 fun τ4 H4 => tt τ4 H4 fun b H5 =>
    if b = true then te τ4 H5 fun y H6 => H6 D = some (.lst ys) ∧ N τ4 (upd H6 D (.lst (ys ++ [y]))) (ys ++ [y])
    else N τ4 H5 ys)) := by
 refine ⟨fun i m τ H ys => m = n - i ∧ i ≤ n ∧ Pv i τ H ys, ⟨n, by simp, Nat.zero_le _, h0⟩, ?_⟩
 intro i m τ H ys hh_
 walk_at "B"
 obtain ⟨rfl, hi, p⟩ := hh_
 walk_at "C"
 walk_at "B"
 obtain ⟨q, hD, hy⟩ := hl i τ H ys hi p
 walk_at "C"
 refine ⟨hD, ?_⟩
 by_cases hlt : i < n
 ·refine .inr ⟨IO.go i H q hlt, by (clear hi; omega), Pv (i + 1), fun τ' H' ys' p' => ⟨n - (i + 1), by (clear hz hi hy; omega), rfl, hlt, p'⟩, fun x H' y => ?_⟩
  walk_at "B"
  obtain ⟨t, ht, rfl, rfl⟩ := IO.yld i H x H' q hlt y
  walk_at "C"
  exact hs i t τ _ ys hlt p ht
 ·have e : i = n := by (clear hz hy; omega)
  subst e
  exact .inl ⟨IO.stop H q, hd τ H ys p⟩
end L2
end
section
set_option Elab.async false
namespace L2
open PySem PySem.Spec PyProof.Rows

section
variable {κ : Type} [DecidableEq κ]
def valV (kvs : List (κ × V)) (k : κ) : Option V := (kvs.find? fun kv => decide (kv.1 = k)).map (·.2)
def putK (kvs : List (κ × V)) (k : κ) (v : V) : List (κ × V) :=
 if (kvs.any fun kv => decide (kv.1 = k)) = true then kvs.map (fun kv => if kv.1 = k then (kv.1, v) else kv) else kvs ++ [(k, v)]
theorem valV_nil {k : κ} : valV ([] : List (κ × V)) k = none := rfl
theorem valV_pos {p : κ × V} {r : List (κ × V)} {k : κ} (e : p.1 = k) : valV (p :: r) k = some p.2 := by simp [valV, List.find?_cons, e]
theorem valV_neg {p : κ × V} {r : List (κ × V)} {k : κ} (e : ¬ p.1 = k) : valV (p :: r) k = valV r k := by simp [valV, List.find?_cons, e]
theorem valV_any (k : κ) : ∀ kvs : List (κ × V), (kvs.any fun kv => decide (kv.1 = k)) = (valV kvs k).isSome
 | [] => rfl
 | p :: r => by
  rw [List.any_cons]
  by_cases e : p.1 = k
  ·simp only [valV_pos e, decide_eq_true e, Bool.true_or, Option.isSome_some]
  ·rw [valV_neg e, decide_eq_false e, Bool.false_or]; exact valV_any k r
theorem valV_map (k j : κ) (y : V) : ∀ kvs : List (κ × V), valV (kvs.map fun kv => if kv.1 = k then (kv.1, y) else kv) j = (valV kvs j).map fun x => if j = k then y else x
 | [] => rfl
 | p :: r => by
  have ih := valV_map k j y r
  rw [List.map_cons]
  by_cases h : p.1 = k
  ·rw [if_pos h]
   by_cases e : p.1 = j
   ·rw [valV_pos (p := (p.1, y)) e, valV_pos e, Option.map_some, if_pos (e.symm.trans h)]
   ·rw [valV_neg (p := (p.1, y)) e, valV_neg e, ih]
  ·rw [if_neg h]
   by_cases e : p.1 = j
   ·rw [valV_pos (p := p) e, valV_pos e, Option.map_some, if_neg (fun z => h (e.trans z))]
   ·rw [valV_neg (p := p) e, valV_neg e, ih]
theorem valV_snoc (k j : κ) (y : V) : ∀ kvs : List (κ × V), valV kvs k = none → valV (kvs ++ [(k, y)]) j = if j = k then some y else valV kvs j
 | [], _ => by
  by_cases e : k = j
  ·rw [if_pos e.symm]; exact valV_pos (p := (k, y)) e
  ·rw [if_neg (fun z => e z.symm)]; exact valV_neg (p := (k, y)) e
 | p :: r, hn => by
  rw [List.cons_append]
  have hk : ¬ p.1 = k := fun z => by rw [valV_pos z] at hn; cases hn
  rw [valV_neg hk] at hn
  have ih := valV_snoc k j y r hn
  by_cases e : p.1 = j
  ·rw [valV_pos e, valV_pos e, if_neg (fun z => hk (e.trans z))]
  ·rw [valV_neg e, valV_neg e, ih]
theorem valV_put (kvs : List (κ × V)) (k j : κ) (y : V) : valV (putK kvs k y) j = if j = k then some y else valV kvs j := by
 unfold putK
 by_cases a : (kvs.any fun kv => decide (kv.1 = k)) = true
 ·rw [if_pos a, valV_map]
  rw [valV_any] at a
  by_cases e : j = k
  ·obtain ⟨x, hx⟩ := Option.isSome_iff_exists.mp a
   rw [if_pos e, e, hx, Option.map_some, if_pos rfl]
  ·rw [if_neg e]
   cases valV kvs j with
   | none => rfl
   | some x => rw [Option.map_some, if_neg e]
 ·rw [if_neg a]
  refine valV_snoc k j y kvs ?_
  rw [valV_any] at a
  cases q : valV kvs k with
  | none => rfl
  | some x => rw [q] at a; exact (a rfl).elim
theorem length_putK (kvs : List (κ × V)) (k : κ) (v : V) : (putK kvs k v).length ≤ kvs.length + 1 := by
 unfold putK
 split
 ·rw [List.length_map]; omega
 ·rw [List.length_append, List.length_cons, List.length_nil]; omega
theorem putK_new {kvs : List (κ × V)} {k : κ} (v : V) (h : valV kvs k = none) : putK kvs k v = kvs ++ [(k, v)] := by
 unfold putK
 rw [valV_any, h]
 exact if_neg (by decide)

theorem RelO.isSome_eq {o : Option V} {u : Option Value} (r : RelO o u) : o.isSome = u.isSome := by
 cases o with
 | none => cases u with
  | none => rfl
  | some _ => exact (show False from r).elim
 | some _ => cases u with
  | none => exact (show False from r).elim
  | some _ => rfl
theorem KV.val {kvs : List (κ × V)} {vs : List (κ × Value)} (r : KV kvs vs) (k : κ) : RelO (valV kvs k) (valueAt vs k) := by
 unfold KV at r
 induction r with
 | nil => exact True.intro
 | @cons p q ps qs h t ih =>
  obtain ⟨h1, h2⟩ := h
  by_cases e : p.1 = k
  ·have e' : q.1 = k := h1.symm.trans e
   have b : valueAt (q :: qs) k = some q.2 := by simp [valueAt, List.find?_cons, e']
   rw [valV_pos e, b]; exact h2
  ·have e' : ¬ q.1 = k := fun z => e (h1.trans z)
   have b : valueAt (q :: qs) k = valueAt qs k := by simp [valueAt, List.find?_cons, e']
   rw [valV_neg e, b]; exact ih
theorem KV.any {kvs : List (κ × V)} {vs : List (κ × Value)} (r : KV kvs vs) (k : κ) : (kvs.any fun kv => decide (kv.1 = k)) = vs.any fun kv => decide (kv.1 = k) := by
 unfold KV at r
 induction r with
 | nil => rfl
 | cons h t ih => rw [List.any_cons, List.any_cons, ih, h.1]
theorem KV.repl {kvs : List (κ × V)} {vs : List (κ × Value)} (r : KV kvs vs) (k : κ) {y : V} {u : Value} (ry : RelV y u) :
  KV (kvs.map fun kv => if kv.1 = k then (kv.1, y) else kv) (vs.map fun kv => if kv.1 = k then (kv.1, u) else kv) := by
 unfold KV at r ⊢
 induction r with
 | nil => exact .nil
 | @cons p q ps qs h t ih =>
  rw [List.map_cons, List.map_cons]
  refine .cons ?_ ih
  obtain ⟨h1, h2⟩ := h
  by_cases e : p.1 = k
  ·rw [if_pos e, if_pos (h1.symm.trans e)]; exact ⟨h1, ry⟩
  ·rw [if_neg e, if_neg (fun z => e (h1.trans z))]; exact ⟨h1, h2⟩
theorem KV.put {kvs : List (κ × V)} {vs : List (κ × Value)} (r : KV kvs vs) (k : κ) {y : V} {u : Value} (ry : RelV y u) : KV (putK kvs k y) (stored vs k u) := by
 unfold putK stored
 rw [r.any k]
 by_cases e : (vs.any fun kv => decide (kv.1 = k)) = true
 ·rw [if_pos e, if_pos e]; exact r.repl k ry
 ·rw [if_neg e, if_neg e]; exact Paired.snoc r ⟨rfl, ry⟩
theorem KV.length {kvs : List (κ × V)} {vs : List (κ × Value)} (r : KV kvs vs) : kvs.length = vs.length := Paired.length r
end


theorem kV_is {P : Program} {w : World} {k : Key} {u : Value} (r : RelV (kV k) u) : (mixKind P w).is k u = true := by
 cases k with
 | inl i => obtain ⟨t, e⟩ := (show ∃ t, u = Value.int i t from r); subst e; exact mixKind_int P w i t
 | inr x => obtain ⟨t, e⟩ := (show ∃ t, u = Value.str x t from r); subst e; exact mixKind_str P w x t
theorem items_are {P : Program} {w : World} : ∀ {ks : List Key} {us : List Value}, Vals (ks.map kV) us → ItemsAre (mixKind P w) ks us
 | [], _, r => by rw [List.map_nil] at r; cases r; exact .nil
 | k :: ks, _, r => by
  rw [List.map_cons] at r
  cases r with
  | cons h t => exact .cons (kV_is h) (items_are t)

abbrev KT (H : Hp) : List (List Key × V) → List (List Key × Addr × Value) → Prop := Paired fun p q => p.1 = q.1 ∧ H q.2.1 = some (.tup (p.1.map kV)) ∧ RelV p.2 q.2.2
theorem KT.val {H : Hp} {kvs : List (List Key × V)} {xs : List (List Key × Addr × Value)} (r : KT H kvs xs) (k : List Key) : RelO (valV kvs k) ((atKey xs k).map (·.2)) := by
 induction r with
 | nil => exact True.intro
 | @cons p q ps qs h t ih =>
  walk_at "B"
  obtain ⟨h1, _, h2⟩ := h
  walk_at "C"
  by_cases e : p.1 = k
  ·have e' : q.1 = k := h1.symm.trans e
   have b : atKey (q :: qs) k = some q.2 := by simp [atKey, List.find?_cons, e']
   rw [valV_pos e, b]; exact h2
  ·have e' : ¬ q.1 = k := fun z => e (h1.trans z)
   have b : atKey (q :: qs) k = atKey qs k := by simp [atKey, List.find?_cons, e']
   rw [valV_neg e, b]; exact ih
theorem KT.repl {H : Hp} {kvs : List (List Key × V)} {xs : List (List Key × Addr × Value)} (r : KT H kvs xs) (k : List Key) {y : V} {u : Value} (ry : RelV y u) :
  KT H (kvs.map fun kv => if kv.1 = k then (kv.1, y) else kv) (xs.map (putAt k u)) := by
 induction r with
 | nil => exact .nil
 | @cons p q ps qs h t ih =>
  rw [List.map_cons, List.map_cons]
  refine .cons ?_ ih
  walk_at "B"
  obtain ⟨h1, h2, h3⟩ := h
  walk_at "C"
  unfold putAt
  by_cases e : p.1 = k
  ·rw [if_pos e, if_pos (h1.symm.trans e)]; exact ⟨h1, h2, ry⟩
  ·rw [if_neg e, if_neg (fun z => e (h1.trans z))]; exact ⟨h1, h2, h3⟩
theorem KT.put {H : Hp} {kvs : List (List Key × V)} {xs : List (List Key × Addr × Value)} (r : KT H kvs xs) (k : List Key) {b : Addr} {y : V} {u : Value} (hb : H b = some (.tup (k.map kV))) (ry : RelV y u) :
  KT H (putK kvs k y) (storedH xs k b u) := by
 have e : (kvs.any fun kv => decide (kv.1 = k)) = (atKey xs k).isSome := by
  rw [valV_any, (r.val k).isSome_eq, Option.isSome_map]
 unfold putK storedH
 rw [e]
 by_cases q : (atKey xs k).isSome = true
 ·rw [if_pos q, if_pos q]; exact r.repl k ry
 ·rw [if_neg q, if_neg q]; exact Paired.snoc r ⟨rfl, hb, ry⟩
theorem KT.keeps {H H' : Hp} {kvs : List (List Key × V)} {xs : List (List Key × Addr × Value)} (r : KT H kvs xs) (ht : ∀ b ys, H b = some (.tup ys) → H' b = some (.tup ys)) : KT H' kvs xs :=
 Paired.mapP r fun _ _ z => ⟨z.1, ht _ _ z.2.1, z.2.2⟩

section
variable {P : Program} {w : World} {H : Hp} {h : Heap} {a : Addr}
theorem rd_of {u : HO} (ok : HOk P w H h) (e : Rd H a u) : ObjOk P w H h a u := e.ok ok
theorem dk_rd {kvs : List (Key × V)} (ok : HOk P w H h) (e : Rd H a (.dK kvs)) : kvs.length ≤ sizeLine ∧ (a == sysModules) = false ∧ ∃ vs, KV kvs vs ∧ h.DictOf (mixKind P w) a vs :=
 show ObjOk P w H h a (.dK kvs) from rd_of ok e
theorem dk_of {kvs : List (Key × V)} (ok : HOk P w H h) (e : H a = some (.dK kvs)) : kvs.length ≤ sizeLine ∧ (a == sysModules) = false ∧ ∃ vs, KV kvs vs ∧ h.DictOf (mixKind P w) a vs := dk_rd ok (.inl e)
theorem key_of {ks : List Key} (ok : HOk P w H h) (e : H a = some (.tup (ks.map kV))) : (tupleKind (mixKind P w)).is h ks a := by
 walk_at "B"
 obtain ⟨_, its, r, o, h1, h2, n, h3⟩ := (show ObjOk P w H h a (.tup (ks.map kV)) from ok a _ e)
 walk_at "C"
 exact ⟨o, its.toArray, n, h1, h2, h3, by simpa using items_are r⟩
theorem dt_rd {kvs : List (List Key × V)} (ok : HOk P w H h) (e : Rd H a (.dT kvs)) : kvs.length ≤ sizeLine ∧ (a == sysModules) = false ∧
  ∃ xs, KT H kvs xs ∧ h.DictOfH (tupleKind (mixKind P w)) a xs := by
 walk_at "B"
 obtain ⟨z, y, xs, r, o, es, ep, h1, h2, h3, h4, h5⟩ := (show ObjOk P w H h a (.dT kvs) from rd_of ok e)
 walk_at "C"
 refine ⟨z, y, xs, r, o, es, ep, h1, h2, h3, h4, fun x hx => ?_, h5⟩
 have all : ∀ {l : List (List Key × V)} {m : List (List Key × Addr × Value)}, KT H l m → ∀ x ∈ m, (tupleKind (mixKind P w)).is h x.1 x.2.1 := by
  intro l m q
  induction q with
  | nil => intro x hx; exact nomatch hx
  | @cons p q ps qs hq t ih =>
   intro x hx
   rcases List.mem_cons.mp hx with e | hx
   ·subst e
    exact key_of ok (by rw [← hq.1]; exact hq.2.1)
   ·exact ih x hx
 exact all r x hx
theorem dt_of {kvs : List (List Key × V)} (ok : HOk P w H h) (e : H a = some (.dT kvs)) : kvs.length ≤ sizeLine ∧ (a == sysModules) = false ∧
  ∃ xs, KT H kvs xs ∧ h.DictOfH (tupleKind (mixKind P w)) a xs := dt_rd ok (.inl e)
end

def DGet (H : Hp) (a : Addr) (y : V) (r : Option V) : Prop :=
 (∃ kvs k, Rd H a (.dK kvs) ∧ y = kV k ∧ r = valV kvs k) ∨ ∃ kvs k b, Rd H a (.dT kvs) ∧ y = .ref b ∧ H b = some (.tup (k.map kV)) ∧ r = valV kvs k
def DPut (H : Hp) (a : Addr) (y v : V) (H' : Hp) : Prop :=
 (∃ kvs k, H a = some (.dK kvs) ∧ y = kV k ∧ kvs.length < sizeLine ∧ H' = upd H a (.dK (putK kvs k v))) ∨
 ∃ kvs k b, H a = some (.dT kvs) ∧ y = .ref b ∧ H b = some (.tup (k.map kV)) ∧ kvs.length < sizeLine ∧ H' = upd H a (.dT (putK kvs k v))
theorem DGet.k {H : Hp} {a : Addr} {kvs : List (Key × V)} {k : Key} (e : H a = some (.dK kvs)) : DGet H a (kV k) (valV kvs k) := .inl ⟨kvs, k, .inl e, rfl, rfl⟩
theorem DGet.t {H : Hp} {a b : Addr} {kvs : List (List Key × V)} {k : List Key} (e : H a = some (.dT kvs)) (eb : H b = some (.tup (k.map kV))) : DGet H a (.ref b) (valV kvs k) := .inr ⟨kvs, k, b, .inl e, rfl, eb, rfl⟩
theorem DPut.k {H : Hp} {a : Addr} {kvs : List (Key × V)} {k : Key} {v : V} (e : H a = some (.dK kvs)) (hl : kvs.length < sizeLine) : DPut H a (kV k) v (upd H a (.dK (putK kvs k v))) := .inl ⟨kvs, k, e, rfl, hl, rfl⟩
theorem DPut.t {H : Hp} {a b : Addr} {kvs : List (List Key × V)} {k : List Key} {v : V} (e : H a = some (.dT kvs)) (eb : H b = some (.tup (k.map kV))) (hl : kvs.length < sizeLine) :
  DPut H a (.ref b) v (upd H a (.dT (putK kvs k v))) := .inr ⟨kvs, k, b, e, rfl, eb, hl, rfl⟩


section
variable {X : Cx} {pins : List (Addr × Obj)} {σ : St} {H : Hp} {s : Shared} {a : Addr} {y v : V} {u r : Value} {o : Option V} {A : Around} {E : Value → Shared → Prop}

theorem Inv.big (I : Inv X pins σ H s) : sysModules < s.heap.objs.size := by
 have h : mainGlobals < s.heap.objs.size := (I.mod.glob.keeps I.bk).lt
 exact Nat.lt_trans (by decide) h

theorem d_getItem {Q : Value → Shared → Prop} (hu : A.units + 1 < cLine) (I : Inv X pins σ H s) (g : DGet H a y (some v)) (ry : RelV y u) (h : ∀ w' s', Inv X pins σ H s' → RelV v w' → Q w' s') :
  wpAny (model X.prog X.w) A (getItem (.ref a) u) Q E s := by
 rcases g with ⟨kvs, k, e, ey, l⟩ | ⟨kvs, k, b, e, ey, eb, l⟩
 ·subst ey
  walk_at "B"
  obtain ⟨z, hd, vs, rel, dd⟩ := dk_rd I.hok e
  obtain ⟨w', hw, rw'⟩ := RelO.some_of (v := v) (o := valueAt vs k) (by rw [l]; exact rel.val k)
  walk_at "C"
  exact wpAny_getItem_of (kV_is ry) dd.mapOf hw (h w' _ (I.tok _) rw')
 ·subst ey
  cases (show u = Value.ref b from ry)
  walk_at "B"
  obtain ⟨z, hd, xs, rel, dd⟩ := dt_rd I.hok e
  obtain ⟨w', hw, rw'⟩ := RelO.some_of (v := v) (o := (atKey xs k).map (·.2)) (by rw [l]; exact rel.val k)
  obtain ⟨p, hp, hp2⟩ := Option.map_eq_some_iff.mp hw
  walk_at "C"
  refine wpAny_getItem_heap (tupleKind_room_in1 hu) (key_of I.hok eb) dd hp ?_
  rw [hp2]
  exact h w' _ (I.tok _) rw'
theorem d_notIn {Q : Value → Shared → Prop} (hu : A.units + 1 < cLine) (I : Inv X pins σ H s) (g : DGet H a y o) (ry : RelV y u) (h : ∀ s', Inv X pins σ H s' → Q (.bool (!o.isSome)) s') :
  wpAny (model X.prog X.w) A (compareOp .NotIn u (.ref a)) Q E s := by
 rcases g with ⟨kvs, k, e, ey, l⟩ | ⟨kvs, k, b, e, ey, eb, l⟩
 ·subst ey
  walk_at "B"
  obtain ⟨z, hd, vs, rel, dd⟩ := dk_rd I.hok e
  walk_at "C"
  refine wpAny_notIn_of (kV_is ry) hd dd.mapOf ?_
  rw [← (rel.val k).isSome_eq, ← l]
  exact h _ (I.tok _)
 ·subst ey
  cases (show u = Value.ref b from ry)
  walk_at "B"
  obtain ⟨z, hd, xs, rel, dd⟩ := dt_rd I.hok e
  walk_at "C"
  refine wpAny_notIn_heap (tupleKind_room_in1 hu) (key_of I.hok eb) hd dd ?_
  have q := (rel.val k).isSome_eq
  rw [Option.isSome_map] at q
  rw [← q, ← l]
  exact h _ (I.tok _)
theorem d_write {h' : Heap} {t' : Nat} {ob : HO} (I : Inv X pins σ H s) (mu : Mut (H a)) (hs : Heap.SameBut a s.heap h') (he : ∃ q, h'.get? a = some q) (new : ObjOk X.prog X.w (upd H a ob) h' a ob) :
  Inv X pins σ (upd H a ob) { s with heap := h', toks := t' } :=
 I.write (x := a) (e := a) mu (.inl rfl) (fun b q hb z => (hs.2 b hb).trans z) he new
theorem dk_new {P : Program} {w : World} {H' : Hp} {h' : Heap} {kvs : List (Key × V)} {vs : List (Key × Value)} (z : kvs.length ≤ sizeLine) (hd : (a == sysModules) = false) (rel : KV kvs vs) (dd : h'.DictOf (mixKind P w) a vs) :
  ObjOk P w H' h' a (.dK kvs) := ⟨z, hd, vs, rel, dd⟩
theorem d_setItem {H' : Hp} {Q : Unit → Shared → Prop} (hu : A.units + 1 < cLine) (I : Inv X pins σ H s) (g : DPut H a y v H') (ry : RelV y u) (rv : RelV v r) (h : ∀ s', Inv X pins σ H' s' → Q () s') :
  wpAny (model X.prog X.w) A (setItem (.ref a) u r) Q E s := by
 rcases g with ⟨kvs, k, e, ey, l, eH⟩ | ⟨kvs, k, b, e, ey, eb, l, eH⟩
 ·subst ey eH
  walk_at "B"
  obtain ⟨z, hd, vs, rel, dd⟩ := dk_of I.hok e
  walk_at "C"
  have hz : vs.length ≤ sizeLine := by rw [← rel.length]; exact z
  have hl : (putK kvs k v).length ≤ sizeLine := by have := length_putK kvs k v; (clear hu z hd hz; omega)
  refine wpAny_setItem_pairs (hsz := hz) (kV_is ry) dd fun h' dd' hs => h _ ?_
  have he : ∃ q, h'.get? a = some q := let ⟨q, _, _, hq, _⟩ := dd'; ⟨q, hq⟩
  exact d_write I (by rw [e]; exact True.intro) hs he (dk_new hl hd (rel.put k rv) dd')
 ·subst ey eH
  cases (show u = Value.ref b from ry)
  walk_at "B"
  obtain ⟨z, hd, xs, rel, dd⟩ := dt_of I.hok e
  walk_at "C"
  have hz : xs.length ≤ sizeLine := by rw [← Paired.length rel]; exact z
  have hl : (putK kvs k v).length ≤ sizeLine := by have := length_putK kvs k v; (clear hu z hd hz; omega)
  refine wpAny_setItem_heap (hsz := hz) (tupleKind_room_in1 hu) (key_of I.hok eb) dd fun h' dd' hs => h _ ?_
  walk_at "B"
  obtain ⟨q, es, ep, hq, h2, h3, h4, _, h5⟩ := dd'
  walk_at "C"
  refine d_write I (by rw [e]; exact True.intro) hs ⟨q, hq⟩ ⟨hl, hd, _, (rel.put k eb rv).keeps fun c ys ec => ?_, q, es, ep, hq, h2, h3, h4, h5⟩
  rw [upd_ne (ne_of ec e (fun z => nomatch z))]
  exact ec
end

section
variable {X : Cx} {pins : List (Addr × Obj)} {σ : St} {H : Hp} {s : Shared} {a : Addr} {kvs : List (Key × V)} {k : Key} {u : Value} {A : Around} {E : Value → Shared → Prop}
end


theorem dict_typeIs {X : Cx} {pins : List (Addr × Obj)} {σ : St} {H : Hp} {s : Shared} {a : Addr} {y : V} {o : Option V} (I : Inv X pins σ H s) (g : DGet H a y o) : s.TypeIs (.ref a) "dict" := by
 rcases g with ⟨kvs, k, e, _, _⟩ | ⟨kvs, k, b, e, _, _, _⟩
 ·walk_at "B"
  obtain ⟨_, _, vs, _, dd⟩ := dk_rd I.hok e
  walk_at "C"
  exact dd.typeIs
 ·walk_at "B"
  obtain ⟨_, _, xs, _, dd⟩ := dt_rd I.hok e
  walk_at "C"
  exact dd.typeIs
section
variable {X : Cx} {o i e value : Expr} {pos pos' tpos : Pos} {td ty tv : TE}
end


theorem dk_empty {P : Program} {w : World} {H : Hp} (h : Heap) (hb : sysModules < h.objs.size) : ObjOk P w H (h.push { cls := .type "dict", data := .dict #[] }) h.objs.size (.dK []) :=
 ⟨Nat.zero_le _, beq_eq_false_iff_ne.mpr (Ne.symm (Nat.ne_of_lt hb)), [], .nil, Heap.DictOf.new h⟩
theorem dt_empty {P : Program} {w : World} {H : Hp} (h : Heap) (hb : sysModules < h.objs.size) : ObjOk P w H (h.push { cls := .type "dict", data := .dict #[] }) h.objs.size (.dT []) :=
 ⟨Nat.zero_le _, beq_eq_false_iff_ne.mpr (Ne.symm (Nat.ne_of_lt hb)), [], .nil, _, #[], 0, Heap.get?_push_size _ rfl, ⟨rfl, rfl, rfl⟩, rfl, rfl, List.nodup_nil⟩
def tDNewK : TE := fun _ H Q => ∀ p, H p = none → Q (.ref p) (upd H p (.dK []))
section
variable {X : Cx} {pos : Pos}
theorem pe_dnewK : PE X (.Dict [] [] pos) tDNewK := fun pins s σ H Q I h =>
 wpAny_Dict_empty ⟨.ref s.heap.objs.size, _, I.laid (a := s.heap.objs.size) (o := .dK []) (t' := s.toks) (fun _ _ q => Heap.get?_push_of_some _ q) (Nat.le_refl _) (dk_empty s.heap I.big), rfl, h _ (I.hok.fresh (Nat.le_refl _))⟩
end

def tPairs : List (TE × TE) → St → Hp → (List (V × V) → Hp → Prop) → Prop
 | [], _, H, Q => Q [] H
 | (tk, tv) :: r, σ, H, Q => tk σ H fun x H1 => tv σ H1 fun y H2 => tPairs r σ H2 fun ps H3 => Q ((x, y) :: ps) H3
abbrev VV : List (V × V) → List (Value × Value) → Prop := Paired fun p q => RelV p.1 q.1 ∧ RelV p.2 q.2
def PPs (X : Cx) (pos : Pos) (keys : List (Option Expr)) (values : List Expr) (trs : List (TE × TE)) : Prop :=
 ∀ (pins : List (Addr × Obj)) (s : Shared) (σ : St) (H : Hp) (Q : List (V × V) → Hp → Prop), Inv X pins σ H s → tPairs trs σ H Q →
  wpAny (model X.prog X.w) X.A (evalPairs (pairTrees keys values X.env pos)) (fun vs s' => ∃ ps H', Inv X pins σ H' s' ∧ VV ps vs ∧ Q ps H') X.xe s
theorem pps_nil {X : Cx} {pos : Pos} : PPs X pos [] [] [] := fun pins s σ H Q I h => pairTrees_nil_walk ⟨[], H, I, .nil, h⟩
theorem pps_cons {X : Cx} {pos : Pos} {k v : Expr} {ks : List (Option Expr)} {vs : List Expr} {tk tv : TE} {trs : List (TE × TE)} (hk : PE X k tk) (hv : PE X v tv) (hr : PPs X pos ks vs trs) :
  PPs X pos (some k :: ks) (v :: vs) ((tk, tv) :: trs) := fun pins s σ H Q I h =>
 pairTrees_cons_walk (thn (hk pins s σ H _ I h) fun u s1 ⟨x, H1, I1, rx, q1⟩ => thn (hv pins s1 σ H1 _ I1 q1) fun w2 s2 ⟨y, H2, I2, ry, q2⟩ =>
  thn (hr pins s2 σ H2 _ I2 q2) fun ws s3 ⟨ps, H3, I3, rel, q3⟩ => ⟨(x, y) :: ps, H3, I3, .cons ⟨rx, ry⟩ rel, q3⟩)

def mergeK (kvs more : List (Key × V)) : List (Key × V) := more.foldl (fun acc kv => putK acc kv.1 kv.2) kvs
theorem KV.merge : ∀ {more : List (Key × V)} {rs : List (Key × Value)} {kvs : List (Key × V)} {vs : List (Key × Value)}, KV more rs → KV kvs vs → KV (mergeK kvs more) (merged vs rs) := by
 intro more rs kvs vs r
 unfold KV at r
 induction r generalizing kvs vs with
 | nil => intro q; exact q
 | @cons p q ps qs h t ih =>
  intro r0
  have e : KV (putK kvs p.1 p.2) (stored vs q.1 q.2) := by
   have := r0.put p.1 h.2
   rw [← h.1]; exact this
  exact ih e
theorem length_mergeK : ∀ (more kvs : List (Key × V)), (mergeK kvs more).length ≤ kvs.length + more.length
 | [], kvs => by show kvs.length ≤ kvs.length + 0; omega
 | p :: r, kvs => by
  have h1 := length_mergeK r (putK kvs p.1 p.2)
  have h2 := length_putK kvs p.1 p.2
  show (mergeK (putK kvs p.1 p.2) r).length ≤ _
  rw [List.length_cons]; omega
theorem carries_of {P : Program} {w : World} : ∀ {kvs : List (Key × V)} {ws : List (Value × Value)}, VV (kvs.map fun kv => (kV kv.1, kv.2)) ws → ∃ rs, Carries (mixKind P w) ws rs ∧ KV kvs rs
 | [], _, r => by rw [List.map_nil] at r; cases r; exact ⟨[], True.intro, .nil⟩
 | p :: kvs, _, r => by
  rw [List.map_cons] at r
  cases r with
  | @cons a b as bs h t =>
   walk_at "B"
   obtain ⟨rs, c, q⟩ := carries_of (P := P) (w := w) t
   obtain ⟨b1, b2⟩ := b
   walk_at "C"
   exact ⟨(p.1, b2) :: rs, ⟨kV_is h.1, rfl, c⟩, .cons ⟨rfl, h.2⟩ q⟩
def tDisp (trs : List (TE × TE)) : TE := fun σ H Q => ∀ p, H p = none → tPairs trs σ (upd H p (.dK [])) fun ps H2 => H2 p = some (.dK []) ∧ ∃ kvs : List (Key × V), ps = kvs.map (fun kv => (kV kv.1, kv.2)) ∧ kvs.length ≤ 15 ∧ Q (.ref p) (upd H2 p (.dK (mergeK [] kvs)))
theorem pe_disp {X : Cx} {pos : Pos} {keys : List (Option Expr)} {values : List Expr} {trs : List (TE × TE)} (h : PPs X pos keys values trs) (hall : keys.all (·.isSome) = true) (hl : keys.length = values.length) (h0 : keys ≠ [])
  (h15 : keys.length ≤ 15) : PE X (.Dict keys values pos) (tDisp trs) := by
 intro pins s σ H Q I q
 have hn := I.hok.fresh (Nat.le_refl s.heap.objs.size)
 have I1 := I.laid (a := s.heap.objs.size) (o := .dK []) (h' := s.heap.push { cls := .type "dict", data := .dict #[] }) (t' := s.toks) (fun _ _ q => Heap.get?_push_of_some _ q) (Nat.le_refl _) (dk_empty s.heap I.big)
 refine wpAny_Dict_walk (knd := mixKind X.prog X.w) hall hl h0 h15 (thn (h pins _ σ _ _ I1 (q _ hn)) fun ws s2 ⟨ps, H2, I2, rel, e, kvs, ep, lk, q2⟩ => ?_)
 subst ep
 walk_at "B"
 obtain ⟨rs, c, rk⟩ := carries_of (P := X.prog) (w := X.w) rel
 obtain ⟨z, hd, vs0, r0, dd⟩ := dk_of I2.hok e
 walk_at "C"
 cases r0
 refine ⟨rs, c, dd, fun h' dd' hs => ⟨.ref s.heap.objs.size, _, ?_, rfl, q2⟩⟩
 have hz : (mergeK [] kvs).length ≤ sizeLine := by
  have h1 := length_mergeK kvs []
  rw [List.length_nil] at h1
  rw [sizeLine_eq]; (clear hall hl h15 z hd; omega)
 have he : ∃ q, h'.get? s.heap.objs.size = some q := let ⟨q, _, _, hq, _⟩ := dd'; ⟨q, hq⟩
 exact d_write I2 (by rw [e]; exact True.intro) hs he (dk_new hz hd (rk.merge .nil) dd')


section
variable {X : Cx} {pins : List (Addr × Obj)} {σ : St} {H : Hp} {s : Shared} {a : Addr} {y d : V} {u r : Value} {o : Option V} {A : Around} {E : Value → Shared → Prop}
end

section
variable {X : Cx} {o e f : Expr} {apos cpos : Pos} {td ty tx : TE}
end

section
variable {X : Cx} {pins : List (Addr × Obj)} {σ : St} {H : Hp} {s : Shared} {a : Addr} {kvs : List (Key × V)} {A : Around} {E : Value → Shared → Prop}
end


section
variable {X : Cx} {pins : List (Addr × Obj)} {σ : St} {H : Hp} {s : Shared} {a : Addr} {y : V} {u : Value} {A : Around} {E : Value → Shared → Prop}
end
end L2
end
section
set_option Elab.async false
set_option linter.all false
set_option maxRecDepth 100000
set_option maxHeartbeats 4000000
namespace L2
open PySem PySem.Spec PyProof.Rows
section
variable {X : Cx} {pins : List (Addr × Obj)} {σ : St} {H : Hp} {s : Shared} {A : Around}
end
section
variable {X : Cx}
end
end L2
end
section
set_option Elab.async false
set_option linter.all false
set_option maxRecDepth 100000
set_option maxHeartbeats 4000000
namespace L2
open PySem PySem.Spec PyProof.Rows
namespace Om
end Om
theorem iteN {c : Bool} {A B : Prop} (hc : c = false) (h : B) : if c = true then A else B := by rw [hc]; exact h
end L2
end
section
set_option Elab.async false
set_option linter.all false
set_option maxRecDepth 100000
set_option maxHeartbeats 4000000
namespace L2
open PySem PySem.Spec PyProof.Rows
section
variable {X : Cx} {p pos : Pos} {e : Expr} {es : List Expr} {t : TA}
end
end L2
end
section
set_option Elab.async false
set_option maxRecDepth 100000
namespace L2
open PySem PySem.Spec PyProof.Rows

section
variable {prog : Program} {w : World} {A : Around} {E : Value → Shared → Prop} {s : Shared}
theorem keyIter {d : Addr} {ep : Nat} {od : Obj} {es : Array DictEntry} {Q : Value → Shared → Prop} (hd : (d == sysModules) = false) (hT : s.TypeIs (.ref d) "dict") (ho : s.heap.get? d = some od) (hdat : od.data = .dict es ep)
  (hQ : Q (.ref s.heap.objs.size) { s with heap := s.heap.push { cls := .type "dict_keyiterator", data := .fields #[.ref d, .int 0 0, .int es.size 0, .int ep 0] } }) : wpAny (model prog w) A (pyIter (.ref d)) Q E s := by
 refine wpAny_pyIter_slot hT F.slot_dict_iter (wpAny_call_entry F.slot_dict_iter hT F.entry_dict_iter ?_ (F.args_dict_iter_1 _))
 unfold Builtin.«dict.__iter__» Builtin.Dict.dictSlotNone
 refine wpAny_bind (wpAny_bind (wpAny_notOrdered_dict hT ?_))
 refine wpAny_pure ?_
 show wpAny _ _ (Builtin.Dict.showsAll d >>= _) _ _ s
 unfold Builtin.Dict.showsAll
 rw [if_neg (by rw [hd]; exact Bool.false_ne_true)]
 refine wpAny_bind (wpAny_pure (wpAny_bind (wpAny_dictEntries ho hdat (wpAny_bind (wpAny_dictEpoch ho hdat ?_)))))
 refine wpAny_bind (wpAny_newObj_type (wpAny_pure ⟨_, rfl, "dict_keyiterator", _, ⟨_, Heap.get?_push_size _ rfl, rfl⟩, F.slot_dict_keyiterator_next.lookup, ?_⟩))
 simpa [rawInt] using hQ
theorem keyNext {it d : Addr} {i ep : Nat} {od : Obj} {es : Array DictEntry} {e : DictEntry} {Q : Option Value → Shared → Prop} (hit : s.heap.IsKeyIter it d i es.size ep) (hod : s.heap.get? d = some od) (hdd : od.data = .dict es ep) (he : es[i]? = some e)
  (hQ : ∀ h', h'.IsKeyIter it d (i + 1) es.size ep → Heap.SameBut it s.heap h' → Q (some e.key) { s with heap := h' }) : wpAny (model prog w) A (pyNext (.ref it)) Q E s := by
 walk_at "B"
 obtain ⟨o, ho, hc, hd⟩ := id hit
 walk_at "C"
 unfold pyNext
 refine wpAny_bind (wpAny_attempt (wpAny_callSpecial?_slot (name := Str.ofString "__next__") hit.typeIs F.slot_dict_keyiterator_next
  (wpAny_call_entry F.slot_dict_keyiterator_next hit.typeIs F.entry_dict_keyiterator_next ?_ (F.args_dict_keyiterator_next_1 _))))
 refine wpAny_bind (wpAny_pure (wpAny_bind (wpAny_bind ?_)))
 first | refine wpAny_bind (wpAny_typeNameOfWhole_keyiter hit.typeIs (wpAny_pure ?_)) | refine wpAny_bind (wpAny_typeNameOf_keyiter hit.typeIs (wpAny_pure ?_))
 refine wpAny_bind (wpAny_fieldsOf ho hd ?_)
 simp only [show Builtin.Dict_items.ownsTuple "dict_keyiterator" = false from by decide, Bool.false_eq_true, if_false]
 show wpAny _ _ (if (Value.ref d == Value.none) = true then _ else _) _ _ s
 rw [if_neg (show ¬ ((Value.ref d == Value.none) = true) from Bool.false_ne_true)]
 refine wpAny_bind (wpAny_pure (wpAny_bind (wpAny_dictEntries hod hdd ?_)))
 rw [if_neg (by simp)]
 refine wpAny_bind (wpAny_pure (wpAny_bind (wpAny_dictEpoch hod hdd ?_)))
 rw [if_neg (by simp)]
 refine wpAny_pure ?_
 simp only [show ¬ ((i : Int) < 0) from by omega, if_false, Int.toNat_natCast, he]
 refine wpAny_bind ?_
 first | refine wpAny_bind (wpAny_typeNameOfWhole_keyiter hit.typeIs (wpAny_pure ?_)) | refine wpAny_bind (wpAny_typeNameOf_keyiter hit.typeIs (wpAny_pure ?_))
 refine wpAny_bind (wpAny_isOneOf_keyiter hit.typeIs ?_)
 show wpAny _ _ (setField (.ref it) 1 (rawInt ((i : Int) + 1)) >>= _) _ _ s
 refine wpAny_bind (wpAny_setField ho hd (by simp) ?_)
 have hit' : (s.heap.update it (Obj.mapFields (·.setIfInBounds 1 (rawInt ((i : Int) + 1))))).IsKeyIter it d (i + 1) es.size ep :=
  ⟨_, Heap.get?_update_self _ ho (Obj.isFreed_of_fields (Obj.data_mapFields hd _)), (Obj.cls_mapFields ..).trans hc, by rw [Obj.data_mapFields hd]; simp [rawInt]⟩
 refine wpAny_bind (wpAny_holding ?_)
 refine wpAny_bind (wpAny_isOneOf_keyiter (s := { s with heap := s.heap.update it (Obj.mapFields (·.setIfInBounds 1 (rawInt ((i : Int) + 1)))) }) hit'.typeIs ?_)
 show wpAny _ _ (pure e.key) _ _ _
 exact wpAny_pure (wpAny_pure ⟨_, rfl, wpAny_pure (hQ _ hit' (Heap.SameBut.update ..))⟩)
theorem keyEnd {it d : Addr} {i ep : Nat} {od : Obj} {es : Array DictEntry} {Q : Option Value → Shared → Prop} (hh : A.handled = none) (hit : s.heap.IsKeyIter it d i es.size ep) (hod : s.heap.get? d = some od) (hdd : od.data = .dict es ep) (hge : es.size ≤ i)
  (hQ : ∀ h', Heap.ExtBut it s.heap h' → Q none { s with heap := h' }) : wpAny (model prog w) A (pyNext (.ref it)) Q E s := by
 walk_at "B"
 obtain ⟨o, ho, hc, hd⟩ := id hit
 walk_at "C"
 unfold pyNext
 refine wpAny_bind (wpAny_attempt (wpAny_callSpecial?_slot (name := Str.ofString "__next__") hit.typeIs F.slot_dict_keyiterator_next
  (wpAny_call_entry F.slot_dict_keyiterator_next hit.typeIs F.entry_dict_keyiterator_next ?_ (F.args_dict_keyiterator_next_1 _))))
 refine wpAny_bind (wpAny_pure (wpAny_bind (wpAny_bind ?_)))
 first | refine wpAny_bind (wpAny_typeNameOfWhole_keyiter hit.typeIs (wpAny_pure ?_)) | refine wpAny_bind (wpAny_typeNameOf_keyiter hit.typeIs (wpAny_pure ?_))
 refine wpAny_bind (wpAny_fieldsOf ho hd ?_)
 simp only [show Builtin.Dict_items.ownsTuple "dict_keyiterator" = false from by decide, Bool.false_eq_true, if_false]
 show wpAny _ _ (if (Value.ref d == Value.none) = true then _ else _) _ _ s
 rw [if_neg (show ¬ ((Value.ref d == Value.none) = true) from Bool.false_ne_true)]
 refine wpAny_bind (wpAny_pure (wpAny_bind (wpAny_dictEntries hod hdd ?_)))
 rw [if_neg (by simp)]
 refine wpAny_bind (wpAny_pure (wpAny_bind (wpAny_dictEpoch hod hdd ?_)))
 rw [if_neg (by simp)]
 refine wpAny_pure ?_
 simp only [show ¬ ((i : Int) < 0) from by omega, if_false, Int.toNat_natCast, Array.getElem?_eq_none hge]
 refine wpAny_bind ?_
 first | refine wpAny_bind (wpAny_typeNameOfWhole_keyiter hit.typeIs (wpAny_pure ?_)) | refine wpAny_bind (wpAny_typeNameOf_keyiter hit.typeIs (wpAny_pure ?_))
 show wpAny _ _ (setField (.ref it) 0 .none >>= _) _ _ s
 refine wpAny_bind (wpAny_setField ho hd (by simp) ?_)
 show wpAny _ _ (newExc (.type "StopIteration") [] >>= _) _ _ _
 refine wpAny_bind ?_
 simp only [newExc, newTuple]
 refine wpAny_bind (wpAny_newObj_type ?_ (by size_fits))
 refine wpAny_bind (m := firstArgMember _ _) (wpAny_of_eq (a := Value.none) (by first | rfl | (simp only [firstArgMember]; rfl)) ?_)
 refine wpAny_newObj_type ?_ (by size_fits)
 simp only [raiseNew]
 refine wpAny_bind (wpAny_handled ?_)
 rw [show A.in1.handled = none from hh]
 refine wpAny_bind (wpAny_pure (wpAny_throw ?_))
 refine wpAny_bind (wpAny_isInstance (T := "StopIteration") (b := true) ⟨_, Heap.get?_push_size _ rfl, rfl⟩ isSubtype_stop ?_)
 exact wpAny_pure (hQ _ (((Heap.SameBut.update ..).extBut.push _).push _))
end
end L2
end
section
set_option Elab.async false
set_option maxRecDepth 100000
namespace L2
open PySem PySem.Spec PyProof.Rows

section
variable {X : Cx} {pins : List (Addr × Obj)} {σ : St} {H : Hp} {s : Shared} {a : Addr} {u : HO} {o : Obj}
theorem Inv.freeze (I : Inv X pins σ H s) (e : H a = some u) (mu : Mut (some u)) (ho : s.heap.get? a = some o) : Inv X pins σ (upd H a (.frz o u)) s := by
 have nown : ∀ c y, H c = some (.own y) → c ≠ a := fun c y r z => by subst z; rw [r] at e; cases e; exact mu
 have ntup : ∀ c xs, H c = some (.tup xs) → c ≠ a := fun c xs r z => by subst z; rw [r] at e; cases e; exact mu
 exact I.write (t' := s.toks) (h' := s.heap) (x := a) (e := a) (by rw [e]; exact mu) (.inl rfl) (fun _ _ _ q => q) ⟨o, ho⟩
  ⟨ho, (I.hok a u e).stay (fun _ _ _ q => q) (fun b q => by rw [upd_ne (nown b a q)]; exact q) fun b xs q => by rw [upd_ne (ntup b xs q)]; exact q⟩
theorem Inv.frozen (I : Inv X pins σ H s) (e : H a = some (.frz o u)) : s.heap.get? a = some o := (I.hok a _ e).1
theorem Inv.obj (I : Inv X pins σ H s) (e : H a = some u) : ∃ o, s.heap.get? a = some o := by
 have l := (I.hok a u e).lt
 cases u with
 | lst xs => obtain ⟨_, _, _, _, q⟩ := I.hok a _ e; exact ⟨_, q⟩
 | dK kvs => obtain ⟨_, _, _, _, o, _, _, q, _⟩ := I.hok a _ e; exact ⟨_, q⟩
 | dT kvs => obtain ⟨_, _, _, _, o, _, _, q, _⟩ := I.hok a _ e; exact ⟨_, q⟩
 | tup xs => obtain ⟨_, _, _, o, q, _⟩ := I.hok a _ e; exact ⟨_, q⟩
 | set S n => obtain ⟨o, _, _, _, q, _⟩ := I.hok a _ e; exact ⟨_, q⟩
 | ins C dx fs => obtain ⟨_, _, _, q, _⟩ := I.hok a _ e; exact ⟨_, q⟩
 | own y => obtain ⟨_, q⟩ := I.hok a _ e; exact ⟨_, q⟩
 | xd fs => obtain ⟨_, ⟨_, _, _, q, _⟩, _⟩ := I.hok a _ e; exact ⟨_, q⟩
 | rng lo hi => obtain ⟨_, _, _, q⟩ := I.hok a _ e; exact ⟨_, q⟩
 | frz ob u => obtain ⟨q, _⟩ := I.hok a _ e; exact ⟨_, q⟩
 | tbl ps => exact ⟨_, I.hok a _ e⟩
 | met f y => exact ⟨_, I.hok a _ e⟩
 | ext φ => obtain ⟨_, q, _⟩ := I.hok a _ e; exact q
end
section
variable {X : Cx} {e : Expr} {te : TE} {pos : Pos}
def tRetF (te : TE) : TS := fun D σ H => te σ H fun x H1 => match x with
 | .ref a => (∃ u, H1 a = some u ∧ Mut (some u) ∧ ∀ o, D.rt (.ref a) (upd H1 a (.frz o u))) ∨ D.rt (.ref a) H1
 | x => D.rt x H1
theorem s_retF (he : PE X e te) : PS X (.Return (some e) pos) (tRetF te) := by
 intro pins s σ H D I h
 refine wpAny_Return_some (thn (he pins s σ H _ I h) fun v s1 ⟨x, H1, I1, r1, q1⟩ => ?_)
 cases x with
 | ref a =>
  rcases q1 with ⟨u, e, mu, q⟩ | q
  ·obtain ⟨o, ho⟩ := I1.obj e
   exact ⟨.ref a, σ, _, I1.freeze e mu ho, r1, q o⟩
  ·exact ⟨.ref a, σ, H1, I1, r1, q⟩
 | _ => exact ⟨_, σ, H1, I1, r1, q1⟩
end

def Itk (a : Addr) (o : Obj) (xs : List V) : It :=
 ⟨fun i H => i < xs.length ∧ ∃ u, H a = some (.frz o u), fun i H x H' => H' = H ∧ xs[i]? = some x, fun i H => xs.length ≤ i ∧ ∃ u, H a = some (.frz o u)⟩
theorem it_keys (a : Addr) (o : Obj) (xs : List V) : ItOk (Itk a o xs) xs fun H => ∃ u, H a = some (.frz o u) :=
 ⟨fun _ h => ⟨Nat.le_refl _, h⟩, fun _ _ h hi => ⟨hi, h⟩, fun _ _ _ _ _ _ y => y⟩
theorem turn_keys {P : Program} {w : World} {K : PySem.W.Frag} {tg : Expr} {a it : Addr} {o : Obj} {es : Array DictEntry} {ep : Nat} {xs : List V} (hd : o.data = .dict es ep) (rel : Vals xs (es.toList.map (·.key))) :
  Turn P w K tg (Itk a o xs) [it] it (fun i h => h.IsKeyIter it a i es.size ep) where
 mem := by simp
 obj := fun i h st b hb => by
  have e : b = it := by simpa using hb
  subst e
  walk_at "B"
  obtain ⟨o, e, c, d⟩ := st
  walk_at "C"
  exact ⟨o, e, fun v z => by rw [d] at z; cases z⟩
 keep := fun i h h' st k => st.at fun o e => k it (by simp) o e
 item := by
  intro X hP hw hK hc i pins s σ H E I hf st hg
  subst hP hw hK
  walk_at "B"
  obtain ⟨hi, u, hu⟩ := hg
  walk_at "C"
  have hx : xs[i]? = some xs[i] := by simp [hi]
  walk_at "B"
  obtain ⟨v, hv, rv⟩ := rel.get hx
  walk_at "C"
  obtain ⟨e, he, ev⟩ : ∃ e, es[i]? = some e ∧ e.key = v := by
   rw [List.getElem?_map] at hv
   walk_at "B"
   obtain ⟨e, h1, h2⟩ := Option.map_eq_some_iff.mp hv
   walk_at "C"
   exact ⟨e, by simpa using h1, h2⟩
  walk_at "B"
  obtain ⟨f0, f1, f2, f3, f4, f5⟩ := hf it (by simp)
  walk_at "C"
  refine keyNext st (I.frozen hu) hd he fun h' st' sb => ?_
  have I1 : Inv X pins σ H { s with heap := h' } := I.turned (t' := s.toks) (fun b o hb e => (sb.2 b hb).trans e) f0 f1 f3 f4 f5
  refine ⟨e.key, rfl, letGo_keyiter st' ⟨xs[i], H, I1, by rw [ev]; exact rv, ⟨rfl, hx⟩, st', fun b hb => (hf b hb).1⟩⟩
 done := by
  intro X hP hw hK hc i pins s σ H E I hf st hg
  subst hP hw hK
  walk_at "B"
  obtain ⟨hi, u, hu⟩ := hg
  walk_at "C"
  have hl : es.size ≤ i := by
   have := rel.length
   simp at this
   omega
  walk_at "B"
  obtain ⟨f0, f1, f2, f3, f4, f5⟩ := hf it (by simp)
  walk_at "C"
  exact keyEnd (I.ok.hd hc) st (I.frozen hu) hd hl fun h' eb => ⟨rfl, I.turned (t' := s.toks) (fun b o hb e => eb b o hb e) f0 f1 f3 f4 f5⟩
 self := fun _ _ _ _ _ st h => wpAny_pyIter_keyiter st h

section
variable {X : Cx} {tg : Expr}
theorem keys_mix {P : Program} {w : World} {kvs : List (Key × V)} : ∀ {es : List DictEntry} {vs : List (Key × Value)}, KV kvs vs → Pairs (mixKind P w) es vs → Vals (kvs.map fun p => kV p.1) (es.map (·.key)) := by
 intro es vs r q
 unfold KV at r
 induction r generalizing es with
 | nil => cases q; exact .nil
 | @cons p v ps vs' h t ih =>
  cases q with
  | cons h1 h2 h3 =>
   refine .cons ?_ (ih h3)
   dsimp only
   rw [h.1]
   rcases keyIs_shape h1 with ⟨i, t, e1, e2⟩ | ⟨x, t, e1, e2⟩
   ·rw [e1, e2]; exact ⟨t, rfl⟩
   ·rw [e1, e2]; exact ⟨t, rfl⟩
end
end L2
end
section
set_option Elab.async false
set_option maxRecDepth 100000
namespace L2
open PySem PySem.Spec PyProof.Rows

section
variable {X : Cx} {pos : Pos}
def rDGet : R2 := fun x y H Q => ∃ a v, x = .ref a ∧ DGet H a y (some v) ∧ Q v H
def rDNotIn : R2 := fun y x H Q => ∃ a o, x = .ref a ∧ DGet H a y o ∧ Q (.bl (!o.isSome)) H
def rDPut : V → V → V → Hp → (Hp → Prop) → Prop := fun o i v H Q => ∃ a H', o = .ref a ∧ DPut H a i v H' ∧ Q H'
theorem ix_dict (hu : X.A.units + 64 < cLine) : IxR X rDGet := by
 intro value slice pins s σ H x y v u Q I rx ry ⟨a, z, ex, g, q⟩ hs
 subst ex
 obtain rfl : v = Value.ref a := rx
 have hT := dict_typeIs I g
 unfold subscriptTail
 refine wpAny_bind ?_
 rw [getitemInPython_of_ne hT.not_modules]
 refine wpAny_bind (wpAny_specialOf hT PySem.F.slot_dict_getitem.lookup ?_)
 have fin : wpAny (model X.prog X.w) X.A (subscripted slice false (.ref a) u) (fun r s₃ => wpAny (model X.prog X.w) X.A (letTemporaryGo value (.ref a) r >>= fun _ => pure r) (EP X pins σ Q) X.xe s₃) X.xe s := by
  rw [hs]
  exact wpAny_operating (d_getItem (by omega) I g ry fun w' s3 I3 rw' => wpAny_bind (wpAny_letTemporaryGo (wpAny_pure ⟨z, H, I3, rw', q⟩)))
 first
  | exact wpAny_pure (wpAny_bind fin)
  | exact wpAny_bind (wpAny_pure (wpAny_bind fin))
  | exact wpAny_bind fin
theorem op_notInDict (hu : X.A.units + 64 < cLine) : OpR X (compareOp .NotIn) rDNotIn := by
 intro pins s σ H y x u v Q I ry rx ⟨a, o, ex, g, q⟩
 subst ex
 obtain rfl : v = Value.ref a := rx
 exact d_notIn (by omega) I g ry fun s3 I3 => ⟨.bl (!o.isSome), H, I3, rfl, q⟩
theorem set_dict (hu : X.A.units + 64 < cLine) : PSet X rDPut := by
 intro pins s σ H o i v ov iv u Q I ro ri rv ⟨a, H', eo, g, q⟩
 subst eo
 obtain rfl : ov = Value.ref a := ro
 exact d_setItem (by omega) I g ri rv fun s4 I4 => ⟨H', I4, q⟩
def rIxD : R2 := fun x y H Q => rIxU x y H Q ∨ rDGet x y H Q
def rSetD : V → V → V → Hp → (Hp → Prop) → Prop := fun o i v H Q => rSetU o i v H Q ∨ rDPut o i v H Q
theorem ix_atD {a b : Expr} {ta tb : TE} (hu : X.A.units + 64 < cLine) (ha : PE X a ta) (hb : PE X b tb) (hs : ∀ o i, subscripted b false o i = operate [o, i] (getItem o i) := by intro _ _; kernel_rfl) : PE X (.Subscript a b pos) (tOp rIxD ta tb) :=
 pe_ix (ixU.or (ix_dict hu)) ha hb hs
theorem g_subD {o i : Expr} {to ti : TE} (hu : X.A.units + 64 < cLine) (ho : PE X o to) (hi : PE X i ti) (ha : ∀ v, assign (.Subscript o i pos) X.env v = (do
   let ov ← holding [v] (eval o X.env)
   let iv ← holding [v, ov] (eval i X.env)
   standAt pos
   holding [v, ov, iv] (setItem ov iv v)
   release [v, ov, iv] []) := by intro _; kernel_rfl) : PG X (.Subscript o i pos) (gSub to ti rSetD) :=
 pg_sub ho hi (fun pins s σ H o i v ov iv u Q I ro ri rv q => by
  rcases q with q | q
  ·exact setU pins s σ H o i v ov iv u Q I ro ri rv q
  ·exact set_dict hu pins s σ H o i v ov iv u Q I ro ri rv q) ha

end
section
variable {prog : Program} {w : World} {A : Around} {E : Value → Shared → Prop} {s : Shared}
end
section
variable {X : Cx} {pins : List (Addr × Obj)} {σ : St} {H : Hp} {s : Shared} {a : Addr} {A : Around} {E : Value → Shared → Prop}
end
section
variable {X : Cx} {pos : Pos}
end

section
variable {X : Cx} {o e : Expr} {es : List Expr} {to : TE} {t : TA} {apos : Pos}
end
end L2
end
section
set_option Elab.async false
set_option linter.all false
set_option maxRecDepth 100000
set_option maxHeartbeats 4000000
namespace L2
open PySem PySem.Spec PyProof.Rows
section
variable {X : Cx} {p pos : Pos} {a b e : Expr} {es : List Expr} {t : TA}
end
end L2
namespace Om
end Om
end
section
set_option Elab.async false
set_option maxRecDepth 100000
namespace Om
section
variable {k n : Nat} {rows : Rows}
end
end Om
end
section
set_option Elab.async false
set_option linter.all false
set_option maxRecDepth 100000
set_option maxHeartbeats 4000000
namespace L2
open PySem PySem.Spec PyProof.Rows
section
variable {ks : List (Nat × Nat)} {kvs : List (List Key × V)} {p : Nat × Nat} {v : V}
end
section
variable {G H0 H : Hp} {D p : Addr} {kvs : List (List Key × V)} {o : HO}
end
end L2
end
section
set_option Elab.async false
set_option linter.all false
set_option maxRecDepth 100000
set_option maxHeartbeats 4000000
namespace L2
open PySem PySem.Spec PyProof.Rows
section
variable {X : Cx} {a : Expr} {p pos : Pos} {ta : TA}
theorem vals_of : ∀ {xs : List V} {us : List Value}, xs.length = us.length → (∀ (i : Nat) (x : V) (u : Value), xs[i]? = some x → us[i]? = some u → RelV x u) → Vals xs us
 | [], [], _, _ => .nil
 | [], _ :: _, h, _ => by simp at h
 | _ :: _, [], h, _ => by simp at h
 | x :: xs, u :: us, h, r => .cons (r 0 x u rfl rfl) (vals_of (by simpa using h) fun i y v h1 h2 => r (i + 1) y v (by simpa using h1) (by simpa using h2))
end
end L2
end
section
set_option Elab.async false
set_option linter.all false
set_option maxRecDepth 100000
namespace L2
open PySem PySem.Spec PyProof.Rows
end L2
end
section
set_option Elab.async false
set_option linter.all false
set_option maxRecDepth 100000
namespace Om
section
variable {k n : Nat} {rows : Rows}
end
end Om
namespace L2
open PySem PySem.Spec PyProof.Rows
end L2
end
section
set_option Elab.async false
set_option linter.all false
set_option maxRecDepth 100000
set_option maxHeartbeats 4000000
namespace L2
open PySem PySem.Spec PyProof.Rows
section
variable {prog : Program} {w : World} {A : Around} {E : Value → Shared → Prop} {s : Shared}
theorem walksKeys (hh : A.handled = none) (I d : Addr) (hne : d ≠ I) {od : Obj} {es : Array DictEntry} {ep : Nat} (hdat : od.data = .dict es ep) :
  Walks prog w A I [I, d] [I] es.size (fun i v => ∃ e, es[i]? = some e ∧ v = e.key) (fun i h => h.IsKeyIter I d i es.size ep ∧ h.get? d = some od) where
 sub := fun b hb => by simp at hb; simp [hb]
 frame := fun _ _ _ st hk => ⟨st.1.at fun o e => hk I (by simp) o e, hk d (by simp) _ st.2⟩
 item := fun i s Q E hi st hQ => by
  have he : es[i]? = some es[i] := by simp [hi]
  refine keyNext st.1 st.2 hdat he fun h' hit' hs' => ?_
  exact hQ _ h' s.toks ⟨_, he, rfl⟩ ⟨hit', hs'.extBut d _ hne st.2⟩ fun b o hb e => hs'.extBut b o (fun h => hb (by simp [h])) e
 done := fun s Q E st hQ => keyEnd hh st.1 st.2 hdat (Nat.le_refl _) fun h' he' => hQ h' s.toks fun b o hb e => he' b o (fun h => hb (by simp [h])) e
 self := fun _ _ _ _ st hQ => wpAny_pyIter_keyiter st.1 hQ
theorem hint_dict {d : Addr} {Q : Bool → Shared → Prop} (hT : s.TypeIs (.ref d) "dict") (h : Q false s) : wpAny (model prog w) A (Builtin.List.listLengthHint (.ref d)) Q E s := by
 unfold Builtin.List.listLengthHint
 refine wpAny_bind (wpAny_specialOf hT F.slot_dict_len.lookup ?_)
 generalize hid : ("dict.__len__" : String) = id0
 wp_delta
 rw [show splitId id0 = some ("dict", "__len__") from by subst hid; decide +kernel]
 subst hid
 refine wpAny_bind (wpAny_isInstance (T := "dict") (b := true) hT (by rw [isSubtype_type]; kernel_rfl) ?_)
 refine wpAny_ite_split (fun hab => absurd hab (by decide)) (fun _ => ?_)
 refine wpAny_ite_split (fun _ => ?_) (fun hab => absurd (by decide +kernel) hab)
 refine wpAny_bind (wpAny_typeOf (T := "dict") hT ?_)
 exact wpAny_pure h
theorem extend_dict {R : Result → Shared → Prop} {d : Addr} {od : Obj} {es : Array DictEntry} {ep : Nat} (hh : A.handled = none) (hd : (d == sysModules) = false) (hT : s.TypeIs (.ref d) "dict") (ho : s.heap.get? d = some od) (hdat : od.data = .dict es ep) (hlen : es.size ≤ sizeLine) (S : Addr) (res : Value) (c₀ : Nat) (hS : s.heap.get? S = some { cls := .type "list", data := .seq #[] c₀ })
  (hR : ∀ h' tk acc' c', (∀ b o, b ≠ S → s.heap.get? b = some o → h'.get? b = some o) → h'.get? S = some { cls := .type "list", dict := none, data := .seq acc' c', slots := #[] } →
   ItemsOf (fun i v => ∃ e, es[i]? = some e ∧ v = e.key) acc' es.size → R (.ok (.ret res)) { s with heap := h', toks := tk }) :
  wpAny (model prog w) A.in1 (Builtin.List.listExtendWith (.ref S) (.ref d) res)
   (fun fin s' => match fin with | .done f => R (.ok f) s' | .again c' => c'.quiet = true ∧ codeAny (model prog w) A c' R s') (fun e s' => R (.error e) s') s := by
 have hSr : S ≠ d := fun e => by rw [e, ho] at hS; cases hS; cases hdat
 have hSlt : S < s.heap.objs.size := Heap.lt_size hS
 have hSI : S ≠ s.heap.objs.size := Nat.ne_of_lt hSlt
 have hdI : d ≠ s.heap.objs.size := Nat.ne_of_lt (Heap.lt_size ho)
 have hSf : S ∉ [s.heap.objs.size, d] := fun hm => by simp at hm; rcases hm with h | h; exact hSI h; exact hSr h
 have W := (walksKeys (prog := prog) (w := w) (A := A.in1) hh s.heap.objs.size d hdI hdat).toS
 unfold Builtin.List.listExtendWith
 refine wpAny_bind (wpAny_typeOf (T := "dict") hT ?_)
 have h1 : Builtin.List.listSameRef (.ref S) (.ref d) = false := by simp [Builtin.List.listSameRef, hSr]
 have h2 : (Value.type "dict" == Value.type "list") = false := by decide
 have h3 : (Value.type "dict" == Value.type "tuple") = false := by decide
 simp only [h1, h2, h3, Bool.or_false, Bool.false_eq_true, if_false]
 refine wpAny_bind (keyIter hd hT ho hdat ?_)
 have hT1 : (⟨s.heap.push { cls := .type "dict_keyiterator", data := .fields #[.ref d, .int 0 0, .int es.size 0, .int ep 0] }, s.gens, s.drawn, s.toks, s.os⟩ : Shared).TypeIs (.ref d) "dict" := by
  walk_at "B"
  obtain ⟨o, e1, e2⟩ := hT
  walk_at "C"
  exact ⟨o, Heap.get?_push_of_some _ e1, e2⟩
 refine wpAny_bind (wpAny_holding (hint_dict hT1 ?_))
 have hit₁ : (s.heap.push { cls := .type "dict_keyiterator", data := .fields #[.ref d, .int 0 0, .int es.size 0, .int ep 0] }).IsKeyIter s.heap.objs.size d 0 es.size ep := ⟨_, Heap.get?_push_size _ rfl, rfl, rfl⟩
 have hS₁ := Heap.get?_push_of_some { cls := .type "dict_keyiterator", data := .fields #[.ref d, .int 0 0, .int es.size 0, .int ep 0] } hS
 have hd₁ := Heap.get?_push_of_some { cls := .type "dict_keyiterator", data := .fields #[.ref d, .int 0 0, .int es.size 0, .int ep 0] } ho
 have key : ∀ (h : Heap) (c₁ tk : Nat), h.IsKeyIter s.heap.objs.size d 0 es.size ep → h.get? d = some od → (∀ b o, b ≠ S → s.heap.get? b = some o → h.get? b = some o) →
   h.get? S = some { cls := .type "list", data := .seq #[] c₁ } → codeAny (model prog w) A (.builtin "list.extend.loop" ⟨[.ref S, .ref s.heap.objs.size, res], []⟩) R { s with heap := h, toks := tk } := by
  intro h c₁ tk hit hdd hk hS₁
  refine codeAny_extend_loopS W hlen S hSf res es.size 0 _ #[] c₁ rfl (Nat.zero_le _) ⟨hit, hdd⟩ hS₁ (ItemsOf.nil _) fun s' acc' c' hm hS' hacc => ?_
  rw [Moved.eq_with hm]
  refine hR s'.heap s'.toks acc' c' (fun b o hb e => hm.heap b o (fun hmem => ?_) (hk b o hb e)) hS' hacc
  rcases List.mem_cons.mp hmem with e' | hmem
  ·exact hb e'
  ·exact absurd (Heap.lt_size e) (by rw [List.mem_singleton.mp hmem]; exact Nat.lt_irrefl _)
 refine wpAny_ite_split (fun _ => ?_) (fun _ => wpAny_pure ⟨plainId_quiet F.plain_extend_loop _, key _ c₀ _ hit₁ hd₁ (fun b o _ e => Heap.get?_push_of_some _ e) hS₁⟩)
 refine wpAny_bind (wpAny_rule ?_)
 refine wpAny_bind ?_
 show wpAny _ _ (updateSeq S (·.push .none) >>= fun _ => updateSeq S (·.pop)) _ _ _
 refine wpAny_bind (wpAny_updateSeq hS₁ rfl ?_)
 have hS₂ := Heap.get?_update_self (Obj.mapSeq (·.push Value.none)) hS₁ rfl
 refine wpAny_updateSeq (hz := by seq_fits) hS₂ rfl ?_
 have hS₃ := Heap.get?_update_self (Obj.mapSeq (·.pop)) hS₂ rfl
 refine wpAny_pure ⟨plainId_quiet F.plain_extend_loop _, key _ _ _ ?_ ?_ (fun b o hb e => ?_) hS₃⟩
 ·exact hit₁.at fun o e => (Heap.get?_update_other _ _ hSI).trans ((Heap.get?_update_other _ _ hSI).trans e)
 ·exact (Heap.get?_update_other _ _ hSr).trans ((Heap.get?_update_other _ _ hSr).trans hd₁)
 ·exact (Heap.get?_update_other _ _ (Ne.symm hb)).trans ((Heap.get?_update_other _ _ (Ne.symm hb)).trans (Heap.get?_push_of_some _ e))
end
end L2
end
section
set_option Elab.async false
set_option linter.all false
set_option maxRecDepth 100000
set_option maxHeartbeats 4000000
namespace L2
open PySem PySem.Spec PyProof.Rows
section
variable {X : Cx} {p pos : Pos}
end
section
variable {prog : Program} {w : World} {A : Around} {E : Value → Shared → Prop} {s : Shared}
end
end L2
end
section
set_option Elab.async false
set_option linter.all false
set_option maxRecDepth 100000
set_option maxHeartbeats 4000000
namespace L2
open PySem PySem.Spec PyProof.Rows
section
variable {X : Cx} {p pos : Pos}
end
end L2
end
section
set_option Elab.async false
set_option linter.all false
set_option maxRecDepth 100000
set_option maxHeartbeats 4000000
namespace Om
end Om
namespace L2
open PySem PySem.Spec PyProof.Rows
end L2
end
section
set_option Elab.async false
set_option linter.all false
set_option maxRecDepth 100000
set_option maxHeartbeats 4000000
namespace L2
open PySem PySem.Spec PyProof.Rows
section
variable {prog : Program} {w : World} {A : Around} {E : Value → Shared → Prop} {s : Shared}
end
section
variable {X : Cx} {p pos : Pos}
end
section
variable {G H0 H : Hp} {D q : Addr} {kvs : List (List Key × V)} {ks : List (Nat × Nat)} {c : Nat} {o : HO}
end
end L2
namespace Om
end Om
end
section
set_option Elab.async false
set_option linter.all false
set_option maxRecDepth 100000
set_option maxHeartbeats 4000000
namespace L2
open PySem PySem.Spec PyProof.Rows
section
variable {prog : Program} {w : World} {A : Around} {E : Value → Shared → Prop} {s : Shared}
theorem iadd_dict {R : Result → Shared → Prop} {d : Addr} {od : Obj} {es : Array DictEntry} {ep : Nat} (hh : A.handled = none) (hd : (d == sysModules) = false) (hT : s.TypeIs (.ref d) "dict") (ho : s.heap.get? d = some od) (hdat : od.data = .dict es ep) (hlen : es.size ≤ sizeLine) (S : Addr) (c₀ : Nat) (hS : s.heap.get? S = some { cls := .type "list", data := .seq #[] c₀ })
  (hR : ∀ h' tk acc' c', (∀ b o, b ≠ S → s.heap.get? b = some o → h'.get? b = some o) → h'.get? S = some { cls := .type "list", dict := none, data := .seq acc' c', slots := #[] } →
   ItemsOf (fun i v => ∃ e, es[i]? = some e ∧ v = e.key) acc' es.size → R (.ok (.ret (.ref S))) { s with heap := h', toks := tk }) :
  codeAny (model prog w) A (.builtin "list.__iadd__" ⟨[.ref S, .ref d], []⟩) R s := by
 refine codeAny_builtin entry_list_iadd' ?_
 rw [Around.under_plainId (by decide +kernel) _]
 exact extend_dict hh hd hT ho hdat hlen S (.ref S) c₀ hS hR
theorem collect_dict {d : Addr} {od : Obj} {es : Array DictEntry} {ep : Nat} {Q : List Value → Shared → Prop} (hh : A.handled = none) (hd : (d == sysModules) = false) (hT : s.TypeIs (.ref d) "dict") (ho : s.heap.get? d = some od) (hdat : od.data = .dict es ep) (hlen : es.size ≤ sizeLine)
  (h : ∀ (h' : Heap) (tk : Tok) (acc : Array Value), (∀ b o, s.heap.get? b = some o → h'.get? b = some o) → s.heap.objs.size < h'.objs.size → ItemsOf (fun i v => ∃ e, es[i]? = some e ∧ v = e.key) acc es.size → Q acc.toList { s with heap := h', toks := tk }) :
  wpAny (model prog w) A (collect (.ref d)) Q E s := by
 unfold collect
 refine wpAny_bind (wpAny_runValue (codeAny_builtin entry_proto_collect' ?_))
 show wpAny _ _ (do again (.builtin "list.__iadd__" ⟨[← newList [], .ref d], []⟩)) _ _ s
 refine wpAny_bind (wpAny_newList (wpAny_pure ⟨Code.quiet_builtin _ (by decide +kernel), ?_⟩))
 have hT' : (⟨s.heap.push (seqObj "list" #[] 0), s.gens, s.drawn, s.toks, s.os⟩ : Shared).TypeIs (.ref d) "dict" := by
  walk_at "B"
  obtain ⟨o, e1, e2⟩ := hT
  walk_at "C"
  exact ⟨o, Heap.get?_push_of_some _ e1, e2⟩
 refine iadd_dict hh hd hT' (Heap.get?_push_of_some _ ho) hdat hlen s.heap.objs.size 0 (Heap.get?_push_size _ rfl) fun h' tk acc' c' hk hS' hacc => ?_
 show wpAny (model prog w) A (do
   let o ← load s.heap.objs.size
   match o.data with
   | .seq xs _ => pure xs.toList
   | _ => unsupported "internal:collect") Q E { s with heap := h', toks := tk }
 refine wpAny_bind (wpAny_load hS' ?_)
 exact wpAny_pure (h h' tk acc' (fun b o e => hk b o (Nat.ne_of_lt (Heap.lt_size e)) (Heap.get?_push_of_some _ e)) (Heap.lt_size hS') hacc)
theorem sorted_dict {d : Addr} {od : Obj} {es : Array DictEntry} {ep : Nat} {ns : List Int} {Q : Value → Shared → Prop} (hh : A.handled = none) (hd : (d == sysModules) = false) (hT : s.TypeIs (.ref d) "dict") (ho : s.heap.get? d = some od) (hdat : od.data = .dict es ep) (hI : IntsAre (es.toList.map (·.key)) ns) (h64 : es.size < 64)
  (h : ∀ (h' : Heap) (tk : Tok) (l : Addr) (out : Array Value) (ns' : List Int) (e : Nat), (∀ b o, s.heap.get? b = some o → h'.get? b = some o) → s.heap.objs.size ≤ l → h'.get? l = some (seqObj "list" out e) → IntsAre out.toList ns' → ns'.Perm ns → ns'.Pairwise (· ≤ ·) → Q (.ref l) { s with heap := h', toks := tk }) :
  wpAny (model prog w) A (call (.builtin "sorted") [.ref d]) Q E s := by
 refine Calls.call_function_entry kind_sorted plain_sorted entry_sorted (args_sorted1 _) ?_
 unfold Builtin.«sorted»
 refine wpAny_bind (m := checkCount "sorted" 1 1 _) (wpAny_pure ?_)
 refine wpAny_bind (collect_dict hh hd hT ho hdat (by rw [sizeLine_eq]; omega) fun h1 tk acc kp lt it => ?_)
 have ea : acc.toList = es.toList.map (·.key) := by
  apply List.ext_getElem?
  intro i
  rw [List.getElem?_map]
  by_cases hi : i < es.size
  ·have hi' : i < acc.size := by rw [it.1]; exact hi
   walk_at "B"
   obtain ⟨e, e1, e2⟩ := it.2 i acc[i] (by simp [hi'])
   walk_at "C"
   have e3 : es.toList[i]? = some e := by simpa using e1
   rw [e3]
   simp [hi', e2]
  ·have : ¬ i < acc.size := by rw [it.1]; exact hi
   simp [Nat.le_of_not_lt hi, Nat.le_of_not_lt this]
 rw [ea]
 generalize hvs : es.toList.map (·.key) = vs at *
 have hv64 : vs.length < 64 := by rw [← hvs]; simpa using h64
 refine wpAny_bind (wpAny_newList ?_)
 have hoL : (h1.push (seqObj "list" vs.toArray 0)).get? h1.objs.size = some (seqObj "list" vs.toArray 0) := Heap.get?_push_size _ rfl
 refine wpAny_bind (wpAny_holding (wpAny_call_entry slot_list_sort ⟨_, hoL, rfl⟩ entry_list_sort (list_sort_tree hoL hI hv64 fun out ns' a1 a2 a3 => ⟨_, rfl, ?_⟩) (args_list_sort _)))
 obtain ⟨e, he⟩ := sortedHeap_at (out := out) hoL
 refine wpAny_pure ⟨_, rfl, h _ tk h1.objs.size out ns' e (fun b o hb => ?_) (Nat.le_of_lt lt) he a1 a2 a3⟩
 have hb1 := kp b o hb
 have bl := Heap.lt_size hb1
 rw [sortedHeap_old (Nat.ne_of_lt bl) (by rw [size_push']; exact Nat.lt_succ_of_lt bl)]
 exact Heap.get?_push_of_some _ hb1
end
section
variable {X : Cx} {p pos : Pos}
def rSortedD : List V → Hp → VK → Prop := fun vs H Q => (∃ (a : Addr) (kvs : List (Key × V)) (ns : List Int), vs = [.ref a] ∧ Rd H a (.dK kvs) ∧ kvs.map (·.1) = ns.map Sum.inl ∧ ns.length < 64 ∧
  ∀ (l : Addr) (ns' : List Int), H l = none → ns'.Perm ns → ns'.Pairwise (· ≤ ·) → Q (.ref l) (upd H l (.lst (ns'.map V.int)))) ∨ rSorted vs H Q
theorem call_sortedD (hc : X.calm = true) : CallR X (.builtin "sorted") rSortedD := by
 intro pins s σ H xs us Q I r h
 rcases h with ⟨a, kvs, ns, rfl, rd, hk, hl, q⟩ | h
 ·walk_at "B"
  obtain ⟨u, rfl, rx⟩ := vals1 r
  walk_at "C"
  cases rx
  walk_at "B"
  obtain ⟨z, hd, vs, kv, o, es, ep, h1, h2, h3, h4, h5, h6⟩ := dk_rd I.hok rd
  walk_at "C"
  have hT : s.TypeIs (.ref a) "dict" := ⟨o, h1, h2.1⟩
  have rel := keys_mix kv h5
  have e1 : (kvs.map fun p => kV p.1) = ns.map V.int := by
   have : (kvs.map fun p => kV p.1) = (kvs.map (·.1)).map kV := by rw [List.map_map]; rfl
   rw [this, hk, List.map_map]
   rfl
  rw [e1] at rel
  have hI := vals_intsA rel
  have es64 : es.size < 64 := by
   have := rel.length
   simp at this
   (clear hc z hd; omega)
  refine sorted_dict (I.ok.hd hc) hd hT h1 h3 hI es64 fun h' tk l out ns' e kp hl' he a1 a2 a3 => ?_
  have hz : (ns'.map V.int).length ≤ sizeLine := by rw [List.length_map, a2.length_eq]; exact le_line (by (clear hc z hd es64 hl'; omega))
  exact ⟨.ref l, upd H l (.lst (ns'.map V.int)), I.laid (t' := tk) kp hl' ⟨hz, out.toList, e, ints_vals a1, by simpa using he⟩, rfl, q _ _ (I.hok.fresh hl') a2 a3⟩
 ·exact call_sortedU pins s σ H xs us Q I r h
theorem fn_sortedD {e : Expr} {es : List Expr} {t : TA} {mg' : Str → Option Value} (hm : mg' "sorted" = none) (hX : X.mg = mg') (ha : PA X (e :: es) t) (hc : X.calm = true := by kernel_rfl) (hg : gB X "sorted" = true := by kernel_rfl) (he : starEach (e :: es) X.env = (false, eval e X.env) :: starEach es X.env := by kernel_rfl) (hpl : (backTo pos (starEach es X.env)).any (·.1) = false := by kernel_rfl) :
  PE X (.Call (.Name "sorted" p) (e :: es) [] pos) (tCB rSortedD t) := pe_callB (call_sortedD hc) (gl_of hg) (by rw [hX]; exact hm) PyProof.Rows.boot_sorted ha (he := he) (hpl := hpl)
end
end L2
end
section
set_option Elab.async false
set_option linter.all false
set_option maxRecDepth 100000
set_option maxHeartbeats 4000000
namespace L2
open PySem PySem.Spec PyProof.Rows
section
variable {X : Cx} {p pos p2 : Pos} {a b e st : Expr} {es : List Expr} {t : TA} {te : TE} {ts : TO}
def rRev : V → Option Int → Hp → VK → Prop := fun x k H Q => k = some (-1) ∧ match x with
 | .ref p => ∃ xs, H p = some (.lst xs) ∧ ∀ n, H n = none → Q (.ref n) (upd H n (.lst xs.reverse))
 | .str z => z.length ≤ sizeLine ∧ ∀ z' : Str, z'.length ≤ z.length → Q (.str z') H
 | _ => False
theorem vals_rev : ∀ {xs : List V} {us : List Value}, Vals xs us → Vals xs.reverse us.reverse
 | [], us, r => by cases r; exact .nil
 | x :: xs, us, r => by
  cases r with
  | cons r1 r2 =>
   rw [List.reverse_cons, List.reverse_cons]
   exact (vals_rev r2).append (.cons r1 .nil)
theorem e_rev (he : PE X e te) (hs : PO X (some st) ts) : PE X (.Subscript e (.Slice none none (some st) p2) pos) (fun σ H Q => te σ H fun x H1 => ts σ H1 fun k H2 => rRev x k H2 Q) := by
 intro pins s σ H Q I h
 refine Subscript_ (thn (he pins s σ H _ I h) fun v s1 ⟨x, H1, I1, r1, q1⟩ => ?_)
 refine wpAny_Slice ?_
 rw [evalPart_none]
 refine wpAny_pure (wpAny_pure ?_)
 refine thn (hs pins s1 σ H1 _ I1 q1) fun vk s3 ⟨k, H3, I3, pk, q3⟩ => ?_
 obtain ⟨ek, q3⟩ := q3
 subst ek
 have I4 : Inv X pins σ H3 { s3 with heap := s3.heap.push { cls := .type "slice", data := .fields #[.none, .none, vk] } } := I3.kept (t' := s3.toks) fun b ob q => Heap.get?_push_of_some _ q
 have hsl : (s3.heap.push { cls := .type "slice", data := .fields #[.none, .none, vk] }).IsSliceOf s3.heap.objs.size .none .none vk := Heap.IsSliceOf.new ..
 show wpAny (model X.prog X.w) X.A (subscriptTail e (.Slice none none (some st) p2) v (.ref s3.heap.objs.size)) (EP X pins σ Q) X.xe { s3 with heap := s3.heap.push { cls := .type "slice", data := .fields #[.none, .none, vk] } }
 generalize hs4 : ({ s3 with heap := s3.heap.push { cls := .type "slice", data := .fields #[.none, .none, vk] } } : Shared) = s4 at I4
 have hsl4 : s4.heap.IsSliceOf s3.heap.objs.size .none .none vk := by rw [← hs4]; exact hsl
 cases x with
 | ref l =>
  walk_at "B"
  obtain ⟨xs, hx, q⟩ := q3
  walk_at "C"
  cases r1
  walk_at "B"
  obtain ⟨its, r, ht, hz⟩ := I4.list (SqL.of hx)
  walk_at "C"
  refine tail_any (ops := [.ref l, .ref s3.heap.objs.size]) ht.isList.typeIs slot_list_getitem.lookup ?_ (by with_unfolding_all rfl)
  have hlen := r.length
  refine wpAny_getItem_list_slice ht.isList hsl4 .none .none pk (by decide) ?_ (by rw [List.size_toArray]; omega)
  rw [PySem.W.krv_pick]
  refine ⟨.ref s4.heap.objs.size, _, I4.laid (t' := s4.toks) (o := .lst xs.reverse) (fun b ob q => Heap.get?_push_of_some _ q) (Nat.le_refl _) ?_, rfl, q _ (I4.hok.fresh (Nat.le_refl _))⟩
  exact ⟨by rw [List.length_reverse]; exact hz, _, 0, vals_rev r, Heap.get?_push_size _ rfl⟩
 | str z =>
  obtain ⟨hz, q⟩ := q3
  obtain ⟨t, rfl⟩ := r1
  refine tail_any (ops := [.str z t, .ref s3.heap.objs.size]) (typeIs_str _ _ _) F.slot_str_getitem.lookup ?_ (by with_unfolding_all rfl)
  cases pk with
  | int _ u =>
   have hle : (if (((some ((-1 : Int), u)).map (·.1)).getD 1 == 1 && (slicePicked z none none (some ((-1 : Int), u))).length == z.length) = true then z else ⟨((slicePicked z none none (some ((-1 : Int), u))).filterMap (z.cps[·]?)).toArray⟩ : Str).length ≤ z.length := by
    split
    ·exact Nat.le_refl _
    ·show (List.filterMap _ (Builtin.Str.strSliceIndices none none (-1) z.length)).toArray.size ≤ z.length
     rw [List.size_toArray, picked_rev]
     refine Nat.le_trans (List.length_filterMap_le _ _) ?_
     simp
   exact wpAny_getItem_str_slice (l := none) (u := none) (st := some (-1, u)) hsl4 rfl (post_val_or_str ⟨Nat.le_trans hle hz, fun t' k => ⟨.str _, H3, I4.tok _, ⟨_, rfl⟩, q _ hle⟩⟩)
 | _ => exact q3.elim
end
section
variable {H H' : Hp} {n : Nat} {v : V} {a : Addr} {xs : List V}
end
section
variable {F : Addr → Prop} {H H' : Hp} {b : Addr} {o : HO}
end
end L2
end
section
set_option Elab.async false
set_option linter.all false
set_option maxRecDepth 100000
set_option maxHeartbeats 4000000
namespace L2
open PySem PySem.Spec PyProof.Rows
end L2
end
section
set_option Elab.async false
set_option linter.all false
set_option maxRecDepth 100000
set_option maxHeartbeats 4000000
namespace L2
open PySem PySem.Spec PyProof.Rows

def CodeO (c : Addr) (q : Str) : HO := .ext fun h => h.CodeRec (.ref c) q
theorem CodeO.mk {P : Program} {w : World} {H : Hp} {h : Heap} {c : Addr} {q : Str} (x : h.CodeRec (.ref c) q) : ObjOk P w H h c (CodeO c q) := by
 refine ⟨x, ?_, fun h1 h2 x1 k => ?_⟩
 ·walk_at "B"
  obtain ⟨c', o, vs, t, e, g, r⟩ := x
  walk_at "C"
  cases e
  exact ⟨o, g⟩
 ·walk_at "B"
  obtain ⟨c', o, vs, t, e, g, r⟩ := x1
  walk_at "C"
  cases e
  exact ⟨_, o, vs, t, rfl, k o g, r⟩
theorem CodeO.at {P : Program} {w : World} {H : Hp} {h : Heap} {c : Addr} {q : Str} (ok : HOk P w H h) (e : H c = some (CodeO c q)) : h.CodeRec (.ref c) q := (ok c _ e).1

def LamIn (h : Heap) (f : Addr) (params : Arguments) (body : Expr) (scope : Scope) (qual : Str) (c : Addr) (F : List Str) (fvs : List V) : Prop :=
 ∃ (pm ctv : Value) (clos : List (Str × Addr)), h.get? f = some (PySem.W.kla_obj "<lambda>" qual params body scope clos pm c ctv) ∧
  (∀ x y d, clos.lookup x = some d → clos.lookup y = some d → x = y) ∧
  (∀ y ∈ scope.names, y.2 = .free → ∃ d, clos.lookup y.1 = some d) ∧
  (∀ x d, clos.lookup x = some d → ∃ v, h.IsCell d v) ∧
  ∀ (i : Nat) x v, F[i]? = some x → fvs[i]? = some v → ∃ d u, clos.lookup x = some d ∧ h.IsCell d (some u) ∧ RelV v u
structure LamSc (p : Str) (F : List Str) (sc : Scope) : Prop where
 kind : sc.kind = .function
 co : sc.isCoroutine = false
 gen : sc.isGenerator = false
 par : sc.names.lookup p = some .local
 fre : ∀ x ∈ F, sc.names.lookup x = some .free
 nocell : ∀ y ∈ sc.names, y.2 ≠ .cell
def cxLam (CX : CXT) (P : Program) (w : World) (K : PySem.W.Frag) (mg : Str → Option Value) (base : Heap) (N : List Str) (qual : Str) (scope : Scope) (f : Addr) (cd : Value) (clos : List (Str × Addr)) (A : Around) (outer : List Env) (s : Shared) (H : Hp) (E : XK) : Cx where
 prog := P
 w := w
 K := K
 mg := mg
 base := base
 A := A.deeper (PySem.W.envX qual scope s.heap.objs.size f cd clos)
 N := N
 s₀ := s
 H₀ := H
 env := PySem.W.envX qual scope s.heap.objs.size f cd clos
 outer := outer
 stack := PySem.W.envX qual scope s.heap.objs.size f cd clos :: outer
 ex := []
 calm := true
 fn := fun _ => false
 pn := []
 xe := fun e s' => wpAny (model P w) (A.deeper (PySem.W.envX qual scope s.heap.objs.size f cd clos)) (leaving (PySem.W.envX qual scope s.heap.objs.size f cd clos) e) (fun _ s'' => CX outer H s E e s'') (fun e' s'' => CX outer H s E e' s'') s'
theorem inv_lam {CX : CXT} {P : Program} {w : World} {K : PySem.W.Frag} {mg : Str → Option Value} {base : Heap} {p : Str} {F : List Str} {fvs : List V} {qual : Str} {scope : Scope} {f : Addr} {cd : Value} {clos : List (Str × Addr)} {A : Around} {outer : List Env} {s : Shared} {H : Hp} {E : XK}
  {u : Value} {v : V} {h' : Heap} {tk : Nat} (S : LamSc p F scope) (hd : A.handled = none) (e0 : Env0 P w K mg base A outer s H) (rv : RelV v u) (hl : F.length = fvs.length)
  (inj : ∀ x y d, clos.lookup x = some d → clos.lookup y = some d → x = y) (has : ∀ y ∈ scope.names, y.2 = .free → ∃ d, clos.lookup y.1 = some d) (cel : ∀ x d, clos.lookup x = some d → ∃ v, base.IsCell d v)
  (vals : ∀ (i : Nat) x v, F[i]? = some x → fvs[i]? = some v → ∃ d u, clos.lookup x = some d ∧ base.IsCell d (some u) ∧ RelV v u)
  (hns : h'.Ns s.heap.objs.size (fun x => [(p, u)].reverse.lookup x)) (hk : ∀ b o, s.heap.get? b = some o → h'.get? b = some o) :
  Inv (cxLam CX P w K mg base (p :: F) qual scope f cd clos A outer s H E) [] (some v :: fvs.map some) H { s with heap := h', toks := tk } := by
 have noA : ∀ b : Addr, b ∉ (cxLam CX P w K mg base (p :: F) qual scope f cd clos A outer s H E).ex := fun b z => absurd (show b ∈ ([] : List Addr) from z) (by simp)
 have up : ∀ {d : Addr} {v : Option Value}, base.IsCell d v → h'.IsCell d v := fun {d v} ⟨o, e, q⟩ => ⟨o, hk _ _ (e0.bs _ _ e).1, q⟩
 refine ⟨⟨e0.mod, S.kind, rfl, rfl, Nat.le_refl _, inj, fun y hy => ?_, fun y c hf _ => (by cases (show false = true from hf)), fun _ => hd, Around.frames_deeper e0.frames, .inr ⟨rfl, rfl⟩, fun b z => absurd z (noA b), e0.bs, e0.bsz, fun b _ _ => noA b, fun b z => absurd z (noA b), e0.funs, e0.frf⟩,
  rfl, e0.bare, Un.kept hk, ⟨_, hns, fun i y x h1 h2 h3 => ?_⟩, fun y c h => ?_, e0.hok.fresh (Nat.le_refl _), fun y c h => ?_, fun p hp => absurd (show p ∈ ([] : List (Addr × Obj)) from hp) (by simp), e0.hok.kept hk, ?_⟩
 ·have hy : scope.names.lookup y = some .cell ∨ scope.names.lookup y = some .free := hy
  rcases hy with hy | hy
  ·exact absurd rfl (S.nocell _ (PySem.mem_of_lookup hy))
  ·exact has _ (PySem.mem_of_lookup hy) rfl
 ·cases i with
  | zero =>
   cases h1
   cases h2
   exact ⟨u, rv, .inl ⟨S.par, by simp⟩⟩
  | succ i =>
   have h1 : F[i]? = some y := by
    have h1 : (p :: F)[i + 1]? = some y := h1
    rw [List.getElem?_cons_succ] at h1
    exact h1
   have h2 : fvs[i]? = some x := by
    rw [List.getElem?_cons_succ, List.getElem?_map] at h2
    cases q : fvs[i]? with
    | none => rw [q] at h2; cases h2
    | some z => rw [q] at h2; cases h2; rfl
   walk_at "B"
   obtain ⟨d, u', e1, e2, e3⟩ := vals i y x h1 h2
   walk_at "C"
   exact ⟨u', e3, .inr ⟨.inr (S.fre y (List.mem_of_getElem? h1)), d, e1, up e2⟩⟩
 ·obtain ⟨x, e⟩ := cel y c h
  exact ⟨x, up e⟩
 ·walk_at "B"
  obtain ⟨x, o, e, _⟩ := cel y c h
  walk_at "C"
  exact (e0.bs _ _ e).2
 ·show (some v :: fvs.map some).length = (p :: F).length
  simp [hl]

def CanL (P : Program) (w : World) (K : PySem.W.Frag) (mg : Str → Option Value) (base : Heap) (f : Addr) (k : Nat) (p : Str) (sp : Sp) : Prop :=
 ∃ fd, FnOk P w K mg base CX0 k f fd [p] sp ∧ (∃ oc od sl, base.get? f = some ⟨oc, od, .func fd, sl⟩) ∧ Binds K fd [p] []
theorem lam_ok {P : Program} {w : World} {K : PySem.W.Frag} {mg : Str → Option Value} {base : Heap} {f c : Addr} {params : Arguments} {body : Expr} {scope : Scope} {qual p : Str} {F : List Str} {fvs : List V} {k : Nat} {sp : Sp} (L : LamIn base f params body scope qual c F fvs) (S : LamSc p F scope)
  (hl : F.length = fvs.length) (hbind : ∀ clos pm ctv u, bindArgs (PySem.W.kla_fn "<lambda>" qual params body scope clos pm (.ref c) ctv) ⟨[u], []⟩ = pure [(p, u)]) (len : ∀ vs H Q E, sp vs H Q E → vs.length = 1)
  (hbody : ∀ (clos : List (Str × Addr)) (A : Around) (outer : List Env) (s : Shared) (H : Hp) (v : V) (Q : VK) (E : XK), Room k (A.deeper (PySem.W.envX qual scope s.heap.objs.size f (.ref c) clos)) → sp [v] H Q E →
   H c = some (CodeO c qual) ∧ ∃ t, PE (cxLam CX0 P w K mg base (p :: F) qual scope f (.ref c) clos A outer s H E).nox body t ∧ t (some v :: fvs.map some) H Q) : CanL P w K mg base f (k + 1) p sp := by
 walk_at "B"
 obtain ⟨pm, ctv, clos, hf, inj, has, cel, vals⟩ := L
 walk_at "C"
 refine ⟨_, ⟨len, fun A outer s H args us vs Q E hr e0 hb r hsp => ?_⟩, ⟨_, _, _, hf⟩, .all fun us hl => ?_⟩
 ·have hl1 := len _ _ _ _ hsp
  match vs, hl1 with
  | [v], _ =>
   walk_at "B"
   obtain ⟨u, rfl, rv⟩ := vals1 r
   walk_at "C"
   have lim : s.heap.NoLimit := e0.mod.nolimit.keeps fun b o e => (e0.bs b o e).1
   walk_at "B"
   obtain ⟨hc, t, ht, hq⟩ := hbody clos A outer s H v Q E (hr.deeper _) hsp
   walk_at "C"
   refine PySem.W.kla_callFunE hr.depth (e0.bs _ _ hf).1 rfl S.co S.gen rfl (CodeO.at e0.hok hc) (hb _ _ _ _ ?_)
   refine wpAny_newFunctionEnv S.nocell (fun y hy => ?_) (fun h' hns hsb => ?_) S.kind
   ·have e : y = (p, u) := by simpa using hy
    subst e
    exact S.par
   ·have hk : ∀ b o, s.heap.get? b = some o → h'.get? b = some o := fun b o e => hsb.extBut b o (Nat.ne_of_lt (Heap.lt_size e)) (Heap.get?_push_of_some _ e)
    refine ⟨lim.keeps hk, PySem.W.kla_codeExpr ?_⟩
    have I := inv_lam (CX := CX0) (E := E) (f := f) (cd := .ref c) (qual := qual) (tk := s.toks + ([p].zip [u]).length) S hr.hd e0 rv hl inj has cel vals hns hk
    refine wpAny_mono (ht.nox [] _ _ H _ I hq) (fun u' s' hs => ?_) fun e s' hs => hs
    walk_at "B"
    obtain ⟨v', H', J, rv', q⟩ := hs
    walk_at "C"
    exact ⟨v', H', J.os, J.bare, J.base, J.hok, rv', q⟩
 ·match us, hl with
  | [u], _ => exact hbind clos pm ctv u

section
variable {X : Cx} {p pos : Pos} {e : Expr} {es : List Expr} {t : TA}
def tCanF (i : Nat) (f : Addr) (sp : Sp) (t : TA) : TE := fun σ H Q => σ[i]? = some (some (.ref f)) ∧ t σ H fun vs H1 => sp vs H1 Q E0
theorem e_callF (x : Str) (i : Nat) {P' : Program} {w' : World} {K' : PySem.W.Frag} {mg' : Str → Option Value} {base' : Heap} {f : Addr} {k : Nat} {y : Str} {sp : Sp} (V : CanL P' w' K' mg' base' f k y sp)
  (hX : X.prog = P' ∧ X.w = w' ∧ X.K = K' ∧ X.mg = mg' ∧ X.base = base') (hr : Room k X.A) (ha : PA X (e :: es) t) (hN : X.N[i]? = some x := by with_unfolding_all rfl) (hv : visB X.env.scope x = true := by kernel_rfl)
  (he : starEach (e :: es) X.env = (false, eval e X.env) :: starEach es X.env := by kernel_rfl) (hpl : (backTo pos (starEach es X.env)).any (·.1) = false := by kernel_rfl) :
  PE X (.Call (.Name x p) (e :: es) [] pos) (tCanF i f sp t) := by
 walk_at "B"
 obtain ⟨rfl, rfl, rfl, rfl, rfl⟩ := hX
 obtain ⟨fd, F, ⟨oc, od, sl, hf⟩, b⟩ := V
 walk_at "C"
 intro pins s σ H Q I h
 obtain ⟨ef, h⟩ := h
 refine wpAny_Call_Name_kw (thn ((vn (X := X) (pos := p) x i hN hv) pins s σ H (fun v H' => v = .ref f ∧ H' = H) I ?_) fun u s1 ⟨v, H1, I1, r1, q1, q2⟩ => ?_)
 ·unfold tV
  rw [ef]
  exact ⟨rfl, rfl⟩
 ·subst q1
  subst q2
  cases r1
  have go : wpAny (model X.prog X.w) X.A (spliced (backTo pos (starEach (e :: es) X.env))) (fun vs s₁ => s₁.heap.get? f = some ⟨oc, od, .func fd, sl⟩ ∧ wpAny (model X.prog X.w) X.A (call (.ref f) vs) (EP X pins σ Q) X.xe s₁) X.xe s1 :=
   thn (ha pos pins s1 σ H1 _ I1 h) fun us s2 ⟨vs, H2, I2, r, q⟩ => ⟨I2.bk _ _ hf, run_fn (dvs := []) (E := E0) F hr b .nil pass0 I2 r (by rw [List.append_nil]; exact q)⟩
  rw [he] at go ⊢
  exact PySem.W.callWith_of (P := fun h => h.get? f = some ⟨oc, od, .func fd, sl⟩) (first := []) (by show ((false || (backTo pos (starEach es X.env)).any (·.1)) || false) = false; rw [hpl]; rfl)
   (fun h hh => ⟨.frame, .inl rfl, (PySem.W.Looks.ld (part := none) hh).andThen .now⟩) (Calls.evalArgs_plain go)
end
end L2
end
section
set_option Elab.async false
set_option linter.all false
set_option maxRecDepth 100000
set_option maxHeartbeats 4000000
namespace L2
open PySem PySem.Spec PyProof.Rows
structure Maker (mg : Str → Option Value) (base : Heap) (c P : Addr) : Prop where
 bm : ∃ bm ob, mg "__builtins__" = some (.ref bm) ∧ bm ≠ builtinsNs ∧ base.get? bm = some ob ∧ ob.cls = .type "module" ∧ ob.dict = some builtinsNs ∧ ob.data = .plain
 hd : PySem.W.CodeHd base c P
def Tab (P : Addr) (pos : Pos) (qual : Str) (H : Hp) : Prop := H P = some (.tbl #[]) ∨ ∃ c, H P = some (.tbl #[rawInt pos.line, rawInt pos.col, .ref c]) ∧ H c = some (CodeO c qual)
def SameT (P : Addr) (H H' : Hp) : Prop := ∀ b o, b ≠ P → H b = some o → H' b = some o
theorem SameT.refl (P : Addr) (H : Hp) : SameT P H H := fun _ _ _ h => h
theorem SameT.trans {P : Addr} {H H1 H2 : Hp} (a : SameT P H H1) (b : SameT P H1 H2) : SameT P H H2 := fun c o n h => b c o n (a c o n h)
theorem Same.t {P : Addr} {H H' : Hp} (a : Same H H') : SameT P H H' := fun c o _ h => a c o h
theorem Tab.mono {P : Addr} {pos : Pos} {qual : Str} {H H' : Hp} (t : Tab P pos qual H) (s : Same H H') : Tab P pos qual H' := by
 rcases t with e | ⟨c, e1, e2⟩
 ·exact .inl (s _ _ e)
 ·exact .inr ⟨c, s _ _ e1, s _ _ e2⟩
theorem tab_un {Pg : Program} {w : World} {fs ex : List Addr} {H : Hp} {h h' : Heap} {P c : Addr} {ps more : Array Value} {q : Str} (ok : HOk Pg w H h) (e : H P = some (.tbl ps)) (k : ∀ b o, b ≠ P → h.get? b = some o → h'.get? b = some o) (hP : h'.get? P = some (PySem.W.tabObj (ps ++ more)))
  (hc : h.objs.size ≤ c) : Un fs ex H (upd (upd H P (.tbl (ps ++ more))) c (CodeO c q)) h h' := by
 have nc := ok.fresh hc
 have cP : c ≠ P := fun z => by rw [z, e] at nc; cases nc
 have at' : ∀ b o, b ≠ P → H b = some o → upd (upd H P (.tbl (ps ++ more))) c (CodeO c q) b = some o := fun b o n g => by
  rw [upd_ne (ne_of_none g nc), upd_ne n]
  exact g
 have un : ∀ b, H b = none → b ≠ P := fun b n z => by rw [z, e] at n; cases n
 refine ⟨fun b o g n _ _ => k b o (un b n) g, fun b o g n _ _ => ⟨o.slots, k b o (un b n) g⟩, fun b o g n _ => ?_, fun b o g _ => ?_, fun b xs g => at' b _ (fun z => by rw [z, e] at g; cases g) g, fun b o u g => at' b _ (fun z => by rw [z, e] at g; cases g) g, fun b qs g => ?_⟩
 ·rw [upd_ne (Nat.ne_of_lt (Nat.lt_of_lt_of_le (Heap.lt_size g) hc)), upd_ne (un b n)]
  exact n
 ·by_cases z : b = P
  ·rw [z]; exact ⟨_, hP⟩
  ·exact ⟨o, k b o z g⟩
 ·by_cases z : b = P
  ·subst z
   rw [e] at g
   cases g
   exact ⟨more, by rw [upd_ne (Ne.symm cP), upd_same]⟩
  ·exact ⟨#[], by rw [at' b _ z g]; simp⟩
theorem tab_hok {Pg : Program} {w : World} {H : Hp} {h h' : Heap} {P c : Addr} {ps more : Array Value} {q : Str} (ok : HOk Pg w H h) (e : H P = some (.tbl ps)) (k : ∀ b o, b ≠ P → h.get? b = some o → h'.get? b = some o) (hP : h'.get? P = some (PySem.W.tabObj (ps ++ more)))
  (hc : h.objs.size ≤ c) (rec : h'.CodeRec (.ref c) q) : HOk Pg w (upd (upd H P (.tbl (ps ++ more))) c (CodeO c q)) h' := by
 have nc := ok.fresh hc
 have cP : c ≠ P := fun z => by rw [z, e] at nc; cases nc
 have at' : ∀ b o, b ≠ P → H b = some o → upd (upd H P (.tbl (ps ++ more))) c (CodeO c q) b = some o := fun b o n g => by
  rw [upd_ne (ne_of_none g nc), upd_ne n]
  exact g
 intro a o g
 by_cases z : a = c
 ·subst z
  rw [upd_same] at g
  cases g
  exact CodeO.mk rec
 ·rw [upd_ne z] at g
  by_cases y : a = P
  ·subst y
   rw [upd_same] at g
   cases g
   exact hP
  ·rw [upd_ne y] at g
   refine (ok a o g).stay (fun b u hb r => k b u ?_ r) (fun b r => at' b _ (fun z => by rw [z, e] at r; cases r) r) fun b xs r => at' b _ (fun z => by rw [z, e] at r; cases r) r
   rintro rfl
   rcases hb with rfl | hb
   ·exact y rfl
   ·rw [e] at hb; cases hb

section
variable {X : Cx} {pins : List (Addr × Obj)} {σ : St} {H : Hp} {s : Shared}
theorem lam_eval {params : Arguments} {body : Expr} {scope : Scope} {pos : Pos} {c P : Addr} {Q : Value → Shared → Prop} (I : Inv X pins σ H s) (M : Maker X.mg X.base c P) (hcd : X.env.code = .ref c) (hdef : defaultsOf params X.env = ([], []))
  (tb : Tab P pos (X.env.qual ++ "<lambda>") H) (hfr : ∀ y ∈ scope.names, y.2 = .free → ∃ d, X.env.cells.lookup y.1 = some d)
  (h : ∀ (f c' : Addr) (clos : List (Str × Addr)) (pm ctv : Value) (H2 : Hp) (s2 : Shared), Inv X pins σ H2 s2 → SameT P H H2 → H2 P = some (.tbl #[rawInt pos.line, rawInt pos.col, .ref c']) → H2 c' = some (CodeO c' (X.env.qual ++ "<lambda>")) → H2 f = none →
   s2.heap.get? f = some (PySem.W.kla_obj "<lambda>" (X.env.qual ++ "<lambda>") params body scope clos pm c' ctv) → s.heap.objs.size ≤ f → (∀ x d, clos.lookup x = some d → X.env.cells.lookup x = some d) → (∀ y ∈ scope.names, y.2 = .free → ∃ d, clos.lookup y.1 = some d) → Q (.ref f) s2) :
  wpAny (model X.prog X.w) X.A (eval (.Lambda params body scope pos) X.env) Q X.xe s := by
 refine PySem.W.kla_eval hdef ?_
 walk_at "B"
 obtain ⟨clos, hcl, hc1, hc2⟩ := closure_ok hfr
 walk_at "C"
 have hgs := I.mod.glob.keeps I.bk
 walk_at "B"
 obtain ⟨bm, ob, b1, b2, b3, b4, b5, b6⟩ := M.bm
 walk_at "C"
 have hbm := I.bk _ _ b3
 have hbG : bm ≠ mainGlobals := fun q => by
  walk_at "B"
  obtain ⟨o, es, ep, e, hd, _⟩ := hgs
  walk_at "C"
  rw [q, e] at hbm; cases hbm; rw [hd] at b6; cases b6
 have side : ∀ {ps : Array Value}, s.heap.get? P = some (PySem.W.tabObj ps) → mainGlobals ≠ P ∧ s.heap.BuiltinsAt X.mg P := fun {ps} hP => by
  refine ⟨fun q => ?_, bm, ob, b1, b2, hbG, fun q => ?_, hbm, b4, b5, b6⟩
  ·walk_at "B"
   obtain ⟨o, es, ep, e, hd, _⟩ := hgs
   walk_at "C"
   rw [q, hP] at e; cases e; cases hd
  ·rw [q, hP] at hbm; cases hbm; cases b4
 rcases tb with e | ⟨c', e1, e2⟩
 ·have hP : s.heap.get? P = some (PySem.W.tabObj #[]) := I.hok P _ e
  obtain ⟨g1, g2⟩ := side hP
  refine PySem.W.kla_makeFunction (mg := X.mg) hcl I.ok.glob hgs hcd (M.hd.keeps I.bk) hP trivial rfl g1 g2 fun c' ctv h' tk hx hge hlt hrec htb => ?_
  have k : ∀ (o : Obj) b u, b ≠ P → s.heap.get? b = some u → (h'.push o).get? b = some u := fun o b u n g => Heap.get?_push_of_some _ (hx b u n g)
  have hf : s.heap.objs.size ≤ h'.objs.size := Nat.le_of_lt (Nat.lt_of_le_of_lt hge hlt)
  have nf := I.hok.fresh hf
  have cP : c' ≠ P := fun z => by have := I.hok.fresh hge; rw [z, e] at this; cases this
  have J := I.un (t' := tk) (tab_un (fs := X.fs) (ex := []) (more := #[rawInt pos.line, rawInt pos.col, .ref c']) (q := X.env.qual ++ "<lambda>") I.hok e (k _) (Heap.get?_push_of_some (PySem.W.kla_obj "<lambda>" (X.env.qual ++ "<lambda>") params body scope clos ((X.mg "__name__").getD .none) c' ctv) htb) hge)
   (tab_hok I.hok e (k _) (Heap.get?_push_of_some _ htb) hge (hrec.push _))
  refine h h'.objs.size c' clos _ ctv _ _ J (fun b o n g => ?_) ?_ upd_same ?_ (Heap.get?_push_size _ rfl) hf hc1 hc2
  ·rw [upd_ne (ne_of_none g (I.hok.fresh hge)), upd_ne n]
   exact g
  ·rw [upd_ne (Ne.symm cP), upd_same]
   simp
  ·rw [upd_ne (Nat.ne_of_gt hlt), upd_ne (fun z => by rw [z, e] at nf; cases nf)]
   exact nf
 ·have hP : s.heap.get? P = some (PySem.W.tabObj #[rawInt pos.line, rawInt pos.col, .ref c']) := I.hok P _ e1
  obtain ⟨g1, g2⟩ := side hP
  refine PySem.W.kla_makeFunctionHit (mg := X.mg) hcl I.ok.glob hgs hcd (M.hd.keeps I.bk) hP (TriplesOk_snoc _ _ _ [] trivial) (codeAmong_snoc [] trivial rfl) g2 fun ctv h' tk hk hsz => ?_
  have J := I.kept (t' := tk) (h' := h'.push (PySem.W.kla_obj "<lambda>" (X.env.qual ++ "<lambda>") params body scope clos ((X.mg "__name__").getD .none) c' ctv)) fun b u g => Heap.get?_push_of_some _ (hk b u g)
  exact h h'.objs.size c' clos _ ctv H _ J (SameT.refl _ _) e1 e2 (I.hok.fresh hsz) (Heap.get?_push_size _ rfl) hsz hc1 hc2

def wider (X : Cx) (h : Heap) (H : Hp) : Heap := PySem.W.hideAll h (trk h H ++ frs X.stack)
theorem wider_get {h : Heap} {b : Addr} {o : Obj} (e : h.get? b = some o) (n : H b = none) (f : b ∉ frs X.stack) : (wider X h H).get? b = some o :=
 PySem.W.hideAll_get _ e fun hm => by
  rcases List.mem_append.mp hm with hm | hm
  ·have q : (H b).isSome = true := (List.mem_filter.mp hm).2
   rw [n] at q; simp at q
  ·exact f hm
theorem of_wider {h : Heap} {b : Addr} {o : Obj} (e : (wider X h H).get? b = some o) : h.get? b = some o ∧ H b = none ∧ b ∉ frs X.stack := by
 have e' : h.get? b = some o := PySem.W.of_hideAll _ e
 have nm : b ∉ trk h H ++ frs X.stack := fun hm => by rw [show (wider X h H).get? b = none from PySem.W.hideAll_none _ hm] at e; cases e
 refine ⟨e', ?_, fun z => nm (List.mem_append_right _ z)⟩
 cases q : H b with
 | none => rfl
 | some x => exact absurd (List.mem_append_left _ (List.mem_filter.mpr ⟨List.mem_range.mpr (Heap.lt_size e'), by simp [q]⟩)) nm
theorem Inv.nostk (I : Inv X pins σ H s) {b : Addr} {o : Obj} (e : X.base.get? b = some o) : b ∉ frs X.stack := fun hb => by
 have := (I.stack.mem hb).1
 rw [e] at this; cases this
theorem Inv.wide (I : Inv X pins σ H s) : (∀ b o, X.base.get? b = some o → (wider X s.heap H).get? b = some o) := fun b o e => wider_get (I.bs b o e).1 (I.bs b o e).2 (I.nostk e)
theorem funFrames_wide {h base base' : Heap} : ∀ {l : List Env}, h.FunFrames base l → (∀ b ∈ frs l, base'.get? b = none) → h.FunFrames base' l
 | [], _, _ => trivial
 | env :: r, ⟨hk, ⟨L, o, hf, hn, ho, hd⟩, hr⟩, k => by
  have hL : L ∈ frs (env :: r) := by unfold frs; rw [List.filterMap_cons, hf]; exact List.mem_cons_self
  exact ⟨hk, ⟨L, o, hf, k L hL, ho, hd⟩, funFrames_wide hr fun b hb => k b (by unfold frs; rw [List.filterMap_cons, hf]; exact List.mem_cons_of_mem _ hb)⟩
theorem Mod.keeps {K : PySem.W.Frag} {mg : Str → Option Value} {base base' : Heap} (M : Mod K mg base) (k : ∀ b o, base.get? b = some o → base'.get? b = some o) : Mod K mg base' :=
 ⟨M.kin.keeps k, M.glob.keeps k, let ⟨mb, a, b⟩ := M.blt; ⟨mb, a.keeps k, b⟩, M.nolimit.keeps k⟩
theorem Inv.env1 (I : Inv X pins σ H s) : Env0 X.prog X.w X.K X.mg (wider X s.heap H) X.A X.stack s H :=
 ⟨I.ok.frames, I.mod.keeps I.wide, fun b o e => ⟨(of_wider e).1, (of_wider e).2.1⟩, Nat.le_of_eq (PySem.W.hideAll_size _ _), funFrames_wide I.stack fun b hb => PySem.W.hideAll_none _ (List.mem_append_right _ hb), I.stkFree, I.hok, I.bare⟩
end

section
variable {X : Cx} {p pos lp : Pos} {a : Expr} {ta : TE}
def tLam (P : Addr) (lp : Pos) (qual : Str) (js : List Nat) (sp : Addr → Addr → List V → Sp) (ta : TE) : TE := fun σ H Q => ta σ H fun x H1 => Tab P lp qual H1 ∧ ∃ fvs : List V, js.map (fun j => σ[j]?) = fvs.map (fun v => some (some v)) ∧
 ∀ f c H2, SameT P H1 H2 → H2 P = some (.tbl #[rawInt lp.line, rawInt lp.col, .ref c]) → H2 c = some (CodeO c qual) → H2 f = none → sp f c fvs [x, .ref f] H2 Q E0
theorem e_lamcall (x : Str) {params : Arguments} {body : Expr} {scope : Scope} {c P : Addr} {F : List Str} {js : List Nat} {k : Nat} {ps : List Str} {sp : Addr → Addr → List V → Sp} (hm : ∃ f, X.mg x = some (.ref f) ∧ PySem.W.keepIn X.K (.ref f) = true) (M : Maker X.mg X.base c P) (hcd : X.env.code = .ref c)
  (hF : ∀ (i : Nat) y, F[i]? = some y → ∃ j, js[i]? = some j ∧ X.N[j]? = some y ∧ X.env.scope.names.lookup y = some .cell) (hFn : F.length = js.length) (hFs : ∀ y ∈ F, scope.names.lookup y = some .free) (hfn : ∀ y, X.fn y = true) (hfree : ∀ y ∈ scope.names, y.2 = .free → X.env.scope.names.lookup y.1 = some .cell)
  (hC : ∀ (B : Heap) (f c' : Addr) (fvs : List V), Mod X.K X.mg B → (∀ b o, X.base.get? b = some o → B.get? b = some o) → F.length = fvs.length → LamIn B f params body scope (X.env.qual ++ "<lambda>") c' F fvs → Can X.prog X.w X.K X.mg B x k ps (sp f c' fvs))
  (hr : Room k X.A) (ha : PE X a ta) (hg : gB X x = true) (hdef : defaultsOf params X.env = ([], [])) (hdb : (x == ("__debug__" : Str)) = false)
  (he : starEach [a, .Lambda params body scope lp] X.env = [(false, eval a X.env), (false, eval (.Lambda params body scope lp) X.env)]) :
  PE X (.Call (.Name x p) [a, .Lambda params body scope lp] [] pos) (tLam P lp (X.env.qual ++ "<lambda>") js sp ta) := by
 walk_at "B"
 obtain ⟨tf, hm, hk⟩ := hm
 walk_at "C"
 intro pins s σ H Q I h
 refine wpAny_Call_Name_kw (ld_glob I (gl_of hg) hm ?_ hdb)
 have go : wpAny (model X.prog X.w) X.A (spliced (backTo pos (starEach [a, .Lambda params body scope lp] X.env))) (fun vs s₁ => X.K.In s₁.heap ∧ wpAny (model X.prog X.w) X.A (call (.ref tf) vs) (EP X pins σ Q) X.xe s₁) X.xe s := by
  rw [he]
  refine Calls.spliced_cons (thn (ha pins s σ H _ I h) fun u s1 ⟨v, H1, I1, r1, q1⟩ => ?_)
  walk_at "B"
  obtain ⟨tb, fvs, hv, q⟩ := q1
  walk_at "C"
  refine Calls.spliced_cons (lam_eval I1 M hcd hdef tb (fun y hy hz => I1.ok.has _ (.inl (hfree y hy hz))) fun f c' clos pm ctv H2 s2 I2 sm e1 e2 nf hf hge cl1 cl2 => Calls.spliced_nil ⟨I2.kIn, ?_⟩)
  have ls : F.length = fvs.length := by
   have := congrArg List.length hv
   rw [List.length_map, List.length_map] at this
   (clear hg hdef hdb hk hge; omega)
  have nst : f ∉ frs X.stack := fun hb => by
   walk_at "B"
   obtain ⟨_, o, ho, _⟩ := I1.stack.mem hb
   walk_at "C"
   exact absurd (Heap.lt_size ho) (Nat.not_lt.mpr hge)
  have cellB : ∀ {y : Str} {d : Addr} {z : Option Value}, X.env.cells.lookup y = some d → s2.heap.IsCell d z → (wider X s2.heap H2).IsCell d z := fun {y d z} hd ⟨o, eo, od⟩ => by
   refine ⟨o, wider_get eo (I2.freeC y d hd) fun hb => ?_, od⟩
   rcases List.mem_cons.mp (I2.stkSub d hb) with z1 | z1
   ·exact I2.cne y d hd z1
   ·walk_at "B"
    obtain ⟨_, o', ho', _⟩ := I2.ok.funs.mem z1
    walk_at "C"
    exact absurd (Heap.lt_size ho') (Nat.not_lt.mpr (I2.ok.cab y d (hfn y) hd))
  have L : LamIn (wider X s2.heap H2) f params body scope (X.env.qual ++ "<lambda>") c' F fvs := by
   refine ⟨pm, ctv, clos, wider_get hf nf nst, fun y z d h1 h2 => I2.ok.inj y z d (cl1 y d h1) (cl1 z d h2), cl2, fun y d hd => ?_, fun i y v' hi hv' => ?_⟩
   ·obtain ⟨z, hz⟩ := I2.cell y d (cl1 y d hd)
    exact ⟨z, cellB (cl1 y d hd) hz⟩
   ·walk_at "B"
    obtain ⟨j, hj, hN, hc⟩ := hF i y hi
    walk_at "C"
    have ej : σ[j]? = some (some v') := by
     have := congrArg (·[i]?) hv
     simp only [List.getElem?_map, hj, hv', Option.map_some] at this
     exact Option.some.inj this
    walk_at "B"
    obtain ⟨m, _, hloc⟩ := I2.loc
    obtain ⟨u', ru, lk⟩ := hloc j y v' hN ej (.inr (.inl hc))
    walk_at "C"
    rcases lk with ⟨k1, _⟩ | ⟨_, d, hd, hcell⟩
    ·have k1 : X.env.scope.names.lookup y = some .local := k1
     rw [hc] at k1; cases k1
    ·obtain ⟨d', hd'⟩ := cl2 (y, .free) (PySem.mem_of_lookup (hFs y (List.mem_of_getElem? hi))) rfl
     have := cl1 y d' hd'
     rw [hd] at this
     cases this
     exact ⟨d, u', hd', cellB hd hcell, ru⟩
  walk_at "B"
  obtain ⟨f', fd, Fk, hm', hk', hb⟩ := hC _ f c' fvs I2.env1.mod I2.wide ls L
  walk_at "C"
  rw [hm] at hm'
  cases hm'
  have r2 : Vals [v, .ref f] [u, .ref f] := .cons r1 (.cons rfl .nil)
  have hq := q f c' H2 sm e1 e2 nf
  have hl : ([u, Value.ref f] ++ []).length = ps.length := by rw [List.append_nil, ← r2.length]; exact Fk.len _ _ _ _ hq
  refine wpAny_call (codeAny_mono (Fk.run X.A X.stack s2 H2 ⟨[u, .ref f], []⟩ ([u, .ref f] ++ []) [v, .ref f] Q E0 hr I2.env1 (hb s2 _ I2.kIn hl) (by rw [List.append_nil]; exact r2) hq) fun r s' hq => ?_)
  cases r with
  | error e => exact hq.elim
  | ok fl =>
   cases fl with
   | ret u => exact I2.after hq
   | next => exact False.elim hq
   | brk => exact False.elim hq
   | cont => exact False.elim hq
 rw [he] at go ⊢
 exact PySem.W.callWith_of (P := fun h => X.K.In h) (first := []) rfl (PySem.W.keeps_K hk) (Calls.evalArgs_plain go)
end
end L2
end
section
set_option Elab.async false
set_option linter.all false
set_option maxRecDepth 100000
set_option maxHeartbeats 4000000
namespace Om
section
variable {α : Type} [DecidableEq α]
end
end Om
namespace L2
open PySem PySem.Spec PyProof.Rows
section
variable {prog : Program} {w : World} {A : Around} {I : Addr} {fp wr : List Addr} {G : Array GenState → Array GenState → Prop} {n : Nat} {P : Nat → Value → Prop} {St : Nat → Shared → Prop} {κ : Type} [DecidableEq κ] {knd : KeyKind prog w κ}
end
section
variable {X : Cx} {p pos : Pos} {e : Expr} {es : List Expr} {t : TA}
end
end L2
end
section
set_option Elab.async false
set_option linter.all false
set_option maxRecDepth 100000
set_option maxHeartbeats 4000000
namespace Om
section
variable {ts : List Int} {g : Nat} {f : Nat → Bool}
end
end Om
end
section
set_option Elab.async false
set_option linter.all false
set_option maxRecDepth 100000
set_option maxHeartbeats 4000000
namespace L2
open PySem PySem.Spec PyProof.Rows
section
variable {X : Cx} {p pos : Pos} {a b e : Expr} {es : List Expr} {t : TA}
def rMaxL : List V → Hp → VK → Prop := fun vs H Q => match vs with
 | [.ref p] => ∃ ns : List Int, H p = some (.lst (ns.map V.int)) ∧ ns ≠ [] ∧ ∀ M, M ∈ ns → (∀ a ∈ ns, a ≤ M) → Q (.int M) H
 | _ => False
theorem call_maxL (hc : X.calm = true) : CallR X (.builtin "max") rMaxL := by
 intro pins s σ H xs us Q I r h
 unfold rMaxL at h
 split at h
 ·rename_i p
  walk_at "B"
  obtain ⟨ns, hH, hne, q⟩ := h
  obtain ⟨u, rfl, r1⟩ := vals1 r
  walk_at "C"
  cases r1
  walk_at "B"
  obtain ⟨z, its, n, rv, e⟩ := I.hok p _ hH
  walk_at "C"
  have hI := vals_intsA rv
  obtain ⟨ps, hps⟩ := hI.allInts.items
  have hl : s.heap.IsList p (intItems ps) := hps ▸ ⟨_, e, rfl, _, rfl⟩
  have hn : ps.toList.map (·.1) = ns := by
   rw [← nums_intItems, ← hps]
   exact hI.numsOf
  have hsz : 0 < ps.size := by
   rcases Nat.eq_zero_or_pos ps.size with z | z
   ·exfalso
    apply hne
    rw [← hn, List.map_eq_nil_iff, ← List.length_eq_zero_iff, Array.length_toList]; exact z
   ·exact z
  refine max_intList (I.ok.hd hc) hl hsz fun v h' tk hv hk => ?_
  obtain ⟨t, rfl⟩ := intItems_at hv
  obtain ⟨h1, h2⟩ := argBest_gt (numAt ps) (ps.size - 1)
  refine ⟨.int _, H, I.kept hk, ⟨_, rfl⟩, q _ ?_ fun a ha => ?_⟩
  ·rw [numAt_eq, ← hn]; exact getD_mem (by rw [List.length_map, Array.length_toList]; (clear hc z; omega))
  ·rw [← hn] at ha
   walk_at "B"
   obtain ⟨j, hj, rfl⟩ := mem_getD ha
   walk_at "C"
   rw [List.length_map, Array.length_toList] at hj
   rw [← numAt_eq]; exact h2 j (by (clear hc z hsz h1; omega))
 ·exact h.elim
theorem fn_maxL {mg' : Str → Option Value} (hm : mg' "max" = none) (hX : X.mg = mg') (ha : PA X (e :: es) t) (hc : X.calm = true := by kernel_rfl) (hg : gB X "max" = true := by kernel_rfl) (he : starEach (e :: es) X.env = (false, eval e X.env) :: starEach es X.env := by kernel_rfl) (hpl : (backTo pos (starEach es X.env)).any (·.1) = false := by kernel_rfl) :
  PE X (.Call (.Name "max" p) (e :: es) [] pos) (tCB rMaxL t) := pe_callB (call_maxL hc) (gl_of hg) (by rw [hX]; exact hm) PyProof.Rows.boot_max ha (he := he) (hpl := hpl)
def tAugN (i : Nat) (te : TE) : TS := fun D σ H => match σ[i]? with
 | some (some (.int a)) => te σ H fun y H1 => match y with
  | .int b => D.nx (σ.set i (some (.int (a + b)))) H1
  | _ => False
 | _ => False
theorem s_aug (y : Str) (i : Nat) {te : TE} {py : Pos} (hN : X.N.Nodup) (he : PE X e te) (hi : X.N[i]? = some y := by with_unfolding_all rfl) (hx : locB X.env.scope y = true := by kernel_rfl)
  (hf : (X.fn y || X.env.scope.names.lookup y == some .local) = true := by kernel_rfl) : PS X (.AugAssign (.Name y py) .Add e pos) (tAugN i te) := by
 have h := ps_aug (pos := pos) (pos' := py) hN hi (loc_of hx) he (ip_add (X := X)) (by
  rw [Bool.or_eq_true] at hf
  exact hf.elim .inl fun z => .inr (eq_of_beq z))
 intro pins s σ H D I q
 refine h pins s σ H D I ?_
 unfold tAugN at q
 split at q
 ·rename_i a ea
  have q2 : te σ H fun y H1 => ipI (fun i j => i + j) (.int a) y H1 fun z H2 => D.nx (σ.set i (some z)) H2 := by
   have e : (fun (y : V) (H1 : Hp) => match y with
    | .int b => D.nx (σ.set i (some (.int (a + b)))) H1
    | _ => False) = fun y H1 => ipI (fun i j => i + j) (.int a) y H1 fun z H2 => D.nx (σ.set i (some z)) H2 := by
    funext y H1
    apply propext
    unfold ipI
    constructor
    ·intro z
     split at z
     ·exact ⟨_, _, rfl, rfl, z⟩
     ·exact z.elim
    ·intro hh_
     walk_at "B"
     obtain ⟨i', j', e1, e2, z⟩ := hh_
     walk_at "C"
     cases e1
     cases e2
     exact z
   rw [e] at q
   exact q
  exact ⟨_, ea, q2⟩
 ·exact q.elim
end
end L2
namespace Om
end Om
end
section
set_option Elab.async false
set_option linter.all false
set_option maxRecDepth 100000
set_option maxHeartbeats 4000000
namespace Om
inductive Rch (nx : Nat → List Nat) : Nat → Prop
 | z : Rch nx 0
 | s {a b : Nat} : Rch nx a → b ∈ nx a → Rch nx b
theorem rch_in {nx : Nat → List Nat} {qs : List Nat} (h0 : 0 ∈ qs) (hc : ∀ a ∈ qs, ∀ b ∈ nx a, b ∈ qs) : ∀ s, Rch nx s → s ∈ qs := fun s h => by
 induction h with
 | z => exact h0
 | s _ hb ih => exact hc _ ih _ hb
theorem nodup_len : ∀ (m : Nat) (qs : List Nat), qs.Nodup → (∀ s ∈ qs, s < m) → qs.length ≤ m
 | 0, [], _, _ => Nat.le_refl _
 | 0, q :: _, _, h => absurd (h q List.mem_cons_self) (Nat.not_lt_zero _)
 | m + 1, qs, nd, h => by
  have ih := nodup_len m (qs.erase m) (nd.erase m) fun s hs => by
   have h1 := (nd.mem_erase_iff.mp hs)
   have h2 := h s h1.2
   have h3 := h1.1
   omega
  rw [List.length_erase] at ih
  split at ih <;> omega
theorem rch_lt {nx : Nat → List Nat} {m : Nat} (h0 : 0 < m) (h : ∀ a, a < m → ∀ b ∈ nx a, b < m) : ∀ s, Rch nx s → s < m := fun s q => by
 induction q with
 | z => exact h0
 | s _ hb ih => exact h _ ih _ hb
def nxR (rows : Rows) (s : Nat) : List Nat := (rows.getD s []).map (·.2)
end Om
namespace L2
open PySem PySem.Spec PyProof.Rows
theorem upd_nn {H : Hp} {a b : Addr} {o : HO} (h : upd H a o b = none) : b ≠ a ∧ H b = none := by
 by_cases e : b = a
 ·rw [e, upd_same] at h; cases h
 ·rw [upd_ne e] at h; exact ⟨e, h⟩
def Stps (H : Hp) (ps : List V) (ts : List Nat) : Prop := ps.length = ts.length ∧ ∀ (i t : Nat), ts[i]? = some t → ∃ q, ps[i]? = some (.ref q) ∧ H q = some (.tup [.int (i : Nat), .int (t : Nat)])
def nk (s : Nat) : Key := Sum.inl (s : Int)
theorem nk_inj {a b : Nat} (h : nk a = nk b) : a = b := by
 have : (a : Int) = (b : Int) := Sum.inl.inj h
 omega
theorem valV_none {s : Nat} : ∀ {kvs : List (Key × V)} {qs : List Nat}, kvs.map (·.1) = qs.map nk → (valV kvs (nk s)).isSome = decide (s ∈ qs)
 | [], [], _ => by simp [valV]
 | [], _ :: _, h => nomatch h
 | _ :: _, [], h => nomatch h
 | kv :: kvs, q :: qs, h => by
  rw [List.map_cons, List.map_cons, List.cons.injEq] at h
  by_cases e : q = s
  ·subst e
   rw [valV_pos h.1]
   simp
  ·rw [valV_neg (fun z => e (nk_inj (h.1.symm.trans z))), valV_none h.2]
   have : ¬ s = q := fun z => e z.symm
   simp [this]
structure Tq (H0 H : Hp) (D Q : Addr) (kvs : List (Key × V)) (qs : List Nat) (c : Nat) : Prop where
 s : Same H0 H
 nD : H0 D = none
 nQ : H0 Q = none
 hD : H D = some (.dK kvs)
 hQ : H Q = some (.lst (qs.map fun s => V.int (s : Nat)))
 ks : kvs.map (·.1) = qs.map nk
 vl : ∀ s ∈ qs, ∃ t zs, valV kvs (nk s) = some (.ref t) ∧ H t = some (.lst zs) ∧ zs.length ≤ c ∧ t ≠ Q
 nd : qs.Nodup
section
variable {H0 H H1 : Hp} {D Q : Addr} {kvs : List (Key × V)} {qs : List Nat} {c : Nat}
theorem Tq.mono (g : Tq H0 H D Q kvs qs c) (s : Same H H1) : Tq H0 H1 D Q kvs qs c :=
 ⟨g.s.trans s, g.nD, g.nQ, s _ _ g.hD, s _ _ g.hQ, g.ks, fun x hx => let ⟨t, zs, a, b, r⟩ := g.vl x hx; ⟨t, zs, a, s _ _ b, r⟩, g.nd⟩
theorem Tq.le {c' : Nat} (g : Tq H0 H D Q kvs qs c) (h : c ≤ c') : Tq H0 H D Q kvs qs c' :=
 ⟨g.s, g.nD, g.nQ, g.hD, g.hQ, g.ks, fun x hx => let ⟨t, zs, a, b, d, e⟩ := g.vl x hx; ⟨t, zs, a, b, Nat.le_trans d h, e⟩, g.nd⟩
theorem Tq.klen (g : Tq H0 H D Q kvs qs c) : kvs.length = qs.length := by
 have := congrArg List.length g.ks
 rwa [List.length_map, List.length_map] at this
theorem Tq.has (g : Tq H0 H D Q kvs qs c) (s : Nat) : (valV kvs (nk s)).isSome = decide (s ∈ qs) := valV_none g.ks
theorem Tq.start {Z : Addr} (hD : H D = none) (hZ : upd H D (.dK []) Z = none) (hQ : upd (upd (upd H D (.dK [])) Z (.lst [])) D (.dK [(nk 0, .ref Z)]) Q = none) :
  Tq H (upd (upd (upd (upd H D (.dK [])) Z (.lst [])) D (.dK [(nk 0, .ref Z)])) Q (.lst [.int 0])) D Q [(nk 0, .ref Z)] [0] 0 := by
 obtain ⟨QD, q1⟩ := upd_nn hQ
 obtain ⟨QZ, q2⟩ := upd_nn q1
 obtain ⟨_, q3⟩ := upd_nn q2
 obtain ⟨ZD, z1⟩ := upd_nn hZ
 refine ⟨fun b o e => ?_, hD, q3, by rw [upd_ne (Ne.symm QD), upd_same], upd_same, rfl, fun s hs => ?_, by simp⟩
 ·rw [upd_ne (ne_of_none e q3), upd_ne (ne_of_none e hD), upd_ne (ne_of_none e z1), upd_ne (ne_of_none e hD)]
  exact e
 ·have : s = 0 := by simpa using hs
  subst this
  exact ⟨Z, [], valV_pos rfl, by rw [upd_ne (Ne.symm QZ), upd_ne ZD, upd_same], Nat.le_refl _, Ne.symm QZ⟩
theorem Tq.put_at {b u : Addr} {o : HO} {t : Nat} {ys : List V} (h : H b = some o) (bD : b ≠ D) (bQ : b ≠ Q) : upd (upd H D (.dK (putK kvs (nk t) (.ref u)))) Q (.lst ys) b = some o := by
 rw [upd_ne bQ, upd_ne bD]; exact h
theorem Tq.put (g : Tq H0 H D Q kvs qs c) {u : Addr} {zs : List V} {t : Nat} (nt : t ∉ qs) (hu : H u = some (.lst zs)) (uQ : u ≠ Q) (hz : zs.length ≤ c) :
  Tq H0 (upd (upd H D (.dK (putK kvs (nk t) (.ref u)))) Q (.lst ((qs.map fun s => V.int (s : Nat)) ++ [.int (t : Nat)]))) D Q (putK kvs (nk t) (.ref u)) (qs ++ [t]) c := by
 have DQ : D ≠ Q := ne_of g.hD g.hQ (fun z => nomatch z)
 have vn : valV kvs (nk t) = none := by
  have := g.has t
  rw [decide_eq_false nt] at this
  cases e : valV kvs (nk t) with
  | none => rfl
  | some v => rw [e] at this; cases this
 have lk : ∀ {b : Addr} {ys : List V}, H b = some (.lst ys) → b ≠ Q → upd (upd H D (.dK (putK kvs (nk t) (.ref u)))) Q (.lst ((qs.map fun s => V.int (s : Nat)) ++ [.int (t : Nat)])) b = some (.lst ys) := fun {b ys} h n => by
  rw [upd_ne n, upd_ne (ne_of h g.hD (fun z => nomatch z))]
  exact h
 refine ⟨fun b o e => ?_, g.nD, g.nQ, by rw [upd_ne DQ, upd_same], by rw [upd_same, List.map_append]; rfl, ?_, fun x hx => ?_, ?_⟩
 ·rw [upd_ne (ne_of_none e g.nQ), upd_ne (ne_of_none e g.nD)]
  exact g.s _ _ e
 ·rw [putK_new _ vn, List.map_append, List.map_append, g.ks]
  rfl
 ·by_cases e : x = t
  ·subst e
   exact ⟨u, zs, by rw [valV_put, if_pos rfl], lk hu uQ, hz, uQ⟩
  ·walk_at "B"
   obtain ⟨t', ys, a, b, d, f⟩ := g.vl x ((List.mem_append.mp hx).resolve_right (fun z => e (by simpa using z)))
   walk_at "C"
   exact ⟨t', ys, by rw [valV_put, if_neg (fun z => e (nk_inj z))]; exact a, lk b f, d, f⟩
 ·rw [List.nodup_append]
  refine ⟨g.nd, by simp, fun a ha b hb z => ?_⟩
  have : b = t := by simpa using hb
  subst this
  subst z
  exact nt ha
end
end L2
end
section
set_option Elab.async false
set_option linter.all false
set_option maxRecDepth 100000
set_option maxHeartbeats 4000000
namespace Om
theorem pow8 {k : Nat} (h : k ≤ 3) : 2 ^ k ≤ 8 := by
 have : k = 0 ∨ k = 1 ∨ k = 2 ∨ k = 3 := by omega
 rcases this with rfl | rfl | rfl | rfl <;> decide
theorem nx_ok {k n : Nat} {rows : Rows} (ok : CodeOk k n rows) {s : Nat} (hs : s < rows.length) : (nxR rows s).length ≤ 8 ∧ ∀ t ∈ nxR rows s, t < rows.length := by
 have e : rows.getD s [] = rows[s] := by rw [List.getD_eq_getElem?_getD, List.getElem?_eq_getElem hs]; rfl
 unfold nxR
 rw [e]
 refine ⟨by rw [List.length_map, ok.len _ (List.getElem_mem hs)]; exact pow8 ok.k3, fun t ht => ?_⟩
 walk_at "B"
 obtain ⟨r, hr, rfl⟩ := List.mem_map.mp ht
 walk_at "C"
 exact (ok.row _ (List.getElem_mem hs) r hr).2
theorem rch_ok {k n : Nat} {rows : Rows} (ok : CodeOk k n rows) : ∀ s, Rch (nxR rows) s → s < rows.length := rch_lt ok.s1 fun a ha => (nx_ok ok ha).2
theorem perm_nats {qs : List Nat} {ns : List Int} (h : ns.Perm (qs.map fun s => ((s : Nat) : Int))) : ∃ qs' : List Nat, ns = qs'.map (fun s => ((s : Nat) : Int)) ∧ qs'.Perm qs := by
 have e : ns = (ns.map Int.toNat).map fun s => ((s : Nat) : Int) := by
  have all : ∀ x ∈ ns, ((x.toNat : Nat) : Int) = x := fun x hx => by
   walk_at "B"
   obtain ⟨s, _, rfl⟩ := List.mem_map.mp (h.mem_iff.mp hx)
   walk_at "C"
   simp
  rw [List.map_map]
  conv => lhs; rw [← List.map_id ns]
  exact List.map_congr_left fun x hx => (all x hx).symm
 refine ⟨ns.map Int.toNat, e, ?_⟩
 have := h.map Int.toNat
 rw [List.map_map] at this
 have z : (Int.toNat ∘ fun s => ((s : Nat) : Int)) = id := by funext s; simp
 rwa [z, List.map_id] at this
theorem lt_of_le : ∀ {qs : List Nat}, qs.Nodup → (qs.map fun s => ((s : Nat) : Int)).Pairwise (· ≤ ·) → qs.Pairwise (· < ·)
 | [], _, _ => .nil
 | q :: qs, nd, h => by
  rw [List.map_cons, List.pairwise_cons] at h
  rw [List.nodup_cons] at nd
  refine .cons (fun s hs => ?_) (lt_of_le nd.2 h.2)
  have h1 := h.1 _ (List.mem_map_of_mem (f := fun s => ((s : Nat) : Int)) hs)
  have h2 : q ≠ s := fun z => nd.1 (z ▸ hs)
  have h1 : (q : Int) ≤ (s : Int) := h1
  (clear nd h; omega)
end Om
namespace L2
open PySem PySem.Spec PyProof.Rows
def lamArgs (e : Expr) : Arguments := match e with
 | .Lambda a _ _ _ => a
 | _ => { posonlyargs := [], args := [], vararg := none, kwonlyargs := [], kw_defaults := [], kwarg := none, defaults := [] }
def lamBody (e : Expr) : Expr := match e with
 | .Lambda _ b _ _ => b
 | _ => e
def lamScope (e : Expr) : Scope := match e with
 | .Lambda _ _ sc _ => sc
 | _ => { kind := .function, names := [], isGenerator := false, isCoroutine := false }
def lamPos (e : Expr) : Pos := match e with
 | .Lambda _ _ _ p => p
 | _ => ⟨0, 0, 0, 0⟩
def callArg (i : Nat) (e : Expr) : Expr := match e with
 | .Call _ as _ _ => as.getD i e
 | _ => e
def retE (d : Expr) (s : Stmt) : Expr := match s with
 | .Return (some e) _ => e
 | _ => d
def wo1 (P : Addr) (H : Hp) : Hp := fun b => if b = P then none else H b
theorem wo1.at {P b : Addr} {H : Hp} {o : HO} (h : H b = some o) (n : b ≠ P) : wo1 P H b = some o := by unfold wo1; rw [if_neg n]; exact h
theorem wo1.same {P : Addr} {H H' : Hp} (s : SameT P H H') : Same (wo1 P H) H' := fun b o e => by
 unfold wo1 at e
 split at e
 ·cases e
 ·rename_i n
  exact s b o n e
mutual
theorem DV.wo1 {H : Hp} {P : Addr} {ps : Array Value} (hP : H P = some (.tbl ps)) : ∀ {v : V} {d : PyData}, DV H v d → DV (wo1 P H) v d
 | _, _, .non => .non
 | _, _, .bl b => .bl b
 | _, _, .int i => .int i
 | _, _, .str x => .str x
 | _, _, .lst h r => .lst (wo1.at h (ne_of h hP (fun z => nomatch z))) (DVs.wo1 hP r)
 | _, _, .tup h r => .tup (wo1.at h (ne_of h hP (fun z => nomatch z))) (DVs.wo1 hP r)
 | _, _, .dic h => .dic (wo1.at h (ne_of h hP (fun z => nomatch z)))
theorem DVs.wo1 {H : Hp} {P : Addr} {ps : Array Value} (hP : H P = some (.tbl ps)) : ∀ {vs : List V} {ds : List PyData}, DVs H vs ds → DVs (wo1 P H) vs ds
 | _, _, .nil => .nil
 | _, _, .cons h r => .cons (DV.wo1 hP h) (DVs.wo1 hP r)
end
theorem Tab.tbl {P : Addr} {pos : Pos} {qual : Str} {H : Hp} (t : Tab P pos qual H) : ∃ ps, H P = some (.tbl ps) := by
 rcases t with e | ⟨c, e, _⟩
 ·exact ⟨_, e⟩
 ·exact ⟨_, e⟩
theorem DV.monoT {H H' : Hp} {P : Addr} {pos : Pos} {qual : Str} {v : V} {d : PyData} (h : DV H v d) (t : Tab P pos qual H) (s : SameT P H H') : DV H' v d :=
 let ⟨_, e⟩ := t.tbl
 (h.wo1 e).mono (wo1.same s)
theorem SameT.free {P : Addr} {H H' : Hp} {l : Addr} (s : SameT P H H') (h : H' l = none) (n : l ≠ P) : H l = none := by
 cases q : H l with
 | none => rfl
 | some o => rw [s l o n q] at h; cases h
def FnC (K : PySem.W.Frag) (mg : Str → Option Value) (x : Str) (st : Stmt) (ps : List Str) (c : Addr) : Prop := ∃ (f : Addr) (oc : Value) (od : Option Addr) (kV doc pm : Value) (an : Option Addr) (ct : Value) (osl : Array (Option Value)),
 K.lookup f = some ⟨oc, od, .func (PySem.W.fnOf x x (defArgs st) (defBody st) (defScope st) .none kV doc pm an (.ref c) ct), osl⟩ ∧ PySem.W.codeIn K (.ref c) x = true ∧ PySem.W.keepIn K (.ref f) = true ∧ mg x = some (.ref f) ∧
 Binds K (PySem.W.fnOf x x (defArgs st) (defBody st) (defScope st) .none kV doc pm an (.ref c) ct) ps []
theorem can_fnC {P : Program} {w : World} {K : PySem.W.Frag} {mg : Str → Option Value} {base : Heap} {x : Str} {st : Stmt} {N ps : List Str} {k : Nat} {sp : Sp} {c : Addr} (D : FnC K mg x st ps c) (S : FnScope N ps (defScope st)) (len : ∀ vs H Q E, sp vs H Q E → vs.length = ps.length)
  (hbody : ∀ (f : Addr) (A : Around) (outer : List Env) (s : Shared) (H : Hp) (vs : List V) (Q : VK) (E : XK), Room k (A.deeper (envOfC x (defScope st) s.heap.objs.size f (.ref c))) → sp vs H Q E →
   ∃ t, PSs (cxOf CX0 P w K mg base N x (defScope st) f (.ref c) A outer s H E).nox (defBody st) t ∧ t { nx := fun _ H' => Q .non H', rt := Q } (start N vs) H) : Can P w K mg base x (k + 1) ps sp := by
 walk_at "B"
 obtain ⟨f, oc, od, kV, doc, pm, an, ct, osl, lk, hcd, kp, hm, hb⟩ := D
 walk_at "C"
 refine ⟨f, _, fn_of lk hcd S len fun A outer s H vs Q E hr hsp => ?_, hm, kp, hb⟩
 walk_at "B"
 obtain ⟨t, h, q⟩ := hbody f A outer s H vs Q E hr hsp
 walk_at "C"
 exact ⟨t, h.nox, q⟩
end L2
end
section
set_option Elab.async false
set_option linter.all false
set_option maxRecDepth 100000
set_option maxHeartbeats 4000000
namespace Om
end Om
namespace L2
open PySem PySem.Spec PyProof.Rows
structure CopyOf (H0 H : Hp) (a b : Addr) (qs : List Addr) (k n : Nat) (rows : Om.Rows) : Prop where
 ha : H a = some (.tup [.int (k : Nat), .int (n : Nat), .ref b])
 nb : H0 b = none
 hb : H b = some (.lst (qs.map V.ref))
 nd : qs.Nodup
 nq : ∀ q ∈ qs, H0 q = none ∧ q ≠ b
 len : qs.length = rows.length
 st : ∀ (j : Nat) (st : List (List Bool × Nat)), rows[j]? = some st → ∃ q rs, qs[j]? = some q ∧ H q = some (.lst rs) ∧ DVs H rs (st.map rowD)
section
variable {H0 H H' : Hp} {a b : Addr} {qs : List Addr} {k n : Nat} {rows : Om.Rows}
theorem CopyOf.dv (C : CopyOf H0 H a b qs k n rows) : DV H (.ref a) (codeD k n rows) := by
 refine .tup C.ha (.cons (.int _) (.cons (.int _) (.cons (.lst C.hb (DVs.of_get (by rw [List.length_map, List.length_map, C.len]) fun i d hd => ?_)) .nil)))
 rw [List.getElem?_map] at hd
 walk_at "B"
 obtain ⟨st, hs, rfl⟩ := Option.map_eq_some_iff.mp hd
 obtain ⟨q, rs, e1, e2, e3⟩ := C.st i st hs
 walk_at "C"
 exact ⟨.ref q, by rw [List.getElem?_map, e1]; rfl, .lst e2 e3⟩
end
end L2
end
section
set_option Elab.async false
set_option linter.all false
set_option maxRecDepth 100000
set_option maxHeartbeats 4000000
namespace Om
end Om
namespace L2
open PySem PySem.Spec PyProof.Rows
section
variable {F : Addr → Prop} {H0 H H' G : Hp} {d P : Addr} {pos : Pos} {qual : Str}
theorem Tab.upd {b : Addr} {xs : List V} {o : HO} (t : Tab P pos qual H) (e : H b = some (.lst xs)) : Tab P pos qual (upd H b o) := by
 rcases t with z | ⟨c, z1, z2⟩
 ·exact .inl (by rw [upd_ne (ne_of z e (fun y => nomatch y))]; exact z)
 ·exact .inr ⟨c, by rw [upd_ne (ne_of z1 e (fun y => nomatch y))]; exact z1, by rw [upd_ne (ne_of z2 e (fun y => nomatch y))]; exact z2⟩
end
end L2
end
section
set_option Elab.async false
set_option linter.all false
set_option maxRecDepth 100000
set_option maxHeartbeats 4000000
namespace L2
open PySem PySem.Spec PyProof.Rows
theorem FnC.of {K : PySem.W.Frag} {h : Heap} {mg : Str → Option Value} {x : Str} {st : Stmt} {ps : List Str} {c P : Addr} (D : DefIn K x st) (ht : PySem.W.tabIn K x = some (c, P)) (X : K.In h) (G : h.Ns mainGlobals mg)
  (hb : ∀ (kV doc pm : Value) (an : Option Addr) (cdv ct : Value) (us : List Value), us.length = ps.length → bindArgs (PySem.W.fnOf x x (defArgs st) (defBody st) (defScope st) .none kV doc pm an cdv ct) ⟨us, []⟩ = pure (ps.zip us)) : FnC K mg x st ps c := by
 walk_at "B"
 obtain ⟨f, oc, od, an, osl, kV, dc, pm, cd, ct, h1, h2, h3, h4⟩ := D
 walk_at "C"
 have e : cd = .ref c := by
  unfold PySem.W.tabIn at ht
  rw [h1] at ht
  dsimp only at ht
  rw [h2] at ht
  dsimp only at ht
  split at ht
  ·rename_i c' _
   split at ht
   ·split at ht
    ·cases ht; rfl
    ·cases ht
   ·cases ht
  ·cases ht
 subst e
 exact ⟨f, oc, od, kV, dc, pm, an, ct, osl, h2, h3, h4, PySem.W.mg_of X G h1, .all (hb kV dc pm an _ ct)⟩
theorem law_callT {P : Program} {w : World} {K : PySem.W.Frag} {mg mb : Str → Option Value} {CX : CXT} {k : Nat} {fa a : Addr} {fd : FuncData} {x : Str} {sp : Sp} {s₁ : Shared} {vs : List Value} {ns : List Int} {tabs : List (Addr × Addr)}
  (KX : K.In s₁.heap) (hns : s₁.heap.Ns mainGlobals mg) (hb : s₁.heap.Ns builtinsNs mb) (hbb : ∀ x : Str, x ≠ "__name__" → mb x = bootBuiltins x) (hlim : s₁.heap.NoLimit) (hg : s₁.gens = #[])
  (ha : s₁.heap.get? a = some { cls := .type "list", data := .seq vs.toArray }) (hi : IntsAre vs ns) (hl : ns.length ≤ sizeLine) (hr : Room k callerA) (hT : PySem.W.TabsAt tabs s₁.heap) (hnt : PySem.W.noTabs K = true)
  (hbm : ∃ bm ob, mg "__builtins__" = some (.ref bm) ∧ bm ≠ builtinsNs ∧ s₁.heap.get? bm = some ob ∧ ob.cls = .type "module" ∧ ob.dict = some builtinsNs ∧ ob.data = .plain)
  (F : ∀ base : Heap, K.In base → base.Ns mainGlobals mg → (∀ q ∈ tabs, Maker mg base q.1 q.2) → FnOk P w K mg base CX k fa fd [x] sp) (hbind : ∀ (s : Shared) (u : Value), BindsTo s fd ⟨[u], []⟩ [(x, u)])
  (hsp : ∀ H : Hp, (∀ q ∈ tabs, H q.2 = some (.tbl #[])) → SqL K H a (ns.map V.int) → sp [.ref a] H (fun v _ => v = .bl true) fun _ _ _ => False)
  (hCX : ∀ H e s', CX [] H s₁ (fun _ _ _ => False) e s' → False) :
  codeAny (model P w) callerA (.call (.ref fa) ⟨[.ref a], []⟩) (fun r s' => r = .ok (.ret (.bool true)) ∧ OldK s₁.heap s'.heap ∧ s'.os = s₁.os ∧ AllBare s'.gens) s₁ := by
 have rv := vals_ints hi
 have lenV := hi.length
 have aT : ∀ q ∈ tabs, q.2 ≠ a := fun q hq z => by
  have e := (hT q hq).2
  rw [z, ha] at e
  cases e
 -- from an abstract heap in which the tables and perhaps the script are tracked
 have core : ∀ H : Hp, (∀ b u, H b = some u → (b = a ∧ u = .frz { cls := .type "list", data := .seq vs.toArray } (.lst (ns.map V.int)) ∧ K.lookup a = none) ∨ ∃ q ∈ tabs, b = q.2 ∧ u = .tbl #[]) → (∀ q ∈ tabs, H q.2 = some (.tbl #[])) → SqL K H a (ns.map V.int) →
   codeAny (model P w) callerA (.call (.ref fa) ⟨[.ref a], []⟩) (fun r s' => r = .ok (.ret (.bool true)) ∧ OldK s₁.heap s'.heap ∧ s'.os = s₁.os ∧ AllBare s'.gens) s₁ := by
  intro H hH hTE hS
  have hok : HOk P w H s₁.heap := fun b u e => by
   rcases hH b u e with ⟨rfl, rfl, _⟩ | ⟨q, hq, rfl, rfl⟩
   ·exact ⟨ha, by rw [List.length_map]; exact hl, vs, _, rv, ha⟩
   ·exact (hT q hq).2
  -- an object of another kind is not tracked
  have free : ∀ {b : Addr} {o : Obj}, s₁.heap.get? b = some o → o.cls ≠ .type "list" ∨ (∀ y, o.data ≠ .seq vs.toArray y) → (o.cls ≠ .none ∨ ∀ ps, o.data ≠ .fields ps) → H b = none := fun {b o} e n1 n2 => by
   cases q : H b with
   | none => rfl
   | some u =>
    rcases hH b u q with ⟨rfl, _, _⟩ | ⟨t, ht, rfl, _⟩
    ·rw [ha] at e
     cases e
     rcases n1 with n1 | n1
     ·exact absurd rfl n1
     ·exact absurd rfl (n1 _)
    ·rw [(hT t ht).2] at e
     cases e
     rcases n2 with n2 | n2
     ·exact absurd rfl n2
     ·exact absurd rfl (n2 _)
  have nsK : ∀ {b : Addr} {m : Str → Option Value}, s₁.heap.Ns b m → (hidT s₁.heap H).Ns b m := fun {b m} ⟨o, es, ep, e, d, r⟩ =>
   ⟨o, es, ep, hidT_get e (free e (.inr fun y z => by rw [d] at z; cases z) (.inr fun y z => by rw [d] at z; cases z)), d, r⟩
  have hKb : K.In (hidT s₁.heap H) := fun b o e => hidT_get (KX b o e) (by
   cases q : H b with
   | none => rfl
   | some u =>
    rcases hH b u q with ⟨rfl, _, z⟩ | ⟨t, ht, rfl, _⟩
    ·rw [z] at e; cases e
    ·have e1 := KX _ _ e
     rw [(hT t ht).2] at e1
     have e2 := List.all_eq_true.mp hnt _ (PySem.W.mem_of_lookupK e)
     cases e1
     exact absurd (show false = true from e2) Bool.false_ne_true)
  have hM : Mod K mg (hidT s₁.heap H) := ⟨hKb, nsK hns, ⟨mb, nsK hb, hbb⟩, let ⟨mc, h1, h2⟩ := hlim; ⟨mc, nsK h1, h2⟩⟩
  have hMk : ∀ q ∈ tabs, Maker mg (hidT s₁.heap H) q.1 q.2 := fun q hq => by
   refine ⟨?_, ?_⟩
   ·walk_at "B"
    obtain ⟨bm, ob, b1, b2, b3, b4, b5, b6⟩ := hbm
    walk_at "C"
    exact ⟨bm, ob, b1, b2, hidT_get b3 (free b3 (.inl (by rw [b4]; decide)) (.inl (by rw [b4]; exact fun z => nomatch z))), b4, b5, b6⟩
   ·walk_at "B"
    obtain ⟨o, c1, c2, c3, c4, c5, c6, c7, c8, e, c9, r⟩ := (hT q hq).1
    walk_at "C"
    exact ⟨o, c1, c2, c3, c4, c5, c6, c7, c8, hidT_get e (free e (.inl (by rw [c9]; decide)) (.inl (by rw [c9]; exact fun z => nomatch z))), c9, r⟩
  have e0 : Env0 P w K mg (hidT s₁.heap H) callerA [] s₁ H := ⟨rfl, hM, fun b o e => of_hidT e, Nat.le_of_eq (hidT_size _ _), trivial, fun b hb => absurd (show b ∈ ([] : List Addr) from hb) (by simp), hok, .of_eq hg⟩
  refine codeAny_mono ((F _ hKb (nsK hns) hMk).run callerA [] s₁ H ⟨[.ref a], []⟩ [.ref a] [.ref a] _ _ hr e0 (hbind s₁ (.ref a)) (.cons rfl .nil) (hsp H hTE hS)) fun r s' h => ?_
  cases r with
  | error e => exact (hCX H e s' h).elim
  | ok fl =>
   cases fl with
   | next => exact False.elim h
   | brk => exact False.elim h
   | cont => exact False.elim h
   | ret u =>
    walk_at "B"
    obtain ⟨v, H', os, bare, un, hok', r', q⟩ := h
    walk_at "C"
    have q' : v = .bl true := q
    subst q'
    obtain rfl : u = Value.bool true := r'
    have kept : ∀ b o, s₁.heap.get? b = some o → (∀ t ∈ tabs, b ≠ t.2) → s'.heap.get? b = some o := fun b o e n => by
     cases q : H b with
     | none => exact un.keep b o e q (by intro z; exact absurd (show b ∈ ([] : List Addr) from z) (by simp)) (by simp)
     | some u =>
      rcases hH b u q with ⟨rfl, rfl, _⟩ | ⟨t, ht, z, _⟩
      ·have z2 := un.frzs _ _ _ q
       obtain ⟨e2, _⟩ := hok' _ _ z2
       rw [ha] at e; cases e
       exact e2
      ·exact absurd z (n t ht)
    have grown : ∀ t ∈ tabs, ∃ more, s'.heap.get? t.2 = some (PySem.W.tabObj (#[] ++ more)) := fun t ht => by
     obtain ⟨more, z⟩ := un.tbls _ _ (hTE t ht)
     exact ⟨more, hok' _ _ z⟩
    refine ⟨rfl, ⟨fun b o e => ?_, fun b o e => ?_⟩, os, bare⟩
    ·by_cases n : ∀ t ∈ tabs, b ≠ t.2
     ·exact .inl (kept b o e n)
     ·obtain ⟨t, ht, z⟩ : ∃ t ∈ tabs, b = t.2 := by
       refine Classical.byContradiction fun z => n fun t ht y => z ⟨t, ht, y⟩
      subst z
      have hP := (hT t ht).2
      rw [hP] at e
      cases e
      obtain ⟨more, g⟩ := grown t ht
      exact .inr (.inl ⟨((hT t ht).1.tab hP).isCodeTable, rfl, #[], more, rfl, g⟩)
    ·by_cases n : ∀ t ∈ tabs, b ≠ t.2
     ·exact ⟨o, kept b o e n⟩
     ·obtain ⟨t, ht, z⟩ : ∃ t ∈ tabs, b = t.2 := by
       refine Classical.byContradiction fun z => n fun t ht y => z ⟨t, ht, y⟩
      subst z
      obtain ⟨more, g⟩ := grown t ht
      exact ⟨_, g⟩
 cases hk : K.lookup a with
 | some o =>
  have e := KX a o hk
  rw [ha] at e
  cases e
  refine core (fun b => if b ∈ tabs.map (·.2) then some (.tbl #[]) else none) (fun b u e => ?_) (fun q hq => if_pos (List.mem_map_of_mem hq)) (.inr ⟨_, vs.toArray, _, hk, rfl, rfl, rfl, by rw [List.size_toArray, lenV]; exact hl, by simpa using rv⟩)
  by_cases n : b ∈ tabs.map (·.2)
  ·walk_at "B"
   obtain ⟨q, hq, rfl⟩ := List.mem_map.mp n
   walk_at "C"
   have z := (if_pos n).symm.trans e
   cases z
   exact .inr ⟨q, hq, rfl, rfl⟩
  ·have z := (if_neg n).symm.trans e
   cases z
 | none =>
  refine core (fun b => if b = a then some (.frz { cls := .type "list", data := .seq vs.toArray } (.lst (ns.map V.int))) else if b ∈ tabs.map (·.2) then some (.tbl #[]) else none) (fun b u e => ?_) (fun q hq => ?_) (.inl (.inr ⟨{ cls := .type "list", data := .seq vs.toArray }, if_pos rfl⟩))
  ·by_cases m : b = a
   ·have z := (if_pos m).symm.trans e
    cases z
    exact .inl ⟨m, rfl, hk⟩
   ·have z := (if_neg m).symm.trans e
    by_cases n : b ∈ tabs.map (·.2)
    ·walk_at "B"
     obtain ⟨q, hq, rfl⟩ := List.mem_map.mp n
     walk_at "C"
     have z2 := (if_pos n).symm.trans z
     cases z2
     exact .inr ⟨q, hq, rfl, rfl⟩
    ·have z2 := (if_neg n).symm.trans z
     cases z2
  ·show (if q.2 = a then _ else _) = _
   rw [if_neg (aT q hq)]
   exact if_pos (List.mem_map_of_mem hq)
theorem walk_ofT {l : PySem.W.OpenLaw} {n k : Nat} {q : Program} {loose : List Str} {XP : (Str → Option Value) → Heap → Prop} {YP : World → Heap → Prop} {d : DefRec} {K : Params → PySem.W.Frag} {CX : World → CXT} {sp : World → Sp} {x : Str} {c0 P0 : Addr}
  (hn : l.most = some n) (hn2 : n ≤ sizeLine) (hdf : d.params.defaults = []) (hr : Room k callerA) (hY : ∀ (w : World) (h : Heap), YP w h → (K w.params).In h) (hnt : ∀ w : World, PySem.W.noTabs (K w.params) = true)
  (htb : ∀ (w : World) (h : Heap), YP w h → h.get? P0 = some (PySem.W.tabObj #[])) (hcd : ∀ w : World, PySem.W.codeHdIn (K w.params) c0 P0 = true)
  (F : ∀ (w : World) (mg : Str → Option Value) (fa : Addr) (h : Heap), (K w.params).In h → h.Ns mainGlobals mg → mg d.name = some (.ref fa) →
   ∃ fd : FuncData, (∀ (s : Shared) (u : Value), BindsTo s fd ⟨[u], []⟩ [(x, u)]) ∧
    ∀ base : Heap, (K w.params).In base → base.Ns mainGlobals mg → Maker mg base c0 P0 → FnOk l.prog w (K w.params) mg base (CX w) k fa fd [x] (sp w))
  (hsp : ∀ (w : World) (H : Hp) (a : Addr) (ns : List Int), ns.length ≤ n → H P0 = some (.tbl #[]) → SqL (K w.params) H a (ns.map V.int) → sp w [.ref a] H (fun v _ => v = .bl true) fun _ _ _ => False)
  (hCX : ∀ (w : World) (H : Hp) (s : Shared) (e : Value) (s' : Shared), CX w [] H s (fun _ _ _ => False) e s' → False) :
  PySem.W.WalkO q loose XP YP l.row.toRowW d [] (fun f vs => PySem.call f vs) := by
 refine Att.attach_call hn hdf fun w s₀ s₁ mg mb fa o pm cd doc a vs ns G Y ho hd hcd' hmg hobj hints hlen hg => ?_
 have KX := hY w _ Y
 walk_at "B"
 obtain ⟨fd, hb, hF⟩ := F w mg fa _ KX G.T.g hmg
 walk_at "C"
 exact law_callT (tabs := [(c0, P0)]) KX G.T.g G.T.b G.T.builtins G.T.nolimit hg hobj hints (Nat.le_trans hlen hn2) hr (fun q hq => by rw [List.mem_singleton.mp hq]; exact ⟨PySem.W.codeHd_of_K KX (hcd w), htb w _ Y⟩) (hnt w) G.T.bmain
  (fun base kb nb m => hF base kb nb (m (c0, P0) (List.mem_singleton.mpr rfl))) hb (fun H hO hS => hsp w H a ns hlen (hO (c0, P0) (List.mem_singleton.mpr rfl)) hS) fun H e s' => hCX w H s₁ e s'
end L2
end
section
set_option Elab.async false
set_option linter.all false
set_option maxRecDepth 100000
set_option maxHeartbeats 4000000
namespace L2
open PySem PySem.Spec PyProof.Rows
section
variable {X : Cx} {p pos : Pos} {k v : Expr} {tk tv : TE}
def tDispT (tk tv : TE) : TE := fun σ H Q => ∀ p, H p = none → tk σ (upd H p (.dT [])) fun x H1 => tv σ H1 fun y H2 => H2 p = some (.dT []) ∧ ∃ (b : Addr) (ks : List Key), x = .ref b ∧ H2 b = some (.tup (ks.map kV)) ∧ Q (.ref p) (upd H2 p (.dT [(ks, y)]))
theorem pe_dispT (hu : X.A.units + 64 < cLine) (hk : PE X k tk) (hv : PE X v tv) : PE X (.Dict [some k] [v] pos) (tDispT tk tv) := by
 intro pins s σ H Q I q
 have hshape : (evalEachOpt [some k] X.env).zip ((evalEach [v] X.env).map fun v => do let x ← v; standAt pos; pure x) = [(eval k X.env, (do let x ← eval v X.env; standAt pos; pure x : Sem Value))].map fun p => (some p.1, p.2) := rfl
 have hn := I.hok.fresh (Nat.le_refl s.heap.objs.size)
 have I1 := I.laid (a := s.heap.objs.size) (o := .dT []) (h' := s.heap.push { cls := .type "dict", data := .dict #[] }) (t' := s.toks) (fun _ _ q => Heap.get?_push_of_some _ q) (Nat.le_refl _) (dt_empty s.heap I.big)
 rw [arm_eval_Dict, hshape, dictDisplay_pairs _ (by simp) (Nat.le_of_ble_eq_true rfl)]
 refine wpAny_bind (wpAny_standAt (wpAny_bind ?_))
 unfold subDict
 refine wpAny_bind (wpAny_alloc ?_)
 refine wpAny_bind (wpAny_holding ?_)
 rw [if_pos (Nat.le_of_ble_eq_true rfl)]
 refine wpAny_bind (evalPairs_cons (thn (hk pins _ σ _ _ I1 (q _ hn)) fun u s1 ⟨x, H1, J1, rx, q1⟩ => wpAny_bind (thn (hv pins s1 σ H1 _ J1 q1) fun u2 s2 ⟨y, H2, I2, ry, e, b, ks, ex, eb, q2⟩ => wpAny_bind (wpAny_standAt (wpAny_pure (evalPairs_nil ?_))))))
 subst ex
 cases (show u = Value.ref b from rx)
 refine wpAny_holding (wpAny_bind ?_)
 rw [List.forIn_cons]
 walk_at "B"
 obtain ⟨z, hd, xs, rel, dd⟩ := dt_of I2.hok e
 walk_at "C"
 cases rel
 refine wpAny_bind (wpAny_bind (wpAny_dictSet_heap (knd := tupleKind (mixKind X.prog X.w)) (k := ks) (xs := []) (by show _ < cLine; have := hu; (clear hu z hd; omega)) (key_of I2.hok eb) dd fun h' dd' hs => wpAny_pure ?_))
 dsimp only
 rw [List.forIn_nil]
 refine wpAny_pure (wpAny_pure (wpAny_pure (wpAny_pure ?_)))
 walk_at "B"
 obtain ⟨qo, es, ep, hq, h2, h3, h4, _, h5⟩ := dd'
 walk_at "C"
 refine ⟨.ref s.heap.objs.size, _, d_write (ob := .dT [(ks, y)]) I2 (by rw [e]; exact True.intro) hs ⟨qo, hq⟩ ⟨?_, hd, _, (KT.put (H := H2) (kvs := []) (xs := []) .nil ks eb ry).keeps fun c ys ec => ?_, qo, es, ep, hq, h2, h3, h4, h5⟩, rfl, q2⟩
 ·rw [sizeLine_eq]; simp
 ·rw [upd_ne (ne_of ec e (fun z => nomatch z))]
  exact ec
end
end L2
end
section
set_option Elab.async false
set_option linter.all false
set_option maxRecDepth 100000
set_option maxHeartbeats 4000000
namespace Om
section
variable {k n : Nat} {rows : Rows} {a b c : Nat} {w v : List Bool}
theorem nodup_on {α β : Type} {f : α → β} : ∀ {l : List α}, (∀ a ∈ l, ∀ b ∈ l, f a = f b → a = b) → l.Nodup → (l.map f).Nodup
 | [], _, _ => List.nodup_nil
 | x :: l, h, nd => by
  rw [List.nodup_cons] at nd
  rw [List.map_cons, List.nodup_cons]
  refine ⟨fun z => ?_, nodup_on (fun a ha b hb => h a (List.mem_cons_of_mem _ ha) b (List.mem_cons_of_mem _ hb)) nd.2⟩
  walk_at "B"
  obtain ⟨y, hy, e⟩ := List.mem_map.mp z
  walk_at "C"
  exact nd.1 (h y (List.mem_cons_of_mem _ hy) x List.mem_cons_self e ▸ hy)
end
end Om
end
section
set_option Elab.async false
set_option linter.all false
set_option maxRecDepth 100000
set_option maxHeartbeats 4000000
namespace Om
end Om
namespace L2
open PySem PySem.Spec PyProof.Rows
section
variable {ks : List Nat} {kvs : List (Key × V)} {x : Nat} {v : V}
end
end L2
end
section
set_option Elab.async false
set_option linter.all false
set_option maxRecDepth 100000
set_option maxHeartbeats 4000000
namespace Om
def adds {α : Type} [DecidableEq α] (xs : List α) (x : α) : List α := if x ∈ xs then xs else xs ++ [x]
section
variable {α : Type} [DecidableEq α] {xs : List α} {x y : α}
theorem mem_adds : y ∈ adds xs x ↔ y ∈ xs ∨ y = x := by
 unfold adds
 split
 ·rename_i h
  exact ⟨.inl, fun z => z.elim id fun e => e ▸ h⟩
 ·rw [List.mem_append, List.mem_singleton]
theorem nodup_adds (nd : xs.Nodup) : (adds xs x).Nodup := by
 unfold adds
 split
 ·exact nd
 ·rename_i h
  rw [List.nodup_append]
  refine ⟨nd, by simp, fun a ha b hb z => ?_⟩
  have : b = x := by simpa using hb
  subst this
  subst z
  exact h ha
end
end Om
namespace L2
open PySem PySem.Spec PyProof.Rows
section
variable {κ N : Type} [DecidableEq κ] [DecidableEq N]
theorem keys_map {kvs : List (κ × V)} {k : κ} {v : V} : (kvs.map fun kv => if kv.1 = k then (kv.1, v) else kv).map (·.1) = kvs.map (·.1) := by
 rw [List.map_map]
 refine List.map_congr_left fun kv _ => ?_
 show (if kv.1 = k then (kv.1, v) else kv).1 = kv.1
 split <;> rfl
theorem val_has {kvs : List (κ × V)} {k : κ} : (valV kvs k).isSome = decide (k ∈ kvs.map (·.1)) := by
 rw [← valV_any, Bool.eq_iff_iff, List.any_eq_true, decide_eq_true_eq, List.mem_map]
 constructor
 ·intro hh_
  walk_at "B"
  obtain ⟨kv, h, e⟩ := hh_
  walk_at "C"
  exact ⟨kv, h, by simpa using e⟩
 ·intro hh_
  walk_at "B"
  obtain ⟨kv, h, e⟩ := hh_
  walk_at "C"
  exact ⟨kv, h, by simpa using e⟩
structure KS (key : N → κ) (kvs : List (κ × V)) (xs : List N) : Prop where
 ks : kvs.map (·.1) = xs.map key
 nd : xs.Nodup
theorem KS.nil {key : N → κ} : KS key [] ([] : List N) := ⟨rfl, List.nodup_nil⟩
theorem KS.len {key : N → κ} {kvs : List (κ × V)} {xs : List N} (h : KS key kvs xs) : kvs.length = xs.length := by
 have := congrArg List.length h.ks
 rwa [List.length_map, List.length_map] at this
theorem KS.has {key : N → κ} (inj : ∀ a b, key a = key b → a = b) {kvs : List (κ × V)} {xs : List N} (h : KS key kvs xs) (x : N) : (valV kvs (key x)).isSome = decide (x ∈ xs) := by
 rw [val_has, h.ks, Bool.eq_iff_iff, decide_eq_true_eq, decide_eq_true_eq, List.mem_map]
 exact ⟨fun ⟨y, hy, e⟩ => inj _ _ e ▸ hy, fun hx => ⟨x, hx, rfl⟩⟩
theorem KS.put {key : N → κ} (inj : ∀ a b, key a = key b → a = b) {kvs : List (κ × V)} {xs : List N} (h : KS key kvs xs) (x : N) (v : V) : KS key (putK kvs (key x) v) (Om.adds xs x) := by
 refine ⟨?_, Om.nodup_adds h.nd⟩
 have hs := h.has inj x
 unfold Om.adds
 by_cases e : x ∈ xs
 ·rw [if_pos e]
  rw [decide_eq_true e] at hs
  unfold putK
  rw [valV_any, if_pos hs, keys_map]
  exact h.ks
 ·rw [if_neg e]
  rw [decide_eq_false e] at hs
  have vn : valV kvs (key x) = none := by
   cases q : valV kvs (key x) with
   | none => rfl
   | some y => rw [q] at hs; cases hs
  rw [putK_new _ vn, List.map_append, List.map_append, h.ks]
  rfl
end
section
variable {H0 H H1 : Hp} {D Q : Addr} {kvs : List (List Key × V)} {xs : List (List Bool × Nat)} {bz : List Addr}
end
end L2
end
section
set_option Elab.async false
set_option linter.all false
set_option maxRecDepth 100000
set_option maxHeartbeats 4000000
namespace L2
open PySem PySem.Spec PyProof.Rows
end L2
end
section
set_option Elab.async false
set_option linter.all false
set_option maxRecDepth 100000
set_option maxHeartbeats 4000000
namespace Om
end Om
namespace L2
open PySem PySem.Spec PyProof.Rows
section
variable {H0 H H1 : Hp} {D : Addr} {kvs : List (Key × V)} {us : List (List Bool)} {L : Nat} {S S' : List Bool → Prop}
end
end L2
end
section
set_option Elab.async false
set_option linter.all false
set_option maxRecDepth 100000
set_option maxHeartbeats 4000000
namespace Om
end Om
namespace L2
open PySem PySem.Spec PyProof.Rows
section
variable {H2 H H1 : Hp} {D E Mo : Addr} {kvs : List (Key × V)} {us : List (List Bool)} {L : Nat} {S : List Bool → Prop} {ekvs : List (Key × V)} {vs : List (List Bool)} {M : Nat} {B B' : List Bool → Prop} {mkvs : List (List Key × V)} {ys : List (List Bool × Nat)} {A A' : List Bool × Nat → Prop}
end
end L2
end
section
set_option Elab.async false
set_option linter.all false
set_option maxRecDepth 100000
set_option maxHeartbeats 4000000
namespace L2
open PySem PySem.Spec PyProof.Rows
section
variable {X : Cx} {pos : Pos} {e : Expr} {es : List Expr} {n : Nat} {d : PyData} {ds : List PyData}
end
end L2
end
section
set_option Elab.async false
set_option linter.all false
set_option maxRecDepth 100000
set_option maxHeartbeats 4000000
namespace L2
open PySem PySem.Spec PyProof.Rows
section
variable {H H' : Hp} {kvs : List (Key × V)} {ls : List Nat} {rows : Om.Rows}
end
end L2
end
section
set_option Elab.async false
set_option linter.all false
set_option maxRecDepth 100000
set_option maxHeartbeats 4000000
namespace K21
open PySem L2
def top (i : Nat) : Stmt := PySem.Challenge.pw_ownbeat_k21_leans_let_by_or_not.main.body.getD i (.Pass ⟨0, 0, 0, 0⟩)
end K21
end
section
set_option Elab.async false
set_option linter.all false
set_option maxRecDepth 100000
set_option maxHeartbeats 4000000
namespace L2
open PySem PySem.Spec PyProof.Rows
section
variable {X : Cx} {p pos : Pos} {e : Expr} {es : List Expr} {t : TA}
def rAbs : List V → Hp → VK → Prop := fun vs H Q => match vs with
 | [.int i] => Q (.int (if i < 0 then -i else i)) H
 | _ => False
theorem call_absU : CallR X (.builtin "abs") rAbs := call_abs.of fun xs H Q q => by
 unfold rAbs at q
 split at q
 ·exact ⟨_, rfl, q⟩
 ·exact q.elim
theorem fn_abs {mg' : Str → Option Value} (hm : mg' "abs" = none) (hX : X.mg = mg') (ha : PA X (e :: es) t) (hg : gB X "abs" = true := by kernel_rfl) (he : starEach (e :: es) X.env = (false, eval e X.env) :: starEach es X.env := by kernel_rfl) (hpl : (backTo pos (starEach es X.env)).any (·.1) = false := by kernel_rfl) :
  PE X (.Call (.Name "abs" p) (e :: es) [] pos) (tCB rAbs t) := pe_callB call_absU (gl_of hg) (by rw [hX]; exact hm) PyProof.Rows.boot_abs ha (he := he) (hpl := hpl)
def rSlS (K : PySem.W.Frag) : V → Option Int → Option Int → Hp → VK → Prop := fun x lo hi H Q => match x with
 | .ref p => ∃ xs, SqL K H p xs ∧ ∀ n, H n = none → Q (.ref n) (upd H n (.lst (cutV xs lo hi)))
 | _ => False
theorem slS : SlR X (rSlS X.K) := by
 intro pins s σ H x v vl vu lo hi sl Q I rx hs pl pu q
 refine sl_list pins s σ H x v vl vu lo hi sl Q I rx hs pl pu ?_
 unfold rSlS at q
 split at q
 ·walk_at "B"
  obtain ⟨xs, h, q⟩ := q
  walk_at "C"
  exact ⟨_, xs, rfl, h, q⟩
 ·exact q.elim
def rInS : R2 := fun x y H Q => match x, y with
 | .str i, .str j => Q (.bl (!(Builtin.Str.occurrences j i 0 j.length 1).isEmpty)) H
 | _, _ => False
theorem op_inS : OpR X (compareOp .In) rInS := op_in_str.of fun x y H Q q => by
 unfold rInS at q
 split at q
 ·exact ⟨_, _, rfl, rfl, q⟩
 ·exact q.elim
end
theorem cut_intsL (ns : List Int) (lo hi : Option Int) : ∃ ms : List Int, cutV (ns.map V.int) lo hi = ms.map V.int ∧ ms.length ≤ ns.length := by
 refine ⟨(ns.drop (HT.sIx ns.length 0 lo)).take (HT.sIx ns.length ns.length hi - HT.sIx ns.length 0 lo), ?_, ?_⟩
 ·unfold cutV
  rw [List.length_map, List.map_take, List.map_drop]
 ·rw [List.length_take, List.length_drop]
  omega
end L2
end
section
set_option Elab.async false
set_option linter.all false
set_option maxRecDepth 100000
set_option maxHeartbeats 4000000
namespace L2
open PySem PySem.Spec PyProof.Rows
abbrev Cx.blockC (X : Cx) (scope : Scope) (x : Str) (cl : List (Str × Addr)) (C : Addr) (N : List Str) (s : Shared) (H : Hp) (fp : List Addr) : Cx :=
 { X with N := N, s₀ := s, H₀ := H, env := compEnvC scope ((x, C + 1) :: cl) C X.env, outer := X.stack, ex := fp, fn := fun y => y == x, pn := [], xe := fun _ _ => False }
def compOkC (x : Str) (osc : Scope) (oN : List Str) (sc : Scope) (N : List Str) (js : List Nat) : Bool :=
 (match sc.names.filter (fun y => y.2 == .cell) with | [y] => y.1 == x | _ => false) && (sc.names.lookup x == some .cell && (sc.names.all (fun y => y.2 != .local || sc.names.lookup y.1 == some .local) && (decide (js.length ≤ N.length) &&
  (sc.names.all (fun y => y.2 != .free || (osc.names.lookup y.1 == some .cell || osc.names.lookup y.1 == some .free)) &&
   (List.range js.length).all (fun i => match N[N.length - js.length + i]?, oN[js.getD i 0]? with | some x, some y => x == y && sc.names.lookup x == some .free | _, _ => false)))))
structure CompScC (x : Str) (osc : Scope) (oN : List Str) (sc : Scope) (N : List Str) (js : List Nat) : Prop where
 one : sc.names.filter (fun y => y.2 == .cell) = [(x, .cell)]
 own : sc.names.lookup x = some .cell
 names : ∀ y ∈ sc.names, y.2 = .local → sc.names.lookup y.1 = some .local
 len : js.length ≤ N.length
 tk : ∀ y ∈ sc.names, y.2 = .free → osc.names.lookup y.1 = some .cell ∨ osc.names.lookup y.1 = some .free
 fr : ∀ (i j : Nat), js[i]? = some j → ∃ x, N[N.length - js.length + i]? = some x ∧ oN[j]? = some x ∧ sc.names.lookup x = some .free
theorem compOkC_sc {x : Str} {osc : Scope} {oN : List Str} {sc : Scope} {N : List Str} {js : List Nat} (h : compOkC x osc oN sc N js = true) : CompScC x osc oN sc N js := by
 unfold compOkC at h
 simp only [Bool.and_eq_true] at h
 walk_at "B"
 obtain ⟨h0, h1, h2, h3, h4, h5⟩ := h
 walk_at "C"
 refine ⟨?_, eq_of_beq h1, fun y hy hl => ?_, of_decide_eq_true h3, fun y hy hf => ?_, fun i j hj => ?_⟩
 ·split at h0
  ·rename_i y e
   have ex : y.1 = x := eq_of_beq h0
   have hy : y ∈ sc.names.filter (fun y => y.2 == .cell) := by rw [e]; exact List.mem_cons_self
   have ec : y.2 = .cell := eq_of_beq (List.mem_filter.mp hy).2
   rw [e, ← ex, ← ec]
  ·cases h0
 ·have := List.all_eq_true.mp h2 y hy
  rw [hl] at this
  simpa using this
 ·have := List.all_eq_true.mp h4 y hy
  rw [hf] at this
  simpa using this
 ·have hi : i < js.length := (List.getElem?_eq_some_iff.mp hj).1
  have := List.all_eq_true.mp h5 i (List.mem_range.mpr hi)
  have e : js.getD i 0 = j := by rw [List.getD_eq_getElem?_getD, hj]; rfl
  rw [e] at this
  split at this
  ·rename_i x y e1 e2
   simp only [Bool.and_eq_true, beq_iff_eq] at this
   obtain ⟨rfl, h⟩ := this
   exact ⟨x, e1, e2, h⟩
  ·cases this
theorem cells_none : ∀ (names : List (Str × NameKind)) (a : Nat) (cl : List (Str × Addr)) (h : Heap), names.filter (fun y => y.2 == .cell) = [] → cellsFrom a names cl = cl ∧ pushCells h names = h
 | [], _, _, _, _ => ⟨rfl, rfl⟩
 | (n, k) :: r, a, cl, h, e => by
  rw [List.filter_cons] at e
  unfold cellsFrom pushCells
  by_cases c : (k == NameKind.cell) = true
  ·rw [if_pos c] at e; cases e
  ·rw [if_neg c] at e
   rw [if_neg c, if_neg c]
   exact cells_none r a cl h e
theorem cells_one : ∀ (names : List (Str × NameKind)) (a : Nat) (cl : List (Str × Addr)) (h : Heap) (x : Str), names.filter (fun y => y.2 == .cell) = [(x, .cell)] → cellsFrom a names cl = (x, a) :: cl ∧ pushCells h names = h.push { cls := .type "cell", data := .cell none }
 | [], _, _, _, _, e => by cases e
 | (n, k) :: r, a, cl, h, x, e => by
  rw [List.filter_cons] at e
  unfold cellsFrom pushCells
  by_cases c : (k == NameKind.cell) = true
  ·rw [if_pos c] at e
   rw [if_pos c, if_pos c]
   obtain ⟨e1, e2⟩ := List.cons.inj e
   have en : n = x := congrArg Prod.fst e1
   obtain ⟨z1, z2⟩ := cells_none r (a + 1) ((n, a) :: cl) (h.push { cls := .type "cell", data := .cell none }) e2
   rw [z1, z2, en]
   exact ⟨rfl, rfl⟩
  ·rw [if_neg c] at e
   rw [if_neg c, if_neg c]
   exact cells_one r a cl h x e
theorem newEnv_cell {M : Model} {A : Around} {E : Value → Shared → Prop} {s : Shared} {scope : Scope} {globals : Addr} {cl : List (Str × Addr)} {x qual : Str} {outer : Env} {Q : Env → Shared → Prop}
  (hone : scope.names.filter (fun y => y.2 == .cell) = [(x, .cell)])
  (hQ : ∀ h', h'.Ns s.heap.objs.size (fun _ => none) → (∀ b o, s.heap.get? b = some o → h'.get? b = some o) → h'.IsCell (s.heap.objs.size + 1) none →
   Q (newEnv scope s.heap.objs.size globals ((x, s.heap.objs.size + 1) :: cl) qual none .none (some outer) builtinsNs) { s with heap := h' }) :
  wpAny M A (newFunctionEnv scope globals cl [] qual none .none (some outer)) Q E s := by
 simp only [newFunctionEnv, Option.isSome_some, if_true]
 refine wpAny_bind (wpAny_alloc ?_)
 refine wpAny_bind (wpAny_layCells _ (fun name kind cells => by cases hkc : kind == NameKind.cell <;> simp [hkc]) _ _ _ _ ?_)
 rw [show ({ s with heap := s.heap.push { cls := .type "dict", data := .dict #[] } } : Shared).heap.objs.size = s.heap.objs.size + 1 from Heap.size_push ..]
 obtain ⟨z1, z2⟩ := cells_one scope.names (s.heap.objs.size + 1) cl (s.heap.push { cls := .type "dict", data := .dict #[] }) x hone
 rw [z1]
 refine wpAny_bind ?_
 rw [List.forIn_nil]
 refine wpAny_pure (wpAny_pure ?_)
 refine hQ _ ?_ ?_ ?_
 ·exact (Heap.Ns.new s.heap (.type "dict")).keeps (pushCells_keeps _ _)
 ·exact fun b o e => pushCells_keeps _ _ b o (Heap.get?_push_of_some _ e)
 ·show Heap.IsCell (pushCells (s.heap.push { cls := .type "dict", data := .dict #[] }) scope.names) (s.heap.objs.size + 1) none
  rw [z2]
  refine ⟨{ cls := .type "cell", data := .cell none }, ?_, rfl⟩
  have hz : (s.heap.push { cls := .type "dict", data := .dict #[] }).objs.size = s.heap.objs.size + 1 := Heap.size_push ..
  rw [← hz]
  exact Heap.get?_push_size _ rfl
theorem relabel_lookupC {env : Env} {cx : Str} : ∀ {names : List (Str × NameKind)} {x : Str} {k : NameKind},
  (names.map fun (n, k) => if (k == NameKind.free && env.scope.kind == .function && env.kindOf n == some .cell) then (n, NameKind.cell) else (n, k)).lookup x = some k → k = .cell ∨ k = .free → (∀ y ∈ names, y.2 = .cell → y.1 = cx) → x ≠ cx → (x, NameKind.free) ∈ names
 | [], _, _, h, _, _, _ => by simp at h
 | (n, k1) :: r, x, k, h, hk, hc, hx0 => by
  have ih := @relabel_lookupC env cx r x k
  have hc' : ∀ y ∈ r, y.2 = .cell → y.1 = cx := fun y hy => hc y (List.mem_cons_of_mem _ hy)
  have h1 : k1 = .cell → n = cx := hc (n, k1) List.mem_cons_self
  have h : List.lookup x ((if (k1 == NameKind.free && env.scope.kind == .function && env.kindOf n == some .cell) = true then (n, NameKind.cell) else (n, k1)) :: _) = some k := h
  by_cases c : (k1 == NameKind.free && env.scope.kind == .function && env.kindOf n == some .cell) = true
  ·rw [if_pos c, List.lookup_cons] at h
   cases hx : x == n with
   | true =>
    have e : k1 = .free := by simp only [Bool.and_eq_true, beq_iff_eq] at c; exact c.1.1
    rw [eq_of_beq hx, e]
    exact List.mem_cons_self
   | false => rw [hx] at h; exact List.mem_cons_of_mem _ (ih h hk hc' hx0)
  ·rw [if_neg c, List.lookup_cons] at h
   cases hx : x == n with
   | true =>
    rw [hx] at h
    have e : k1 = k := Option.some.inj h
    have e2 : k1 = .free := by
     rcases hk with z | z
     ·exact absurd ((eq_of_beq hx).trans (h1 (e.trans z))) hx0
     ·exact e.trans z
    rw [eq_of_beq hx, e2]
    exact List.mem_cons_self
   | false => rw [hx] at h; exact List.mem_cons_of_mem _ (ih h hk hc' hx0)
section
variable {X : Cx}
theorem block_invC {pins : List (Addr × Obj)} {σ : St} {H : Hp} {s : Shared} {h₁ : Heap} {tk : Nat} {scope : Scope} {cx : Str} {N : List Str} {js : List Nat} {cl : List (Str × Addr)} {fp : List Addr}
  (I : Inv X pins σ H s) (hk : scope.kind = .function) (hN : N.Nodup) (S : CompScC cx X.env.scope X.N scope N js) (hcl : ∀ x c, cl.lookup x = some c → X.env.cells.lookup x = some c) (hcl2 : ∀ y ∈ scope.names, y.2 = .free → ∃ c, cl.lookup y.1 = some c)
  (hf : ∀ b ∈ fp, b < s.heap.objs.size ∧ b ≠ X.env.locals ∧ b ∉ X.fs ∧ (b ∈ X.ex ∨ X.s₀.heap.objs.size ≤ b) ∧ (∀ x c, X.env.cells.lookup x = some c → c ≠ b))
  (hns : h₁.Ns s.heap.objs.size fun _ => none) (old : ∀ b o, s.heap.get? b = some o → h₁.get? b = some o) (hce : h₁.IsCell (s.heap.objs.size + 1) none) :
  Inv (X.blockC scope cx cl s.heap.objs.size N s H fp) [] (blk (N.length - js.length) js σ) H { s with heap := h₁, toks := tk } := by
 have lk : ∀ {x : Str} {c : Addr}, List.lookup x ((cx, s.heap.objs.size + 1) :: cl) = some c → (x = cx ∧ c = s.heap.objs.size + 1) ∨ (x ≠ cx ∧ cl.lookup x = some c) := fun {x c} h => by
  rw [List.lookup_cons] at h
  cases hx : x == cx with
  | true => rw [hx] at h; exact .inl ⟨eq_of_beq hx, (Option.some.inj h).symm⟩
  | false => rw [hx] at h; exact .inr ⟨fun z => by rw [z] at hx; simp at hx, h⟩
 have lk2 : ∀ {x : Str} {c : Addr}, x ≠ cx → cl.lookup x = some c → List.lookup x ((cx, s.heap.objs.size + 1) :: cl) = some c := fun {x c} hx h => by
  rw [List.lookup_cons, beq_eq_false_iff_ne.mpr hx]; exact h
 have clt : ∀ {x : Str} {c : Addr}, cl.lookup x = some c → c < s.heap.objs.size := fun {x c} h => by
  walk_at "B"
  obtain ⟨v, o, ho, _⟩ := I.cell x c (hcl x c h)
  walk_at "C"
  exact Heap.lt_size ho
 have onec : ∀ y ∈ scope.names, y.2 = .cell → y.1 = cx := fun y hy e => by
  have : y ∈ scope.names.filter (fun y => y.2 == .cell) := List.mem_filter.mpr ⟨hy, by rw [e]; rfl⟩
  rw [S.one] at this
  have e : y = (cx, .cell) := by simpa using this
  rw [e]
 have look : ∀ x, ((relabel scope X.env).names.lookup x = some .cell ∨ (relabel scope X.env).names.lookup x = some .free) → ∃ c, List.lookup x ((cx, s.heap.objs.size + 1) :: cl) = some c := fun x hx => by
  by_cases hxc : x = cx
  ·exact ⟨s.heap.objs.size + 1, by rw [hxc, List.lookup_cons, beq_self_eq_true]⟩
  ·have hm : (x, NameKind.free) ∈ scope.names := by
    rcases hx with z | z
    ·exact relabel_lookupC z (.inl rfl) onec hxc
    ·exact relabel_lookupC z (.inr rfl) onec hxc
   obtain ⟨c, hc⟩ := hcl2 _ hm rfl
   exact ⟨c, lk2 hxc hc⟩
 refine ⟨⟨I.ok.mod, hk, I.ok.glob, I.ok.blt, Nat.le_refl _, fun x y c h1 h2 => ?_, look, fun x c hx h => ?_, I.ok.hd, I.ok.frames, .inl rfl, fun b hb => ?_, I.bs, Nat.le_trans I.ok.bsz I.sz, fun b o e hb => ?_, fun b hb z => ?_, I.stack, I.stkFree⟩,
  rfl, I.bare, Un.kept old, ⟨_, hns, fun i x v h1 h2 h3 => ?_⟩, fun x c h => ?_, I.hok.fresh (Nat.le_refl _), fun x c h => ?_, fun p hp => absurd (show p ∈ ([] : List (Addr × Obj)) from hp) (by simp), I.hok.kept old, ?_⟩
 ·rcases lk h1 with ⟨a1, a2⟩ | ⟨a1, a2⟩ <;> rcases lk h2 with ⟨b1, b2⟩ | ⟨b1, b2⟩
  ·rw [a1, b1]
  ·exact absurd (a2 ▸ clt b2) (Nat.not_lt.mpr (Nat.le_succ _))
  ·exact absurd (b2 ▸ clt a2) (Nat.not_lt.mpr (Nat.le_succ _))
  ·exact I.ok.inj x y c (hcl x c a2) (hcl y c b2)
 ·rcases lk h with ⟨a1, a2⟩ | ⟨a1, a2⟩
  ·rw [a2]; exact Nat.le_succ _
  ·exact absurd (eq_of_beq hx) a1
 ·refine ⟨Nat.ne_of_lt (hf b hb).1, fun x c h => ?_⟩
  rcases lk h with ⟨a1, a2⟩ | ⟨a1, a2⟩
  ·rw [a2]; exact fun z => absurd (z ▸ (hf b hb).1) (Nat.not_lt.mpr (Nat.le_succ _))
  ·exact (hf b hb).2.2.2.2 x c (hcl x c a2)
 ·rcases (hf b hb).2.2.2.1 with z | z
  ·exact I.ok.noex b o e z
  ·exact absurd (Nat.lt_of_lt_of_le (Heap.lt_size e) (Nat.le_trans I.ok.bsz z)) (Nat.lt_irrefl _)
 ·rcases List.mem_cons.mp (I.stkSub b z) with q | q
  ·exact (hf b hb).2.1 q
  ·exact (hf b hb).2.2.1 q
 ·walk_at "B"
  obtain ⟨k, j, rfl, hj, hσ⟩ := blk_get h2
  obtain ⟨x', e1, e2, e3⟩ := S.fr k j hj
  walk_at "C"
  rw [e1] at h1
  have ex : x' = x := Option.some.inj h1
  subst ex
  have hxc : x' ≠ cx := fun z => by rw [z, S.own] at e3; cases e3
  have ok := S.tk _ (PySem.mem_of_lookup e3) rfl
  walk_at "B"
  obtain ⟨m, _, hl⟩ := I.loc
  obtain ⟨u, r, l⟩ := hl j x' v e2 hσ (.inr ok)
  walk_at "C"
  refine ⟨u, r, ?_⟩
  rcases l with ⟨hk', _⟩ | ⟨_, c, hc, hcell⟩
  ·have hk2 : X.env.scope.names.lookup x' = some .local := hk'
   rcases ok with z | z <;> (rw [hk2] at z; cases z)
  ·obtain ⟨c', hc'⟩ := hcl2 _ (PySem.mem_of_lookup e3) rfl
   have : c' = c := Option.some.inj ((hcl _ _ hc').symm.trans hc)
   subst this
   walk_at "B"
   obtain ⟨o, ho, hd⟩ := hcell
   walk_at "C"
   exact .inr ⟨relabel_free e3, c', lk2 hxc hc', ⟨o, old _ _ ho, hd⟩⟩
 ·rcases lk h with ⟨a1, a2⟩ | ⟨a1, a2⟩
  ·rw [a2]; exact ⟨none, hce⟩
  ·walk_at "B"
   obtain ⟨v, o, ho, hd⟩ := I.cell x c (hcl x c a2)
   walk_at "C"
   exact ⟨v, o, old _ _ ho, hd⟩
 ·rcases lk h with ⟨a1, a2⟩ | ⟨a1, a2⟩
  ·rw [a2]; exact I.hok.fresh (Nat.le_succ _)
  ·exact I.freeC x c (hcl x c a2)
 ·show (blk (N.length - js.length) js σ).length = N.length
  unfold blk
  rw [List.length_append, List.length_replicate, List.length_map]
  have := S.len
  omega
theorem comp_blockC {pins : List (Addr × Obj)} {σ : St} {H : Hp} {s : Shared} {elt target iter : Expr} {ifs : List Expr} {scope : Scope} {cx : Str} {pos : Pos} {N : List Str} {js : List Nat} {cl : List (Str × Addr)} {J : It} {fp : List Addr} {it : Addr} {tn : Nat → Heap → Prop}
  {g : TG} {tt : TT} {te : TE} {E : Value → Shared → Prop} {RR : Value → Addr → Result → Shared → Prop} {Q : VK}
  (hc : X.calm = true) (I : Inv X pins σ H s) (T : Turn X.prog X.w X.K target J fp it tn) (st : tn 0 s.heap) (hf : ∀ b ∈ fp, FpOk X pins H b)
  (hk : scope.kind = .function) (hN : N.Nodup) (S : CompScC cx X.env.scope X.N scope N js) (hcl : ∀ x c, cl.lookup x = some c → X.env.cells.lookup x = some c) (hcl2 : ∀ y ∈ scope.names, y.2 = .free → ∃ c, cl.lookup y.1 = some c)
  (hg : ∀ cl C s H fp, PG (X.blockC scope cx cl C N s H fp) target g) (ht : ∀ cl C s H fp, PF (X.blockC scope cx cl C N s H fp) ifs tt) (he : ∀ cl C s H fp, PE (X.blockC scope cx cl C N s H fp) elt te)
  (h : ∀ D, H D = none → ∃ W : Nat → Nat → St → Hp → List V → Prop, (∃ m, W 0 m (blk (N.length - js.length) js σ) (upd H D (.lst [])) []) ∧ ∀ i m τ H2 ys, W i m τ H2 ys → H2 D = some (.lst ys) ∧
   ((J.stop i H2 ∧ Q (.ref D) H2) ∨ (J.go i H2 ∧ ys.length < sizeLine ∧ ∃ N : St → Hp → List V → Prop, (∀ τ' H' ys', N τ' H' ys' → ∃ m', m' < m ∧ W (i + 1) m' τ' H' ys') ∧ ∀ x H3, J.yld i H2 x H3 → g x τ H3 fun τ4 H4 => tt τ4 H4 fun b H5 =>
    if b = true then te τ4 H5 fun y H6 => H6 D = some (.lst ys) ∧ N τ4 (upd H6 D (.lst (ys ++ [y]))) (ys ++ [y])
    else N τ4 H5 ys)))
  (hend : ∀ D C H' s', (∃ m, s'.heap.Ns C m) → FpOk X pins H' C → Inv X pins σ H' s' → Q (.ref D) H' → RR (.ref D) C (.ok .next) s') :
  wpAny (model X.prog X.w) X.A (newList []) (fun acc s₃ => wpAny (model X.prog X.w) X.A (newFunctionEnv scope X.env.globals cl [] X.env.qual none .none (some X.env)) (fun cenv s₄ =>
   codeAny (model X.prog X.w) X.A (.compStart (.ListComp elt [⟨target, iter, ifs, 0⟩] scope pos) 0 (.ref it) acc { cenv with scope := relabel scope X.env }) (RR acc cenv.locals) s₄) E s₃) E s := by
 walk_at "B"
 obtain ⟨W, ⟨m0, w0⟩, turn⟩ := h s.heap.objs.size I.fresh
 walk_at "C"
 refine wpAny_newObj_type (newEnv_cell S.one (fun h₁ hns₁ hsb₁ hce₁ => ?_))
 have I3 : Inv X pins σ (upd H s.heap.objs.size (.lst [])) { s with heap := s.heap.push { cls := .type "list", dict := none, data := .seq ([] : List Value).toArray } } := I.lnew (its := []) (ys := []) (t' := s.toks) .nil (Nat.zero_le _)
 have hF3 : ∀ b ∈ fp, b < s.heap.objs.size := fun b hb => by
  walk_at "B"
  obtain ⟨o, e, _⟩ := T.obj 0 s.heap st b hb
  walk_at "C"
  exact Heap.lt_size e
 have st3 : tn 0 (s.heap.push { cls := .type "list", dict := none, data := .seq ([] : List Value).toArray }) := T.keep 0 _ _ st fun b hb o e => Heap.get?_push_of_some _ e
 generalize hs3 : ({ s with heap := s.heap.push { cls := .type "list", dict := none, data := .seq ([] : List Value).toArray } } : Shared) = s3 at I3 hns₁ hsb₁ hce₁ ⊢
 have e3 : s3.heap = s.heap.push { cls := .type "list", dict := none, data := .seq ([] : List Value).toArray } := by rw [← hs3]
 rw [← e3] at st3
 have z3 : s.heap.objs.size ≤ s3.heap.objs.size := by rw [e3, Heap.size_push]; exact Nat.le_succ _
 have old : ∀ b o, s3.heap.get? b = some o → h₁.get? b = some o := hsb₁
 have hf3 : ∀ b ∈ fp, b < s3.heap.objs.size ∧ b ≠ X.env.locals ∧ b ∉ X.fs ∧ (b ∈ X.ex ∨ X.s₀.heap.objs.size ≤ b) ∧ (∀ x c, X.env.cells.lookup x = some c → c ≠ b) := fun b hb =>
  let ⟨_, q1, q2, q3, q4, _⟩ := hf b hb
  ⟨Nat.lt_of_lt_of_le (hF3 b hb) z3, q1, q2, q3, q4⟩
 have nD : ∀ b ∈ fp, upd H s.heap.objs.size (.lst []) b = none := fun b hb => by
  rw [upd_ne (Nat.ne_of_lt (hF3 b hb))]
  exact (hf b hb).1
 have I4 : Inv (X.blockC scope cx cl s3.heap.objs.size N s3 (upd H s.heap.objs.size (.lst [])) fp) [] (blk (N.length - js.length) js σ) (upd H s.heap.objs.size (.lst [])) { s3 with heap := h₁ } :=
  block_invC (tk := s3.toks) I3 hk hN S hcl hcl2 hf3 hns₁ old hce₁
 have st4 : tn 0 h₁ := T.keep 0 _ _ st3 fun b hb o e => old b o e
 have hg' := hg cl s3.heap.objs.size s3 (upd H s.heap.objs.size (.lst [])) fp
 have ht' := ht cl s3.heap.objs.size s3 (upd H s.heap.objs.size (.lst [])) fp
 have he' := he cl s3.heap.objs.size s3 (upd H s.heap.objs.size (.lst [])) fp
 -- what stays true of the iterator's objects
 have stat : ∀ {H' : Hp}, (∀ b ∈ fp, H' b = none) → ∀ b ∈ fp, FpOk (X.blockC scope cx cl s3.heap.objs.size N s3 (upd H s.heap.objs.size (.lst [])) fp) [] H' b := fun hn b hb =>
  ⟨hn b hb, (I4.ok.exf b hb).1, I4.ok.exfs b hb, .inl hb, (I4.ok.exf b hb).2, fun p hp => absurd (show p ∈ ([] : List (Addr × Obj)) from hp) (by simp)⟩
 have loop : codeAny (model X.prog X.w) X.A (.compLoop (.ListComp elt [⟨target, iter, ifs, 0⟩] scope pos) 0 (.ref it) (.ref s.heap.objs.size) (compEnvC scope ((cx, s3.heap.objs.size + 1) :: cl) s3.heap.objs.size X.env)) (RR (.ref s.heap.objs.size) s3.heap.objs.size) { s3 with heap := h₁ } := by
  refine compLoop_any (fun n s' => ∃ i τ H' ys, Inv (X.blockC scope cx cl s3.heap.objs.size N s3 (upd H s.heap.objs.size (.lst [])) fp) [] τ H' s' ∧ tn i s'.heap ∧ (∀ b ∈ fp, H' b = none) ∧ W i n τ H' ys) ?_ m0 ⟨0, _, _, [], I4, st4, nD, w0⟩
  intro n s5 hh_
  walk_at "B"
  obtain ⟨i, τ, H5, ys, I5, st5, fr5, w5⟩ := hh_
  walk_at "C"
  obtain ⟨hD, hw⟩ := turn i n τ H5 ys w5
  rcases hw with ⟨stop, qn⟩ | ⟨go, hz, M, hM, step⟩
  ·refine thn (T.done (X.blockC scope cx cl s3.heap.objs.size N s3 (upd H s.heap.objs.size (.lst [])) fp) rfl rfl rfl hc i [] s5 τ H5 (fun _ _ => False) I5 (stat fr5) st5 stop) fun r s6 ⟨hr, I6⟩ => ?_
   subst hr
   refine hend _ _ H5 s6 (let ⟨m, hn, _⟩ := I6.loc; ⟨m, hn⟩) (I3.fpOk (Nat.le_refl _) I6.free) ?_ qn
   exact I3.call' (ch := fp) I6.os I6.base I6.hok I6.bare fun b hb => ⟨(hf b hb).2.2.2.1, (hf b hb).2.1, (hf b hb).2.2.2.2.1, (hf b hb).2.2.2.2.2⟩
  ·refine thn (T.item (X.blockC scope cx cl s3.heap.objs.size N s3 (upd H s.heap.objs.size (.lst [])) fp) rfl rfl rfl hc i [] s5 τ H5 (fun _ _ => False) I5 (stat fr5) st5 go) fun r s6 ⟨u, hr, h6⟩ => ?_
   subst hr
   refine thn h6 fun _ s7 ⟨x, H7, I7, r7, y7, st7, fr7⟩ => ?_
   have I7' := I7.pinned (stat fr7) (T.obj _ _ st7)
   refine thn (hg' _ s7 τ H7 x u _ I7' r7 (step x H7 y7)) fun _ s8 ⟨τ8, H8, I8, q8⟩ => ?_
   refine thn (ht' _ s8 τ8 H8 _ I8 q8) fun b s9 ⟨H9, I9, q9⟩ => ?_
   have again : ∀ {τ' : St} {H' : Hp} {s' : Shared} {ys' : List V}, Inv (X.blockC scope cx cl s3.heap.objs.size N s3 (upd H s.heap.objs.size (.lst [])) fp) ([] ++ pinsAt fp s7.heap) τ' H' s' → M τ' H' ys' →
     ∃ m, m < n ∧ ∃ i τ H' ys, Inv (X.blockC scope cx cl s3.heap.objs.size N s3 (upd H s.heap.objs.size (.lst [])) fp) [] τ H' s' ∧ tn i s'.heap ∧ (∀ b ∈ fp, H' b = none) ∧ W i m τ H' ys := fun {τ' H' s' ys'} I' hm' => by
    walk_at "B"
    obtain ⟨m', hm, w'⟩ := hM _ _ _ hm'
    walk_at "C"
    refine ⟨m', hm, i + 1, τ', H', ys', I'.unpinned, T.keep _ _ _ st7 fun b hb o e => (I'.pin (b, o) (List.mem_append_right _ (List.mem_append_right _ (mem_pinsAt hb e)))).1, fun b hb => ?_, w'⟩
    walk_at "B"
    obtain ⟨o, e, d⟩ := T.obj _ _ st7 b hb
    walk_at "C"
    exact (I'.pin (b, o) (List.mem_append_right _ (List.mem_append_right _ (mem_pinsAt hb e)))).2.1
   cases b with
   | false => exact again I9 q9
   | true =>
    refine thn (he' _ s9 τ8 H9 _ I9 q9) fun y s10 ⟨v10, H10, I10, r10, hD10, q10⟩ => ?_
    refine thn (mt_append (X := X.blockC scope cx cl s3.heap.objs.size N s3 (upd H s.heap.objs.size (.lst [])) fp) _ s10 τ8 H10 (.ref s.heap.objs.size) [v10] (.ref s.heap.objs.size) [y] (fun _ H' => M τ8 H' (ys ++ [v10])) I10 rfl (.cons r10 .nil) ⟨_, ys, v10, rfl, rfl, hD10, hz, q10⟩) fun _ s11 ⟨_, H11, I11, _, q11⟩ => ?_
    exact again I11 q11
 exact codeAny_compStart_list loop (T.self X.A 0 _ _ _ st4 loop)

variable {elt target iter : Expr} {ifs : List Expr} {scope : Scope} {pos spos : Pos} {wi : TI} {g : TG} {tt : TT} {te : TE}
theorem ps_setCompC {i : Nat} {y : Str} {py : Pos} (cx : Str) (N : List Str) (js : List Nat) (hok : compOkC cx X.env.scope X.N scope N js = true) (hN : N.Nodup) (hc : X.calm = true) (hXN : X.N.Nodup) (hyi : X.N[i]? = some y) (hy : Loc X.env.scope y) (hi : PI X target iter wi)
  (hg : ∀ cl C s H fp, PG (X.blockC scope cx cl C N s H fp) target g) (ht : ∀ cl C s H fp, PF (X.blockC scope cx cl C N s H fp) ifs tt) (he : ∀ cl C s H fp, PE (X.blockC scope cx cl C N s H fp) elt te)
  (hsw : swapsWith (.ListComp elt [⟨target, iter, ifs, 0⟩] scope pos) (some (.Name y py)) spos.line X.env = pure true := by rfl)
  (hk : scope.kind = .function := by rfl) (hs : ∀ x, foldedSetIterable iter X.env x = pure x := by intro _; rfl) (hf : X.fn y = true ∨ X.env.scope.names.lookup y = some .local := by first | exact .inl rfl | exact .inr rfl | assumption) :
  PS X (.Assign [.Name y py] (.ListComp elt [⟨target, iter, ifs, 0⟩] scope pos) spos) (tAsg (tComp (N.length - js.length) js wi g tt te) (gName i)) := by
 intro pins s σ H D I h
 have S := compOkC_sc hok
 walk_at "B"
 obtain ⟨cl, hclos, hcl, hcl2⟩ := closure_ok (env := X.env) (scope := scope) fun y hy hf => I.ok.has _ (S.tk y hy hf)
 walk_at "C"
 rw [exec_Assign_Name_used _ _ _ _ hsw]
 refine wpAny_bind (wpAny_standAt (wpAny_bind ?_))
 show wpAny _ X.A (do let _ ← comprehension (.ListComp elt [⟨target, iter, ifs, 0⟩] scope pos) scope X.env _ (newList []) false (eval iter X.env) (some (assign (.Name y py) X.env))) _ _ s
 refine wpAny_bind (wpAny_mono (wpAny_comprehension_free (use := some (assign (.Name y py) X.env)) (Q := fun _ s' => SP X pins D .next s') rfl hs hclos hk S.names
  (thn (hi pins s σ H _ I h) fun v s1 h1 => thn h1 fun itv s2 h2 => ?_)) (fun _ s' hq => wpAny_pure (wpAny_pure hq)) fun _ _ e => e)
 walk_at "B"
 obtain ⟨it, fp, tn, J, H2, e, I2, T, st2, f2, hw⟩ := h2
 walk_at "C"
 subst e
 refine comp_blockC (RR := fun acc C => compPost (model X.prog X.w) X.A X.xe (some (assign (.Name y py) X.env)) (fun _ s' => SP X pins D .next s') acc C) (Q := fun v H' => D.nx (σ.set i (some v)) H') hc I2 T st2 f2 hk hN S hcl hcl2 hg ht he hw ?_
 rintro E C H' s' ⟨m, hn⟩ ⟨c0, c1, c2, c3, c4, c5⟩ I' q
 show wpAny _ X.A (assign (.Name y py) X.env (.ref E)) _ _ _
 walk_at "B"
 obtain ⟨oC, es, ep, hoC, hdC, hrC⟩ := id hn
 walk_at "C"
 have I2' : Inv X (pins ++ [(C, oC)]) σ H' s' := I'.pins_of fun p hp => (List.mem_append.mp hp).elim (fun z => I'.pin p (List.mem_append_right _ z)) fun z => by
  have e : p = (C, oC) := by simpa using z
  subst e
  exact ⟨hoC, c0, c1, c2, fun v z => by rw [hdC] at z; cases z⟩
 refine wpAny_assign_Name (store_ok I2' hXN hyi hy (v := .ref E) rfl (fun s'' I'' => ?_) hf)
 have hC2 := (I''.pin (C, oC) (List.mem_append_right _ (List.mem_append_right _ (by simp)))).1
 have I3 : Inv X pins (σ.set i (some (.ref E))) H' s'' := I''.unpinned
 exact ⟨m, ⟨oC, es, ep, hC2, hdC, hrC⟩, fun h' hs' => ⟨_, H', I3.turned (t' := s''.toks) (fun b o hb e => (hs'.2 b hb).trans e) c0 c1 c3 c4 c5, q⟩⟩
theorem s_compC (cx y : Str) (i : Nat) (N : List Str) (js : List Nat) {py : Pos} (hN : N.Nodup) (hXN : X.N.Nodup) (hi : PI X target iter wi)
  (hg : ∀ cl C s H fp, PG (X.blockC scope cx cl C N s H fp) target g) (ht : ∀ cl C s H fp, PF (X.blockC scope cx cl C N s H fp) ifs tt) (he : ∀ cl C s H fp, PE (X.blockC scope cx cl C N s H fp) elt te)
  (hyi : X.N[i]? = some y := by with_unfolding_all rfl) (hy : locB X.env.scope y = true := by kernel_rfl)
  (hok : compOkC cx X.env.scope X.N scope N js = true := by kernel_rfl) (hc : X.calm = true := by kernel_rfl) (hk : scope.kind = .function := by kernel_rfl) (hs : ∀ x, foldedSetIterable iter X.env x = pure x := by intro _; kernel_rfl)
  (hsw : swapsWith (.ListComp elt [⟨target, iter, ifs, 0⟩] scope pos) (some (.Name y py)) spos.line X.env = pure true := by kernel_rfl) (hf : (X.fn y || X.env.scope.names.lookup y == some .local) = true := by kernel_rfl) :
  PS X (.Assign [.Name y py] (.ListComp elt [⟨target, iter, ifs, 0⟩] scope pos) spos) (tAsg (tComp (N.length - js.length) js wi g tt te) (gName i)) :=
 ps_setCompC cx N js hok hN hc hXN hyi (loc_of hy) hi hg ht he hsw hk hs (by
  rw [Bool.or_eq_true] at hf
  exact hf.elim .inl fun z => .inr (eq_of_beq z))
end
end L2
end
section
set_option Elab.async false
set_option linter.all false
set_option maxRecDepth 100000
set_option maxHeartbeats 4000000
namespace L2
open PySem PySem.Spec PyProof.Rows
def Its (ws : List Bool) : It := ⟨fun i _ => i < ws.length, fun i H x H' => H' = H ∧ ∃ b, ws[i]? = some b ∧ x = .str (bs [b]), fun i _ => ws.length ≤ i⟩
theorem turn_str {P : Program} {w : World} {K : PySem.W.Frag} {tg : Expr} (it : Addr) (ws : List Bool) (t : Tok) : Turn P w K tg (Its ws) [it] it (fun i h => h.IsStrIter it "str_ascii_iterator" (bs ws) t i) where
 mem := by simp
 obj := fun i h st b hb => by
  have e : b = it := by simpa using hb
  subst e
  walk_at "B"
  obtain ⟨o, e, c, d⟩ := st
  walk_at "C"
  exact ⟨o, e, fun v z => by rw [d] at z; cases z⟩
 keep := fun i h h' st k => by
  walk_at "B"
  obtain ⟨o, e, c, d⟩ := st
  walk_at "C"
  exact ⟨o, k it (by simp) o e, c, d⟩
 item := by
  intro X hP hw hK hc i pins s σ H E I hf st hg
  subst hP hw hK
  walk_at "B"
  obtain ⟨f0, f1, f2, f3, f4, f5⟩ := hf it (by simp)
  walk_at "C"
  have hg : i < ws.length := hg
  have hb : ws[i]? = some ws[i] := List.getElem?_eq_getElem hg
  refine wpAny_pyNext_ascii_item st (bs_get hb) fun h' st' sb => ?_
  have I1 : Inv X pins σ H { s with heap := h', toks := s.toks + 1 } := I.turned (fun b o hb e => (sb.2 b hb).trans e) f0 f1 f3 f4 f5
  walk_at "B"
  obtain ⟨o, e, c, d⟩ := id st'
  walk_at "C"
  exact ⟨_, rfl, go_of (s := { s with heap := h', toks := s.toks + 1 }) e c d (by decide) ⟨.str (bs [ws[i]]), H, I1, ⟨_, rfl⟩, ⟨rfl, _, hb, rfl⟩, st', fun b hb => (hf b hb).1⟩⟩
 done := by
  intro X hP hw hK hc i pins s σ H E I hf st hg
  subst hP hw hK
  walk_at "B"
  obtain ⟨f0, f1, f2, f3, f4, f5⟩ := hf it (by simp)
  walk_at "C"
  have hg : ws.length ≤ i := hg
  refine wpAny_pyNext_ascii_end (I.ok.hd hc) st ?_ fun h' eb => ⟨rfl, I.turned (t' := s.toks) (fun b o hb e => eb b o hb e) f0 f1 f3 f4 f5⟩
  unfold bs
  rw [List.getElem?_toArray]
  exact List.getElem?_eq_none (by rw [List.length_map]; exact hg)
 self := fun _ _ _ _ _ st h => wpAny_pyIter_striter_ascii st h
section
variable {X : Cx} {tg : Expr}
def iTxt (tl : TE) : TI := fun σ H R => tl σ H fun x H1 => ∃ ws : List Bool, x = .str (bs ws) ∧ R (Its ws) H1
theorem pi_txt {l : Expr} {tl : TE} (hl : PE X l tl) : PI X tg l (iTxt tl) := by
 intro pins s σ H R I h
 refine thn (hl pins s σ H _ I h) fun v s1 ⟨x, H1, I1, r1, q1⟩ => ?_
 walk_at "B"
 obtain ⟨ws, rfl, q⟩ := q1
 obtain ⟨t, rfl⟩ := r1
 walk_at "C"
 refine wpAny_pyIter_ascii (by
  unfold bs
  rw [List.all_toArray, List.all_eq_true]
  intro c hc
  walk_at "B"
  obtain ⟨b, _, rfl⟩ := List.mem_map.mp hc
  walk_at "C"
  cases b <;> decide) ?_
 refine ⟨s1.heap.objs.size, [s1.heap.objs.size], _, _, H1, rfl, I1.kept (t' := s1.toks) fun b o e => Heap.get?_push_of_some _ e, turn_str _ ws t, ⟨_, Heap.get?_push_size _ rfl, rfl, rfl⟩, fun b hb => ?_, q⟩
 have e : b = s1.heap.objs.size := by simpa using hb
 subst e
 exact I1.fpOk (Nat.le_refl _) (I1.hok.fresh (Nat.le_refl _))
theorem it_txt (ws : List Bool) : ItOk (Its ws) (ws.map fun b => V.str (bs [b])) fun _ => True :=
 ⟨fun H _ => by show ws.length ≤ _; rw [List.length_map]; exact Nat.le_refl _, fun i H _ hi => by show i < ws.length; rw [List.length_map] at hi; exact hi, fun i H x H' _ hi y => ⟨y.1, by
  walk_at "B"
  obtain ⟨b, h1, h2⟩ := y.2
  walk_at "C"
  rw [List.getElem?_map, h1, h2]; rfl⟩⟩
end
end L2
end
section
set_option Elab.async false
set_option linter.all false
set_option maxRecDepth 100000
set_option maxHeartbeats 4000000
namespace L2
open PySem PySem.Spec PyProof.Rows
section
variable {prog : Program} {w : World} {A : Around} {E : Value → Shared → Prop} {s : Shared}
theorem call_dict_of {o : Addr} {more : List (Key × Value)} {Q : Value → Shared → Prop} (hoS : (o == sysModules) = false) (ho : s.heap.DictOf (mixKind prog w) o more) (hsz : more.length ≤ sizeLine)
  (h : ∀ h', (∀ b u, s.heap.get? b = some u → h'.get? b = some u) → h'.DictOf (mixKind prog w) s.heap.objs.size more → Q (.ref s.heap.objs.size) { s with heap := h' }) :
  wpAny (model prog w) A (call (.type "dict") [.ref o]) Q E s := by
 walk_at "B"
 obtain ⟨oo, es, ep, hoo, hx, hd, hk, hp, hn⟩ := id ho
 walk_at "C"
 have hT : s.TypeIs (.ref o) "dict" := ⟨oo, hoo, hx.1⟩
 refine callType_codes (Q₁ := fun obj s₁ => obj = .ref s.heap.objs.size ∧ s₁ = { s with heap := s.heap.push { cls := .type "dict", data := .dict #[] } }) F.kt_called_dict (F.kt_typeCall_dict_1 _) F.entry_dict_init (kt_code_dict_new _ ⟨rfl, rfl⟩) ?_
 rintro obj s₁ ⟨rfl, rfl⟩
 have hnew : (s.heap.push { cls := .type "dict", data := .dict #[] }).get? s.heap.objs.size = some { cls := .type "dict", data := .dict #[] } := Heap.get?_push_size _ rfl
 have ho' := Heap.get?_push_of_some { cls := .type "dict", data := .dict #[] } hoo
 have hTn : (⟨s.heap.push { cls := .type "dict", data := .dict #[] }, s.gens, s.drawn, s.toks, s.os⟩ : Shared).TypeIs (.ref s.heap.objs.size) "dict" := ⟨_, hnew, rfl⟩
 have hT' : (⟨s.heap.push { cls := .type "dict", data := .dict #[] }, s.gens, s.drawn, s.toks, s.os⟩ : Shared).TypeIs (.ref o) "dict" := ⟨_, ho', hx.1⟩
 have hdo : s.heap.objs.size ≠ o := Nat.ne_of_gt (Heap.lt_size hoo)
 refine ⟨hTn, F.args_dict_init_2 _ _, ?_⟩
 unfold Builtin.«dict.__init__»
 refine wpAny_bind ?_
 unfold Builtin.Dict.selfAndRest
 refine wpAny_bind (wpAny_notOrdered_dict hTn ?_)
 show wpAny _ _ (pure (s.heap.objs.size, [Value.ref o])) _ _ _
 refine wpAny_pure ?_
 show wpAny _ _ (Builtin.Dict.updateFrom "dict.__init__" s.heap.objs.size (.ref o) [] .none) _ _ _
 unfold Builtin.Dict.updateFrom
 refine wpAny_bind (wpAny_typeOf hT' ?_)
 rw [if_neg (by decide)]
 refine wpAny_bind ?_
 unfold Builtin.Dict.merge
 refine wpAny_bind ?_
 unfold Builtin.Dict.readDirectly
 refine wpAny_bind (wpAny_isInstance hT' isSubtype_dict_dict ?_)
 simp only [Bool.not_true, Bool.false_eq_true, if_false]
 refine wpAny_bind (wpAny_specialOf hT' F.slot_dict_iter.lookup (wpAny_pure ?_))
 simp only [beq_self_eq_true, if_true]
 refine wpAny_bind (wpAny_pure ?_)
 have dnew : (s.heap.push { cls := .type "dict", data := .dict #[] }).DictOf (mixKind prog w) s.heap.objs.size [] := ⟨_, #[], 0, hnew, ⟨rfl, rfl, rfl⟩, rfl, fun e he => by simp at he, .nil, List.nodup_nil⟩
 refine wpAny_mergeDict hdo hoS dnew (ho.push _) (fun h' a1 a2 a3 => ?_) (by simpa using hsz)
 rw [merged_nil_of_nodup more hn] at a1
 show wpAny _ _ (Builtin.Dict.addKeywords s.heap.objs.size [] >>= _) _ _ _
 refine wpAny_bind (wpAny_pure (wpAny_pure ⟨rfl, h _ ?_ a1⟩))
 intro b u e
 exact (a3.2 b (Nat.ne_of_lt (Heap.lt_size e))).trans (Heap.get?_push_of_some _ e)
end
section
variable {X : Cx} {p pos : Pos}
def rDictK : List V → Hp → VK → Prop := fun vs H Q => match vs with
 | [.ref p] => ∃ kvs : List (Key × V), Rd H p (.dK kvs) ∧ ∀ l, H l = none → Q (.ref l) (upd H l (.dK kvs))
 | _ => False
theorem call_dictK : CallR X (.type "dict") rDictK := by
 intro pins s σ H xs us Q I r h
 unfold rDictK at h
 split at h
 ·rename_i a
  walk_at "B"
  obtain ⟨kvs, rd, q⟩ := h
  obtain ⟨u, rfl, rx⟩ := vals1 r
  walk_at "C"
  cases rx
  walk_at "B"
  obtain ⟨z, hd, vs, kv, dct⟩ := (show ObjOk X.prog X.w H s.heap a (.dK kvs) from rd_of I.hok rd)
  walk_at "C"
  have vl : vs.length ≤ sizeLine := by rw [← kv.length]; exact z
  refine call_dict_of hd dct vl fun h' kp dn => ?_
  refine ⟨.ref s.heap.objs.size, _, I.laid (t' := s.toks) kp (Nat.le_refl _) (show ObjOk X.prog X.w _ h' _ (.dK kvs) from ⟨z, ?_, vs, kv, dn⟩), rfl, q _ (I.hok.fresh (Nat.le_refl _))⟩
  walk_at "B"
  obtain ⟨_, e, _⟩ := dk_empty (P := X.prog) (w := X.w) (H := H) s.heap I.big
  walk_at "C"
  exact e
 ·exact h.elim
theorem fn_dictK {e : Expr} {es : List Expr} {t : TA} {mg' : Str → Option Value} (hm : mg' "dict" = none) (hX : X.mg = mg') (ha : PA X (e :: es) t) (hg : gB X "dict" = true := by kernel_rfl) (he : starEach (e :: es) X.env = (false, eval e X.env) :: starEach es X.env := by kernel_rfl) (hpl : (backTo pos (starEach es X.env)).any (·.1) = false := by kernel_rfl) :
  PE X (.Call (.Name "dict" p) (e :: es) [] pos) (tCB rDictK t) := pe_callTy call_dictK (gl_of hg) (by rw [hX]; exact hm) PyProof.Rows.boot_dict ha (he := he) (hpl := hpl)
def iLstH (tl : TE) : TI := fun σ H R => tl σ H fun x H1 => match x with
 | .ref a => ∃ kvs, Rd H1 a (.dK kvs) ∧ ∀ o H2, H2 a = some (.frz o (.dK kvs)) → SameT a H1 H2 → R (Itk a o (kvs.map fun p => kV p.1)) H2
 | _ => False
theorem pi_lstH {tg l : Expr} {tl : TE} (hl : PE X l tl) : PI X tg l (iLstH tl) := by
 intro pins s σ H R I h
 refine thn (hl pins s σ H _ I h) fun v s1 ⟨x, H1, I1, r1, q1⟩ => ?_
 dsimp only at q1
 split at q1
 ·rename_i a
  cases r1
  walk_at "B"
  obtain ⟨kvs, rd, q⟩ := q1
  walk_at "C"
  obtain ⟨o, H2, J, ho, hq', st⟩ : ∃ (o : Obj) (H2 : Hp), Inv X pins σ H2 s1 ∧ s1.heap.get? a = some o ∧ H2 a = some (.frz o (.dK kvs)) ∧ SameT a H1 H2 := by
   rcases rd with hq | ⟨o, hq⟩
   ·obtain ⟨o, ho⟩ := I1.obj hq
    exact ⟨o, _, I1.freeze hq trivial ho, ho, upd_same, fun b u nb e => by rw [upd_ne nb]; exact e⟩
   ·exact ⟨o, H1, I1, I1.frozen hq, hq, fun b u nb e => e⟩
  walk_at "B"
  obtain ⟨_, z, hd, vs, r, o', es, ep, h1, h2, h3, h4, h5, h6⟩ := J.hok a _ hq'
  walk_at "C"
  rw [ho] at h1; cases h1
  have hT : s1.TypeIs (.ref a) "dict" := let ⟨_, _, _, _, dd⟩ := dk_rd J.hok (.inr ⟨o, hq'⟩); dd.typeIs
  refine keyIter hd hT ho h3 ?_
  refine ⟨s1.heap.objs.size, [s1.heap.objs.size], _, _, _, rfl, J.kept (t' := s1.toks) fun b o e => Heap.get?_push_of_some _ e, turn_keys h3 (keys_mix r h5), ⟨_, Heap.get?_push_size _ rfl, rfl, rfl⟩, fun b hb => ?_, q o H2 hq' st⟩
  have e : b = s1.heap.objs.size := by simpa using hb
  subst e
  exact J.fpOk (Nat.le_refl _) (J.hok.fresh (Nat.le_refl _))
 ·exact q1.elim
end
end L2
end
section
set_option Elab.async false
set_option linter.all false
set_option maxRecDepth 100000
set_option maxHeartbeats 4000000
namespace Om
def stp (b : Bool) : Int := if b then 1 else -1
def tot (ws : List Bool) : Int := (ws.map stp).sum
def leans (ws : List Bool) : List Int := (List.range ws.length).map fun i => tot (ws.take (i + 1))
theorem tot_app (v w : List Bool) : tot (v ++ w) = tot v + tot w := by unfold tot; rw [List.map_append, List.sum_append]
theorem tot_one (b : Bool) : tot [b] = stp b := by unfold tot; simp
theorem leans_last {ws : List Bool} (h : 0 < ws.length) : (leans ws)[ws.length - 1]? = some (tot ws) := by
 unfold leans
 rw [List.getElem?_map, List.getElem?_range (by omega)]
 show some (tot (ws.take (ws.length - 1 + 1))) = _
 rw [List.take_of_length_le (by omega)]
theorem leans_len (ws : List Bool) : (leans ws).length = ws.length := by unfold leans; rw [List.length_map, List.length_range]
def wt (turn : Int) (r : List Bool × Nat) : Int := turn * tot r.1
structure Ext (rows : Rows) (turn : Int) (ks : List Nat) (E : Nat → Int) (ed : Nat → Nat → Prop) (ks' : List Nat) (E' : Nat → Int) : Prop where
 old : ∀ s ∈ ks, s ∈ ks' ∧ E s ≤ E' s
 src : ∀ t ∈ ks', (t ∈ ks ∧ E' t = E t) ∨ ∃ s ∈ ks, ∃ r ∈ rows.getD s [], r.2 = t ∧ E' t = E s + wt turn r
 all : ∀ s l r, ed s l → (rows.getD s [])[l]? = some r → r.2 ∈ ks' ∧ E s + wt turn r ≤ E' r.2
section
variable {rows : Rows} {turn : Int} {ks ks' : List Nat} {E E' : Nat → Int} {ed ed' : Nat → Nat → Prop} {s l : Nat} {r : List Bool × Nat}
theorem Ext.zero : Ext rows turn ks E (fun _ _ => False) ks E := ⟨fun s h => ⟨h, Int.le_refl _⟩, fun t h => .inl ⟨h, rfl⟩, fun _ _ _ h => h.elim⟩
theorem Ext.cong (h : Ext rows turn ks E ed ks' E') (e : ∀ s l, ed' s l → ed s l) : Ext rows turn ks E ed' ks' E' := ⟨h.old, h.src, fun s l r a => h.all s l r (e s l a)⟩
theorem Ext.put (h : Ext rows turn ks E ed ks' E') (hs : s ∈ ks) (hr : (rows.getD s [])[l]? = some r) (c : r.2 ∉ ks' ∨ E' r.2 < E s + wt turn r) :
  Ext rows turn ks E (fun a b => ed a b ∨ (a = s ∧ b = l)) (adds ks' r.2) (fun t => if t = r.2 then E s + wt turn r else E' t) := by
 have up : r.2 ∈ ks' → E' r.2 < E s + wt turn r := fun z => c.resolve_left fun n => n z
 refine ⟨fun x hx => ?_, fun t ht => ?_, fun a b r' hab hr' => ?_⟩
 ·obtain ⟨h1, h2⟩ := h.old x hx
  refine ⟨mem_adds.mpr (.inl h1), ?_⟩
  show E x ≤ if x = r.2 then E s + wt turn r else E' x
  by_cases e : x = r.2
  ·rw [if_pos e]
   have := up (e ▸ h1)
   rw [e] at h2 ⊢
   (clear c up e; omega)
  ·rw [if_neg e]; exact h2
 ·show _ ∨ _
  by_cases e : t = r.2
  ·exact .inr ⟨s, hs, r, List.mem_of_getElem? hr, e.symm, by show (if t = r.2 then _ else _) = _; rw [if_pos e]⟩
  ·have e2 : (if t = r.2 then E s + wt turn r else E' t) = E' t := if_neg e
   rcases h.src t ((mem_adds.mp ht).resolve_right e) with ⟨a1, a2⟩ | ⟨a, ha, b, hb, a1, a2⟩
   ·exact .inl ⟨a1, e2.trans a2⟩
   ·exact .inr ⟨a, ha, b, hb, a1, e2.trans a2⟩
 ·show _ ∧ _ ≤ if r'.2 = r.2 then E s + wt turn r else E' r'.2
  rcases hab with hab | ⟨rfl, rfl⟩
  ·obtain ⟨h1, h2⟩ := h.all a b r' hab hr'
   refine ⟨mem_adds.mpr (.inl h1), ?_⟩
   by_cases e : r'.2 = r.2
   ·rw [if_pos e]
    rw [e] at h1 h2
    have := up h1
    (clear c up e; omega)
   ·rw [if_neg e]; exact h2
  ·rw [hr] at hr'
   cases hr'
   exact ⟨mem_adds.mpr (.inr rfl), by rw [if_pos rfl]; exact Int.le_refl _⟩
theorem Ext.skip (h : Ext rows turn ks E ed ks' E') (hr : (rows.getD s [])[l]? = some r) (c1 : r.2 ∈ ks') (c2 : E s + wt turn r ≤ E' r.2) :
  Ext rows turn ks E (fun a b => ed a b ∨ (a = s ∧ b = l)) ks' E' := by
 refine ⟨h.old, h.src, fun a b r' hab hr' => ?_⟩
 rcases hab with hab | ⟨rfl, rfl⟩
 ·exact h.all a b r' hab hr'
 ·rw [hr] at hr'
  cases hr'
  exact ⟨c1, c2⟩
end
end Om
namespace L2
open PySem PySem.Spec PyProof.Rows
structure En (H : Hp) (kvs : List (Key × V)) (ks : List Nat) (E : Nat → Int) (c : Nat) : Prop where
 kz : KS nk kvs ks
 vl : ∀ s ∈ ks, ∃ t l zs, valV kvs (nk s) = some (.ref t) ∧ H t = some (.tup [.int (E s), .ref l]) ∧ H l = some (.lst zs) ∧ zs.length ≤ c
section
variable {H H' : Hp} {kvs : List (Key × V)} {ks : List Nat} {E : Nat → Int} {c : Nat}
theorem En.mono (n : En H kvs ks E c) (s : Same H H') : En H' kvs ks E c := ⟨n.kz, fun x hx => let ⟨t, l, zs, a, b, d, e⟩ := n.vl x hx; ⟨t, l, zs, a, s _ _ b, s _ _ d, e⟩⟩
theorem En.le {c' : Nat} (n : En H kvs ks E c) (h : c ≤ c') : En H kvs ks E c' := ⟨n.kz, fun x hx => let ⟨t, l, zs, a, b, d, e⟩ := n.vl x hx; ⟨t, l, zs, a, b, d, Nat.le_trans e h⟩⟩
theorem En.monoT {D : Addr} (n : En H kvs ks E c) (nt : ∀ xs, H D ≠ some (.tup xs)) (nl : ∀ xs, H D ≠ some (.lst xs)) (s : SameT D H H') : En H' kvs ks E c :=
 ⟨n.kz, fun x hx => let ⟨t, l, zs, a, b, d, e⟩ := n.vl x hx; ⟨t, l, zs, a, s _ _ (fun z => nt _ (z ▸ b)) b, s _ _ (fun z => nl _ (z ▸ d)) d, e⟩⟩
theorem En.put {D t l : Addr} {zs : List V} {x : Nat} {far : Int} (n : En H kvs ks E c) (hD : H D = some (.dK kvs)) (ht : H t = some (.tup [.int far, .ref l])) (hl : H l = some (.lst zs)) (hz : zs.length ≤ c) :
  En (upd H D (.dK (putK kvs (nk x) (.ref t)))) (putK kvs (nk x) (.ref t)) (Om.adds ks x) (fun s => if s = x then far else E s) c := by
 have off : ∀ {b : Addr} {ys : List V}, H b = some (.tup ys) → upd H D (.dK (putK kvs (nk x) (.ref t))) b = some (.tup ys) := fun {b ys} h => by rw [upd_ne (ne_of h hD (fun z => nomatch z))]; exact h
 have offl : ∀ {b : Addr} {ys : List V}, H b = some (.lst ys) → upd H D (.dK (putK kvs (nk x) (.ref t))) b = some (.lst ys) := fun {b ys} h => by rw [upd_ne (ne_of h hD (fun z => nomatch z))]; exact h
 refine ⟨n.kz.put (fun a b h => nk_inj h) x (.ref t), fun y hy => ?_⟩
 by_cases e : y = x
 ·subst e
  exact ⟨t, l, zs, by rw [valV_put, if_pos rfl], off (by show H t = some (.tup [.int (if y = y then far else E y), .ref l]); rw [if_pos rfl]; exact ht), offl hl, hz⟩
 ·walk_at "B"
  obtain ⟨t', l', zs', a, b, d, e'⟩ := n.vl y ((Om.mem_adds.mp hy).resolve_right e)
  walk_at "C"
  exact ⟨t', l', zs', by rw [valV_put, if_neg (fun z => e (nk_inj z))]; exact a, off (by show H t' = some (.tup [.int (if y = x then far else E y), .ref l']); rw [if_neg e]; exact b), offl d, e'⟩
end
end L2
end
section
set_option maxRecDepth 100000
open PySem L2
local macro_rules | `(tactic| walk_at "T.n") => `(tactic| fail "no names")
local macro_rules | `(tactic| walk_at "T.a") => `(tactic| first | (with_reducible exact pa_nil) | ((with_reducible refine' a_cons ?a1 ?a2); (case a1 => walk_at "T.e"); (case a2 => walk_at "T.a")))
local macro_rules | `(tactic| walk_at "T.o") => `(tactic| first | (with_reducible exact po_none) | ((with_reducible refine' po_someU ?a1); (case a1 => walk_at "T.e")))
local macro_rules | `(tactic| walk_at "T.cmp") => `(tactic| first | (with_reducible exact op_inL) | (with_reducible exact op_notInL) | (with_reducible exact op_isU) | (with_reducible exact op_isNotU) | (with_reducible exact op_lt.n0) | (with_reducible exact op_le.n0) | (with_reducible exact op_gt.n0) | (with_reducible exact op_ge.n0) | ((with_reducible refine' op_eqU ?a1); (case a1 => exact Room.units (by assumption))) | ((with_reducible refine' op_neU ?a1); (case a1 => exact Room.units (by assumption))))
local macro_rules | `(tactic| walk_at "T.op") => `(tactic| first | (with_reducible exact op_addU) | (with_reducible exact op_sub.n0) | (with_reducible exact op_mulU) | (with_reducible exact op_mod.n) | (with_reducible exact op_fdiv.n) | (with_reducible exact op_pow.n) | (with_reducible exact op_shl.n) | (with_reducible exact op_shr.n) | (with_reducible exact op_and.n0) | (with_reducible exact op_xor.n0) | (with_reducible exact op_or.n0))
local macro_rules | `(tactic| walk_at "T.ty") => `(tactic| first | ((with_reducible refine' ty_int ?a1 ?a9); (case a1 => with_reducible assumption); (case a9 => rfl)) | ((with_reducible refine' ty_bool ?a1 ?a9); (case a1 => with_reducible assumption); (case a9 => rfl)) | ((with_reducible refine' ty_list ?a1 ?a9); (case a1 => with_reducible assumption); (case a9 => rfl)) | ((with_reducible refine' ty_tuple ?a1 ?a9); (case a1 => with_reducible assumption); (case a9 => rfl)) )
local macro_rules | `(tactic| walk_at "T.f") => `(tactic| ((with_reducible refine' fn_can _ ?a0 ?a9 ?a1 ?a2); (case a0 => with_reducible assumption); (case a9 => exact ⟨rfl, rfl, rfl, rfl, rfl⟩); (case a1 => exact Room.mono (by assumption) (by first | decide | exact Nat.le_refl _)); (case a2 => walk_at "T.a")))
local macro_rules | `(tactic| walk_at "T.b") => `(tactic| first | walk_at "T.f" | ((with_reducible refine' fn_len ?a0 ?a9 ?a1); (case a0 => with_reducible assumption); (case a9 => rfl); (case a1 => walk_at "T.a")) | ((with_reducible refine' fn_isinst ?a0 ?a9 ?a1); (case a0 => with_reducible assumption); (case a9 => rfl); (case a1 => walk_at "T.a")) | ((with_reducible refine' fn_all ?a0 ?a9 ?a1); (case a0 => with_reducible assumption); (case a9 => rfl); (case a1 => walk_at "T.a")) | ((with_reducible refine' fn_max ?a0 ?a9 ?a1); (case a0 => with_reducible assumption); (case a9 => rfl); (case a1 => walk_at "T.a")) | ((with_reducible refine' fn_min ?a0 ?a9 ?a1); (case a0 => with_reducible assumption); (case a9 => rfl); (case a1 => walk_at "T.a")) | ((with_reducible refine' fn_int ?a0 ?a9 ?a1); (case a0 => with_reducible assumption); (case a9 => rfl); (case a1 => walk_at "T.a")) | ((with_reducible refine' fn_list ?a0 ?a9 ?a1); (case a0 => with_reducible assumption); (case a9 => rfl); (case a1 => walk_at "T.a")) | ((with_reducible refine' fn_sorted ?a0 ?a9 ?a1); (case a0 => with_reducible assumption); (case a9 => rfl); (case a1 => walk_at "T.a")))
local macro_rules | `(tactic| walk_at "T.m") => `(tactic| first | ((with_reducible refine' m_append ?a1 ?a2); (case a1 => walk_at "T.e"); (case a2 => walk_at "T.a")) | ((with_reducible refine' m_join ?a1 ?a2); (case a1 => walk_at "T.e"); (case a2 => walk_at "T.a")) | ((with_reducible refine' m_count ?a1 ?a2); (case a1 => walk_at "T.e"); (case a2 => walk_at "T.a")) )
local macro_rules | `(tactic| walk_at "T.c") => `(tactic| fail "no comprehension's names")
local macro_rules | `(tactic| walk_at "T.e") => `(tactic| first | (with_reducible exact pe_int) | (with_reducible exact pe_str) | (with_reducible exact pe_bl) | (with_reducible exact pe_non) | walk_at "T.n" | walk_at "T.ty" | ((with_reducible refine' pe_op ?a1 ?a2 ?a3); (case a1 => walk_at "T.op"); (case a2 => walk_at "T.e"); (case a3 => walk_at "T.e")) | ((with_reducible refine' e_cmp ?a1 ?a2 ?a3); (case a1 => walk_at "T.cmp"); (case a2 => walk_at "T.e"); (case a3 => walk_at "T.e")) | ((with_reducible refine' e_chain ?a1 ?a2 ?a3 ?a4 ?a5); (case a1 => walk_at "T.cmp"); (case a2 => walk_at "T.cmp"); (case a3 => walk_at "T.e"); (case a4 => walk_at "T.e"); (case a5 => walk_at "T.e")) | ((with_reducible refine' pe_slice slU ?a1 ?a2 ?a3); (case a1 => walk_at "T.e"); (case a2 => walk_at "T.o"); (case a3 => walk_at "T.o")) | ((with_reducible refine' ix_at ?a1 ?a2); (case a1 => walk_at "T.e"); (case a2 => walk_at "T.e")) | ((with_reducible refine' pe_tup ?a1); (case a1 => walk_at "T.a")) | ((with_reducible refine' pe_lst ?a1); (case a1 => walk_at "T.a")) | ((with_reducible refine' pe_andU ?a1 ?a2); (case a1 => walk_at "T.e"); (case a2 => walk_at "T.e")) | ((with_reducible refine' pe_orU ?a1 ?a2); (case a1 => walk_at "T.e"); (case a2 => walk_at "T.e")) | ((with_reducible refine' pe_one ?a1); (case a1 => walk_at "T.e")) | ((with_reducible refine' pe_notU ?a1); (case a1 => walk_at "T.e")) | ((with_reducible refine' e_neg ?a1); (case a1 => walk_at "T.e")) | walk_at "T.b" | walk_at "T.m" | ((with_reducible refine' e_fmt ?a1); (case a1 => walk_at "T.e")) | ((with_reducible refine' e_fstr ?a1); (case a1 => walk_at "T.j")) | walk_at "T.c")
local macro_rules | `(tactic| walk_at "T.j") => `(tactic| first | (with_reducible exact pj_nil) )
local macro_rules | `(tactic| walk_at "T.t") => `(tactic| first | ((with_reducible refine' t_chain ?a1 ?a2 ?a3 ?a4 ?a5); (case a1 => walk_at "T.cmp"); (case a2 => walk_at "T.cmp"); (case a3 => walk_at "T.e"); (case a4 => walk_at "T.e"); (case a5 => walk_at "T.e")) | ((with_reducible refine' t_cmp ?a1 ?a2 ?a3); (case a1 => walk_at "T.cmp"); (case a2 => walk_at "T.e"); (case a3 => walk_at "T.e")) | ((with_reducible refine' pt_not ?a1); (case a1 => walk_at "T.t")) | ((with_reducible refine' PW.pt ?a1); (case a1 => walk_at "T.w")) | ((with_reducible refine' t_tru ?a1); (case a1 => walk_at "T.e")))
local macro_rules | `(tactic| walk_at "T.w") => `(tactic| first | ((with_reducible refine' pw_and ?a1 ?a2); (case a1 => walk_at "T.t"); (case a2 => walk_at "T.w")) | ((with_reducible refine' pw_or ?a1 ?a2); (case a1 => walk_at "T.t"); (case a2 => walk_at "T.w")) | ((with_reducible refine' pw_and1 ?a1); (case a1 => walk_at "T.t")) | ((with_reducible refine' pw_or1 ?a1); (case a1 => walk_at "T.t")))
local macro_rules | `(tactic| walk_at "T.i") => `(tactic| first | ((with_reducible refine' it_r1 ?a0 ?a9 ?a1); (case a0 => with_reducible assumption); (case a9 => rfl); (case a1 => walk_at "T.a")) | ((with_reducible refine' it_enum ?a0 ?a9 ?a1); (case a0 => with_reducible assumption); (case a9 => rfl); (case a1 => walk_at "T.a")) | ((with_reducible refine' pi_tup ?a1); (case a1 => ((with_reducible refine' pe_tup ?a1); (case a1 => walk_at "T.a")))) | ((with_reducible refine' pi_lst ?a1); (case a1 => walk_at "T.e")))
local macro_rules | `(tactic| walk_at "T.gn") => `(tactic| fail "no names")
local macro_rules | `(tactic| walk_at "T.g") => `(tactic| first | walk_at "T.gn" | ((with_reducible refine' g_tupL ?a1); (case a1 => walk_at "T.gs")) | ((with_reducible refine' g_tupN ?a1); (case a1 => walk_at "T.gs")))
local macro_rules | `(tactic| walk_at "T.gs") => `(tactic| first | (with_reducible exact pgs_nil) | ((with_reducible refine' gs_cons ?a1 ?a2); (case a1 => walk_at "T.g"); (case a2 => walk_at "T.gs")))
local macro_rules | `(tactic| walk_at "T.sc") => `(tactic| fail "no comprehension's names")
local macro_rules | `(tactic| walk_at "T.st") => `(tactic| first | ((with_reducible refine' ps_ret ?a1); (case a1 => walk_at "T.e")) | walk_at "T.sc" | ((with_reducible refine' s_asg ?a1 ?a2); (case a1 => walk_at "T.e"); (case a2 => walk_at "T.g")) | ((with_reducible refine' s_expr ?a1); (case a1 => walk_at "T.e")) | ((with_reducible refine' ps_if ?a1 ?a2 ?a3); (case a1 => walk_at "T.t"); (case a2 => walk_at "T.s"); (case a3 => walk_at "T.s")) | ((with_reducible refine' s_for ?a1 ?a2 ?a3); (case a1 => walk_at "T.i"); (case a2 => walk_at "T.g"); (case a3 => walk_at "T.s")) | ((with_reducible refine' s_while ?a1 ?a2); (case a1 => walk_at "T.t"); (case a2 => walk_at "T.s")) | (with_reducible exact s_raise))
local macro_rules | `(tactic| walk_at "T.s") => `(tactic| first | (with_reducible exact pss_nil) | ((with_reducible refine' pss_one ?a1); (case a1 => walk_at "T.st")) | ((with_reducible refine' pss_cons ?a1 ?a2); (case a1 => walk_at "T.st"); (case a2 => walk_at "T.s")))
local macro_rules | `(tactic| walk_at "T.pf") => `(tactic| first | (with_reducible exact pf_nil) | ((with_reducible refine' pf_one ?a1); (case a1 => walk_at "T.t")))
local macro_rules | `(tactic| walk_at "T.top1") => `(tactic| ((refine' pss_one ?a1); (case a1 => walk_at "T.st")))
local macro_rules | `(tactic| walk_at "T.top") => `(tactic| ((refine' pss_cons ?a1 ?a2); (case a1 => walk_at "T.st"); (case a2 => walk_at "T.s")))
section
set_option Elab.async false
set_option linter.all false
set_option maxRecDepth 100000
set_option maxHeartbeats 4000000
namespace K21
open PySem L2
section
variable {P : Program} {w : World} {K : PySem.W.Frag} {mg : Str → Option Value} {base : Heap}
abbrev sLeans : Stmt := top 14
def spLeans : Sp := fun vs H Q _ => match vs with
 | [.str z] => ∃ ws : List Bool, z = bs ws ∧ ws.length ≤ 1000 ∧ ∀ l H', Same H H' → H l = none → H' l = some (.lst ((Om.leans ws).map V.int)) → Q (.ref l) H'
 | _ => False
theorem scLeans : FnScope ["word", "more", "leans", "sign"] ["word"] (defScope sLeans) := ⟨rfl, rfl, rfl, by decide +kernel, rfl, by decide +kernel, by decide +kernel⟩
local macro_rules | `(tactic| walk_at "T.n") => `(tactic| with_reducible first | exact vn "word" 0 | exact vn "more" 1 | exact vn "leans" 2 | exact vn "sign" 3)
local macro_rules | `(tactic| walk_at "T.gn") => `(tactic| with_reducible first | exact gn "more" 1 (by walk_at "A") | exact gn "leans" 2 (by walk_at "A") | exact gn "sign" 3 (by walk_at "A"))
local macro_rules | `(tactic| walk_at "T.i") => `(tactic| ((with_reducible refine' pi_txt ?a1); (case a1 => walk_at "T.e")))
local macro_rules | `(tactic| walk_at "T.e") => `(tactic| ((with_reducible refine' pe_ifExp ?a1 ?a2 ?a3); (case a1 => walk_at "T.t"); (case a2 => walk_at "T.e"); (case a3 => walk_at "T.e")))
local macro_rules | `(tactic| walk_at "T.st") => `(tactic| ((with_reducible refine' s_aug "more" 1 ?a0 ?a1); (case a0 => assumption); (case a1 => walk_at "T.e")))
theorem ok_leans (D : FnX K mg "leans_in" sLeans ["word"]) : Can P w K mg base "leans_in" 1 ["word"] spLeans := by
 refine can_fn (k := 0) D scLeans (fun vs H Q E h => ?_) (fun f cdv A outer s H vs Q E hr h => ?_)
 all_goals
  unfold spLeans at h
  split at h
 ·rfl
 ·exact h.elim
 ·rename_i z
  walk_at "B"
  obtain ⟨ws, rfl, w3, q⟩ := h
  walk_at "C"
  have nd := scLeans.nd
  refine ⟨_, (by walk_at "T.top"), ?_⟩
  refine ⟨Nat.zero_le _, fun L hL => ?_⟩
  have s0 : Same H (upd H L (.lst [])) := Same.upd hL
  refine ⟨ws, rfl, ?_⟩
  refine for_by (it_txt ws) (fun i σ H2 => ∃ (v3 : Option V), σ = [some (.str (bs ws)), some (.int (Om.tot (ws.take i))), some (.ref L), v3] ∧ Same H H2 ∧ H2 L = some (.lst (((List.range i).map fun i => Om.tot (ws.take (i + 1))).map V.int)))
   ⟨none, rfl, s0, upd_same⟩ (fun _ _ _ _ _ => trivial) ?_ ?_
  ·intro i x σ H2 hi hx hh_
   walk_at "B"
   obtain ⟨v3, rfl, s2, h2⟩ := hh_
   walk_at "C"
   rw [List.length_map] at hi
   have hb : ws[i]? = some ws[i] := List.getElem?_eq_getElem hi
   rw [List.getElem?_map, hb] at hx
   cases hx
   have et : Om.tot (ws.take (i + 1)) = Om.tot (ws.take i) + Om.stp ws[i] := by rw [List.take_add_one, hb, Om.tot_app]; show _ + Om.tot [ws[i]] = _; rw [Om.tot_one]
   generalize ws[i] = b at et
   dsimp only [gName]
   refine seq_by (fun σ H3 => σ = [some (.str (bs ws)), some (.int (Om.tot (ws.take (i + 1)))), some (.ref L), some (.str (bs [b]))] ∧ H3 = H2) ?_ (fun fin => ?_)
   ·rintro σ H3 ⟨rfl, rfl⟩
    refine ⟨⟨_, rfl, h2⟩, _, h2, lt_line (by rw [List.length_map, List.length_map, List.length_range]; omega), ?_⟩
    refine ⟨_, rfl, s2.own hL, ?_⟩
    rw [upd_same, List.range_succ, List.map_append, List.map_append]
    rfl
   ·refine ite2 (fun c => ?_) (fun c => ?_)
    ·have c : decide (bs [b] = ("1" : Str)) = true := c
     have e := bs_inj ((of_decide_eq_true c).trans bs_1)
     have e : b = true := by simpa using e
     subst e
     exact fin _ _ ⟨by rw [et], rfl⟩
    ·have c : ¬ decide (bs [b] = ("1" : Str)) = true := c
     have e : b = false := by
      cases b
      ·rfl
      ·exact absurd (decide_eq_true bs_1.symm) c
     subst e
     exact fin _ _ ⟨by rw [et], rfl⟩
  ·intro σ H2 hh_
   walk_at "B"
   obtain ⟨v3, rfl, s2, h2⟩ := hh_
   walk_at "C"
   rw [List.length_map] at h2
   exact q L H2 s2 hL h2
 ·exact h.elim
end

end K21
end
section
set_option Elab.async false
set_option linter.all false
set_option maxRecDepth 100000
set_option maxHeartbeats 4000000
namespace K21
open PySem L2
section
variable {P : Program} {w : World} {K : PySem.W.Frag} {mg : Str → Option Value} {base : Heap}
abbrev sTexts : Stmt := top 2
def spTexts (f : Addr) (spF : Sp) : Sp := fun vs H Q _ => match vs with
 | [.int s0, .ref f'] => s0 = 0 ∧ f' = f ∧ ∃ (nx : Nat → List Nat) (m : Nat) (W : Hp → Prop), (∀ H H', W H → Same H H' → W H') ∧ W H ∧ 0 < m ∧ m ≤ 8 ∧ (∀ s, s < m → (nx s).length ≤ 8 ∧ ∀ t ∈ nx s, t < m) ∧
   (∀ (s : Nat) H Q, s < m → W H → (∀ l ps H', Same H H' → H l = none → H' l = some (.lst ps) → Stps H' ps (nx s) → Q (.ref l) H') → spF [.int (s : Nat)] H Q E0) ∧
   ∀ d o (kvs : List (Key × V)) (qs : List Nat) H', Same H H' → H d = none → H' d = some (.frz o (.dK kvs)) → kvs.map (·.1) = qs.map nk → qs.Nodup → (∀ s, s ∈ qs ↔ Om.Rch nx s) → qs.length ≤ 8 → Q (.ref d) H'
 | _ => False
theorem scTexts : FnScope ["start", "steps", "texts", "queue", "place", "node", "letter", "to"] ["start", "steps"] (defScope sTexts) := ⟨rfl, rfl, rfl, by decide +kernel, rfl, by decide +kernel, by decide +kernel⟩
local macro_rules | `(tactic| walk_at "T.n") => `(tactic| with_reducible first | exact vn "start" 0 | exact vn "steps" 1 | exact vn "texts" 2 | exact vn "queue" 3 | exact vn "place" 4 | exact vn "node" 5 | exact vn "letter" 6 | exact vn "to" 7)
local macro_rules | `(tactic| walk_at "T.gn") => `(tactic| with_reducible first | exact gn "texts" 2 (by walk_at "A") | exact gn "queue" 3 (by walk_at "A") | exact gn "place" 4 (by walk_at "A") | exact gn "node" 5 (by walk_at "A") | exact gn "letter" 6 (by walk_at "A") | exact gn "to" 7 (by walk_at "A"))
local macro_rules | `(tactic| walk_at "T.ps") => `(tactic| first | (with_reducible exact pps_nil) | ((with_reducible refine' pps_cons ?a1 ?a2 ?a3); (case a1 => walk_at "T.e"); (case a2 => walk_at "T.e"); (case a3 => walk_at "T.ps")))
local macro_rules | `(tactic| walk_at "T.e") => `(tactic| first | ((with_reducible refine' pe_disp ?a1 ?a2 ?a3 ?a4 ?a5); (case a1 => walk_at "T.ps"); (case a2 => kernel_rfl); (case a3 => kernel_rfl); (case a4 => exact fun z => nomatch z); (case a5 => decide)) | ((with_reducible refine' ix_atD ?a0 ?a1 ?a2); (case a0 => exact Room.units (by assumption)); (case a1 => walk_at "T.e"); (case a2 => walk_at "T.e")))
local macro_rules | `(tactic| walk_at "T.cmp") => `(tactic| ((with_reducible refine' op_notInDict ?a0); (case a0 => exact Room.units (by assumption))))
local macro_rules | `(tactic| walk_at "T.b") => `(tactic| ((with_reducible refine' e_callF "steps" 1 ?a0 ?a9 ?a1 ?a2); (case a0 => with_reducible assumption); (case a9 => exact ⟨rfl, rfl, rfl, rfl, rfl⟩); (case a1 => exact Room.mono (by assumption) (Nat.le_refl _)); (case a2 => walk_at "T.a")))
local macro_rules | `(tactic| walk_at "T.g") => `(tactic| ((with_reducible refine' g_subD ?a0 ?a1 ?a2); (case a0 => exact Room.units (by assumption)); (case a1 => walk_at "T.e"); (case a2 => walk_at "T.e")))
local macro_rules | `(tactic| walk_at "T.st") => `(tactic| first | ((with_reducible refine' s_retF ?a1); (case a1 => walk_at "T.e")) | ((with_reducible refine' s_aug "place" 4 ?b0 ?a1); (case b0 => with_unfolding_all assumption); (case a1 => walk_at "T.e")))
inductive qTA (f' D Qa : Addr) (nx : Nat → List Nat) (m : Nat) (H : Hp) (mm : Nat) (σ : L2.St) (H2 : L2.Hp) : Prop
 | mk (v5 v6 v7 : Option V) (kvs : List (Key × V)) (qs : List Nat) (c : Nat) (z0 : σ = [some (.int 0), some (.ref f'), some (.ref D), some (.ref Qa), some (.int (c : Nat)), v5, v6, v7]) (z1 : mm + c = m) (z2 : Tq H H2 D Qa kvs qs qs.length) (z3 : (∀ s ∈ qs, s < m)) (z4 : 0 ∈ qs) (z5 : (∀ s ∈ qs, Om.Rch nx s)) (z6 : c ≤ qs.length) (z7 : ∀ (i s : Nat), i < c → qs[i]? = some s → ∀ t ∈ nx s, t ∈ qs) : qTA f' D Qa nx m H mm σ H2
inductive qTN (f' D Qa : Addr) (nx : Nat → List Nat) (m c s : Nat) (qs : List Nat) (H : Hp) (σ' : L2.St) (H' : L2.Hp) : Prop
 | mk (v6 v7 : Option V) (kvs : List (Key × V)) (more : List Nat) (z0 : σ' = [some (.int 0), some (.ref f'), some (.ref D), some (.ref Qa), some (.int ((c : Nat) + 1)), some (.int (s : Nat)), v6, v7]) (z1 : Tq H H' D Qa kvs (qs ++ more) (qs ++ more).length) (z2 : (∀ s ∈ more, s < m ∧ Om.Rch nx s)) (z3 : ∀ t ∈ nx s, t ∈ qs ++ more) : qTN f' D Qa nx m c s qs H σ' H'
inductive qTL (f' D Qa l : Addr) (ps : List V) (nx : Nat → List Nat) (m c s : Nat) (qs : List Nat) (H : Hp) (i : Nat) (σ : L2.St) (H4 : L2.Hp) : Prop
 | mk (v6 v7 : Option V) (kvs : List (Key × V)) (more : List Nat) (z0 : σ = [some (.int 0), some (.ref f'), some (.ref D), some (.ref Qa), some (.int ((c : Nat) + 1)), some (.int (s : Nat)), v6, v7]) (z1 : Tq H H4 D Qa kvs (qs ++ more) (qs ++ more).length) (z2 : (∀ s ∈ more, s < m ∧ Om.Rch nx s)) (z3 : H4 l = some (.lst ps)) (z4 : Stps H4 ps (nx s)) (z5 : ∀ (j t : Nat), j < i → (nx s)[j]? = some t → t ∈ qs ++ more) : qTL f' D Qa l ps nx m c s qs H i σ H4
theorem ok_texts {f : Addr} {k : Nat} {p : Str} {spF : Sp} (D : FnX K mg "texts_from" sTexts ["start", "steps"]) (g1 : mg "len" = none) (c1 : CanL P w K mg base f k p spF) : Can P w K mg base "texts_from" (k + 1) ["start", "steps"] (spTexts f spF) := by
 refine can_fn (k := k) D scTexts (fun vs H Q E h => ?_) (fun f0 cdv A outer s H vs Q E hr h => ?_)
 all_goals
  unfold spTexts at h
  split at h
 ·rfl
 ·exact h.elim
 ·rename_i s0 f'
  walk_at "B"
  obtain ⟨rfl, rfl, nx, m, W, Wm, hW, m0, m8, hn, hF, q⟩ := h
  walk_at "C"
  have nd := scTexts.nd
  refine ⟨_, (by walk_at "T.top"), ?_⟩
  refine fun D hD => ⟨Nat.zero_le _, fun Z hZ => ⟨by rw [upd_ne (Ne.symm (upd_nn hZ).1)]; exact upd_same, [(nk 0, .ref Z)], rfl, Nat.le_of_ble_eq_true rfl, ?_⟩⟩
  refine ⟨lB_, fun Qa hQ => ?_⟩
  have G0 := Tq.start hD hZ hQ
  refine ⟨qTA f' D Qa nx m H,
   ⟨m, none, none, none, _, [0], 0, rfl, rfl, G0.le (Nat.zero_le _), by simpa using m0, by simp, (fun s hs => by rw [List.mem_singleton.mp hs]; exact .z), Nat.zero_le _, fun i s h => absurd h (Nat.not_lt_zero _)⟩, ?_⟩
  intro mm σ H2 hh_
  walk_at "B"
  obtain ⟨v5, v6, v7, kvs, qs, c, rfl, hmm, G, hlt, h0, hrc, cl, hdone⟩ := hh_
  walk_at "C"
  have ql := Om.nodup_len m qs G.nd hlt
  refine ⟨_, lenL G.hQ, ?_⟩
  dsimp only [rN0]
  rw [List.length_map]
  refine ite2 (fun lt => ?_) (fun ge => ?_)
  ·have lt : c < qs.length := by simpa using lt
   obtain ⟨s, hs⟩ : ∃ s, qs[c]? = some s := ⟨_, List.getElem?_eq_getElem lt⟩
   have sm := List.mem_of_getElem? hs
   have slt := hlt s sm
   obtain ⟨n8, nlt⟩ := hn s slt
   refine ⟨qTN f' D Qa nx m c s qs H, ?_, ?_⟩
   ·intro σ' H' hh_
    walk_at "B"
    obtain ⟨v6, v7, kvs, more, rfl, G', hm', hd'⟩ := hh_
    walk_at "C"
    refine ⟨mm - 1, by (clear m0 m8 cl slt n8; omega), _, v6, v7, kvs, qs ++ more, c + 1, rfl, by (clear m0 m8 cl slt n8; omega), G', fun x hx => ?_, List.mem_append_left _ h0, fun x hx => ?_, by rw [List.length_append]; (clear m0 m8 hmm cl ql slt n8; omega), fun i x hi hx t ht => ?_⟩
    ·exact (List.mem_append.mp hx).elim (hlt x) fun z => (hm' x z).1
    ·exact (List.mem_append.mp hx).elim (hrc x) fun z => (hm' x z).2
    ·rw [List.getElem?_append_left (by (clear m0 m8 hmm cl ql slt n8; omega))] at hx
     by_cases e : i = c
     ·subst e
      rw [hs] at hx
      cases hx
      exact hd' t ht
     ·exact List.mem_append_left _ (hdone i x (by (clear m0 m8 hmm cl ql lt slt n8; omega)) hx t ht)
   ·refine .inl ⟨_, gl G.hQ (by (clear m0 m8 hmm cl ql lt slt n8; omega)) (by rw [List.getElem?_map, show ((c : Nat) : Int).toNat = c by (clear m0 m8 hmm cl ql lt slt n8; omega), hs]; rfl), ?_⟩
    refine ⟨rfl, hF s _ _ slt (Wm _ _ hW G.s) fun l ps H3 s3 nl hl st => ?_⟩
    have lD : l ≠ D := Ne.symm (ne_of_none G.hD nl)
    have lQ : l ≠ Qa := Ne.symm (ne_of_none G.hQ nl)
    refine ⟨⟨_, SqL.of hl⟩, for_by (it_list _ l ps) (qTL f' D Qa l ps nx m c s qs H)
     ⟨v6, v7, kvs, [], rfl, by rw [List.append_nil]; exact G.mono s3, by simp, hl, st, fun j t h => absurd h (Nat.not_lt_zero _)⟩ (fun i σ H4 _ ⟨_, _, _, _, _, _, _, h, _, _⟩ => SqL.of h) ?_ ?_⟩
    ·intro i x σ H4 hi hx hh_
     walk_at "B"
     obtain ⟨v6, v7, kvs, more, rfl, G4, hm4, hl4, st4, hd4⟩ := hh_
     walk_at "C"
     have hi' : i < (nx s).length := by rw [← st4.1]; exact hi
     walk_at "B"
     obtain ⟨qa, e1, e2⟩ := st4.2 i (nx s)[i] (List.getElem?_eq_getElem hi')
     walk_at "C"
     rw [e1] at hx
     cases hx
     have tm : (nx s)[i] ∈ nx s := List.getElem_mem hi'
     have tlt := nlt _ tm
     generalize et : (nx s)[i] = t at e2 tm tlt
     have ei : (nx s)[i]? = some t := by rw [List.getElem?_eq_getElem hi', et]
     refine ⟨_, .inl e2, rfl, rfl, ?_⟩
     refine ⟨D, _, rfl, DGet.k (k := nk t) G4.hD, ?_⟩
     rw [G4.has t]
     have l4 : (qs ++ more).length ≤ m := Om.nodup_len m _ G4.nd fun x hx => (List.mem_append.mp hx).elim (hlt x) fun z => (hm4 x z).1
     refine ite2 (fun c1 => ?_) (fun c1 => ?_)
     ·have nt : t ∉ qs ++ more := by simpa using c1
      walk_at "B"
      obtain ⟨t0, zs, w1, w2, w3, w4⟩ := G4.vl s (List.mem_append_left _ sm)
      walk_at "C"
      refine .inr ⟨D, .ref t0, rfl, w1 ▸ DGet.k (k := nk s) G4.hD, ?_⟩
      refine ⟨lB_, fun B hB => ?_⟩
      have s5 : Same H4 (upd H4 B (.lst [.int (i : Nat)])) := Same.upd hB
      refine ⟨zs, [.int (i : Nat)], s5 _ _ w2, upd_same, le_line (by simp; (clear m0 hmm cl ql lt slt n8 lD lQ hi et tlt c1 nt w4; omega)), fun U hU => ?_⟩
      have s6 := s5.trans (Same.upd (o := .lst (zs ++ [.int (i : Nat)])) hU)
      have G6 := G4.mono s6
      have UQ : U ≠ Qa := Ne.symm (ne_of_none (s5 _ _ G4.hQ) hU)
      have kl := G6.klen
      refine .inr ⟨D, _, rfl, DPut.k (k := nk t) G6.hD (lt_line (by (clear m0 hmm cl ql lt slt n8 lD lQ hi et tlt c1 nt w3 w4 UQ; omega))), ?_⟩
      have DQ : D ≠ Qa := ne_of G6.hD G6.hQ (fun z => nomatch z)
      refine ⟨⟨_, rfl, by rw [upd_ne (Ne.symm DQ)]; exact G6.hQ⟩, _, by rw [upd_ne (Ne.symm DQ)]; exact G6.hQ, lt_line (by rw [List.length_map]; (clear m0 hmm cl ql lt slt n8 lD lQ hi et tlt c1 nt w3 w4 UQ kl DQ; omega)), ?_⟩
      have G7 := (G6.le (Nat.le_succ _)).put (u := U) (zs := zs ++ [.int (i : Nat)]) nt upd_same UQ (by rw [List.length_append]; exact Nat.add_le_add_right w3 1)
      rw [show (qs ++ more).length.succ = (qs ++ more ++ [t]).length from (List.length_append (as := qs ++ more) (bs := [t])).symm, List.append_assoc] at G7
      refine ⟨_, _, _, more ++ [t], rfl, G7, fun x hx => ?_, Tq.put_at (s6 _ _ hl4) lD lQ, ⟨st4.1, fun j t' hj => ?_⟩, fun j t' hj ht' => ?_⟩
      ·rcases List.mem_append.mp hx with z | z
       ·exact hm4 x z
       ·have : x = t := by simpa using z
        subst this
        exact ⟨tlt, .s (hrc s sm) tm⟩
      ·walk_at "B"
       obtain ⟨qb, a1, a2⟩ := st4.2 j t' hj
       walk_at "C"
       exact ⟨qb, a1, Tq.put_at (s6 _ _ a2) (ne_of (s6 _ _ a2) G6.hD (fun z => nomatch z)) (ne_of (s6 _ _ a2) G6.hQ (fun z => nomatch z))⟩
      ·rw [← List.append_assoc]
       by_cases e : j = i
       ·subst e
        rw [ei] at ht'
        cases ht'
        exact List.mem_append_right _ (by simp)
       ·exact List.mem_append_left _ (hd4 j t' (by (clear m0 m8 hmm cl ql lt slt n8 lD lQ hi et tlt l4 c1 nt w3 w4 UQ kl DQ; omega)) ht')
     ·have nt : t ∈ qs ++ more := by
       by_cases z : t ∈ qs ++ more
       ·exact z
       ·exact absurd (by simpa using z) c1
      refine ⟨_, _, kvs, more, rfl, G4, hm4, hl4, st4, fun j t' hj ht' => ?_⟩
      by_cases e : j = i
      ·subst e
       rw [ei] at ht'
       cases ht'
       exact nt
      ·exact hd4 j t' (by (clear m0 m8 hmm cl ql lt slt n8 lD lQ hi et tlt l4 c1; omega)) ht'
    ·intro σ H4 hh_
     walk_at "B"
     obtain ⟨v6, v7, kvs, more, rfl, G4, hm4, hl4, st4, hd4⟩ := hh_
     walk_at "C"
     refine ⟨v6, v7, kvs, more, rfl, G4, hm4, fun t ht => ?_⟩
     obtain ⟨j, hj⟩ := List.mem_iff_getElem?.mp ht
     have lj := (List.getElem?_eq_some_iff.mp hj).1
     exact hd4 j t (by rw [st4.1]; exact lj) hj
  ·have ge : qs.length ≤ c := by
    by_cases z : c < qs.length
    ·exact absurd (by simpa using z) ge
    ·(clear m0 m8 hmm cl ql ge; omega)
   refine .inl ⟨_, G.hD, trivial, fun o => ?_⟩
   refine q D o kvs qs _ (fun b u e => ?_) hD upd_same G.ks G.nd (fun s => ⟨hrc s, Om.rch_in h0 (fun a ha b hb => ?_) s⟩) (by (clear m0 hmm cl ge; omega))
   ·rw [upd_ne (ne_of_none e hD)]
    exact G.s _ _ e
   ·obtain ⟨i, hi⟩ := List.mem_iff_getElem?.mp ha
    have li := (List.getElem?_eq_some_iff.mp hi).1
    exact hdone i a (by (clear m0 m8 hmm cl ql; omega)) hi b hb
 ·exact h.elim
end

end K21
end
section
set_option Elab.async false
set_option linter.all false
set_option maxRecDepth 100000
set_option maxHeartbeats 4000000
namespace K21
open PySem L2
section
variable {P : Program} {w : World} {K : PySem.W.Frag} {mg : Str → Option Value} {base : Heap}
abbrev sStT : Stmt := top 3
abbrev lamSt : Expr := callArg 1 (retE (.Name "" ⟨0, 0, 0, 0⟩) ((defBody sStT).getD 0 (.Pass ⟨0, 0, 0, 0⟩)))
abbrev qSt : Str := ("state_texts" ++ ".<locals>." : Str) ++ "<lambda>"
def spLamSt (c : Addr) (fvs : List V) : Sp := fun vs H Q _ => match vs with
 | [.int s0] => ∃ (k n : Nat) (rows : Om.Rows) (cv : V) (s : Nat), s0 = (s : Nat) ∧ fvs = [cv] ∧ DV H cv (codeD k n rows) ∧ Om.CodeOk k n rows ∧ s < rows.length ∧ H c = some (CodeO c qSt) ∧
   ∀ l ps H', Same H H' → H l = none → H' l = some (.lst ps) → Stps H' ps (Om.nxR rows s) → Q (.ref l) H'
 | _ => False
local macro_rules | `(tactic| walk_at "T.n") => `(tactic| with_reducible first | exact vn "state" 0 | exact vn "code" 1)
local macro_rules | `(tactic| walk_at "T.gn") => `(tactic| with_reducible first | exact gn "state" 0 (by walk_at "A") | exact gn "code" 1 (by walk_at "A"))
local macro_rules | `(tactic| walk_at "T.n") => `(tactic| with_reducible first | exact vn "letter" 0 | exact vn "row" 1)
local macro_rules | `(tactic| walk_at "T.gn") => `(tactic| with_reducible first | exact gn "letter" 0 (by walk_at "A") | exact gn "row" 1 (by walk_at "A"))
local macro_rules | `(tactic| walk_at "T.c") => `(tactic| (have ndc : (["letter", "row"] : List Str).Nodup := (by decide +kernel)); ((with_reducible refine' c_comp ["letter", "row"] [] ?b1 ?b2 (fun cl C s H fp => ?b3) (fun cl C s H fp => ?b4) (fun cl C s H fp => ?b5)); (case b1 => exact ndc); (case b2 => walk_at "T.i"); (case b3 => walk_at "T.g"); (case b4 => walk_at "T.pf"); (case b5 => walk_at "T.e")))
theorem lam_st {f c : Addr} {fvs : List V} (L : LamIn base f (lamArgs lamSt) (lamBody lamSt) (lamScope lamSt) qSt c ["code"] fvs) (hl : ["code"].length = fvs.length) (g1 : mg "enumerate" = none) : CanL P w K mg base f 1 "state" (spLamSt c fvs) := by
 refine lam_ok (k := 0) L ⟨rfl, rfl, rfl, rfl, by decide +kernel, by decide +kernel⟩ hl (fun _ _ _ _ => rfl) (fun vs H Q E h => ?_) (fun clos A outer s H v Q E hr h => ?_)
 ·unfold spLamSt at h
  split at h
  ·rfl
  ·exact h.elim
 ·unfold spLamSt at h
  split at h
  ·rename_i s0 hv
   cases hv
   walk_at "B"
   obtain ⟨k, n, rows, cv, st, rfl, rfl, hc, ok, hs, hcd, q⟩ := h
   walk_at "C"
   refine ⟨hcd, ?_⟩
   have ndc : (["letter", "row"] : List Str).Nodup := by decide +kernel
   refine ⟨_, (by (refine' c_comp ["letter", "row"] [] ?b1 ?b2 (fun cl C s H fp => ?b3) (fun cl C s H fp => ?b4) (fun cl C s H fp => ?b5)); (case b1 => exact ndc); (case b2 => walk_at "T.i"); (case b3 => walk_at "T.g"); (case b4 => walk_at "T.pf"); (case b5 => walk_at "T.e")), ?_⟩
   walk_at "B"
   obtain ⟨a, b, ss, rfl, ha, hb, hss⟩ := code_inv hc
   obtain ⟨qx, rx, e1, e2, e3⟩ := state_at hss (s := st) (st := rows[st]) (List.getElem?_eq_getElem hs)
   walk_at "C"
   have lx : rows[st].length = 2 ^ k := ok.len _ (List.getElem_mem hs)
   have rxl : rx.length = rows[st].length := by rw [e3.length, List.length_map]
   have p8 : rx.length ≤ 8 := by rw [rxl, lx]; exact Om.pow8 ok.k3
   have gx : Om.nxR rows st = rows[st].map (·.2) := by unfold Om.nxR; rw [List.getD_eq_getElem?_getD, List.getElem?_eq_getElem hs]; rfl
   refine ⟨_, gt ha (by decide) rfl, .ref qx, gl hb (by (clear hl lx rxl p8; omega)) (by simpa using e1), ⟨_, SqL.of e2⟩, fun R hR => ?_⟩
   refine comp_pr (it_enumP _ qx rx) (fun i τ H2 ys => (∃ v1 v2, τ = [v1, v2]) ∧ Same H H2 ∧ H2 R = some (.lst ys) ∧ Stps H2 ys ((Om.nxR rows st).take i)) (le_line (by (clear hl lx rxl; omega))) ⟨⟨none, none, rfl⟩, Same.upd hR, upd_same, rfl, fun i t h => by simp at h⟩ ?_ ?_ ?_
   ·intro i τ H2 ys hi hh_
    walk_at "B"
    obtain ⟨_, s2, hR2, st2⟩ := hh_
    walk_at "C"
    exact ⟨s2 _ _ e2, hR2, by rw [st2.1, List.length_take]; exact Nat.min_le_left _ _⟩
   ·intro i t τ H2 ys hi hh_ ht
    walk_at "B"
    obtain ⟨⟨v1, v2, rfl⟩, s2, hR2, st2⟩ := hh_
    walk_at "C"
    have hi' : i < rows[st].length := by (clear hl lx p8; omega)
    walk_at "B"
    obtain ⟨r, r1, r2⟩ := row_at e3 (l := i) (r := rows[st][i]) (List.getElem?_eq_getElem hi')
    walk_at "C"
    have er : rx.getD i .non = .ref r := by rw [List.getD_eq_getElem?_getD, r1]; rfl
    rw [er]
    have s3 : Same H2 (upd H2 t (.tup [.int (i : Nat), .ref r])) := Same.upd ht
    refine ⟨_, .inl upd_same, rfl, rfl, ?_⟩
    refine ⟨_, gt (s3 _ _ (s2 _ _ r2)) (by decide) rfl, lB_, fun p hp => ?_⟩
    have s4 := s3.trans (Same.upd (o := .tup [.int (i : Nat), .int (rows[st][i].2 : Nat)]) hp)
    refine ⟨s4 _ _ hR2, ⟨_, _, rfl⟩, (s2.trans s4).own hR, upd_same, ?_, fun j t' hj => ?_⟩
    ·rw [List.length_append, st2.1, List.length_take, List.length_take, gx, List.length_map]
     simp
     (clear hl lx rxl p8 hi; omega)
    ·have il : ys.length = i := by rw [st2.1, List.length_take, gx, List.length_map]; (clear hl lx rxl p8 hi; omega)
     have jl : j < i + 1 := by
      have := (List.getElem?_eq_some_iff.mp hj).1
      rw [List.length_take] at this
      (clear hl lx rxl p8 hi il; omega)
     rw [List.getElem?_take_of_lt jl] at hj
     by_cases e : j = i
     ·subst e
      have et : t' = rows[st][j].2 := by
       rw [gx, List.getElem?_map, List.getElem?_eq_getElem hi'] at hj
       exact (Option.some.inj hj).symm
      subst et
      refine ⟨p, by rw [List.getElem?_append_right (by (clear hl lx rxl p8 hi jl; omega)), il]; simp, ?_⟩
      rw [upd_ne (ne_of (u := .lst ys) upd_same (s4 _ _ hR2) (fun z => nomatch z))]
      exact upd_same
     ·obtain ⟨q', a1, a2⟩ := st2.2 j t' (by rw [List.getElem?_take_of_lt (by (clear hl lx rxl p8 hi il; omega))]; exact hj)
      refine ⟨q', by rw [List.getElem?_append_left (by (clear hl lx rxl p8 hi; omega))]; exact a1, ?_⟩
      rw [upd_ne (ne_of a2 hR2 (fun z => nomatch z))]
      exact s4 _ _ a2
   ·intro τ H2 ys hh_
    walk_at "B"
    obtain ⟨_, s2, hR2, st2⟩ := hh_
    walk_at "C"
    rw [List.take_of_length_le (by rw [gx, List.length_map]; (clear hl lx p8; omega))] at st2
    exact q R ys _ s2 hR hR2 st2
  ·rename_i hv
   exact h.elim
end
section
variable {P : Program} {w : World} {K : PySem.W.Frag} {mg : Str → Option Value} {base : Heap}
def spStT (P0 : Addr) : Sp := fun vs H Q _ => match vs with
 | [cv] => ∃ (k n : Nat) (rows : Om.Rows), DV H cv (codeD k n rows) ∧ Om.CodeOk k n rows ∧ Tab P0 (lamPos lamSt) qSt H ∧
   ∀ d o (kvs : List (Key × V)) (qs : List Nat) H', SameT P0 H H' → Tab P0 (lamPos lamSt) qSt H' → H d = none → H' d = some (.frz o (.dK kvs)) → kvs.map (·.1) = qs.map nk → qs.Nodup → (∀ s, s ∈ qs ↔ Om.Rch (Om.nxR rows) s) → qs.length ≤ 8 → Q (.ref d) H'
 | _ => False
theorem scStT : FnScope ["code"] ["code"] (defScope sStT) := ⟨rfl, rfl, rfl, by decide +kernel, rfl, by decide +kernel, by decide +kernel⟩
theorem ok_stT {c P0 : Addr} (D : FnC K mg "state_texts" sStT ["code"] c) (D2 : FnX K mg "texts_from" sTexts ["start", "steps"]) (g1 : mg "len" = none) (g2 : mg "enumerate" = none) (M : Maker mg base c P0) : Can P w K mg base "state_texts" 3 ["code"] (spStT P0) := by
 refine can_fnC (k := 2) D scStT (fun vs H Q E h => ?_) (fun f A outer s H vs Q E hr h => ?_)
 all_goals
  unfold spStT at h
  split at h
 ·rfl
 ·exact h.elim
 ·rename_i cv
  walk_at "B"
  obtain ⟨k, n, rows, hc, ok, tb, q⟩ := h
  walk_at "C"
  have hm : ∃ f, mg "texts_from" = some (.ref f) ∧ PySem.W.keepIn K (.ref f) = true := by
   walk_at "B"
   obtain ⟨f, fd, F, hm, _⟩ := D2
   walk_at "C"
   exact ⟨f, hm, F.kp⟩
  have hf0 : ∀ y ∈ (lamScope lamSt).names, y.2 = .free → (defScope sStT).names.lookup y.1 = some .cell := by decide +kernel
  refine ⟨_, (by
   refine' pss_one ?a1
   case a1 =>
    refine' ps_ret ?a2
    case a2 =>
     refine' e_lamcall "texts_from" (F := ["code"]) (js := [0]) (k := 2) (ps := ["start", "steps"]) (sp := fun f c fvs => spTexts f (spLamSt c fvs)) hm M rfl ?hF rfl ?hFs (fun _ => rfl) ?hfree ?hC hr ?ha ?hg rfl rfl ?he
     case hF =>
      intro i y h
      cases i with
      | zero => cases h; exact ⟨0, rfl, rfl, by kernel_rfl⟩
      | succ i => simp at h
     case hFs => decide +kernel
     case hfree => exact hf0
     case hC => exact fun B f c' fvs m0 kb hl L => ok_texts D2 g1 (lam_st L hl g2)
     case ha => exact pe_int
     case hg => kernel_rfl
     case he => kernel_rfl), ?_⟩
  refine ⟨tb, [cv], rfl, fun f' c' H2 sm e1 e2 nf => ?_⟩
  have rl : ∀ s, s < rows.length → Om.nxR rows s = (rows.getD s []).map (·.2) := fun _ _ => rfl
  refine ⟨rfl, rfl, Om.nxR rows, rows.length, fun H => DV H cv (codeD k n rows) ∧ H c' = some (CodeO c' qSt), fun H H' ⟨a, b⟩ s => ⟨a.mono s, s _ _ b⟩, ⟨hc.monoT tb sm, e2⟩, ok.s1, ok.s8, fun s hs => ?_, fun s H Q hs ⟨a, b⟩ h => ⟨k, n, rows, cv, s, rfl, rfl, a, ok, hs, b, h⟩,
   fun d o kvs qs H' s' nd hd ks ndq hrr hl => q d o kvs qs H' (sm.trans s'.t) (.inr ⟨c', s' _ _ e1, s' _ _ e2⟩) (sm.free nd fun z => by rw [z, e1] at nd; cases nd) hd ks ndq hrr hl⟩
  exact Om.nx_ok ok hs
 ·exact h.elim
end

end K21
end
section
set_option Elab.async false
set_option linter.all false
set_option maxRecDepth 100000
set_option maxHeartbeats 4000000
namespace K21
open PySem L2
section
variable {P : Program} {w : World} {K : PySem.W.Frag} {mg : Str → Option Value} {base : Heap}
abbrev sReached : Stmt := top 4
def spReached (P0 : Addr) : Sp := fun vs H Q _ => match vs with
 | [cv] => ∃ (k n : Nat) (rows : Om.Rows), DV H cv (codeD k n rows) ∧ Om.CodeOk k n rows ∧ Tab P0 (lamPos lamSt) qSt H ∧
   ∀ l (qs : List Nat) H', SameT P0 H H' → Tab P0 (lamPos lamSt) qSt H' → H l = none → H' l = some (.lst (qs.map fun s => V.int (s : Nat))) → qs.Pairwise (· < ·) → (∀ s, s ∈ qs ↔ Om.Rch (Om.nxR rows) s) → qs.length ≤ 8 → Q (.ref l) H'
 | _ => False
theorem scReached : FnScope ["code"] ["code"] (defScope sReached) := ⟨rfl, rfl, rfl, by decide +kernel, rfl, by decide +kernel, by decide +kernel⟩
local macro_rules | `(tactic| walk_at "T.n") => `(tactic| with_reducible first | exact vn "code" 0)
local macro_rules | `(tactic| walk_at "T.b") => `(tactic| ((with_reducible refine' fn_sortedD ?a0 ?a9 ?a1); (case a0 => with_reducible assumption); (case a9 => rfl); (case a1 => walk_at "T.a")))
theorem ok_reached {P0 : Addr} (D : FnX K mg "reached" sReached ["code"]) (g1 : mg "sorted" = none) (c1 : Can P w K mg base "state_texts" 3 ["code"] (spStT P0)) : Can P w K mg base "reached" 4 ["code"] (spReached P0) := by
 refine can_fn (k := 3) D scReached (fun vs H Q E h => ?_) (fun f cdv A outer s H vs Q E hr h => ?_)
 all_goals
  unfold spReached at h
  split at h
 ·rfl
 ·exact h.elim
 ·rename_i cv
  walk_at "B"
  obtain ⟨k, n, rows, hc, ok, tb, q⟩ := h
  walk_at "C"
  have nd := scReached.nd
  refine ⟨_, (by walk_at "T.top1"), ?_⟩
  refine ⟨k, n, rows, hc, ok, tb, fun d o kvs qs H' s1 t1 nd1 hd ks ndq hr8 l8 => ?_⟩
  refine .inl ⟨d, kvs, qs.map fun s => ((s : Nat) : Int), rfl, .inr ⟨o, hd⟩, by rw [ks, List.map_map]; rfl, by rw [List.length_map]; omega, fun l ns hl pm srt => ?_⟩
  walk_at "B"
  obtain ⟨qs', rfl, pm'⟩ := Om.perm_nats pm
  walk_at "C"
  refine q l qs' _ (s1.trans (Same.upd hl).t) (t1.mono (Same.upd hl)) (s1.free hl fun z => by obtain ⟨ps, e⟩ := t1.tbl; rw [z, e] at hl; cases hl) ?_ ?_ (fun s => ?_) (by rw [pm'.length_eq]; exact l8)
  ·rw [upd_same, List.map_map]; rfl
  ·exact Om.lt_of_le (pm'.nodup_iff.mpr ndq) srt
  ·rw [pm'.mem_iff]; exact hr8 s
 ·exact h.elim
end
section
variable {P : Program} {w : World} {K : PySem.W.Frag} {mg : Str → Option Value} {base : Heap}
end

end K21
end
section
set_option Elab.async false
set_option linter.all false
set_option maxRecDepth 100000
set_option maxHeartbeats 4000000
namespace K21
open PySem L2
section
variable {P : Program} {w : World} {K : PySem.W.Frag} {mg : Str → Option Value} {base : Heap}
abbrev sEndsB : Stmt := top 13
def spEndsB : Sp := fun vs H Q _ => match vs with
 | [cv, .ref e, .int turn] => ∃ (k n : Nat) (rows : Om.Rows) (kvs : List (Key × V)) (ks : List Nat) (E : Nat → Int) (c : Nat), DV H cv (codeD k n rows) ∧ Om.CodeOk k n rows ∧ Rd H e (.dK kvs) ∧ En H kvs ks E c ∧ c ≤ 100 ∧ (∀ s ∈ ks, s < rows.length) ∧ (turn = 1 ∨ turn = -1) ∧
   ∀ d o (kvs' : List (Key × V)) (ks' : List Nat) (E' : Nat → Int) H', SameT e H H' → H d = none → H' d = some (.frz o (.dK kvs')) → En H' kvs' ks' E' (c + 1) → Om.Ext rows turn ks E (fun s _ => s ∈ ks) ks' E' → Q (.ref d) H'
 | _ => False
theorem scEndsB : FnScope ["code", "ends", "turn", "behind", "state", "letter", "row", "far"] ["code", "ends", "turn"] (defScope sEndsB) := ⟨rfl, rfl, rfl, by decide +kernel, rfl, by decide +kernel, by decide +kernel⟩
local macro_rules | `(tactic| walk_at "T.n") => `(tactic| with_reducible first | exact vn "code" 0 | exact vn "ends" 1 | exact vn "turn" 2 | exact vn "behind" 3 | exact vn "state" 4 | exact vn "letter" 5 | exact vn "row" 6 | exact vn "far" 7)
local macro_rules | `(tactic| walk_at "T.gn") => `(tactic| with_reducible first | exact gn "behind" 3 (by walk_at "A") | exact gn "state" 4 (by walk_at "A") | exact gn "letter" 5 (by walk_at "A") | exact gn "row" 6 (by walk_at "A") | exact gn "far" 7 (by walk_at "A"))
local macro_rules | `(tactic| walk_at "T.b") => `(tactic| ((with_reducible refine' fn_dictK ?a0 ?a9 ?a1); (case a0 => with_reducible assumption); (case a9 => rfl); (case a1 => walk_at "T.a")))
local macro_rules | `(tactic| walk_at "T.i") => `(tactic| ((with_reducible refine' pi_lstH ?a1); (case a1 => with_reducible exact vn "ends" 1)))
local macro_rules | `(tactic| walk_at "T.e") => `(tactic| first | ((with_reducible refine' ix_atD ?a0 ?a1 ?a2); (case a0 => exact Room.units (by assumption)); (case a1 => with_reducible exact vn "ends" 1); (case a2 => walk_at "T.e")) | ((with_reducible refine' ix_atD ?a0 ?a1 ?a2); (case a0 => exact Room.units (by assumption)); (case a1 => with_reducible exact vn "behind" 3); (case a2 => walk_at "T.e")) | fail "no")
local macro_rules | `(tactic| walk_at "T.g") => `(tactic| ((with_reducible refine' g_subD ?a0 ?a1 ?a2); (case a0 => exact Room.units (by assumption)); (case a1 => with_reducible exact vn "behind" 3); (case a2 => walk_at "T.e")))
local macro_rules | `(tactic| walk_at "T.cmp") => `(tactic| ((with_reducible refine' op_notInDict ?a0); (case a0 => exact Room.units (by assumption))))
local macro_rules | `(tactic| walk_at "T.st") => `(tactic| ((with_reducible refine' s_retF ?a1); (case a1 => walk_at "T.e")))
inductive NA (a e D : Addr) (turn : Int) (c : Nat) (rows : Om.Rows) (ks : List Nat) (E : Nat → Int) (H2 : Hp) (i : Nat) (σ : L2.St) (H3 : L2.Hp) : Prop
 | mk (v4 v5 v6 v7 : Option V) (kvs' : List (Key × V)) (ks' : List Nat) (E' : Nat → Int) (z0 : σ = [some (.ref a), some (.ref e), some (.int turn), some (.ref D), v4, v5, v6, v7]) (z1 : SameT D H2 H3) (z2 : H3 D = some (.dK kvs')) (z3 : En H3 kvs' ks' E' (c + 1)) (z4 : (∀ s ∈ ks', s < rows.length)) (z5 : Om.Ext rows turn ks E (fun s _ => s ∈ ks.take i) ks' E') : NA a e D turn c rows ks E H2 i σ H3
inductive NB (a e D : Addr) (turn : Int) (c i s1 : Nat) (rows : Om.Rows) (ks : List Nat) (E : Nat → Int) (H2 : Hp) (j : Nat) (σ : L2.St) (H4 : L2.Hp) : Prop
 | mk (v5 v6 v7 : Option V) (kvs' : List (Key × V)) (ks' : List Nat) (E' : Nat → Int) (z0 : σ = [some (.ref a), some (.ref e), some (.int turn), some (.ref D), some (.int (s1 : Nat)), v5, v6, v7]) (z1 : SameT D H2 H4) (z2 : H4 D = some (.dK kvs')) (z3 : En H4 kvs' ks' E' (c + 1)) (z4 : (∀ s ∈ ks', s < rows.length)) (z5 : Om.Ext rows turn ks E (fun s l => s ∈ ks.take i ∨ (s = s1 ∧ l < j)) ks' E') : NB a e D turn c i s1 rows ks E H2 j σ H4
theorem ok_endsB (D : FnX K mg "ends_behind" sEndsB ["code", "ends", "turn"]) (g1 : mg "dict" = none) (g2 : mg "enumerate" = none) (c1 : Can P w K mg base "leans_in" 1 ["word"] spLeans) : Can P w K mg base "ends_behind" 2 ["code", "ends", "turn"] spEndsB := by
 refine can_fn (k := 1) D scEndsB (fun vs H Q E h => ?_) (fun f0 cdv A outer s H vs Q X hr h => ?_)
 all_goals
  unfold spEndsB at h
  split at h
 ·rfl
 ·exact h.elim
 ·rename_i cv e turn
  walk_at "B"
  obtain ⟨k, n, rows, kvs, ks, E, c, hc, ok, he, en, c100, kl, tn, q⟩ := h
  walk_at "C"
  have nd := scEndsB.nd
  refine ⟨_, (by walk_at "T.top"), ?_⟩
  walk_at "B"
  obtain ⟨a, b, ss, rfl, ha, hbb, hss⟩ := code_inv hc
  walk_at "C"
  refine ⟨kvs, he, fun D hD => ?_⟩
  have s0 : Same H (upd H D (.dK kvs)) := Same.upd hD
  have he0 : ∃ ob, H e = some ob ∧ (∀ xs, ob ≠ .tup xs) ∧ ∀ xs, ob ≠ .lst xs := by
   rcases he with h | ⟨o, h⟩
   ·exact ⟨_, h, (fun _ z => nomatch z), fun _ z => nomatch z⟩
   ·exact ⟨_, h, (fun _ z => nomatch z), fun _ z => nomatch z⟩
  walk_at "B"
  obtain ⟨eo, eo1, eo2, eo3⟩ := he0
  walk_at "C"
  have De : D ≠ e := fun z => by rw [z, eo1] at hD; cases hD
  refine ⟨kvs, he.elim (fun h => .inl (s0 _ _ h)) (fun ⟨o, h⟩ => .inr ⟨o, s0 _ _ h⟩), fun o H2 he2 st2 => ?_⟩
  have st : SameT e H H2 := (Same.t s0).trans st2
  have nte : ∀ xs, H e ≠ some (.tup xs) := fun xs z => eo2 xs (Option.some.inj (eo1.symm.trans z))
  have nle : ∀ xs, H e ≠ some (.lst xs) := fun xs z => eo3 xs (Option.some.inj (eo1.symm.trans z))
  have kT : ∀ {x : Addr} {ys : List V}, H x = some (.tup ys) → H2 x = some (.tup ys) := fun {x ys} h => st _ _ (fun z => nte _ (z ▸ h)) h
  have kL : ∀ {x : Addr} {ys : List V}, H x = some (.lst ys) → H2 x = some (.lst ys) := fun {x ys} h => st _ _ (fun z => nle _ (z ▸ h)) h
  have hD2 : H2 D = some (.dK kvs) := st2 _ _ De upd_same
  have en2 : En H2 kvs ks E c := en.monoT nte nle st
  have ek : (kvs.map fun p => kV p.1) = ks.map fun s => V.int (s : Nat) := by
   have : (kvs.map fun p => kV p.1) = (kvs.map (·.1)).map kV := by rw [List.map_map]; rfl
   rw [this, en.kz.ks, List.map_map]; rfl
  have tD : ∀ {H3 : Hp} {x : Addr} {ys : List V}, SameT D H2 H3 → H2 x = some (.tup ys) → H3 x = some (.tup ys) := fun {H3 x ys} s3 h => s3 _ _ (ne_of h hD2 (fun z => nomatch z)) h
  have lD : ∀ {H3 : Hp} {x : Addr} {ys : List V}, SameT D H2 H3 → H2 x = some (.lst ys) → H3 x = some (.lst ys) := fun {H3 x ys} s3 h => s3 _ _ (ne_of h hD2 (fun z => nomatch z)) h
  rw [ek]
  refine for_by (it_keys e o _) (NA a e D turn c rows ks E H2)
   ⟨none, none, none, none, kvs, ks, E, rfl, SameT.refl _ _, hD2, en2.le (Nat.le_succ _), kl, Om.Ext.zero.cong fun s l h => by simp at h⟩ (fun i σ H3 _ ⟨_, _, _, _, _, _, _, _, s3, _, _, _, _⟩ => ⟨_, s3 _ _ (Ne.symm De) he2⟩) ?_ ?_
  ·intro i x σ H3 hi hx hh_
   walk_at "B"
   obtain ⟨v4, v5, v6, v7, kvs1, ks1, E1, rfl, s3, hD3, en3, kl3, ex3⟩ := hh_
   walk_at "C"
   rw [List.length_map] at hi
   have hks : ks[i]? = some ks[i] := List.getElem?_eq_getElem hi
   rw [List.getElem?_map, hks] at hx
   cases hx
   have hsm : ks[i] ∈ ks := List.getElem_mem hi
   have tk1 : ks.take (i + 1) = ks.take i ++ [ks[i]] := by rw [List.take_add_one, hks]; rfl
   generalize ks[i] = s1 at hsm tk1
   have hs := kl s1 hsm
   walk_at "B"
   obtain ⟨qx, rx, f1, f2, f3⟩ := state_at hss (s := s1) (st := rows[s1]) (List.getElem?_eq_getElem hs)
   walk_at "C"
   have rl : rx.length = rows[s1].length := by rw [f3.length, List.length_map]
   have r8 : rows[s1].length ≤ 8 := by rw [ok.len _ (List.getElem_mem hs)]; exact Om.pow8 ok.k3
   have eg : rows.getD s1 [] = rows[s1] := by rw [List.getD_eq_getElem?_getD, List.getElem?_eq_getElem hs]; rfl
   walk_at "B"
   obtain ⟨t0, l0, zs0, u1, u2, u3, u4⟩ := en2.vl s1 hsm
   walk_at "C"
   refine ⟨_, gt (tD s3 (kT ha)) (by decide) rfl, .ref qx, gl (lD s3 (kL hbb)) (by (clear c100 tn De rl r8 u4; omega)) (by simpa using f1), ⟨_, SqL.of (lD s3 (kL f2))⟩, ?_⟩
   refine for_pr (it_enumP _ qx rx) (NB a e D turn c i s1 rows ks E H2)
    ⟨v5, v6, v7, kvs1, ks1, E1, rfl, s3, hD3, en3, kl3, ex3.cong fun s l h => h.elim id fun z => absurd z.2 (Nat.not_lt_zero _)⟩ (fun j σ H4 _ ⟨_, _, _, _, _, _, _, s4, _, _, _, _⟩ => lD s4 (kL f2)) ?_ ?_
   ·intro j t σ H4 hj hh_ ht
    walk_at "B"
    obtain ⟨v5, v6, v7, kvs4, ks4, E4, rfl, s4, hD4, en4, kl4, ex4⟩ := hh_
    walk_at "C"
    have hj' : j < rows[s1].length := by (clear c100 tn De r8 u4; omega)
    walk_at "B"
    obtain ⟨r, r1, r2⟩ := row_at f3 (l := j) (r := rows[s1][j]) (List.getElem?_eq_getElem hj')
    walk_at "C"
    have er : rx.getD j .non = .ref r := by rw [List.getD_eq_getElem?_getD, r1]; rfl
    have okr := ok.row _ (List.getElem_mem hs) _ (List.getElem_mem hj')
    have n6 := ok.n6
    have n1 := ok.n1
    have hrow : (rows.getD s1 [])[j]? = some rows[s1][j] := by rw [eg]; exact List.getElem?_eq_getElem hj'
    generalize rows[s1][j] = rw0 at r2 okr hrow
    rw [er]
    have ss := Same.upd (o := .tup [.int (j : Nat), .ref r]) ht
    refine ⟨_, .inl upd_same, rfl, rfl, ?_⟩
    have s5 : SameT D H2 (upd H4 t (.tup [.int (j : Nat), .ref r])) := s4.trans ss.t
    have hD5 := ss _ _ hD4
    have en5 := en4.mono ss
    generalize upd H4 t (.tup [.int (j : Nat), .ref r]) = H5 at s5 hD5 en5
    have he5 : H5 e = some (.frz o (.dK kvs)) := s5 _ _ (Ne.symm De) he2
    have de5 : DGet H5 e (.int (s1 : Nat)) (some (.ref t0)) := .inl ⟨kvs, nk s1, .inr ⟨o, he5⟩, rfl, u1.symm⟩
    have ft0 := tD s5 u2
    have fl0 := lD s5 u3
    have fr := tD s5 (kT r2)
    refine .inr ⟨e, .ref t0, rfl, de5, .int (E s1), gt ft0 (by decide) rfl, ?_⟩
    refine ⟨.str (bs rw0.1), gt fr (by decide) rfl, rw0.1, rfl, by (clear c100 tn De rl r8 u4 hj hj' n1; omega), fun l H6 s6 nl hl6 => ?_⟩
    have gm : getV H6 (.ref l) (-1) = some (.int (Om.tot rw0.1)) := by
     have ll := Om.leans_last (ws := rw0.1) (by (clear c100 tn De rl r8 u4 hj hj' n6; omega))
     have wl := okr.1
     rw [getV_lst hl6]
     unfold atI ixN
     rw [if_neg (by decide), List.length_map, Om.leans_len, if_pos (by (clear c100 tn De rl r8 u4 hj hj' n6 wl; omega))]
     show ((Om.leans rw0.1).map V.int)[((-1 : Int) + (rw0.1.length : Nat)).toNat]? = _
     rw [show ((-1 : Int) + (rw0.1.length : Nat)).toNat = rw0.1.length - 1 by (clear c100 tn De rl r8 u4 hj hj' n6 n1 okr wl; omega), List.getElem?_map, ll]
     rfl
    refine ⟨.int (Om.tot rw0.1), gm, .inl (by rcases tn with rfl | rfl <;> exact ⟨by decide, by decide⟩), ?_⟩
    have hD6 := s6 _ _ hD5
    have en6 := en5.mono s6
    have de6 : DGet H6 e (.int (s1 : Nat)) (some (.ref t0)) := .inl ⟨kvs, nk s1, .inr ⟨o, s6 _ _ he5⟩, rfl, u1.symm⟩
    have k8 : kvs4.length ≤ 8 := by
     rw [en6.kz.len]
     exact Om.nodup_len 8 ks4 en6.kz.nd fun x hx => by have := kl4 x hx; have := ok.s8; (clear c100 tn De rl r8 u4 hj hj' n6 n1 okr; omega)
    refine ⟨_, gt (s6 _ _ fr) (by decide) rfl, D, _, rfl, DGet.k (k := nk rw0.2) hD6, ?_⟩
    rw [en6.kz.has (fun a b h => nk_inj h) rw0.2]
    refine ite2 (fun k1 => ?_) (fun k1 => ?_)
    ·have k1 : rw0.2 ∉ ks4 := by simpa using k1
     have cput : rw0.2 ∉ ks4 ∨ E4 rw0.2 < E s1 + Om.wt turn rw0 := .inl k1
     refine .inr ⟨e, .ref t0, rfl, de6, .ref l0, gt (s6 _ _ ft0) (by decide) rfl, lB_, fun q1 hq1 => ?_⟩
     have z1 := Same.upd (o := .lst [.int (j : Nat)]) hq1
     refine ⟨zs0, [.int (j : Nat)], z1 _ _ (s6 _ _ fl0), upd_same, le_line (by simp; (clear tn De rl r8 hj hj' n6 n1 okr k8 k1 cput; omega)), fun q2 hq2 => ?_⟩
     have z2 := Same.upd (o := .lst (zs0 ++ [.int (j : Nat)])) hq2
     refine ⟨lB_, fun q3 hq3 => ?_⟩
     have z3 := Same.upd (o := .tup [.int (E s1 + turn * Om.tot rw0.1), .ref q2]) hq3
     have zz := (z1.trans z2).trans z3
     have hq2' := z3 _ _ (upd_same (H := upd H6 q1 (.lst [.int (j : Nat)])) (a := q2) (o := .lst (zs0 ++ [.int (j : Nat)])))
     have hq3' : upd (upd (upd H6 q1 (.lst [.int (j : Nat)])) q2 (.lst (zs0 ++ [.int (j : Nat)]))) q3 (.tup [.int (E s1 + turn * Om.tot rw0.1), .ref q2]) q3 = some (.tup [.int (E s1 + turn * Om.tot rw0.1), .ref q2]) := upd_same
     generalize upd (upd (upd H6 q1 (.lst [.int (j : Nat)])) q2 (.lst (zs0 ++ [.int (j : Nat)]))) q3 (.tup [.int (E s1 + turn * Om.tot rw0.1), .ref q2]) = H7 at zz hq2' hq3'
     refine ⟨_, gt (zz _ _ (s6 _ _ fr)) (by decide) rfl, .inr ⟨D, _, rfl, DPut.k (k := nk rw0.2) (zz _ _ hD6) (lt_line (by (clear c100 tn De rl r8 u4 hj hj' n6 n1 okr k1 cput; omega))), ?_⟩⟩
     refine ⟨_, _, _, _, _, _, rfl, ?_, upd_same, ((en6.mono zz).put (zz _ _ hD6) hq3' hq2' (by simp; (clear c100 tn De rl r8 hj hj' n6 n1 okr k8 k1 cput; omega))), fun x hx => ?_, (ex4.put hsm hrow cput).cong (fun x y h => ?_)⟩
     ·exact fun b u nb z => by rw [upd_ne nb]; exact zz _ _ (s6 _ _ (s5 _ _ nb z))
     ·rcases Om.mem_adds.mp hx with h | h
      ·exact kl4 x h
      ·rw [h]; exact okr.2
     ·rcases h with h | ⟨h1, h2⟩
      ·exact .inl (.inl h)
      ·by_cases e2 : y = j
       ·exact .inr ⟨h1, e2⟩
       ·exact .inl (.inr ⟨h1, by (clear c100 tn De rl r8 u4 hj hj' n6 n1 okr k8 k1 cput h1; omega)⟩)
    ·have k1 : rw0.2 ∈ ks4 := by
      by_cases z : rw0.2 ∈ ks4
      ·exact z
      ·exact absurd (by simpa using z) k1
     walk_at "B"
     obtain ⟨t9, l9, zs9, y1, y2, y3, y4⟩ := en6.vl rw0.2 k1
     walk_at "C"
     refine ⟨_, gt (s6 _ _ fr) (by decide) rfl, .inr ⟨D, .ref t9, rfl, y1 ▸ DGet.k (k := nk rw0.2) hD6, .int (E4 rw0.2), gt y2 (by decide) rfl, ?_⟩⟩
     refine ite2 (fun k2 => ?_) (fun k2 => ?_)
     ·have k2 : E4 rw0.2 < E s1 + turn * Om.tot rw0.1 := of_decide_eq_true k2
      have cput : rw0.2 ∉ ks4 ∨ E4 rw0.2 < E s1 + Om.wt turn rw0 := .inr k2
      refine .inr ⟨e, .ref t0, rfl, de6, .ref l0, gt (s6 _ _ ft0) (by decide) rfl, lB_, fun q1 hq1 => ?_⟩
      have z1 := Same.upd (o := .lst [.int (j : Nat)]) hq1
      refine ⟨zs0, [.int (j : Nat)], z1 _ _ (s6 _ _ fl0), upd_same, le_line (by simp; (clear tn De rl r8 hj hj' n6 n1 okr k8 y4 k2 cput; omega)), fun q2 hq2 => ?_⟩
      have z2 := Same.upd (o := .lst (zs0 ++ [.int (j : Nat)])) hq2
      refine ⟨lB_, fun q3 hq3 => ?_⟩
      have z3 := Same.upd (o := .tup [.int (E s1 + turn * Om.tot rw0.1), .ref q2]) hq3
      have zz := (z1.trans z2).trans z3
      have hq2' := z3 _ _ (upd_same (H := upd H6 q1 (.lst [.int (j : Nat)])) (a := q2) (o := .lst (zs0 ++ [.int (j : Nat)])))
      have hq3' : upd (upd (upd H6 q1 (.lst [.int (j : Nat)])) q2 (.lst (zs0 ++ [.int (j : Nat)]))) q3 (.tup [.int (E s1 + turn * Om.tot rw0.1), .ref q2]) q3 = some (.tup [.int (E s1 + turn * Om.tot rw0.1), .ref q2]) := upd_same
      generalize upd (upd (upd H6 q1 (.lst [.int (j : Nat)])) q2 (.lst (zs0 ++ [.int (j : Nat)]))) q3 (.tup [.int (E s1 + turn * Om.tot rw0.1), .ref q2]) = H7 at zz hq2' hq3'
      refine ⟨_, gt (zz _ _ (s6 _ _ fr)) (by decide) rfl, .inr ⟨D, _, rfl, DPut.k (k := nk rw0.2) (zz _ _ hD6) (lt_line (by (clear c100 tn De rl r8 u4 hj hj' n6 n1 okr y4 k2 cput; omega))), ?_⟩⟩
      refine ⟨_, _, _, _, _, _, rfl, ?_, upd_same, ((en6.mono zz).put (zz _ _ hD6) hq3' hq2' (by simp; (clear c100 tn De rl r8 hj hj' n6 n1 okr k8 y4 k2 cput; omega))), fun x hx => ?_, (ex4.put hsm hrow cput).cong (fun x y h => ?_)⟩
      ·exact fun b u nb z => by rw [upd_ne nb]; exact zz _ _ (s6 _ _ (s5 _ _ nb z))
      ·rcases Om.mem_adds.mp hx with h | h
       ·exact kl4 x h
       ·rw [h]; exact okr.2
      ·rcases h with h | ⟨h1, h2⟩
       ·exact .inl (.inl h)
       ·by_cases e2 : y = j
        ·exact .inr ⟨h1, e2⟩
        ·exact .inl (.inr ⟨h1, by (clear c100 tn De rl r8 u4 hj hj' n6 n1 okr k8 y4 k2 cput h1; omega)⟩)
     ·have k2 : E s1 + turn * Om.tot rw0.1 ≤ E4 rw0.2 := by
       have h : ¬ E4 rw0.2 < E s1 + turn * Om.tot rw0.1 := fun z => k2 (decide_eq_true z)
       (clear c100 tn De rl r8 u4 hj hj' n6 n1 okr k8 y4 k2; omega)
      refine ⟨_, _, _, kvs4, ks4, E4, rfl, fun b u nb z => s6 _ _ (s5 _ _ nb z), hD6, en6, kl4, (ex4.skip hrow k1 k2).cong (fun x y h => ?_)⟩
      rcases h with h | ⟨h1, h2⟩
      ·exact .inl (.inl h)
      ·by_cases e2 : y = j
       ·exact .inr ⟨h1, e2⟩
       ·exact .inl (.inr ⟨h1, by (clear c100 tn De rl r8 u4 hj hj' n6 n1 okr k8 y4 k2 h1; omega)⟩)
   ·intro σ H4 hh_
    walk_at "B"
    obtain ⟨v5, v6, v7, kvs4, ks4, E4, rfl, s4, hD4, en4, kl4, ex4⟩ := hh_
    walk_at "C"
    refine ⟨_, _, _, _, kvs4, ks4, E4, rfl, s4, hD4, en4, kl4, ⟨ex4.old, ex4.src, fun s l r h hr => ex4.all s l r ?_ hr⟩⟩
    rw [tk1, List.mem_append] at h
    rcases h with h | h
    ·exact .inl h
    ·have e1 : s = s1 := by simpa using h
     refine .inr ⟨e1, ?_⟩
     rw [e1, eg] at hr
     have := (List.getElem?_eq_some_iff.mp hr).1
     (clear c100 tn De r8 u4 e1; omega)
  ·intro σ H3 hh_
   walk_at "B"
   obtain ⟨v4, v5, v6, v7, kvs1, ks1, E1, rfl, s3, hD3, en3, kl3, ex3⟩ := hh_
   walk_at "C"
   refine .inl ⟨_, hD3, trivial, fun o' => ?_⟩
   rw [List.length_map, List.take_length] at ex3
   have s6 : SameT D H3 (upd H3 D (.frz o' (.dK kvs1))) := fun b u nb z => by rw [upd_ne nb]; exact z
   refine q D o' kvs1 ks1 E1 _ (fun b u nb z => ?_) hD upd_same (en3.monoT (fun xs z => by rw [hD3] at z; cases z) (fun xs z => by rw [hD3] at z; cases z) s6) ex3
   have bD := ne_of_none z hD
   exact s6 _ _ bD (s3 _ _ bD (st _ _ nb z))
 ·exact h.elim
end

end K21
end
section
set_option Elab.async false
set_option linter.all false
set_option maxRecDepth 100000
set_option maxHeartbeats 4000000
namespace K21
open PySem L2
section
variable {P : Program} {w : World} {K : PySem.W.Frag} {mg : Str → Option Value} {base : Heap}
inductive Iter (rows : Om.Rows) (turn : Int) (st : Nat) : Nat → List Nat → (Nat → Int) → Prop where
 | zero : Iter rows turn st 0 [st] (fun _ => 0)
 | succ {m ks E ks' E'} : Iter rows turn st m ks E → Om.Ext rows turn ks E (fun s _ => s ∈ ks) ks' E' → Iter rows turn st (m + 1) ks' E'
theorem Iter.lt {k n : Nat} {rows : Om.Rows} {turn : Int} {st : Nat} (ok : Om.CodeOk k n rows) (hs : st < rows.length) : ∀ {m ks E}, Iter rows turn st m ks E → ∀ s ∈ ks, s < rows.length
 | _, _, _, .zero, s, h => by rw [List.mem_singleton.mp h]; exact hs
 | _, _, _, .succ i e, s, h => by
  rcases e.src s h with ⟨a, _⟩ | ⟨x, hx, r, hr, e1, _⟩
  ·exact i.lt ok hs s a
  ·have xl := i.lt ok hs x hx
   rw [List.getD_eq_getElem?_getD, List.getElem?_eq_getElem xl] at hr
   rw [← e1]
   exact (ok.row _ (List.getElem_mem xl) r hr).2
abbrev sFar : Stmt := top 12
def spFarE : Sp := fun vs H Q _ => match vs with
 | [cv, .int st0, .int turn] => ∃ (k n : Nat) (rows : Om.Rows) (st : Nat), DV H cv (codeD k n rows) ∧ Om.CodeOk k n rows ∧ st0 = (st : Nat) ∧ st < rows.length ∧ (turn = 1 ∨ turn = -1) ∧
   ∀ d o (kvs : List (Key × V)) (ks : List Nat) (E : Nat → Int) H', Same H H' → H d = none → H' d = some (.frz o (.dK kvs)) → En H' kvs ks E 100 → Iter rows turn st rows.length ks E → Q (.ref d) H'
 | _ => False
theorem scFar : FnScope ["code", "start", "turn", "ends", "count"] ["code", "start", "turn"] (defScope sFar) := ⟨rfl, rfl, rfl, by decide +kernel, rfl, by decide +kernel, by decide +kernel⟩
local macro_rules | `(tactic| walk_at "T.n") => `(tactic| with_reducible first | exact vn "code" 0 | exact vn "start" 1 | exact vn "turn" 2 | exact vn "ends" 3)
local macro_rules | `(tactic| walk_at "T.gn") => `(tactic| with_reducible first | exact gn "ends" 3 (by walk_at "A") | exact gn "count" 4 (by walk_at "A"))
local macro_rules | `(tactic| walk_at "T.ps") => `(tactic| first | (with_reducible exact pps_nil) | ((with_reducible refine' pps_cons ?a1 ?a2 ?a3); (case a1 => walk_at "T.e"); (case a2 => walk_at "T.e"); (case a3 => walk_at "T.ps")))
local macro_rules | `(tactic| walk_at "T.e") => `(tactic| ((with_reducible refine' pe_disp ?a1 ?a2 ?a3 ?a4 ?a5); (case a1 => walk_at "T.ps"); (case a2 => kernel_rfl); (case a3 => kernel_rfl); (case a4 => exact fun z => nomatch z); (case a5 => decide)))
local macro_rules | `(tactic| walk_at "T.st") => `(tactic| ((with_reducible refine' s_retF ?a1); (case a1 => walk_at "T.e")))
theorem ok_farE (D : FnX K mg "farthest_ends" sFar ["code", "start", "turn"]) (g1 : mg "range" = none) (g2 : mg "len" = none) (c1 : Can P w K mg base "ends_behind" 2 ["code", "ends", "turn"] spEndsB) : Can P w K mg base "farthest_ends" 3 ["code", "start", "turn"] spFarE := by
 refine can_fn (k := 2) D scFar (fun vs H Q E h => ?_) (fun f0 cdv A outer s H vs Q X hr h => ?_)
 all_goals
  unfold spFarE at h
  split at h
 ·rfl
 ·exact h.elim
 ·rename_i cv st0 turn
  walk_at "B"
  obtain ⟨k, n, rows, st, hc, ok, rfl, hs, tn, q⟩ := h
  walk_at "C"
  have nd := scFar.nd
  walk_at "B"
  obtain ⟨a, b, ss, rfl, ha, hbb, hss⟩ := code_inv hc
  walk_at "C"
  refine ⟨_, (by walk_at "T.top"), ?_⟩
  refine fun D hD => ⟨Nat.zero_le _, fun Z hZ => ⟨lB_, fun T hT => ?_⟩⟩
  have z1 : Same H (upd H D (.dK [])) := Same.upd hD
  have z2 := Same.upd (o := .lst []) hZ
  have z3 := Same.upd (o := .tup [.int 0, .ref Z]) hT
  have hD3 : upd (upd (upd H D (.dK [])) Z (.lst [])) T (.tup [.int 0, .ref Z]) D = some (.dK []) := z3 _ _ (z2 _ _ upd_same)
  have hZ3 : upd (upd (upd H D (.dK [])) Z (.lst [])) T (.tup [.int 0, .ref Z]) Z = some (.lst []) := z3 _ _ upd_same
  have hT3 : upd (upd (upd H D (.dK [])) Z (.lst [])) T (.tup [.int 0, .ref Z]) T = some (.tup [.int 0, .ref Z]) := upd_same
  refine ⟨hD3, [(nk st, .ref T)], rfl, Nat.le_of_ble_eq_true rfl, ?_⟩
  have zz := (z1.trans z2).trans z3
  generalize upd (upd (upd H D (.dK [])) Z (.lst [])) T (.tup [.int 0, .ref Z]) = H1 at hD3 hZ3 hT3 zz
  have s1 : Same H (upd H1 D (.dK (mergeK [] [(nk st, V.ref T)]))) := zz.own hD
  have hD4 : upd H1 D (.dK (mergeK [] [(nk st, V.ref T)])) D = some (.dK [(nk st, V.ref T)]) := upd_same
  have en4 : En (upd H1 D (.dK (mergeK [] [(nk st, V.ref T)]))) [(nk st, V.ref T)] [st] (fun _ => 0) 0 := by
   refine ⟨⟨rfl, by simp⟩, fun x hx => ?_⟩
   rw [List.mem_singleton.mp hx]
   exact ⟨T, Z, [], by simp [valV], by rw [upd_ne (ne_of hT3 hD3 (fun z => nomatch z))]; exact hT3, by rw [upd_ne (ne_of hZ3 hD3 (fun z => nomatch z))]; exact hZ3, Nat.le_refl _⟩
  generalize upd H1 D (.dK (mergeK [] [(nk st, V.ref T)])) = H4 at s1 hD4 en4
  have sl : ss.length = rows.length := by rw [hss.length, List.length_map]
  have r8 := ok.s8
  dsimp only [gName]
  refine ⟨_, gt (s1 _ _ ha) (by decide) rfl, _, lenL (s1 _ _ hbb), by (clear hs tn sl r8; omega), by (clear hs tn; omega), ?_⟩
  refine for_by (it_range 0 _) (fun i σ H5 => ∃ (v4 : Option V) (d : Addr) (kvs : List (Key × V)) (ks : List Nat) (E : Nat → Int), σ = [some (.ref a), some (.int (st : Nat)), some (.int turn), some (.ref d), v4] ∧ Same H H5 ∧ H d = none ∧ Rd H5 d (.dK kvs) ∧ En H5 kvs ks E i ∧ Iter rows turn st i ks E)
   ⟨none, D, _, _, _, rfl, s1, hD, .inl hD4, en4, .zero⟩ (fun _ _ _ _ _ => trivial) ?_ ?_
  ·intro i x σ H5 hi hx hh_
   walk_at "B"
   obtain ⟨v4, d, kvs, ks, E, rfl, s5, nd5, rd5, en5, it5⟩ := hh_
   walk_at "C"
   rw [List.length_map, List.length_range] at hi
   have dvc : DV H5 (.ref a) (codeD k n rows) := hc.mono s5
   refine ⟨k, n, rows, kvs, ks, E, i, dvc, ok, rd5, en5, by (clear hs tn; omega), it5.lt ok hs, tn, fun d' o kvs' ks' E' H6 s6 nd6 hd6 en6 ex6 => ?_⟩
   exact ⟨_, d', kvs', ks', E', rfl, fun b u z => s6 _ _ (ne_of_none z nd5) (s5 _ _ z), s5.free nd6, .inr ⟨o, hd6⟩, en6, .succ it5 ex6⟩
  ·intro σ H5 hh_
   walk_at "B"
   obtain ⟨v4, d, kvs, ks, E, rfl, s5, nd5, rd5, en5, it5⟩ := hh_
   walk_at "C"
   rw [List.length_map, List.length_range, Int.toNat_natCast, sl] at en5 it5
   rcases rd5 with h | ⟨o, h⟩
   ·refine .inl ⟨_, h, trivial, fun o => ?_⟩
    have s6 : SameT d H5 (upd H5 d (.frz o (.dK kvs))) := fun b u nb z => by rw [upd_ne nb]; exact z
    exact q d o kvs ks E _ (s5.own nd5) nd5 upd_same ((en5.monoT (fun xs z => by rw [h] at z; cases z) (fun xs z => by rw [h] at z; cases z) s6).le (by (clear hs tn sl; omega))) it5
   ·exact .inr (q d o kvs ks E _ s5 nd5 h (en5.le (by (clear hs tn sl; omega))) it5)
 ·exact h.elim
end

end K21
end
section
set_option Elab.async false
set_option linter.all false
set_option maxRecDepth 100000
set_option maxHeartbeats 4000000
namespace K21
open PySem L2
section
variable {P : Program} {w : World} {K : PySem.W.Frag} {mg : Str → Option Value} {base : Heap}
theorem Iter.mem {rows : Om.Rows} {turn : Int} {st : Nat} : ∀ {m ks E}, Iter rows turn st m ks E → st ∈ ks
 | _, _, _, .zero => List.mem_singleton.mpr rfl
 | _, _, _, .succ i e => (e.old st i.mem).1
abbrev sLoop : Stmt := top 11
def spLoop (P0 : Addr) : Sp := fun vs H Q _ => match vs with
 | [cv] => ∃ (k n : Nat) (rows : Om.Rows), DV H cv (codeD k n rows) ∧ Om.CodeOk k n rows ∧ Tab P0 (lamPos lamSt) qSt H ∧
   (∀ H', SameT P0 H H' → Tab P0 (lamPos lamSt) qSt H' → (∀ s, Om.Rch (Om.nxR rows) s → ∀ turn : Int, turn = 1 ∨ turn = -1 → ∃ ks E, Iter rows turn s rows.length ks E ∧ E s ≤ 0) → Q .non H') ∧
   ∀ t H', SameT P0 H H' → Tab P0 (lamPos lamSt) qSt H' → (∃ (s : Nat) (turn : Int) (ks : List Nat) (E : Nat → Int), Om.Rch (Om.nxR rows) s ∧ (turn = 1 ∨ turn = -1) ∧ Iter rows turn s rows.length ks E ∧ 0 < E s) → Q (.ref t) H'
 | _ => False
theorem scLoop : FnScope ["code", "state", "turn", "end"] ["code"] (defScope sLoop) := ⟨rfl, rfl, rfl, by decide +kernel, rfl, by decide +kernel, by decide +kernel⟩
local macro_rules | `(tactic| walk_at "T.n") => `(tactic| with_reducible first | exact vn "code" 0 | exact vn "state" 1 | exact vn "turn" 2 | exact vn "end" 3)
local macro_rules | `(tactic| walk_at "T.gn") => `(tactic| with_reducible first | exact gn "state" 1 (by walk_at "A") | exact gn "turn" 2 (by walk_at "A") | exact gn "end" 3 (by walk_at "A"))
local macro_rules | `(tactic| walk_at "T.e") => `(tactic| ((with_reducible refine' ix_atD ?a0 ?a1 ?a2); (case a0 => exact Room.units (by assumption)); (case a1 => walk_at "T.f"); (case a2 => with_reducible exact vn "state" 1)))
theorem ok_loop {P0 : Addr} (D : FnX K mg "leaning_loop" sLoop ["code"]) (c1 : Can P w K mg base "reached" 4 ["code"] (spReached P0)) (c2 : Can P w K mg base "farthest_ends" 3 ["code", "start", "turn"] spFarE) : Can P w K mg base "leaning_loop" 5 ["code"] (spLoop P0) := by
 refine can_fn (k := 4) D scLoop (fun vs H Q E h => ?_) (fun f0 cdv A outer s H vs Q X hr h => ?_)
 all_goals
  unfold spLoop at h
  split at h
 ·rfl
 ·exact h.elim
 ·rename_i cv
  walk_at "B"
  obtain ⟨k, n, rows, hc, ok, tb, qn, qt⟩ := h
  walk_at "C"
  have nd := scLoop.nd
  refine ⟨_, (by walk_at "T.top"), ?_⟩
  refine ⟨k, n, rows, hc, ok, tb, fun l qs H1 s1 t1 nl hl srt mem l8 => ?_⟩
  have hc1 := hc.monoT tb s1
  have qlt : ∀ s ∈ qs, s < rows.length := fun s hs => Om.rch_ok ok s ((mem s).mp hs)
  refine ⟨⟨_, SqL.of hl⟩, ?_⟩
  refine for_by (it_list _ l _) (fun i σ H2 => ∃ (v1 v2 v3 : Option V), σ = [some cv, v1, v2, v3] ∧ Same H1 H2 ∧ ∀ s ∈ qs.take i, ∀ turn : Int, turn = 1 ∨ turn = -1 → ∃ ks E, Iter rows turn s rows.length ks E ∧ E s ≤ 0)
   ⟨none, none, none, rfl, Same.refl _, fun s hs => by simp at hs⟩ (fun i σ H2 _ ⟨_, _, _, _, s2, _⟩ => SqL.of (s2 _ _ hl)) ?_ ?_
  ·intro i x σ H2 hi hx hh_
   walk_at "B"
   obtain ⟨v1, v2, v3, rfl, s2, dn⟩ := hh_
   walk_at "C"
   rw [List.length_map] at hi
   have hq : qs[i]? = some qs[i] := List.getElem?_eq_getElem hi
   rw [List.getElem?_map, hq] at hx
   cases hx
   have hm := List.getElem_mem hi
   have tk1 : qs.take (i + 1) = qs.take i ++ [qs[i]] := by rw [List.take_add_one, hq]; rfl
   generalize qs[i] = s0 at hm tk1
   refine ⟨lB_, fun tu htu => ?_⟩
   have z1 := Same.upd (o := .tup [.int 1, .int (-1)]) htu
   have htu1 : upd H2 tu (.tup [.int 1, .int (-1)]) tu = some (.tup [.int 1, .int (-1)]) := upd_same
   have s3 := s2.trans z1
   refine ⟨tu, rfl, ⟨_, SqT.of htu1⟩, ?_⟩
   refine for_by (it_tup _ tu [.int 1, .int (-1)]) (fun j σ H4 => ∃ (v2 v3 : Option V), σ = [some cv, some (.int (s0 : Nat)), v2, v3] ∧ Same H1 H4 ∧ H4 tu = some (.tup [.int 1, .int (-1)]) ∧ ∀ turn : Int, V.int turn ∈ [V.int 1, V.int (-1)].take j → ∃ ks E, Iter rows turn s0 rows.length ks E ∧ E s0 ≤ 0)
    ⟨v2, v3, rfl, s3, htu1, fun turn h => by simp at h⟩ (fun j σ H4 _ ⟨_, _, _, _, h, _⟩ => SqT.of h) ?_ ?_
   ·intro j y σ H4 hj hy hh_
    walk_at "B"
    obtain ⟨v2, v3, rfl, s4, h4, dn4⟩ := hh_
    walk_at "C"
    obtain ⟨turn, ey, tn⟩ : ∃ turn : Int, y = .int turn ∧ (turn = 1 ∨ turn = -1) := by
     have := List.mem_of_getElem? hy
     simp only [List.mem_cons, List.not_mem_nil, or_false] at this
     rcases this with h | h
     ·exact ⟨1, h, .inl rfl⟩
     ·exact ⟨-1, h, .inr rfl⟩
    have tk2 : [V.int 1, V.int (-1)].take (j + 1) = [V.int 1, V.int (-1)].take j ++ [y] := by rw [List.take_add_one, hy]; rfl
    subst ey
    refine ⟨k, n, rows, s0, hc1.mono s4, ok, rfl, qlt s0 hm, tn, fun d o kvs ks E H5 s5 nd5 hd5 en5 it5 => ?_⟩
    walk_at "B"
    obtain ⟨t9, l9, zs9, y1, y2, y3, y4⟩ := en5.vl s0 it5.mem
    walk_at "C"
    refine .inr ⟨d, .ref t9, rfl, .inl ⟨kvs, nk s0, .inr ⟨o, hd5⟩, rfl, y1.symm⟩, ?_⟩
    refine ⟨_, gt y2 (by decide) rfl, ite2 (fun k2 => ?_) (fun k2 => ?_)⟩
    ·have k2 : 0 < E s0 := of_decide_eq_true k2
     refine ⟨_, gt y2 (by decide) rfl, lB_, fun rt hrt => ?_⟩
     have s6 := (s4.trans s5).trans (Same.upd (o := .tup [.int (s0 : Nat), .ref l9]) hrt)
     exact qt rt _ (s1.trans s6.t) (t1.mono s6) ⟨s0, turn, ks, E, (mem s0).mp hm, tn, it5, k2⟩
    ·have k2 : E s0 ≤ 0 := by
      have h : ¬ 0 < E s0 := fun z => k2 (decide_eq_true z)
      (clear l8 hj tn y4 k2; omega)
     refine ⟨_, _, rfl, s4.trans s5, s5 _ _ h4, fun tt htt => ?_⟩
     rw [tk2, List.mem_append] at htt
     rcases htt with h | h
     ·exact dn4 tt h
     ·have e : tt = turn := by simpa using h
      rw [e]
      exact ⟨ks, E, it5, k2⟩
   ·intro σ H4 hh_
    walk_at "B"
    obtain ⟨v2, v3, rfl, s4, h4, dn4⟩ := hh_
    walk_at "C"
    refine ⟨_, _, _, rfl, s4, fun s hs turn tn => ?_⟩
    rw [tk1, List.mem_append] at hs
    rcases hs with h | h
    ·exact dn s h turn tn
    ·have e : s = s0 := by simpa using h
     rw [e]
     exact dn4 turn (by rcases tn with rfl | rfl <;> simp)
  ·intro σ H2 hh_
   walk_at "B"
   obtain ⟨v1, v2, v3, rfl, s2, dn⟩ := hh_
   walk_at "C"
   rw [List.length_map, List.take_length] at dn
   exact qn _ (s1.trans s2.t) (t1.mono s2) fun s hs => dn s ((mem s).mpr hs)
 ·exact h.elim
end

end K21
end
section
set_option Elab.async false
set_option linter.all false
set_option maxRecDepth 100000
set_option maxHeartbeats 4000000
namespace K21
open PySem L2
inductive Go (rows : Om.Rows) (s : Nat) : Nat → Nat → Int → Prop where
 | z : Go rows s 0 s 0
 | s {m t x r} : Go rows s m t x → r ∈ rows.getD t [] → Go rows s (m + 1) r.2 (x + Om.tot r.1)
theorem Iter.best {rows : Om.Rows} {turn : Int} {st : Nat} : ∀ {m ks E}, Iter rows turn st m ks E → ∀ {m' t : Nat} {x : Int}, m' ≤ m → Go rows st m' t x → t ∈ ks ∧ turn * x ≤ E t
 | _, _, _, .zero, m', t, x, h, g => by
  cases g with
  | z => exact ⟨List.mem_singleton.mpr rfl, by rw [Int.mul_zero]; exact Int.le_refl _⟩
  | s _ _ => exact absurd h (Nat.not_succ_le_zero _)
 | _, _, _, .succ (m := m) i e, m', t, x, h, g => by
  by_cases hm : m' ≤ m
  ·obtain ⟨h1, h2⟩ := i.best hm g
   obtain ⟨h3, h4⟩ := e.old t h1
   exact ⟨h3, Int.le_trans h2 h4⟩
  ·cases g with
   | z => exact absurd (Nat.zero_le _) hm
   | @s m0 t0 x0 r g0 hr =>
    obtain ⟨h1, h2⟩ := i.best (Nat.le_of_succ_le_succ h) g0
    obtain ⟨l, hl⟩ := List.mem_iff_getElem?.mp hr
    obtain ⟨h3, h4⟩ := e.all t0 l r h1 hl
    refine ⟨h3, Int.le_trans ?_ h4⟩
    rw [Int.mul_add]
    exact Int.add_le_add_right h2 _

end K21
end
section
set_option Elab.async false
set_option linter.all false
set_option maxRecDepth 100000
set_option maxHeartbeats 4000000
namespace K21
open PySem L2
section
variable {rows : Om.Rows} {s t u m d : Nat} {x y : Int}
theorem Go.trans (a : Go rows s m t x) : ∀ {d u y}, Go rows t d u y → Go rows s (m + d) u (x + y)
 | _, _, _, .z => by rw [Int.add_zero]; exact a
 | _, _, _, .s b hr => by
  rw [← Int.add_assoc]
  exact .s (Go.trans a b) hr
structure Pth (rows : Om.Rows) (f : Nat → Nat) (X : Nat → Int) (m : Nat) : Prop where
 st : ∀ i, i < m → ∃ r ∈ rows.getD (f i) [], f (i + 1) = r.2 ∧ X (i + 1) = X i + Om.tot r.1
theorem Go.path : ∀ {m t x}, Go rows s m t x → ∃ f X, f 0 = s ∧ f m = t ∧ X 0 = 0 ∧ X m = x ∧ Pth rows f X m
 | _, _, _, .z => ⟨fun _ => s, fun _ => 0, rfl, rfl, rfl, rfl, ⟨fun i h => absurd h (Nat.not_lt_zero _)⟩⟩
 | _, _, _, .s (m := m) (t := t) (x := x) (r := r) g hr => by
  walk_at "B"
  obtain ⟨f, X, h1, h2, h3, h4, h5⟩ := Go.path g
  walk_at "C"
  refine ⟨fun i => if i ≤ m then f i else r.2, fun i => if i ≤ m then X i else x + Om.tot r.1, ?_, ?_, ?_, ?_, ⟨fun i hi => ?_⟩⟩
  ·show (if 0 ≤ m then f 0 else r.2) = s
   rw [if_pos (Nat.zero_le _)]; exact h1
  ·show (if m + 1 ≤ m then f (m + 1) else r.2) = r.2
   rw [if_neg (by (clear h1 h2 h3 h4; omega))]
  ·show (if 0 ≤ m then X 0 else _) = 0
   rw [if_pos (Nat.zero_le _)]; exact h3
  ·show (if m + 1 ≤ m then X (m + 1) else _) = _
   rw [if_neg (by (clear h1 h2 h3 h4; omega))]
  ·show ∃ r' ∈ rows.getD (if i ≤ m then f i else r.2) [], (if i + 1 ≤ m then f (i + 1) else r.2) = r'.2 ∧ (if i + 1 ≤ m then X (i + 1) else x + Om.tot r.1) = (if i ≤ m then X i else x + Om.tot r.1) + Om.tot r'.1
   have im : i ≤ m := by (clear h1 h2 h3 h4; omega)
   rw [if_pos im, if_pos im]
   by_cases e : i < m
   ·walk_at "B"
    obtain ⟨r', a, b, c⟩ := h5.st i e
    walk_at "C"
    have im1 : i + 1 ≤ m := e
    rw [if_pos im1, if_pos im1]
    exact ⟨r', a, b, c⟩
   ·have e : i = m := by (clear h1 h2 h3 h4 hi; omega)
    subst e
    have im1 : ¬ i + 1 ≤ i := by (clear h1 h3 h2 h4 hi im e; omega)
    rw [if_neg im1, if_neg im1, h4]
    exact ⟨r, h2 ▸ hr, rfl, rfl⟩
theorem Pth.go {f : Nat → Nat} {X : Nat → Int} (p : Pth rows f X m) (i : Nat) : ∀ d, i + d ≤ m → Go rows (f i) d (f (i + d)) (X (i + d) - X i)
 | 0, _ => by rw [Nat.add_zero, Int.sub_self]; exact .z
 | d + 1, h => by
  walk_at "B"
  obtain ⟨r, a, b, c⟩ := p.st (i + d) (by omega)
  walk_at "C"
  have g := Go.s (p.go i d (by omega)) a
  rw [show i + (d + 1) = i + d + 1 by omega, b, c]
  rw [show X (i + d) + Om.tot r.1 - X i = X (i + d) - X i + Om.tot r.1 by omega]
  exact g
theorem Pth.twice {f : Nat → Nat} {S : Nat} (hf : ∀ i, i ≤ S → f i < S) : ∃ i j, i < j ∧ j ≤ S ∧ f i = f j := by
 apply Classical.byContradiction
 intro no
 have nd : ((List.range (S + 1)).map f).Nodup := by
  rw [List.nodup_iff_pairwise_ne, List.pairwise_map, List.pairwise_iff_getElem]
  intro i j hi hj hij e
  rw [List.length_range] at hi hj
  rw [List.getElem_range, List.getElem_range] at e
  exact no ⟨i, j, hij, by (clear no hi hij e; omega), e⟩
 have := Om.nodup_len S _ nd fun x hx => by
  walk_at "B"
  obtain ⟨i, hi, rfl⟩ := List.mem_map.mp hx
  walk_at "C"
  exact hf i (by have := List.mem_range.mp hi; omega)
 rw [List.length_map, List.length_range] at this
 omega
end

end K21
end
section
set_option Elab.async false
set_option linter.all false
set_option maxRecDepth 100000
set_option maxHeartbeats 4000000
namespace K21
open PySem L2
section
variable {rows : Om.Rows} {S : Nat} {R : Nat → Prop}
theorem Pth.all {f : Nat → Nat} {X : Nat → Int} {m : Nat} (p : Pth rows f X m) (h0 : R (f 0)) (hR : ∀ s r, R s → r ∈ rows.getD s [] → R r.2) : ∀ i, i ≤ m → R (f i)
 | 0, _ => h0
 | i + 1, h => by
  walk_at "B"
  obtain ⟨r, a, b, _⟩ := p.st i h
  walk_at "C"
  rw [b]
  exact hR _ r (p.all h0 hR i (by omega)) a
theorem zero_all (hR : ∀ s r, R s → r ∈ rows.getD s [] → R r.2) (hlt : ∀ s, R s → s < S) (no : ∀ s m x, R s → m ≤ S → Go rows s m s x → x = 0) : ∀ m s x, R s → Go rows s m s x → x = 0 := by
 intro m
 induction m using Nat.strongRecOn with
 | ind m ih =>
  intro s x hs g
  by_cases hm : m ≤ S
  ·exact no s m x hs hm g
  ·walk_at "B"
   obtain ⟨f, X, h1, h2, h3, h4, p⟩ := g.path
   walk_at "C"
   have al := p.all (h1 ▸ hs) hR
   obtain ⟨i, j, ij, jS, e⟩ := Pth.twice (f := f) (S := S) fun i hi => hlt _ (al i (by (clear h1 h2 h3 h4; omega)))
   have c1 := p.go i (j - i) (by (clear h1 h2 h3 h4 e; omega))
   rw [show i + (j - i) = j by (clear hm h1 h2 h3 h4 jS e; omega), ← e] at c1
   have z1 := no _ _ _ (al i (by (clear h1 h2 h3 h4 e; omega))) (by (clear hm h1 h2 h3 h4 ij e; omega)) c1
   have g1 := p.go 0 i (by (clear h1 h2 h3 h4 e z1; omega))
   have g2 := p.go j (m - j) (by (clear h1 h2 h3 h4 ij e z1; omega))
   rw [Nat.zero_add, h1, h3] at g1
   rw [show j + (m - j) = m by (clear h1 h2 h3 h4 ij e z1; omega), h2, h4, ← e] at g2
   have z2 := ih (i + (m - j)) (by (clear h1 h2 h3 h4 e z1; omega)) s _ hs (g1.trans g2)
   (clear hm h1 h2 h3 h4 ij jS e; omega)
theorem short_all (hR : ∀ s r, R s → r ∈ rows.getD s [] → R r.2) (hlt : ∀ s, R s → s < S) (no : ∀ m s x, R s → Go rows s m s x → x = 0) : ∀ m s t x, R s → Go rows s m t x → ∃ m', m' < S ∧ Go rows s m' t x := by
 intro m
 induction m using Nat.strongRecOn with
 | ind m ih =>
  intro s t x hs g
  by_cases hm : m < S
  ·exact ⟨m, hm, g⟩
  ·walk_at "B"
   obtain ⟨f, X, h1, h2, h3, h4, p⟩ := g.path
   walk_at "C"
   have al := p.all (h1 ▸ hs) hR
   obtain ⟨i, j, ij, jS, e⟩ := Pth.twice (f := f) (S := S) fun i hi => hlt _ (al i (by (clear h1 h2 h3 h4; omega)))
   have c1 := p.go i (j - i) (by (clear h1 h2 h3 h4 e; omega))
   rw [show i + (j - i) = j by (clear hm h1 h2 h3 h4 jS e; omega), ← e] at c1
   have z1 := no _ _ _ (al i (by (clear h1 h2 h3 h4 e; omega))) c1
   have g1 := p.go 0 i (by (clear h1 h2 h3 h4 e z1; omega))
   have g2 := p.go j (m - j) (by (clear h1 h2 h3 h4 ij e z1; omega))
   rw [Nat.zero_add, h1, h3] at g1
   rw [show j + (m - j) = m by (clear h1 h2 h3 h4 ij e z1; omega), h2, h4, ← e] at g2
   have g3 := g1.trans g2
   rw [show X i - 0 + (x - X j) = x by (clear hm h1 h2 h3 h4 ij jS e; omega)] at g3
   exact ih (i + (m - j)) (by (clear h1 h2 h3 h4 e z1; omega)) s t x hs g3
end

end K21
end
section
set_option Elab.async false
set_option linter.all false
set_option maxRecDepth 100000
set_option maxHeartbeats 4000000
namespace K21
open PySem L2
theorem tot_le : ∀ w : List Bool, -(w.length : Int) ≤ Om.tot w ∧ Om.tot w ≤ (w.length : Int)
 | [] => ⟨by decide, by decide⟩
 | b :: w => by
  have ih := tot_le w
  have e : Om.tot (b :: w) = Om.stp b + Om.tot w := by unfold Om.tot; rw [List.map_cons, List.sum_cons]
  rw [e, List.length_cons]
  have sb : -1 ≤ Om.stp b ∧ Om.stp b ≤ 1 := by cases b <;> decide
  push_cast
  omega
end K21
end
section
set_option Elab.async false
set_option linter.all false
set_option maxRecDepth 100000
set_option maxHeartbeats 4000000
namespace K21
open PySem L2
section
variable {P : Program} {w : World} {K : PySem.W.Frag} {mg : Str → Option Value} {base : Heap}
def fkey (x : Nat × Int) : List Key := [Sum.inl ((x.1 : Nat) : Int), Sum.inl x.2]
theorem fkey_inj (a b : Nat × Int) (h : fkey a = fkey b) : a = b := by
 unfold fkey at h
 injection h with h1 h2
 injection h2 with h2 _
 have e1 : ((a.1 : Nat) : Int) = ((b.1 : Nat) : Int) := Sum.inl.inj h1
 exact Prod.ext (by omega) (Sum.inl.inj h2)
structure Ff (H0 H : Hp) (D Q : Addr) (kvs : List (List Key × V)) (xs : List (Nat × Int)) (bz : List Addr) : Prop where
 s : Same H0 H
 nD : H0 D = none
 nQ : H0 Q = none
 hD : H D = some (.dT kvs)
 hQ : H Q = some (.lst (bz.map V.ref))
 kz : KS fkey kvs xs
 ql : bz.length = xs.length
 qt : ∀ (i : Nat) x, xs[i]? = some x → ∃ b, bz[i]? = some b ∧ H b = some (.tup [.int (x.1 : Nat), .int x.2])
theorem Ff.mono {H0 H H1 : Hp} {D Q : Addr} {kvs : List (List Key × V)} {xs : List (Nat × Int)} {bz : List Addr} (g : Ff H0 H D Q kvs xs bz) (s : Same H H1) : Ff H0 H1 D Q kvs xs bz :=
 ⟨g.s.trans s, g.nD, g.nQ, s _ _ g.hD, s _ _ g.hQ, g.kz, g.ql, fun i x e => let ⟨b, a, c⟩ := g.qt i x e; ⟨b, a, s _ _ c⟩⟩
theorem Ff.put {H0 H H1 : Hp} {D Q : Addr} {kvs : List (List Key × V)} {xs : List (Nat × Int)} {bz : List Addr} (g : Ff H0 H D Q kvs xs bz) {z : Addr} {v : V} {x : Nat × Int} (nx : x ∉ xs) (s1 : Same (upd H D (.dT (putK kvs (fkey x) v))) H1) (hx : H1 z = some (.tup [.int (x.1 : Nat), .int x.2])) :
  Ff H0 (upd H1 Q (.lst (bz.map V.ref ++ [.ref z]))) D Q (putK kvs (fkey x) v) (xs ++ [x]) (bz ++ [z]) := by
 have DQ : D ≠ Q := ne_of g.hD g.hQ (fun z => nomatch z)
 have kp := g.kz.put fkey_inj x v
 unfold Om.adds at kp
 rw [if_neg nx] at kp
 have hQ1 : H1 Q = some (.lst (bz.map V.ref)) := s1 _ _ (by rw [upd_ne (Ne.symm DQ)]; exact g.hQ)
 have tp : ∀ {b : Addr} {ys : List V}, H1 b = some (.tup ys) → upd H1 Q (.lst (bz.map V.ref ++ [.ref z])) b = some (.tup ys) := fun {b ys} h => by rw [upd_ne (ne_of h hQ1 (fun z => nomatch z))]; exact h
 refine ⟨fun b o e => ?_, g.nD, g.nQ, by rw [upd_ne DQ]; exact s1 _ _ upd_same, by rw [upd_same, List.map_append]; rfl, kp, by rw [List.length_append, List.length_append, g.ql]; rfl, fun i y hy => ?_⟩
 ·rw [upd_ne (ne_of_none e g.nQ)]
  refine s1 _ _ ?_
  rw [upd_ne (ne_of_none e g.nD)]
  exact g.s _ _ e
 ·by_cases il : i < xs.length
  ·rw [List.getElem?_append_left il] at hy
   walk_at "B"
   obtain ⟨b, a1, a2⟩ := g.qt i y hy
   walk_at "C"
   exact ⟨b, by rw [List.getElem?_append_left (by rw [g.ql]; exact il)]; exact a1, tp (s1 _ _ (by rw [upd_ne (ne_of a2 g.hD (fun z => nomatch z))]; exact a2))⟩
  ·have ie : i = xs.length := by
    have := (List.getElem?_eq_some_iff.mp hy).1
    rw [List.length_append] at this
    simp at this
    (clear nx DQ; omega)
   subst ie
   rw [List.getElem?_append_right (Nat.le_refl _)] at hy
   simp at hy
   subst hy
   exact ⟨z, by rw [List.getElem?_append_right (by rw [g.ql]; exact Nat.le_refl _), g.ql]; simp, tp hx⟩
def LnAt (rows : Om.Rows) (z : Int) : Prop := z = 0 ∨ ∃ (m t : Nat) (x : Int) (r : List Bool × Nat) (y : Int), Go rows 0 m t x ∧ r ∈ rows.getD t [] ∧ y ∈ Om.leans r.1 ∧ z = x + y
structure Lk (rows : Om.Rows) (B : Int) (xs : List (Nat × Int)) (ed : Nat → Nat → Prop) (low high : Int) : Prop where
 z : xs[0]? = some (0, 0)
 go : ∀ x ∈ xs, ∃ m, Go rows 0 m x.1 x.2
 bd : ∀ x ∈ xs, x.1 < rows.length ∧ -B ≤ x.2 ∧ x.2 ≤ B
 cl : ∀ i l x r, ed i l → xs[i]? = some x → (rows.getD x.1 [])[l]? = some r → (r.2, x.2 + Om.tot r.1) ∈ xs ∧ ∀ y ∈ Om.leans r.1, low ≤ x.2 + y ∧ x.2 + y ≤ high
 nl : low ≤ 0
 nh : 0 ≤ high
 sl : LnAt rows low
 sh : LnAt rows high
theorem Lk.cong {rows : Om.Rows} {B : Int} {xs : List (Nat × Int)} {ed ed' : Nat → Nat → Prop} {low high : Int} (h : Lk rows B xs ed low high) (e : ∀ i l, ed' i l → ed i l) : Lk rows B xs ed' low high := ⟨h.z, h.go, h.bd, fun i l x r a => h.cl i l x r (e i l a), h.nl, h.nh, h.sl, h.sh⟩
theorem mem_getD {rows : Om.Rows} {s l : Nat} {r : List Bool × Nat} (h : (rows.getD s [])[l]? = some r) : r ∈ rows.getD s [] := List.mem_of_getElem? h
theorem Lk.put {rows : Om.Rows} {B : Int} {xs : List (Nat × Int)} {ed : Nat → Nat → Prop} {low high low' high' : Int} (h : Lk rows B xs ed low high) {c l : Nat} {x : Nat × Int} {r : List Bool × Nat} (hx : xs[c]? = some x) (hr : (rows.getD x.1 [])[l]? = some r) (hrl : r.2 < rows.length) (b0 : -B ≤ x.2 + Om.tot r.1) (b1 : x.2 + Om.tot r.1 ≤ B)
  (il : ∀ i l, ed i l → i < xs.length) (l1 : low' ≤ low) (h1 : high ≤ high') (ly : ∀ y ∈ Om.leans r.1, low' ≤ x.2 + y ∧ x.2 + y ≤ high') (sl : low' = low ∨ ∃ y ∈ Om.leans r.1, low' = x.2 + y) (sh : high' = high ∨ ∃ y ∈ Om.leans r.1, high' = x.2 + y) :
  Lk rows B (Om.adds xs (r.2, x.2 + Om.tot r.1)) (fun i l' => ed i l' ∨ (i = c ∧ l' = l)) low' high' := by
 have ol : ∀ i y, i < xs.length → (Om.adds xs (r.2, x.2 + Om.tot r.1))[i]? = some y → xs[i]? = some y := fun i y hi e => by
  unfold Om.adds at e
  split at e
  ·exact e
  ·rwa [List.getElem?_append_left hi] at e
 have cl := (List.getElem?_eq_some_iff.mp hx).1
 obtain ⟨m, hm⟩ := h.go x (List.mem_of_getElem? hx)
 refine ⟨?_, fun y hy => ?_, fun y hy => ?_, fun i l' y r' he hy hr' => ?_, Int.le_trans l1 h.nl, Int.le_trans h.nh h1, ?_, ?_⟩
 ·unfold Om.adds
  split
  ·exact h.z
  ·rw [List.getElem?_append_left (by (clear hrl b0 b1 l1 h1 sl sh; omega))]
   exact h.z
 ·rcases Om.mem_adds.mp hy with z | rfl
  ·exact h.go y z
  ·exact ⟨m + 1, .s hm (mem_getD hr)⟩
 ·rcases Om.mem_adds.mp hy with z | rfl
  ·exact h.bd y z
  ·exact ⟨hrl, b0, b1⟩
 ·rcases he with he | ⟨rfl, rfl⟩
  ·have hy' := ol i y (il i l' he) hy
   obtain ⟨a1, a2⟩ := h.cl i l' y r' he hy' hr'
   exact ⟨Om.mem_adds.mpr (.inl a1), fun z hz => ⟨Int.le_trans l1 (a2 z hz).1, Int.le_trans (a2 z hz).2 h1⟩⟩
  ·have hy' := ol i y cl hy
   rw [hx] at hy'
   cases hy'
   rw [hr] at hr'
   cases hr'
   exact ⟨Om.mem_adds.mpr (.inr rfl), ly⟩
 ·rcases sl with rfl | ⟨y, hy, e⟩
  ·exact h.sl
  ·exact .inr ⟨m, x.1, x.2, r, y, hm, mem_getD hr, hy, e⟩
 ·rcases sh with rfl | ⟨y, hy, e⟩
  ·exact h.sh
  ·exact .inr ⟨m, x.1, x.2, r, y, hm, mem_getD hr, hy, e⟩
structure Lw (rows : Om.Rows) (B low high : Int) : Prop where
 bd : ∀ m t x, Go rows 0 m t x → -B ≤ x ∧ x ≤ B
 nl : low ≤ 0
 nh : 0 ≤ high
 all : ∀ m t x r y, Go rows 0 m t x → r ∈ rows.getD t [] → y ∈ Om.leans r.1 → low ≤ x + y ∧ x + y ≤ high
 sl : LnAt rows low
 sh : LnAt rows high
theorem Lk.end {rows : Om.Rows} {B B' : Int} {xs : List (Nat × Int)} {low high : Int} {c : Nat} (h : Lk rows B xs (fun i _ => i < c) low high) (hc : xs.length ≤ c) (ts : ∀ i x, i < c → xs[i]? = some x → -B' ≤ x.2 ∧ x.2 ≤ B') : Lw rows B' low high := by
 have al : ∀ {m t x}, Go rows 0 m t x → (t, x) ∈ xs := by
  intro m t x g
  induction g with
  | z => exact List.mem_of_getElem? h.z
  | @s m t x r g hr ih =>
   obtain ⟨i, hi⟩ := List.mem_iff_getElem?.mp ih
   obtain ⟨l, hl⟩ := List.mem_iff_getElem?.mp hr
   exact (h.cl i l _ r (Nat.lt_of_lt_of_le (List.getElem?_eq_some_iff.mp hi).1 hc) hi hl).1
 refine ⟨fun m t x g => ?_, h.nl, h.nh, fun m t x r y g hr hy => ?_, h.sl, h.sh⟩
 ·obtain ⟨i, hi⟩ := List.mem_iff_getElem?.mp (al g)
  exact ts i _ (Nat.lt_of_lt_of_le (List.getElem?_eq_some_iff.mp hi).1 hc) hi
 ·obtain ⟨i, hi⟩ := List.mem_iff_getElem?.mp (al g)
  obtain ⟨l, hl⟩ := List.mem_iff_getElem?.mp hr
  exact (h.cl i l _ r (Nat.lt_of_lt_of_le (List.getElem?_eq_some_iff.mp hi).1 hc) hi hl).2 y hy
theorem few_leans {xs : List (Nat × Int)} (nd : xs.Nodup) (h : ∀ x ∈ xs, x.1 < 8 ∧ -48 ≤ x.2 ∧ x.2 ≤ 48) : xs.length ≤ 776 := by
 have := Om.nodup_len 776 (xs.map fun x => x.1 * 97 + (x.2 + 48).toNat) ?_ fun s hs => ?_
 ·rwa [List.length_map] at this
 ·refine Om.nodup_on (fun x hx y hy e => ?_) nd
  have h1 := h x hx
  have h2 := h y hy
  exact Prod.ext (by omega) (by omega)
 ·walk_at "B"
  obtain ⟨x, hx, rfl⟩ := List.mem_map.mp hs
  walk_at "C"
  have h1 := h x hx
  omega
abbrev sLFar : Stmt := top 23
def spLFar : Sp := fun vs H Q _ => match vs with
 | [cv] => ∃ (k n : Nat) (rows : Om.Rows), DV H cv (codeD k n rows) ∧ Om.CodeOk k n rows ∧
   (∀ H', Same H H' → (∃ m t x, Go rows 0 m t x ∧ ¬ (-((n * (rows.length - 1) : Nat) : Int) ≤ x ∧ x ≤ ((n * (rows.length - 1) : Nat) : Int))) → Q .non H') ∧
   ∀ p low high H', Same H H' → H p = none → H' p = some (.tup [.int low, .int high]) → Lw rows ((n * (rows.length - 1) : Nat) : Int) low high → Q (.ref p) H'
 | _ => False
theorem scLFar : FnScope ["code", "bound", "found", "line", "low", "high", "at", "state", "here", "word", "behind", "there", "one"] ["code"] (defScope sLFar) := ⟨rfl, rfl, rfl, by decide +kernel, rfl, by decide +kernel, by decide +kernel⟩
local macro_rules | `(tactic| walk_at "T.n") => `(tactic| with_reducible first | exact vn "code" 0 | exact vn "bound" 1 | exact vn "found" 2 | exact vn "line" 3 | exact vn "low" 4 | exact vn "high" 5 | exact vn "at" 6 | exact vn "state" 7 | exact vn "here" 8 | exact vn "word" 9 | exact vn "behind" 10 | exact vn "there" 11 | exact vn "one" 12)
local macro_rules | `(tactic| walk_at "T.gn") => `(tactic| with_reducible first | exact gn "bound" 1 (by walk_at "A") | exact gn "found" 2 (by walk_at "A") | exact gn "line" 3 (by walk_at "A") | exact gn "low" 4 (by walk_at "A") | exact gn "high" 5 (by walk_at "A") | exact gn "at" 6 (by walk_at "A") | exact gn "state" 7 (by walk_at "A") | exact gn "here" 8 (by walk_at "A") | exact gn "word" 9 (by walk_at "A") | exact gn "behind" 10 (by walk_at "A") | exact gn "there" 11 (by walk_at "A") | exact gn "one" 12 (by walk_at "A"))
local macro_rules | `(tactic| walk_at "T.e") => `(tactic| ((with_reducible refine' pe_dispT ?a0 ?a1 ?a2); (case a0 => exact Room.units (by assumption)); (case a1 => walk_at "T.e"); (case a2 => walk_at "T.e")))
local macro_rules | `(tactic| walk_at "T.g") => `(tactic| ((with_reducible refine' g_subD ?a0 ?a1 ?a2); (case a0 => exact Room.units (by assumption)); (case a1 => walk_at "T.e"); (case a2 => walk_at "T.e")))
local macro_rules | `(tactic| walk_at "T.i") => `(tactic| ((with_reducible refine' pi_txt ?a1); (case a1 => with_reducible exact vn "word" 9)))
local macro_rules | `(tactic| walk_at "T.cmp") => `(tactic| ((with_reducible refine' op_notInDict ?a0); (case a0 => exact Room.units (by assumption))))
local macro_rules | `(tactic| walk_at "T.b") => `(tactic| ((with_reducible refine' fn_abs ?a0 ?a9 ?a1); (case a0 => with_reducible assumption); (case a9 => rfl); (case a1 => walk_at "T.a")))
inductive FW (a D Qa : Addr) (B n : Nat) (rows : Om.Rows) (H : Hp) (mm : Nat) (σ : L2.St) (H2 : L2.Hp) : Prop
 | mk (v7 v8 v9 v10 v11 v12 : Option V) (kvs : List (List Key × V)) (xs : List (Nat × Int)) (bz : List Addr) (c : Nat) (low high : Int) (z0 : σ = [some (.ref a), some (.int (B : Nat)), some (.ref D), some (.ref Qa), some (.int low), some (.int high), some (.int (c : Nat)), v7, v8, v9, v10, v11, v12]) (z1 : mm + c = 776) (z2 : Ff H H2 D Qa kvs xs bz) (z3 : Lk rows ((B + n : Nat) : Int) xs (fun i _ => i < c) low high) (z4 : (∀ i x, i < c → xs[i]? = some x → -(B : Int) ≤ x.2 ∧ x.2 ≤ (B : Int))) (z5 : c ≤ xs.length) : FW a D Qa B n rows H mm σ H2
inductive FN (a D Qa : Addr) (B n : Nat) (rows : Om.Rows) (H : Hp) (c : Nat) (σ' : L2.St) (H' : L2.Hp) : Prop
 | mk (v7 v8 v9 v10 v11 v12 : Option V) (kvs : List (List Key × V)) (xs' : List (Nat × Int)) (bz : List Addr) (low high : Int) (z0 : σ' = [some (.ref a), some (.int (B : Nat)), some (.ref D), some (.ref Qa), some (.int low), some (.int high), some (.int ((c : Nat) + 1)), v7, v8, v9, v10, v11, v12]) (z1 : Ff H H' D Qa kvs xs' bz) (z2 : Lk rows ((B + n : Nat) : Int) xs' (fun i _ => i < c + 1) low high) (z3 : (∀ i x, i < c + 1 → xs'[i]? = some x → -(B : Int) ≤ x.2 ∧ x.2 ≤ (B : Int))) (z4 : c + 1 ≤ xs'.length) : FN a D Qa B n rows H c σ' H'
inductive FL (a D Qa : Addr) (B n : Nat) (rows : Om.Rows) (H : Hp) (c : Nat) (x : Nat × Int) (xs : List (Nat × Int)) (j : Nat) (σ : L2.St) (H4 : L2.Hp) : Prop
 | mk (v9 v10 v11 v12 : Option V) (kvs : List (List Key × V)) (xs' : List (Nat × Int)) (bz : List Addr) (low high : Int) (z0 : σ = [some (.ref a), some (.int (B : Nat)), some (.ref D), some (.ref Qa), some (.int low), some (.int high), some (.int ((c : Nat) + 1)), some (.int (x.1 : Nat)), some (.int x.2), v9, v10, v11, v12]) (z1 : Ff H H4 D Qa kvs xs' bz) (z2 : Lk rows ((B + n : Nat) : Int) xs' (fun i l => i < c ∨ (i = c ∧ l < j)) low high) (z3 : (∀ i, i < xs.length → xs'[i]? = xs[i]?)) (z4 : xs.length ≤ xs'.length) : FL a D Qa B n rows H c x xs j σ H4
inductive FT (a D Qa : Addr) (B : Nat) (c : Nat) (x : Nat × Int) (rw0 : List Bool × Nat) (low high : Int) (H4 : Hp) (i : Nat) (σ : L2.St) (H5 : L2.Hp) : Prop
 | mk (v12 : Option V) (lo hi : Int) (z0 : σ = [some (.ref a), some (.int (B : Nat)), some (.ref D), some (.ref Qa), some (.int lo), some (.int hi), some (.int ((c : Nat) + 1)), some (.int (x.1 : Nat)), some (.int x.2), some (.str (bs rw0.1)), some (.int (rw0.2 : Nat)), some (.int (x.2 + Om.tot (rw0.1.take i))), v12]) (z1 : Same H4 H5) (z2 : lo ≤ low) (z3 : high ≤ hi) (z4 : (∀ j, j < i → lo ≤ x.2 + Om.tot (rw0.1.take (j + 1)) ∧ x.2 + Om.tot (rw0.1.take (j + 1)) ≤ hi)) (z5 : (lo = low ∨ ∃ j, j < i ∧ lo = x.2 + Om.tot (rw0.1.take (j + 1)))) (z6 : (hi = high ∨ ∃ j, j < i ∧ hi = x.2 + Om.tot (rw0.1.take (j + 1)))) : FT a D Qa B c x rw0 low high H4 i σ H5
theorem ok_lfar (D : FnX K mg "_law_far" sLFar ["code"]) (g1 : mg "len" = none) (g2 : mg "abs" = none) (g3 : mg "min" = none) (g4 : mg "max" = none) (g5 : mg "int" = none) : Can P w K mg base "_law_far" 1 ["code"] spLFar := by
 refine can_fn (k := 0) D scLFar (fun vs H Q E h => ?_) (fun f0 cdv A outer s H vs Q E hr h => ?_)
 all_goals
  unfold spLFar at h
  split at h
 ·rfl
 ·exact h.elim
 ·rename_i cv
  walk_at "B"
  obtain ⟨k, n, rows, hc, ok, qn, qt⟩ := h
  obtain ⟨a, b, ss, rfl, ha, hb, hss⟩ := code_inv hc
  walk_at "C"
  have nd := scLFar.nd
  refine ⟨_, (by walk_at "T.top"), ?_⟩
  have sl : ss.length = rows.length := by rw [hss.length, List.length_map]
  have n1 := ok.n1
  have n6 := ok.n6
  have s1 := ok.s1
  have s8 := ok.s8
  refine ⟨_, gt ha (by decide) rfl, _, gt ha (by decide) rfl, _, lenL hb, .inl ⟨by (clear sl n1 n6 s1 s8; omega), by (clear sl n1 s1 s8; omega)⟩, ?_⟩
  have eB : ((n : Nat) : Int) * ((ss.length : Int) - 1) = ((n * (rows.length - 1) : Nat) : Int) := by
   rw [sl, Int.natCast_mul, Int.natCast_sub s1]; rfl
  rw [eB]
  obtain ⟨B, hB⟩ : ∃ B, B = n * (rows.length - 1) := ⟨_, rfl⟩
  have B48 : B + n ≤ 48 := by
   have : n * (rows.length - 1) ≤ 6 * 7 := Nat.mul_le_mul n6 (by (clear sl n1 n6 s1 eB hB; omega))
   (clear sl n1 s1 s8 eB; omega)
  rw [← hB] at qn qt ⊢
  clear eB
  intro D hD
  refine ⟨lB_, fun B0 hB0 => ?_⟩
  refine ⟨by rw [upd_ne (Ne.symm (upd_nn hB0).1)]; exact upd_same, B0, fkey (0, 0), rfl, upd_same, ?_⟩
  refine ⟨lB_, fun B1 hB1 => ⟨lB_, fun Qa hQ => ?_⟩⟩
  have G0 : Ff H (upd (upd (upd (upd (upd H D (.dT [])) B0 (.tup [.int 0, .int 0])) D (.dT [(fkey (0, 0), .bl true)])) B1 (.tup [.int 0, .int 0])) Qa (.lst [.ref B1])) D Qa [(fkey (0, 0), .bl true)] [(0, 0)] [B1] := by
   obtain ⟨QB, q1⟩ := upd_nn hQ
   obtain ⟨QD, q2⟩ := upd_nn q1
   obtain ⟨QB0, q3⟩ := upd_nn q2
   obtain ⟨_, q4⟩ := upd_nn q3
   obtain ⟨BD, b1⟩ := upd_nn hB1
   obtain ⟨BB, b2⟩ := upd_nn b1
   obtain ⟨_, b3⟩ := upd_nn b2
   obtain ⟨B0D, c1⟩ := upd_nn hB0
   refine ⟨fun c o e => ?_, hD, q4, by rw [upd_ne (Ne.symm QD), upd_ne (Ne.symm BD), upd_same], upd_same, ⟨rfl, by simp⟩, rfl, fun i x hx => ?_⟩
   ·rw [upd_ne (ne_of_none e q4), upd_ne (ne_of_none e b3), upd_ne (ne_of_none e hD), upd_ne (ne_of_none e c1), upd_ne (ne_of_none e hD)]
    exact e
   ·cases i with
    | zero =>
     cases hx
     exact ⟨B1, rfl, by rw [upd_ne (Ne.symm QB), upd_same]; rfl⟩
    | succ i => simp at hx
  have L0 : Lk rows ((B + n : Nat) : Int) [(0, 0)] (fun i _ => i < 0) 0 0 := by
   refine ⟨rfl, fun x hx => ?_, fun x hx => ?_, fun i l x r h => absurd h (Nat.not_lt_zero _), Int.le_refl _, Int.le_refl _, .inl rfl, .inl rfl⟩
   ·rw [List.mem_singleton.mp hx]; exact ⟨0, .z⟩
   ·rw [List.mem_singleton.mp hx]
    exact ⟨s1, by show -((B + n : Nat) : Int) ≤ (0 : Int); (clear sl n1 n6 s1 s8 hB B48; omega), by show (0 : Int) ≤ ((B + n : Nat) : Int); (clear sl n1 n6 s1 s8 hB B48; omega)⟩
  generalize upd (upd (upd (upd (upd H D (.dT [])) B0 (.tup [.int 0, .int 0])) D (.dT [(fkey (0, 0), .bl true)])) B1 (.tup [.int 0, .int 0])) Qa (.lst [.ref B1]) = H1 at G0
  refine ⟨FW a D Qa B n rows H,
   ⟨776, none, none, none, none, none, none, _, [(0, 0)], [B1], 0, 0, 0, rfl, rfl, G0, L0, (fun i x h => absurd h (Nat.not_lt_zero _)), Nat.zero_le _⟩, ?_⟩
  clear G0 L0
  intro mm σ H2 hh_
  walk_at "B"
  obtain ⟨v7, v8, v9, v10, v11, v12, kvs, xs, bz, c, low, high, rfl, hmm, G, L, ts, cl⟩ := hh_
  walk_at "C"
  have few : ∀ {ys : List (Nat × Int)} {ed : Nat → Nat → Prop} {low high : Int}, ys.Nodup → Lk rows ((B + n : Nat) : Int) ys ed low high → ys.length ≤ 776 := fun nd h => few_leans nd fun x hx => by
   have := h.bd x hx
   (clear sl n1 n6 s1 hB hmm cl; omega)
  have ql := few G.kz.nd L
  refine ⟨_, lenL G.hQ, ?_⟩
  dsimp only [rN0]
  rw [List.length_map, G.ql]
  refine ite2 (fun lt => ?_) (fun ge => ?_)
  ·have lt : c < xs.length := by simpa using lt
   obtain ⟨x, hx⟩ : ∃ x, xs[c]? = some x := ⟨_, List.getElem?_eq_getElem lt⟩
   have xm := List.mem_of_getElem? hx
   walk_at "B"
   obtain ⟨b0, b1, b2⟩ := G.qt c x hx
   walk_at "C"
   have slt := (L.bd x xm).1
   walk_at "B"
   obtain ⟨qx, rx, e1, e2, e3⟩ := state_at hss (s := x.1) (st := rows[x.1]) (List.getElem?_eq_getElem slt)
   walk_at "C"
   have rl : rx.length = rows[x.1].length := by rw [e3.length, List.length_map]
   have eg : rows.getD x.1 [] = rows[x.1] := by rw [List.getD_eq_getElem?_getD, List.getElem?_eq_getElem slt]; rfl
   refine ⟨FN a D Qa B n rows H c, ?_, ?_⟩
   ·intro σ' H' hh_
    walk_at "B"
    obtain ⟨v7, v8, v9, v10, v11, v12, kvs, xs', bz, low, high, rfl, G', L', ts', cl'⟩ := hh_
    walk_at "C"
    exact ⟨mm - 1, by (clear sl n1 n6 s1 s8 hB B48 cl rl cl'; omega), v7, v8, v9, v10, v11, v12, kvs, xs', bz, c + 1, low, high, rfl, by (clear sl n1 n6 s1 s8 hB B48 cl rl cl'; omega), G', L', ts', cl'⟩
   ·refine ⟨.ref b0, gl G.hQ (by (clear sl n1 n6 s1 s8 hB B48 hmm cl ql lt rl; omega)) (by rw [List.getElem?_map, show ((c : Nat) : Int).toNat = c by (clear sl n1 n6 s1 s8 hB B48 hmm cl ql lt rl; omega), b1]; rfl), ?_⟩
    refine ⟨_, .inl b2, rfl, rfl, ?_⟩
    refine ite2 (fun big => ?_) (fun small => ?_)
    ·have big := of_decide_eq_true big
     obtain ⟨m, hm⟩ := L.go x xm
     refine qn _ G.s ⟨m, x.1, x.2, hm, fun z => ?_⟩
     split at big <;> (clear sl n1 n6 s1 s8 hB B48 hmm cl ql lt rl; omega)
    ·have small : -(B : Int) ≤ x.2 ∧ x.2 ≤ (B : Int) := by
      have h : ¬ ((if x.2 < 0 then -x.2 else x.2) > (B : Int)) := fun z => small (decide_eq_true z)
      split at h <;> (clear sl n1 n6 s1 s8 hB B48 hmm cl ql lt rl small; omega)
     refine ⟨_, gt (G.s _ _ ha) (by decide) rfl, .ref qx, gl (G.s _ _ hb) (by (clear sl n1 n6 s1 s8 hB B48 hmm cl ql lt rl small; omega)) (by simpa using e1), ⟨_, SqL.of (G.s _ _ e2)⟩, ?_⟩
     refine for_by (it_list _ qx rx) (FL a D Qa B n rows H c x xs)
      ⟨v9, v10, v11, v12, kvs, xs, bz, low, high, rfl, G, L.cong (fun i l z => z.elim id fun z => absurd z.2 (Nat.not_lt_zero _)), fun _ _ => rfl, Nat.le_refl _⟩ (fun i σ H4 _ ⟨_, _, _, _, _, _, _, _, _, _, g, _, _, _⟩ => SqL.of (g.s _ _ e2)) ?_ ?_
     ·clear G L ql
      intro j z σ H4 hj hz hh_
      walk_at "B"
      obtain ⟨v9, v10, v11, v12, kvs, xs', bz, low, high, rfl, G4, L4, pre, lle⟩ := hh_
      walk_at "C"
      have hj' : j < rows[x.1].length := by (clear sl n1 n6 s1 s8 hB B48 hmm cl lt small lle; omega)
      walk_at "B"
      obtain ⟨r, r1, r2⟩ := row_at e3 (l := j) (r := rows[x.1][j]) (List.getElem?_eq_getElem hj')
      walk_at "C"
      rw [hz] at r1
      cases r1
      have okr := ok.row _ (List.getElem_mem slt) _ (List.getElem_mem hj')
      have hrow : (rows.getD x.1 [])[j]? = some rows[x.1][j] := by rw [eg]; exact List.getElem?_eq_getElem hj'
      generalize rows[x.1][j] = rw0 at r2 okr hrow
      refine ⟨_, .inl (G4.s _ _ r2), rfl, rfl, ?_⟩
      refine ⟨rw0.1, rfl, ?_⟩
      refine for_by (it_txt rw0.1) (FT a D Qa B c x rw0 low high H4)
       ⟨v12, low, high, by rw [show x.2 + Om.tot (rw0.1.take 0) = x.2 by rw [List.take_zero]; exact Int.add_zero _]; rfl, Same.refl _, Int.le_refl _, Int.le_refl _, (fun j h => absurd h (Nat.not_lt_zero _)), .inl rfl, .inl rfl⟩ (fun _ _ _ _ _ => trivial) ?_ ?_
      ·intro i y σ H5 hi hy hh_
       walk_at "B"
       obtain ⟨v12, lo, hgh, rfl, s5, l1, h1, al, sl', sh'⟩ := hh_
       walk_at "C"
       rw [List.length_map] at hi
       have hb' : rw0.1[i]? = some rw0.1[i] := List.getElem?_eq_getElem hi
       rw [List.getElem?_map, hb'] at hy
       cases hy
       have et : x.2 + Om.tot (rw0.1.take (i + 1)) = x.2 + Om.tot (rw0.1.take i) + Om.stp rw0.1[i] := by rw [List.take_add_one, hb', Om.tot_app]; show _ + (_ + Om.tot [rw0.1[i]]) = _; rw [Om.tot_one]; (clear sl n1 n6 s1 s8 hB B48 hmm cl lt rl small hj lle hj' okr l1 h1 sl' sh'; omega)
       generalize rw0.1[i] = bb at et
       refine ⟨lB_, fun p hp => ?_⟩
       have pk : getV (upd H5 p (.lst [.int (-1), .int 1])) (.ref p) (if decide (bs [bb] = ("1" : Str)) = true then 1 else 0) = some (.int (Om.stp bb)) := by
        cases bb
        ·exact gl upd_same (by decide) rfl
        ·exact gl upd_same (by decide) rfl
       refine ⟨_, pk, ?_⟩
       have sp := s5.trans (Same.upd (o := .lst [.int (-1), .int 1]) hp)
       generalize eth : x.2 + Om.tot (rw0.1.take i) + Om.stp bb = th at et
       refine ⟨_, if th < lo then th else lo, if th > hgh then th else hgh, by rw [et, ← eth]; rfl, sp, ?_, ?_, fun j' hj' => ?_, ?_, ?_⟩
       ·split <;> (clear sl n1 n6 s1 s8 hB B48 hmm cl lt rl small hj lle hj' okr h1 sl' sh' eth et; omega)
       ·split <;> (clear sl n1 n6 s1 s8 hB B48 hmm cl lt rl small hj lle hj' okr l1 sl' sh' eth et; omega)
       ·by_cases e : j' = i
        ·subst e
         rw [et]
         constructor <;> split <;> (clear sl n1 n6 s1 s8 hB B48 hmm cl lt rl small hj lle okr l1 h1 sl' sh' eth et hj'; omega)
        ·have := al j' (by (clear sl n1 n6 s1 s8 hB B48 hmm cl lt rl small hj lle okr l1 h1 sl' sh' eth et; omega))
         constructor <;> split <;> (clear sl n1 n6 s1 s8 hB B48 hmm cl lt rl small hj lle okr l1 h1 sl' sh' eth et hj' e; omega)
       ·split
        ·exact .inr ⟨i, by (clear sl n1 n6 s1 s8 hB B48 hmm cl lt rl small hj lle hj' okr l1 h1 sl' sh' eth et; omega), et.symm⟩
        ·exact sl'.imp id fun ⟨j', h, e⟩ => ⟨j', by (clear sl n1 n6 s1 s8 hB B48 hmm cl lt rl small hj lle hj' okr l1 h1 sl' sh' eth et e; omega), e⟩
       ·split
        ·exact .inr ⟨i, by (clear sl n1 n6 s1 s8 hB B48 hmm cl lt rl small hj lle hj' okr l1 h1 sl' sh' eth et; omega), et.symm⟩
        ·exact sh'.imp id fun ⟨j', h, e⟩ => ⟨j', by (clear sl n1 n6 s1 s8 hB B48 hmm cl lt rl small hj lle hj' okr l1 h1 sl' sh' eth et e; omega), e⟩
      ·intro σ H5 hh_
       walk_at "B"
       obtain ⟨v12, lo, hgh, rfl, s5, l1, h1, al, sl', sh'⟩ := hh_
       walk_at "C"
       rw [List.length_map] at al sl' sh'
       rw [List.length_map, List.take_length]
       have hx' : xs'[c]? = some x := (pre c lt).trans hx
       have tl := tot_le rw0.1
       rw [okr.1] at tl
       have ly : ∀ y ∈ Om.leans rw0.1, ∃ j, j < rw0.1.length ∧ y = Om.tot (rw0.1.take (j + 1)) := fun y hy => by
        unfold Om.leans at hy
        walk_at "B"
        obtain ⟨j, hj, rfl⟩ := List.mem_map.mp hy
        walk_at "C"
        exact ⟨j, List.mem_range.mp hj, rfl⟩
       have yl : ∀ j, j < rw0.1.length → Om.tot (rw0.1.take (j + 1)) ∈ Om.leans rw0.1 := fun j hj => List.mem_map.mpr ⟨j, List.mem_range.mpr hj, rfl⟩
       have L5 := L4.put (low' := lo) (high' := hgh) hx' hrow okr.2 (by (clear sl n1 n6 s1 s8 hB B48 hmm cl lt rl hj lle hj' okr l1 h1 sl' sh'; omega)) (by (clear sl n1 n6 s1 s8 hB B48 hmm cl lt rl hj lle hj' okr l1 h1 sl' sh'; omega)) (fun i l z => by (clear sl n1 n6 s1 s8 hB B48 hmm cl rl small hj hj' okr l1 h1 sl' sh' tl; omega)) l1 h1 (fun y hy => by obtain ⟨j, hj, rfl⟩ := ly y hy; exact al j hj) (sl'.imp id fun ⟨j, hj, e⟩ => ⟨_, yl j hj, e⟩) (sh'.imp id fun ⟨j, hj, e⟩ => ⟨_, yl j hj, e⟩)
       have L5 := L5.cong (ed' := fun i l => i < c ∨ (i = c ∧ l < j + 1)) fun i l z => by (clear sl n1 n6 s1 s8 hB B48 hmm cl lt rl small hj lle hj' okr l1 h1 sl' sh' tl; omega)
       have G5 := G4.mono s5
       generalize x.2 + Om.tot rw0.1 = th at L5
       refine ⟨lB_, fun p hp => ?_⟩
       have G6 := G5.mono (Same.upd (o := .tup [.int (rw0.2 : Nat), .int th]) hp)
       refine ⟨D, _, rfl, DGet.t (k := fkey (rw0.2, th)) G6.hD upd_same, ?_⟩
       rw [G6.kz.has fkey_inj (rw0.2, th)]
       generalize upd H5 p (.tup [.int (rw0.2 : Nat), .int th]) = H6 at G6
       have f6 := few G6.kz.nd L4
       refine ite2 (fun c1 => ?_) (fun c1 => ?_)
       ·have nin : (rw0.2, th) ∉ xs' := by simpa using c1
        refine ⟨lB_, fun p2 hp2 => .inr ⟨D, _, rfl, DPut.t (k := fkey (rw0.2, th)) ((G6.mono (Same.upd hp2)).hD) upd_same (lt_line (by have := G6.kz.len; (clear sl n1 n6 s1 s8 hB B48 hmm cl lt rl small hj lle hj' okr l1 h1 sl' sh' tl c1 nin; omega))), ?_⟩⟩
        have G7 := G6.mono (Same.upd (o := .tup [.int (rw0.2 : Nat), .int th]) hp2)
        generalize upd H6 p2 (.tup [.int (rw0.2 : Nat), .int th]) = H7 at G7
        have DQ : D ≠ Qa := ne_of G7.hD G7.hQ (fun z => nomatch z)
        have hQ8 : upd H7 D (.dT (putK kvs (fkey (rw0.2, th)) (.bl true))) Qa = some (.lst (bz.map V.ref)) := by rw [upd_ne (Ne.symm DQ)]; exact G7.hQ
        refine ⟨⟨_, rfl, hQ8⟩, lB_, fun p3 hp3 => ?_⟩
        have s9 := Same.upd (o := .tup [.int (rw0.2 : Nat), .int th]) hp3
        refine ⟨_, s9 _ _ hQ8, lt_line (by rw [List.length_map, G7.ql]; (clear sl n1 n6 s1 s8 hB B48 hmm cl lt rl small hj lle hj' okr l1 h1 sl' sh' tl c1 nin DQ; omega)), ?_⟩
        have ad : Om.adds xs' (rw0.2, th) = xs' ++ [(rw0.2, th)] := by unfold Om.adds; rw [if_neg nin]
        rw [ad] at L5
        refine ⟨_, _, _, _, _, _, _, _, _, rfl, G7.put nin s9 upd_same, L5, fun i hi => ?_, by rw [List.length_append]; (clear sl n1 n6 s1 s8 hB B48 hmm cl lt rl small hj hj' okr l1 h1 sl' sh' tl f6 c1 nin DQ; omega)⟩
        rw [List.getElem?_append_left (by (clear sl n1 n6 s1 s8 hB B48 hmm cl lt rl small hj hj' okr l1 h1 sl' sh' tl f6 c1 nin DQ; omega))]
        exact pre i hi
       ·have nin : (rw0.2, th) ∈ xs' := by
         by_cases z : (rw0.2, th) ∈ xs'
         ·exact z
         ·exact absurd (by simpa using z) c1
        have ad : Om.adds xs' (rw0.2, th) = xs' := by unfold Om.adds; rw [if_pos nin]
        rw [ad] at L5
        exact ⟨_, _, _, _, _, _, _, _, _, rfl, G6, L5, pre, lle⟩
     ·intro σ H4 hh_
      walk_at "B"
      obtain ⟨v9, v10, v11, v12, kvs, xs', bz, low, high, rfl, G4, L4, pre, lle⟩ := hh_
      walk_at "C"
      refine ⟨_, _, v9, v10, v11, v12, kvs, xs', bz, low, high, rfl, G4, ⟨L4.z, L4.go, L4.bd, fun i l y r hi hy hr => ?_, L4.nl, L4.nh, L4.sl, L4.sh⟩, fun i y hi hy => ?_, by (clear sl n1 n6 s1 s8 hB B48 hmm cl ql rl small; omega)⟩
      ·by_cases e : i = c
       ·subst e
        rw [pre i lt, hx] at hy
        cases hy
        have := (List.getElem?_eq_some_iff.mp hr).1
        rw [eg] at this
        exact L4.cl i l x r (.inr ⟨rfl, by (clear sl n1 n6 s1 s8 hB B48 ql small lle hmm cl lt hi; omega)⟩) ((pre i lt).trans hx) hr
       ·exact L4.cl i l y r (.inl (by (clear sl n1 n6 s1 s8 hB B48 hmm cl ql lt rl small lle; omega))) hy hr
      ·by_cases e : i = c
       ·subst e
        rw [pre i lt, hx] at hy
        cases hy
        exact small
       ·rw [pre i (by (clear sl n1 n6 s1 s8 hB B48 hmm cl ql rl small lle e; omega))] at hy
        exact ts i y (by (clear sl n1 n6 s1 s8 hB B48 hmm cl ql lt rl small lle; omega)) hy
  ·have ge : xs.length ≤ c := by
    by_cases z : c < xs.length
    ·exact absurd (by simpa using z) ge
    ·(clear sl n1 n6 s1 s8 hB B48 hmm cl ql ge; omega)
   refine ⟨lB_, fun p hp => ?_⟩
   exact qt p low high _ (G.s.trans (Same.upd hp)) (G.s.free hp) upd_same (L.end ge ts)
 ·exact h.elim
end

end K21
end
section
set_option Elab.async false
set_option linter.all false
set_option maxRecDepth 100000
set_option maxHeartbeats 4000000
namespace K21
open PySem L2
theorem rch_go {rows : Om.Rows} {s : Nat} (h : Om.Rch (Om.nxR rows) s) : ∃ m x, Go rows 0 m s x := by
 induction h with
 | z => exact ⟨0, 0, .z⟩
 | s h ht ih =>
  walk_at "B"
  obtain ⟨m, x, g⟩ := ih
  walk_at "C"
  unfold Om.nxR at ht
  walk_at "B"
  obtain ⟨r, hr, rfl⟩ := List.mem_map.mp ht
  walk_at "C"
  exact ⟨m + 1, _, .s g hr⟩
section
variable {k n : Nat} {rows : Om.Rows} (ok : Om.CodeOk k n rows) (no : ∀ s, Om.Rch (Om.nxR rows) s → ∀ turn : Int, turn = 1 ∨ turn = -1 → ∃ ks E, Iter rows turn s rows.length ks E ∧ E s ≤ 0)
include ok no
theorem no_loop : ∀ m s x, Om.Rch (Om.nxR rows) s → Go rows s m s x → x = 0 := by
 refine zero_all (S := rows.length) (R := Om.Rch (Om.nxR rows)) (fun s r hs hr => .s hs (List.mem_map.mpr ⟨_, hr, rfl⟩)) (fun s hs => Om.rch_ok ok _ hs) fun s m x hs hm g => ?_
 walk_at "B"
 obtain ⟨ks1, E1, i1, l1⟩ := no s hs 1 (.inl rfl)
 obtain ⟨ks2, E2, i2, l2⟩ := no s hs (-1) (.inr rfl)
 walk_at "C"
 have a1 := (i1.best hm g).2
 have a2 := (i2.best hm g).2
 (clear hm; omega)
theorem short0 {m t : Nat} {x : Int} (g : Go rows 0 m t x) : ∃ m', m' < rows.length ∧ Go rows 0 m' t x :=
 short_all (S := rows.length) (R := Om.Rch (Om.nxR rows)) (fun s r hs hr => .s hs (List.mem_map.mpr ⟨_, hr, rfl⟩)) (fun s hs => Om.rch_ok ok _ hs) (no_loop ok no) m 0 t x .z g
end
theorem if_negQ {c A B : Prop} [Decidable c] (hc : ¬ c) (h : B) : if c then A else B := by rw [if_neg hc]; exact h

end K21
end
section
set_option Elab.async false
set_option linter.all false
set_option maxRecDepth 100000
set_option maxHeartbeats 4000000
namespace K21
open PySem L2
def RchL (rows : Om.Rows) (qs : List Nat) : Prop := qs.Pairwise (· < ·) ∧ (∀ s, s ∈ qs ↔ Om.Rch (Om.nxR rows) s) ∧ qs.length ≤ 8
theorem nat_uniq : ∀ {l m : List Nat}, l.Pairwise (· < ·) → m.Pairwise (· < ·) → (∀ x, x ∈ l ↔ x ∈ m) → l = m
 | [], [], _, _, _ => rfl
 | [], b :: m, _, _, h => absurd ((h b).mpr (List.mem_cons_self ..)) (by simp)
 | a :: l, [], _, _, h => absurd ((h a).mp (List.mem_cons_self ..)) (by simp)
 | a :: l, b :: m, hl, hm, h => by
  rw [List.pairwise_cons] at hl hm
  have e : a = b := by
   rcases List.mem_cons.mp ((h a).mp List.mem_cons_self) with z | z
   ·exact z
   ·rcases List.mem_cons.mp ((h b).mpr List.mem_cons_self) with y | y
    ·exact y.symm
    ·have := hm.1 a z
     have := hl.1 b y
     (clear hl hm; omega)
  subst e
  rw [nat_uniq hl.2 hm.2 fun x => ⟨fun z => ?_, fun z => ?_⟩]
  ·rcases List.mem_cons.mp ((h x).mp (List.mem_cons_of_mem _ z)) with y | y
   ·have := hl.1 x z
    (clear hl hm; omega)
   ·exact y
  ·rcases List.mem_cons.mp ((h x).mpr (List.mem_cons_of_mem _ z)) with y | y
   ·have := hm.1 x z
    (clear hl hm; omega)
   ·exact y
theorem RchL.uniq {rows : Om.Rows} {qs qs' : List Nat} (h : RchL rows qs) (h' : RchL rows qs') : qs = qs' := nat_uniq h.1 h'.1 fun s => (h.2.1 s).trans (h'.2.1 s).symm
def NoLoop (rows : Om.Rows) : Prop := ∀ s, Om.Rch (Om.nxR rows) s → ∀ turn : Int, turn = 1 ∨ turn = -1 → ∃ ks E, Iter rows turn s rows.length ks E ∧ E s ≤ 0
def Loops (rows : Om.Rows) : Prop := ∃ (s : Nat) (turn : Int) (ks : List Nat) (E : Nat → Int), Om.Rch (Om.nxR rows) s ∧ (turn = 1 ∨ turn = -1) ∧ Iter rows turn s rows.length ks E ∧ 0 < E s

end K21
end
section
set_option Elab.async false
set_option linter.all false
set_option maxRecDepth 100000
set_option maxHeartbeats 4000000
namespace K21
open PySem L2
def prowD (p : Int × Int × Int) : PyData := .tuple [.int p.1, .int p.2.1, .int p.2.2]
def papD (ps : List (Int × Int × Int)) : PyData := .list (ps.map prowD)
theorem prow_at {H : Hp} {rs : List V} {ps : List (Int × Int × Int)} (h : DVs H rs (ps.map prowD)) {i : Nat} {p : Int × Int × Int} (hl : ps[i]? = some p) : ∃ b, rs[i]? = some (.ref b) ∧ H b = some (.tup [.int p.1, .int p.2.1, .int p.2.2]) := by
 obtain ⟨x, hx, d⟩ := h.get (i := i) (d := prowD p) (by rw [List.getElem?_map, hl]; rfl)
 walk_at "B"
 obtain ⟨b, xs, rfl, hb, hd⟩ := d.tup_inv
 walk_at "C"
 cases hd with
 | cons h1 hd => cases hd with
  | cons h2 hd => cases hd with
   | cons h3 hd => cases hd with
    | nil => cases h1; cases h2; cases h3; exact ⟨b, hx, hb⟩
theorem prowD_ok (p : Int × Int × Int) : (prowD p).canLay0 = true ∧ (prowD p).depth ≤ 1 := ⟨rfl, Nat.le_refl _⟩
theorem papD_shaped (ps : List (Int × Int × Int)) : SeqAt.shaped (papD ps) = true := by
 refine shaped_list (k := 1) (fun d hd => ?_) (fun d hd => ?_) (by decide)
 ·obtain ⟨n, _, rfl⟩ := List.mem_map.mp hd; exact (prowD_ok n).1
 ·obtain ⟨n, _, rfl⟩ := List.mem_map.mp hd; exact (prowD_ok n).2
theorem papD_eq (ps : List (Int × Int × Int)) : PyData.eqv (papD ps) (papD ps) = true := SeqAt.eqv_refl _ (by
 rw [papD, PyData.canLay0]
 refine lay_all fun d hd => ?_
 walk_at "B"
 obtain ⟨n, _, rfl⟩ := List.mem_map.mp hd
 walk_at "C"
 exact (prowD_ok n).1)
def papOf (qs : List Nat) (L U : Nat → Int) : List (Int × Int × Int) := qs.map fun s => (((s : Nat) : Int), L s, U s)
theorem papOf_at {qs : List Nat} {L U : Nat → Int} {i : Nat} (h : i < qs.length) : (papOf qs L U)[i]? = some (((qs[i] : Nat) : Int), L qs[i], U qs[i]) := by unfold papOf; rw [List.getElem?_map, List.getElem?_eq_getElem h]; rfl
theorem papOf_len (qs : List Nat) (L U : Nat → Int) : (papOf qs L U).length = qs.length := List.length_map _

end K21
end
section
set_option Elab.async false
set_option linter.all false
set_option maxRecDepth 100000
set_option maxHeartbeats 4000000
namespace K21
open PySem L2
structure Bd (H : Hp) (kvs : List (Key × V)) (qs : List Nat) (L U : Nat → Int) : Prop where
 kz : KS nk kvs qs
 vl : ∀ s ∈ qs, ∃ t, valV kvs (nk s) = some (.ref t) ∧ H t = some (.tup [.int (L s), .int (U s)])
theorem Bd.mono {H H' : Hp} {kvs : List (Key × V)} {qs : List Nat} {L U : Nat → Int} (h : Bd H kvs qs L U) (s : Same H H') : Bd H' kvs qs L U := ⟨h.kz, fun x hx => let ⟨t, a, b⟩ := h.vl x hx; ⟨t, a, s _ _ b⟩⟩
structure Shw (rows : Om.Rows) (b0 b1 : Int) (qs : List Nat) (L U : Nat → Int) : Prop where
 z : b0 ≤ 0 ∧ 0 ≤ b1
 z0 : L 0 ≤ 0 ∧ 0 ≤ U 0
 le : ∀ s ∈ qs, L s ≤ U s
 st : ∀ s ∈ qs, ∀ r ∈ rows.getD s [], (∀ y ∈ Om.leans r.1, b0 ≤ L s + y ∧ U s + y ≤ b1) ∧ L r.2 ≤ L s + Om.tot r.1 ∧ U s + Om.tot r.1 ≤ U r.2
theorem Bd.put {H : Hp} {D t : Addr} {kvs : List (Key × V)} {qs : List Nat} {L U : Nat → Int} {s : Nat} (h : Bd H kvs qs L U) (hD : H D = some (.dK kvs)) (ns : s ∉ qs) (ht : H t = some (.tup [.int (L s), .int (U s)])) : Bd (upd H D (.dK (putK kvs (nk s) (.ref t)))) (putK kvs (nk s) (.ref t)) (qs ++ [s]) L U := by
 have off : ∀ {b : Addr} {ys : List V}, H b = some (.tup ys) → upd H D (.dK (putK kvs (nk s) (.ref t))) b = some (.tup ys) := fun {b ys} h => by rw [upd_ne (ne_of h hD (fun z => nomatch z))]; exact h
 have kp := h.kz.put (fun a b h => nk_inj h) s (.ref t)
 unfold Om.adds at kp
 rw [if_neg ns] at kp
 refine ⟨kp, fun x hx => ?_⟩
 by_cases e : x = s
 ·subst e
  exact ⟨t, by rw [valV_put, if_pos rfl], off ht⟩
 ·walk_at "B"
  obtain ⟨t', a, b⟩ := h.vl x ((List.mem_append.mp hx).resolve_right (fun z => e (by simpa using z)))
  walk_at "C"
  exact ⟨t', by rw [valV_put, if_neg (fun z => e (nk_inj z))]; exact a, off b⟩
theorem pw_not {qs : List Nat} (h : qs.Pairwise (· < ·)) {i : Nat} (hi : i < qs.length) : qs[i] ∉ qs.take i := fun z => by
 walk_at "B"
 obtain ⟨j, hj, e⟩ := List.mem_iff_getElem.mp z
 walk_at "C"
 rw [List.length_take] at hj
 rw [List.getElem_take] at e
 have := List.pairwise_iff_getElem.mp h j i (by (clear e; omega)) hi (by (clear e; omega))
 omega

end K21
end
section
set_option Elab.async false
set_option linter.all false
set_option maxRecDepth 100000
set_option maxHeartbeats 4000000
namespace L2
open PySem PySem.StrLaws Builtin Builtin.Str
end L2
end
section
set_option Elab.async false
set_option linter.all false
set_option maxRecDepth 100000
set_option maxHeartbeats 4000000
namespace L2
open PySem PySem.Spec PyProof.Rows Builtin Builtin.Str
section
variable {X : Cx} {p pos apos : Pos} {a b c e o : Expr} {es : List Expr} {t : TA} {to : TE}
end
end L2
end
section
set_option Elab.async false
set_option linter.all false
set_option maxRecDepth 100000
set_option maxHeartbeats 4000000
namespace Om
end Om
namespace L2
open PySem PySem.Spec PyProof.Rows
section
variable {H0 H : Hp} {L q : Addr} {ts : List Addr} {yss : Nat → List Nat}
end
end L2
namespace L2
open PySem PySem.Spec PyProof.Rows
section
variable {X : Cx}
end
end L2
namespace Om
end Om
namespace L2
open PySem PySem.Spec PyProof.Rows
end L2
end
section
set_option Elab.async false
set_option linter.all false
set_option maxRecDepth 100000
set_option maxHeartbeats 4000000
namespace Om
end Om
namespace L2
open PySem PySem.Spec PyProof.Rows
end L2
namespace L2
end L2
namespace L2
end L2
end
section
set_option Elab.async false
set_option linter.all false
set_option maxRecDepth 100000
set_option maxHeartbeats 4000000
namespace L2
open PySem PySem.Spec PyProof.Rows
section
variable {X : Cx} {p pos : Pos}
end
end L2
namespace Om
end Om
end
section
set_option Elab.async false
set_option linter.all false
set_option maxRecDepth 100000
set_option maxHeartbeats 4000000
namespace L2
open PySem PySem.Spec PyProof.Rows
end L2
namespace L2
open PySem PySem.Spec PyProof.Rows
end L2
namespace L2
open PySem PySem.Spec PyProof.Rows
def woA (a : Addr) (H : Hp) : Hp := fun x => if x = a then none else H x
theorem woA.same {a : Addr} {H : Hp} : Same (woA a H) H := fun x u e => by
 unfold woA at e
 split at e
 ·cases e
 ·exact e
theorem woA.at {a x : Addr} {H : Hp} {u : HO} (h : H x = some u) (n : x ≠ a) : woA a H x = some u := by unfold woA; rw [if_neg n]; exact h
end L2
end
section
set_option Elab.async false
set_option linter.all false
set_option maxRecDepth 100000
set_option maxHeartbeats 4000000
namespace L2
open PySem PySem.Spec PyProof.Rows
section
variable {X : Cx} {p pos apos : Pos} {a b e o : Expr} {es : List Expr} {t : TA} {to : TE}
def rMinL : List V → Hp → VK → Prop := fun vs H Q => match vs with
 | [.ref p] => ∃ ns : List Int, H p = some (.lst (ns.map V.int)) ∧ ns ≠ [] ∧ ∀ M, M ∈ ns → (∀ a ∈ ns, M ≤ a) → Q (.int M) H
 | _ => False
theorem call_minL (hc : X.calm = true) : CallR X (.builtin "min") rMinL := by
 intro pins s σ H xs us Q I r h
 unfold rMinL at h
 split at h
 ·rename_i p
  walk_at "B"
  obtain ⟨ns, hH, hne, q⟩ := h
  obtain ⟨u, rfl, r1⟩ := vals1 r
  walk_at "C"
  cases r1
  walk_at "B"
  obtain ⟨z, its, n, rv, e⟩ := I.hok p _ hH
  walk_at "C"
  have hI := vals_intsA rv
  obtain ⟨ps, hps⟩ := hI.allInts.items
  have hl : s.heap.IsList p (intItems ps) := hps ▸ ⟨_, e, rfl, _, rfl⟩
  have hn : ps.toList.map (·.1) = ns := by
   rw [← nums_intItems, ← hps]
   exact hI.numsOf
  have hsz : 0 < ps.size := by
   rcases Nat.eq_zero_or_pos ps.size with z | z
   ·exfalso
    apply hne
    rw [← hn, List.map_eq_nil_iff, ← List.length_eq_zero_iff, Array.length_toList]; exact z
   ·exact z
  refine min_intList (I.ok.hd hc) hl hsz fun v h' tk hv hk => ?_
  obtain ⟨t, rfl⟩ := intItems_at hv
  obtain ⟨h1, h2⟩ := argBest_lt (numAt ps) (ps.size - 1)
  refine ⟨.int _, H, I.kept hk, ⟨_, rfl⟩, q _ ?_ fun a ha => ?_⟩
  ·rw [numAt_eq, ← hn]; exact getD_mem (by rw [List.length_map, Array.length_toList]; (clear hc z; omega))
  ·rw [← hn] at ha
   walk_at "B"
   obtain ⟨j, hj, rfl⟩ := mem_getD ha
   walk_at "C"
   rw [List.length_map, Array.length_toList] at hj
   rw [← numAt_eq]; exact h2 j (by (clear hc z hsz h1; omega))
 ·exact h.elim
theorem fn_minL {mg' : Str → Option Value} (hm : mg' "min" = none) (hX : X.mg = mg') (ha : PA X (e :: es) t) (hc : X.calm = true := by kernel_rfl) (hg : gB X "min" = true := by kernel_rfl) (he : starEach (e :: es) X.env = (false, eval e X.env) :: starEach es X.env := by kernel_rfl) (hpl : (backTo pos (starEach es X.env)).any (·.1) = false := by kernel_rfl) :
  PE X (.Call (.Name "min" p) (e :: es) [] pos) (tCB rMinL t) := pe_callB (call_minL hc) (gl_of hg) (by rw [hX]; exact hm) PyProof.Rows.boot_min ha (he := he) (hpl := hpl)
end
end L2
end
section
set_option Elab.async false
set_option linter.all false
set_option maxRecDepth 100000
set_option maxHeartbeats 4000000
namespace K21
open PySem L2
section
variable {P : Program} {w : World} {K : PySem.W.Frag} {mg : Str → Option Value} {base : Heap}
abbrev sIsWh : Stmt := top 1
def spIsWh : Sp := fun vs H Q _ => match vs with
 | [.int _] => Q (.bl true) H
 | _ => False
theorem scIsWh : FnScope ["thing"] ["thing"] (defScope sIsWh) := ⟨rfl, rfl, rfl, by decide +kernel, rfl, by decide +kernel, by decide +kernel⟩
local macro_rules | `(tactic| walk_at "T.n") => `(tactic| with_reducible first | exact vn "thing" 0)
theorem ok_isWh (D : FnX K mg "is_whole" sIsWh ["thing"]) (g1 : mg "isinstance" = none) (g2 : mg "int" = none) (g3 : mg "bool" = none) : Can P w K mg base "is_whole" 1 ["thing"] spIsWh := by
 refine can_fn (k := 0) D scIsWh (fun vs H Q E h => ?_) (fun f cdv A outer s H vs Q E hr h => ?_)
 all_goals
  unfold spIsWh at h
  split at h
 ·rfl
 ·exact h.elim
 ·have nd := scIsWh.nd
  refine ⟨_, (by walk_at "T.top1"), ?_⟩
  refine ⟨"int", rfl, by decide, ?_⟩
  refine iteP (by decide) ?_
  refine ⟨"int", rfl, by decide, ?_⟩
  exact h
 ·exact h.elim
abbrev sWholes : Stmt := top 10
def spWholes : Sp := fun vs H Q _ => match vs with
 | [.ref p, .int c] => ∃ zs : List Int, H p = some (.tup (zs.map V.int)) ∧ c = (zs.length : Nat) ∧ zs.length ≤ 10 ∧ ∀ H', Same H H' → Q (.bl true) H'
 | _ => False
theorem scWholes : FnScope ["thing", "count"] ["thing", "count"] (defScope sWholes) := ⟨rfl, rfl, rfl, by decide +kernel, rfl, by decide +kernel, by decide +kernel⟩
local macro_rules | `(tactic| walk_at "T.n") => `(tactic| with_reducible first | exact vn "thing" 0 | exact vn "count" 1)
local macro_rules | `(tactic| walk_at "T.n") => `(tactic| with_reducible first | exact vn "one" 0)
local macro_rules | `(tactic| walk_at "T.gn") => `(tactic| with_reducible first | exact gn "one" 0 (by walk_at "A"))
local macro_rules | `(tactic| walk_at "T.c") => `(tactic| (have ndc : (["one"] : List Str).Nodup := (by decide +kernel)); ((with_reducible refine' c_comp ["one"] [] ?b1 ?b2 (fun cl C s H fp => ?b3) (fun cl C s H fp => ?b4) (fun cl C s H fp => ?b5)); (case b1 => exact ndc); (case b2 => walk_at "T.i"); (case b3 => walk_at "T.g"); (case b4 => walk_at "T.pf"); (case b5 => walk_at "T.e")))
local macro_rules | `(tactic| walk_at "T.i") => `(tactic| ((with_reducible refine' pi_tup ?a1); (case a1 => walk_at "T.e")))
theorem ok_wholes (D : FnX K mg "is_wholes" sWholes ["thing", "count"]) (g1 : mg "isinstance" = none) (g2 : mg "tuple" = none) (g3 : mg "len" = none) (g4 : mg "all" = none) (c1 : Can P w K mg base "is_whole" 1 ["thing"] spIsWh) : Can P w K mg base "is_wholes" 2 ["thing", "count"] spWholes := by
 refine can_fn (k := 1) D scWholes (fun vs H Q E h => ?_) (fun f cdv A outer s H vs Q E hr h => ?_)
 all_goals
  unfold spWholes at h
  split at h
 ·rfl
 ·exact h.elim
 ·rename_i p c
  walk_at "B"
  obtain ⟨zs, hp, rfl, z10, q⟩ := h
  walk_at "C"
  have nd := scWholes.nd
  refine ⟨_, (by walk_at "T.top1"), ?_⟩
  have ty : tyN H (.ref p) = some "tuple" := by simp [tyN, hp]
  refine ⟨"tuple", ty, by decide, ?_⟩
  refine iteP (by decide) ?_
  refine ⟨zs.length, by simp [lenV, hp], ?_⟩
  refine iteP (by simp) ?_
  refine ⟨p, rfl, ⟨_, SqT.of hp⟩, fun L hL => ?_⟩
  have pL : p ≠ L := ne_of_none hp hL
  refine comp_by (it_tup _ p (zs.map V.int)) (fun i τ H2 ys => (∃ v, τ = [v]) ∧ H2 = upd H L (.lst ys) ∧ ys = (List.replicate i true).map V.bl) (le_line (by rw [List.length_map]; omega)) ⟨⟨none, rfl⟩, rfl, rfl⟩ ?_ ?_ ?_
  ·intro i τ H2 ys hi hh_
   walk_at "B"
   obtain ⟨_, rfl, rfl⟩ := hh_
   walk_at "C"
   exact ⟨SqT.of (by rw [upd_ne pL]; exact hp), upd_same, by simp⟩
  ·intro i x τ H2 ys hi hx hh_
   walk_at "B"
   obtain ⟨⟨v, rfl⟩, rfl, rfl⟩ := hh_
   walk_at "C"
   rw [List.getElem?_map] at hx
   walk_at "B"
   obtain ⟨z, hz, rfl⟩ := Option.map_eq_some_iff.mp hx
   walk_at "C"
   refine ⟨upd_same, ⟨_, rfl⟩, upd_upd, ?_⟩
   simp [List.replicate_succ']
  ·intro τ H2 ys hh_
   walk_at "B"
   obtain ⟨_, rfl, rfl⟩ := hh_
   walk_at "C"
   refine ⟨_, upd_same, ?_⟩
   rw [show (List.replicate (zs.map V.int).length true).all id = true by simp]
   exact q _ (Same.upd hL)
 ·exact h.elim
end

end K21
end
section
set_option Elab.async false
set_option linter.all false
set_option maxRecDepth 100000
set_option maxHeartbeats 4000000
namespace K21
open PySem L2
theorem gneg {H : Hp} {l : Addr} {ws : List Bool} (hl : H l = some (.lst ((Om.leans ws).map V.int))) (h : 0 < ws.length) : getV H (.ref l) (-1) = some (.int (Om.tot ws)) := by
 have ll := Om.leans_last (ws := ws) h
 rw [getV_lst hl]
 unfold atI ixN
 rw [if_neg (by decide), List.length_map, Om.leans_len, if_pos (by omega)]
 show ((Om.leans ws).map V.int)[((-1 : Int) + (ws.length : Nat)).toNat]? = _
 rw [show ((-1 : Int) + (ws.length : Nat)).toNat = ws.length - 1 by omega, List.getElem?_map, ll]
 rfl

end K21
end
section
set_option Elab.async false
set_option linter.all false
set_option maxRecDepth 100000
set_option maxHeartbeats 4000000
namespace K21
open PySem L2
section
variable {P : Program} {w : World} {K : PySem.W.Frag} {mg : Str → Option Value} {base : Heap}
abbrev sIsPap : Stmt := top 9
def spIsPap (P0 : Addr) : Sp := fun vs H Q _ => match vs with
 | [cv, .ref l] => ∃ (k n : Nat) (rows : Om.Rows) (ps : List (Int × Int × Int)), DV H cv (codeD k n rows) ∧ Om.CodeOk k n rows ∧ Tab P0 (lamPos lamSt) qSt H ∧ DV H (.ref l) (papD ps) ∧ ps.length ≤ 50 ∧
   ∀ qs H', SameT P0 H H' → Tab P0 (lamPos lamSt) qSt H' → RchL rows qs → Q (.bl (decide (ps.map (·.1) = qs.map fun s => ((s : Nat) : Int)))) H'
 | _ => False
theorem scIsPap : FnScope ["code", "paper"] ["code", "paper"] (defScope sIsPap) := ⟨rfl, rfl, rfl, by decide +kernel, rfl, by decide +kernel, by decide +kernel⟩
local macro_rules | `(tactic| walk_at "T.n") => `(tactic| with_reducible first | exact vn "code" 0 | exact vn "paper" 1)
local macro_rules | `(tactic| walk_at "T.n") => `(tactic| with_reducible first | exact vn "row" 0)
local macro_rules | `(tactic| walk_at "T.gn") => `(tactic| with_reducible first | exact gn "row" 0 (by walk_at "A"))
local macro_rules | `(tactic| walk_at "T.c") => `(tactic| (have ndc : (["row"] : List Str).Nodup := (by decide +kernel)); ((with_reducible refine' c_comp ["row"] [] ?b1 ?b2 (fun cl C s H fp => ?b3) (fun cl C s H fp => ?b4) (fun cl C s H fp => ?b5)); (case b1 => exact ndc); (case b2 => walk_at "T.i"); (case b3 => walk_at "T.g"); (case b4 => walk_at "T.pf"); (case b5 => walk_at "T.e")))
theorem ok_isPap {P0 : Addr} (D : FnX K mg "is_paper" sIsPap ["code", "paper"]) (g1 : mg "isinstance" = none) (g2 : mg "list" = none) (g4 : mg "all" = none) (c1 : Can P w K mg base "is_wholes" 2 ["thing", "count"] spWholes) (c2 : Can P w K mg base "reached" 4 ["code"] (spReached P0)) : Can P w K mg base "is_paper" 5 ["code", "paper"] (spIsPap P0) := by
 refine can_fn (k := 4) D scIsPap (fun vs H Q E h => ?_) (fun f cdv A outer s H vs Q E hr h => ?_)
 all_goals
  unfold spIsPap at h
  split at h
 ·rfl
 ·exact h.elim
 ·rename_i cv l
  walk_at "B"
  obtain ⟨k, n, rows, ps, hc, ok, tb, hd, p50, q⟩ := h
  walk_at "C"
  have nd := scIsPap.nd
  walk_at "B"
  obtain ⟨l', rs, e, hl, dr⟩ := hd.lst_inv
  walk_at "C"
  cases e
  have rl : rs.length = ps.length := by rw [dr.length, List.length_map]
  have pr : ∀ i (hi : i < ps.length), ∃ b, rs[i]? = some (.ref b) ∧ H b = some (.tup [.int ps[i].1, .int ps[i].2.1, .int ps[i].2.2]) := fun i hi => prow_at dr (List.getElem?_eq_getElem hi)
  refine ⟨_, (by walk_at "T.top"), ?_⟩
  have ty : tyN H (.ref l) = some "list" := by simp [tyN, hl]
  refine ⟨"list", ty, by decide, ?_⟩
  refine ite2 (fun z => absurd z (by decide)) (fun _ => ?_)
  refine ⟨⟨_, SqL.of hl⟩, fun C hC => ?_⟩
  refine comp_by (it_list _ l rs) (fun i τ H2 ys => (∃ v, τ = [v]) ∧ Same H H2 ∧ H2 C = some (.lst ys) ∧ ys = (List.replicate i true).map V.bl) (le_line (by omega)) ⟨⟨none, rfl⟩, Same.upd hC, upd_same, rfl⟩ ?_ ?_ ?_
  ·intro i τ H2 ys hi hh_
   walk_at "B"
   obtain ⟨_, s2, h2, rfl⟩ := hh_
   walk_at "C"
   exact ⟨SqL.of (s2 _ _ hl), h2, by simp⟩
  ·intro i x τ H2 ys hi hx hh_
   walk_at "B"
   obtain ⟨⟨v, rfl⟩, s2, h2, rfl⟩ := hh_
   walk_at "C"
   have hi' : i < ps.length := by (clear p50; omega)
   walk_at "B"
   obtain ⟨b, b1, b2⟩ := pr i hi'
   walk_at "C"
   rw [hx] at b1
   cases b1
   refine ⟨[ps[i].1, ps[i].2.1, ps[i].2.2], s2 _ _ b2, rfl, by simp, fun H3 s3 => ?_⟩
   refine ⟨s3 _ _ h2, ⟨_, rfl⟩, (s2.trans s3).own hC, upd_same, ?_⟩
   simp [List.replicate_succ']
  ·intro τ H2 ys hh_
   walk_at "B"
   obtain ⟨_, s2, h2, rfl⟩ := hh_
   walk_at "C"
   refine ⟨_, h2, ?_⟩
   rw [show (List.replicate rs.length true).all id = true by simp]
   refine ite2 (fun z => absurd z (by decide)) (fun _ => ?_)
   refine ⟨⟨_, SqL.of (s2 _ _ hl)⟩, fun F hF => ?_⟩
   refine comp_by (it_list _ l rs) (fun i τ H3 ys => (∃ v, τ = [v]) ∧ H3 = upd H2 F (.lst ys) ∧ ys = ((ps.take i).map (·.1)).map V.int) (le_line (by omega)) ⟨⟨none, rfl⟩, rfl, rfl⟩ ?_ ?_ ?_
   ·intro i τ H3 ys hi hh_
    walk_at "B"
    obtain ⟨_, rfl, rfl⟩ := hh_
    walk_at "C"
    exact ⟨SqL.of (by rw [upd_ne (ne_of_none (s2 _ _ hl) hF)]; exact s2 _ _ hl), upd_same, by rw [List.length_map, List.length_map, List.length_take]; (clear p50 rl hi; omega)⟩
   ·intro i x τ H3 ys hi hx hh_
    walk_at "B"
    obtain ⟨⟨v, rfl⟩, rfl, rfl⟩ := hh_
    walk_at "C"
    have hi' : i < ps.length := by (clear p50; omega)
    walk_at "B"
    obtain ⟨b, b1, b2⟩ := pr i hi'
    walk_at "C"
    rw [hx] at b1
    cases b1
    refine ⟨_, gt (by rw [upd_ne (ne_of_none (s2 _ _ b2) hF)]; exact s2 _ _ b2) (by decide) rfl, upd_same, ⟨_, rfl⟩, upd_upd, ?_⟩
    rw [List.take_add_one, List.getElem?_eq_getElem hi', List.map_append, List.map_append]
    rfl
   ·intro τ H3 ys hh_
    walk_at "B"
    obtain ⟨_, rfl, rfl⟩ := hh_
    walk_at "C"
    rw [rl, List.take_length]
    have s3 := s2.trans (Same.upd (o := .lst ((ps.map (·.1)).map V.int)) hF)
    have hF3 : upd H2 F (.lst ((ps.map (·.1)).map V.int)) F = some (.lst ((ps.map (·.1)).map V.int)) := upd_same
    generalize upd H2 F (.lst ((ps.map (·.1)).map V.int)) = H3 at s3 hF3
    have t3 := tb.mono s3
    refine ⟨k, n, rows, hc.mono s3, ok, t3, fun l4 qs4 H4 s4 t4 nl4 hl4 pw4 rc4 l48 => ?_⟩
    have FP : F ≠ P0 := fun z => by obtain ⟨ps, e⟩ := t3.tbl; rw [z, e] at hF3; cases hF3
    refine ⟨_, _, ints_DV (s4 _ _ FP hF3), ints_DV (ns := qs4.map fun s => ((s : Nat) : Int)) (by rw [hl4, List.map_map]; rfl), ints_shaped _, ints_shaped _, ?_⟩
    rw [eqv_ints]
    exact q _ _ (s3.t.trans s4) t4 ⟨pw4, rc4, l48⟩
 ·exact h.elim
end

end K21
end
section
set_option Elab.async false
set_option linter.all false
set_option maxRecDepth 100000
set_option maxHeartbeats 4000000
namespace K21
open PySem L2
section
variable {P : Program} {w : World} {K : PySem.W.Frag} {mg : Str → Option Value} {base : Heap}
def Kps (rows : Om.Rows) (b0 b1 : Int) (L U : Nat → Int) (s : Nat) : Prop := L s ≤ U s ∧ ∀ r ∈ rows.getD s [], (∀ y ∈ Om.leans r.1, b0 ≤ L s + y ∧ U s + y ≤ b1) ∧ L r.2 ≤ L s + Om.tot r.1 ∧ U s + Om.tot r.1 ≤ U r.2
abbrev sKeeps : Stmt := top 8
def spKeeps : Sp := fun vs H Q _ => match vs with
 | [cv, .ref bo, .ref D, .int st] => ∃ (k n : Nat) (rows : Om.Rows) (qs : List Nat) (L U : Nat → Int) (b0 b1 : Int) (kvs : List (Key × V)) (s : Nat), DV H cv (codeD k n rows) ∧ Om.CodeOk k n rows ∧ RchL rows qs ∧ H bo = some (.tup [.int b0, .int b1]) ∧ Rd H D (.dK kvs) ∧ Bd H kvs qs L U ∧ st = (s : Nat) ∧ s ∈ qs ∧ ∀ b H', Same H H' → (b = true ↔ Kps rows b0 b1 L U s) → Q (.bl b) H'
 | _ => False
theorem scKeeps : FnScope ["code", "both", "bounds", "state", "low", "high", "row", "leans", "to"] ["code", "both", "bounds", "state"] (defScope sKeeps) := ⟨rfl, rfl, rfl, by decide +kernel, rfl, by decide +kernel, by decide +kernel⟩
local macro_rules | `(tactic| walk_at "T.n") => `(tactic| with_reducible first | exact vn "code" 0 | exact vn "both" 1 | exact vn "bounds" 2 | exact vn "state" 3 | exact vn "low" 4 | exact vn "high" 5 | exact vn "row" 6 | exact vn "leans" 7 | exact vn "to" 8)
local macro_rules | `(tactic| walk_at "T.gn") => `(tactic| with_reducible first | exact gn "low" 4 (by walk_at "A") | exact gn "high" 5 (by walk_at "A") | exact gn "row" 6 (by walk_at "A") | exact gn "leans" 7 (by walk_at "A") | exact gn "to" 8 (by walk_at "A"))
local macro_rules | `(tactic| walk_at "T.b") => `(tactic| first | ((with_reducible refine' fn_maxL ?a0 ?a9 ?a1); (case a0 => with_reducible assumption); (case a9 => rfl); (case a1 => walk_at "T.a")) | ((with_reducible refine' fn_minL ?a0 ?a9 ?a1); (case a0 => with_reducible assumption); (case a9 => rfl); (case a1 => walk_at "T.a")) | fail "no")
local macro_rules | `(tactic| walk_at "T.e") => `(tactic| ((with_reducible refine' ix_atD ?a0 ?a1 ?a2); (case a0 => exact Room.units (by assumption)); (case a1 => with_reducible exact vn "bounds" 2); (case a2 => walk_at "T.e")))
theorem ok_keeps (D : FnX K mg "keeps_within" sKeeps ["code", "both", "bounds", "state"]) (g1 : mg "min" = none) (g2 : mg "max" = none) (c1 : Can P w K mg base "leans_in" 1 ["word"] spLeans) : Can P w K mg base "keeps_within" 2 ["code", "both", "bounds", "state"] spKeeps := by
 refine can_fn (k := 1) D scKeeps (fun vs H Q E h => ?_) (fun f cdv A outer s H vs Q E hr h => ?_)
 all_goals
  unfold spKeeps at h
  split at h
 ·rfl
 ·exact h.elim
 ·rename_i cv bo D st
  walk_at "B"
  obtain ⟨k, n, rows, qs, L, U, b0, b1, kvs, s, hc, ok, rc, hbo, hD, bd, rfl, sm, q⟩ := h
  walk_at "C"
  have nd := scKeeps.nd
  walk_at "B"
  obtain ⟨a, b, ss, rfl, ha, hbb, hss⟩ := code_inv hc
  walk_at "C"
  have slt : s < rows.length := Om.rch_ok ok _ ((rc.2.1 s).mp sm)
  walk_at "B"
  obtain ⟨qx, rx, e1, e2, e3⟩ := state_at hss (s := s) (st := rows[s]) (List.getElem?_eq_getElem slt)
  walk_at "C"
  have rl : rx.length = rows[s].length := by rw [e3.length, List.length_map]
  have eg : rows.getD s [] = rows[s] := by rw [List.getD_eq_getElem?_getD, List.getElem?_eq_getElem slt]; rfl
  have dg : ∀ {H' : Hp}, Same H H' → ∀ x ∈ qs, ∃ t, DGet H' D (.int (x : Nat)) (some (.ref t)) ∧ H' t = some (.tup [.int (L x), .int (U x)]) := fun {H'} sm x hx => by
   walk_at "B"
   obtain ⟨t, a1, a2⟩ := bd.vl x hx
   walk_at "C"
   exact ⟨t, .inl ⟨kvs, nk x, hD.elim (fun z => .inl (sm _ _ z)) (fun ⟨o, z⟩ => .inr ⟨o, sm _ _ z⟩), rfl, a1.symm⟩, sm _ _ a2⟩
  refine ⟨_, (by walk_at "T.top"), ?_⟩
  walk_at "B"
  obtain ⟨t0, d0, h0⟩ := dg (Same.refl _) s sm
  walk_at "C"
  refine .inr ⟨D, .ref t0, rfl, d0, _, gt h0 (by decide) rfl, ?_⟩
  refine .inr ⟨D, .ref t0, rfl, d0, _, gt h0 (by decide) rfl, ?_⟩
  refine ite2 (fun z => q false _ (Same.refl _) ⟨(fun y => nomatch y), fun y => ?_⟩) (fun z => ?_)
  ·have z : L s > U s := of_decide_eq_true z
   have := y.1
   (clear rl; omega)
  have le : L s ≤ U s := Int.not_lt.mp fun y => z (decide_eq_true (show L s > U s from y))
  refine ⟨_, gt ha (by decide) rfl, .ref qx, gl hbb (by (clear rl z le; omega)) (by simpa using e1), ⟨_, SqL.of e2⟩, ?_⟩
  refine for_by (it_list _ qx rx) (fun j σ H4 => ∃ (v6 v7 v8 : Option V), σ = [some (.ref a), some (.ref bo), some (.ref D), some (.int (s : Nat)), some (.int (L s)), some (.int (U s)), v6, v7, v8] ∧ Same H H4 ∧ ∀ r ∈ rows[s].take j, (∀ y ∈ Om.leans r.1, b0 ≤ L s + y ∧ U s + y ≤ b1) ∧ L r.2 ≤ L s + Om.tot r.1 ∧ U s + Om.tot r.1 ≤ U r.2)
   ⟨none, none, none, rfl, Same.refl _, fun r hr => by simp at hr⟩ (fun i σ H4 _ ⟨_, _, _, _, s4, _⟩ => SqL.of (s4 _ _ e2)) ?_ ?_
  ·intro j z σ H4 hj hz hh_
   walk_at "B"
   obtain ⟨v6, v7, v8, rfl, s4, al⟩ := hh_
   walk_at "C"
   have hj' : j < rows[s].length := by (clear le; omega)
   walk_at "B"
   obtain ⟨r, r1, r2⟩ := row_at e3 (l := j) (r := rows[s][j]) (List.getElem?_eq_getElem hj')
   walk_at "C"
   rw [hz] at r1
   cases r1
   have okr := ok.row _ (List.getElem_mem slt) _ (List.getElem_mem hj')
   have hrow : rows[s][j] ∈ rows.getD s [] := by rw [eg]; exact List.getElem_mem hj'
   have tk : rows[s].take (j + 1) = rows[s].take j ++ [rows[s][j]] := by rw [List.take_add_one, List.getElem?_eq_getElem hj']; rfl
   rw [tk]
   generalize rows[s][j] = rw0 at r2 okr hrow
   have n1 := ok.n1
   have n6 := ok.n6
   have tq : rw0.2 ∈ qs := (rc.2.1 _).mpr (.s ((rc.2.1 s).mp sm) (List.mem_map.mpr ⟨_, hrow, rfl⟩))
   have bad : ∀ {H' : Hp}, Same H H' → ¬ ((∀ y ∈ Om.leans rw0.1, b0 ≤ L s + y ∧ U s + y ≤ b1) ∧ L rw0.2 ≤ L s + Om.tot rw0.1 ∧ U s + Om.tot rw0.1 ≤ U rw0.2) → Q (.bl false) H' := fun {H'} s' no => q false _ s' ⟨(fun y => nomatch y), fun y => absurd (y.2 _ hrow) no⟩
   refine ⟨.str (bs rw0.1), gt (s4 _ _ r2) (by decide) rfl, rw0.1, rfl, by (clear rl z le hj n1; omega), fun l H5 s5 nl hl5 => ?_⟩
   have S5 := s4.trans s5
   walk_at "B"
   obtain ⟨t1, d1, h1⟩ := dg S5 _ tq
   walk_at "C"
   have lne : Om.leans rw0.1 ≠ [] := fun z => by
    have := congrArg List.length z
    rw [Om.leans_len, okr.1] at this
    simp at this
    (clear rl le hj okr n6; omega)
   refine ⟨.int (rw0.2 : Nat), gt (S5 _ _ r2) (by decide) rfl, .inr ⟨D, .ref t1, rfl, d1, ?_⟩⟩
   refine ⟨_, hl5, lne, fun m1 hm1 lm1 => ?_⟩
   refine ⟨_, gt (S5 _ _ hbo) (by decide) rfl, ?_⟩
   refine ite2 (fun z => bad S5 fun y => ?_) (fun z1 => ?_)
   ·have z : L s + m1 < b0 := of_decide_eq_true z
    have := (y.1 m1 hm1).1
    (clear rl le hj okr n1 n6 y; omega)
   refine ⟨_, hl5, lne, fun m2 hm2 lm2 => ?_⟩
   refine ⟨_, gt (S5 _ _ hbo) (by decide) rfl, ?_⟩
   refine ite2 (fun z => bad S5 fun y => ?_) (fun z2 => ?_)
   ·have z : U s + m2 > b1 := of_decide_eq_true z
    have := (y.1 m2 hm2).2
    (clear rl le hj okr n1 n6 z1 y; omega)
   refine ⟨_, gneg hl5 (by (clear rl z le hj n6 z1 z2; omega)), _, gt h1 (by decide) rfl, ?_⟩
   refine ite2 (fun z => bad S5 fun y => ?_) (fun z3 => ?_)
   ·have z : L s + Om.tot rw0.1 < L rw0.2 := of_decide_eq_true z
    have := y.2.1
    (clear rl le hj okr n1 n6 z1 z2 this; omega)
   refine ⟨_, gneg hl5 (by (clear rl z le hj n6 z1 z2 z3; omega)), _, gt h1 (by decide) rfl, ?_⟩
   refine ite2 (fun z => bad S5 fun y => ?_) (fun z4 => ?_)
   ·have z : U s + Om.tot rw0.1 > U rw0.2 := of_decide_eq_true z
    have := y.2.2
    (clear rl le hj okr n1 n6 z1 z2 z3 y; omega)
   refine ⟨_, _, _, rfl, S5, fun r hr => ?_⟩
   rcases List.mem_append.mp hr with x | x
   ·exact al r x
   ·rw [show r = rw0 by simpa using x]
    have z1 : ¬ L s + m1 < b0 := fun y => z1 (decide_eq_true y)
    have z2 : ¬ U s + m2 > b1 := fun y => z2 (decide_eq_true y)
    have z3 : ¬ L s + Om.tot rw0.1 < L rw0.2 := fun y => z3 (decide_eq_true y)
    have z4 : ¬ U s + Om.tot rw0.1 > U rw0.2 := fun y => z4 (decide_eq_true y)
    refine ⟨fun y hy => ?_, by (clear rl z le hj okr n1 n6 z1 z2 z4; omega), by (clear rl z le hj okr n1 n6 z1 z2 z3; omega)⟩
    have a1 := lm1 y hy
    have a2 := lm2 y hy
    (clear rl z le hj okr n1 n6 z3 z4; omega)
  ·intro σ H4 hh_
   walk_at "B"
   obtain ⟨v6, v7, v8, rfl, s4, al⟩ := hh_
   walk_at "C"
   rw [rl, List.take_length] at al
   refine q true _ s4 ⟨fun _ => ⟨le, fun r hr => al r (by rwa [eg] at hr)⟩, fun _ => rfl⟩
 ·exact h.elim
end

end K21
end
section
set_option Elab.async false
set_option linter.all false
set_option maxRecDepth 100000
set_option maxHeartbeats 4000000
namespace K21
open PySem L2
section
variable {P : Program} {w : World} {K : PySem.W.Frag} {mg : Str → Option Value} {base : Heap}
def ShP (rows : Om.Rows) (b0 b1 : Int) (ps : List (Int × Int × Int)) : Prop := ∃ qs L U, RchL rows qs ∧ ps = papOf qs L U ∧ Shw rows b0 b1 qs L U
theorem pap_any : ∀ {qs : List Nat} {ps : List (Int × Int × Int)}, qs.Nodup → ps.map (·.1) = qs.map (fun s => ((s : Nat) : Int)) → ∃ L U, ps = papOf qs L U
 | [], ps, _, h => ⟨fun _ => 0, fun _ => 0, by simpa [papOf] using h⟩
 | q :: qs, [], _, h => by simp at h
 | q :: qs, p :: ps, nd, h => by
  rw [List.map_cons, List.map_cons, List.cons.injEq] at h
  rw [List.nodup_cons] at nd
  walk_at "B"
  obtain ⟨L, U, e⟩ := pap_any nd.2 h.2
  walk_at "C"
  refine ⟨fun s => if s = q then p.2.1 else L s, fun s => if s = q then p.2.2 else U s, ?_⟩
  unfold papOf at e ⊢
  rw [List.map_cons]
  dsimp only
  rw [if_pos rfl, if_pos rfl, ← h.1]
  refine congrArg (List.cons p) (e.trans (List.map_congr_left fun s hs => ?_))
  have : s ≠ q := fun z => nd.1 (z ▸ hs)
  rw [if_neg this, if_neg this]
theorem papOf_fst (qs : List Nat) (L U : Nat → Int) : (papOf qs L U).map (·.1) = qs.map (fun s => ((s : Nat) : Int)) := by unfold papOf; rw [List.map_map]; rfl
theorem pw_nodup {qs : List Nat} (h : qs.Pairwise (· < ·)) : qs.Nodup := h.imp (fun x => Nat.ne_of_lt x)
theorem shw_iff {rows : Om.Rows} {b0 b1 : Int} {qs : List Nat} {L U : Nat → Int} (rc : RchL rows qs) : ShP rows b0 b1 (papOf qs L U) ↔ (b0 ≤ 0 ∧ 0 ≤ b1) ∧ (L 0 ≤ 0 ∧ 0 ≤ U 0) ∧ ∀ s ∈ qs, Kps rows b0 b1 L U s := by
 constructor
 ·intro hh_
  walk_at "B"
  obtain ⟨qs', L', U', rc', e, sw⟩ := hh_
  walk_at "C"
  have eq := rc'.uniq rc
  subst eq
  unfold papOf at e
  have ag : ∀ s ∈ qs', L s = L' s ∧ U s = U' s := fun s hs => by
   have := List.map_inj_left.mp e s hs
   injection this with _ this
   injection this with a b
   exact ⟨a, b⟩
  have z0 : 0 ∈ qs' := (rc.2.1 0).mpr .z
  refine ⟨sw.z, by rw [(ag 0 z0).1, (ag 0 z0).2]; exact sw.z0, fun s hs => ?_⟩
  refine ⟨by rw [(ag s hs).1, (ag s hs).2]; exact sw.le s hs, fun r hr => ?_⟩
  have tq : r.2 ∈ qs' := (rc.2.1 _).mpr (.s ((rc.2.1 s).mp hs) (List.mem_map.mpr ⟨_, hr, rfl⟩))
  rw [(ag s hs).1, (ag s hs).2, (ag _ tq).1, (ag _ tq).2]
  exact sw.st s hs r hr
 ·intro hh_
  walk_at "B"
  obtain ⟨z, z0, al⟩ := hh_
  walk_at "C"
  exact ⟨qs, L, U, rc, rfl, z, z0, fun s hs => (al s hs).1, fun s hs => (al s hs).2⟩
abbrev sShows : Stmt := top 7
def spShows (P0 : Addr) : Sp := fun vs H Q _ => match vs with
 | [cv, .ref bo, .ref l] => ∃ (k n : Nat) (rows : Om.Rows) (ps : List (Int × Int × Int)) (b0 b1 : Int), DV H cv (codeD k n rows) ∧ Om.CodeOk k n rows ∧ Tab P0 (lamPos lamSt) qSt H ∧ DV H (.ref l) (papD ps) ∧ ps.length ≤ 50 ∧ H bo = some (.tup [.int b0, .int b1]) ∧
   ∀ b H', SameT P0 H H' → Tab P0 (lamPos lamSt) qSt H' → (b = true ↔ ShP rows b0 b1 ps) → Q (.bl b) H'
 | _ => False
theorem scShows : FnScope ["code", "both", "paper", "bounds", "state", "low", "high"] ["code", "both", "paper"] (defScope sShows) := ⟨rfl, rfl, rfl, by decide +kernel, rfl, by decide +kernel, by decide +kernel⟩
local macro_rules | `(tactic| walk_at "T.n") => `(tactic| with_reducible first | exact vn "code" 0 | exact vn "both" 1 | exact vn "paper" 2 | exact vn "bounds" 3 | exact vn "state" 4 | exact vn "low" 5 | exact vn "high" 6)
local macro_rules | `(tactic| walk_at "T.gn") => `(tactic| with_reducible first | exact gn "bounds" 3 (by walk_at "A") | exact gn "state" 4 (by walk_at "A") | exact gn "low" 5 (by walk_at "A") | exact gn "high" 6 (by walk_at "A"))
local macro_rules | `(tactic| walk_at "T.n") => `(tactic| with_reducible first | exact vn "state" 0 | exact vn "code" 1 | exact vn "both" 2 | exact vn "bounds" 3)
local macro_rules | `(tactic| walk_at "T.gn") => `(tactic| with_reducible first | exact gn "state" 0 (by walk_at "A"))
local macro_rules | `(tactic| walk_at "T.c") => `(tactic| (have ndc : (["state", "code", "both", "bounds"] : List Str).Nodup := (by decide +kernel)); ((with_reducible refine' c_comp ["state", "code", "both", "bounds"] [0, 1, 3] ?b1 ?b2 (fun cl C s H fp => ?b3) (fun cl C s H fp => ?b4) (fun cl C s H fp => ?b5)); (case b1 => exact ndc); (case b2 => walk_at "T.i"); (case b3 => walk_at "T.g"); (case b4 => walk_at "T.pf"); (case b5 => walk_at "T.e")))
local macro_rules | `(tactic| walk_at "T.n") => `(tactic| with_reducible first | exact vn "code" 0 | exact vn "both" 1 | exact vn "paper" 2 | exact vn "bounds" 3 | exact vn "state" 4 | exact vn "low" 5 | exact vn "high" 6)
local macro_rules | `(tactic| walk_at "T.gn") => `(tactic| with_reducible first | exact gn "bounds" 3 (by walk_at "A") | exact gn "state" 4 (by walk_at "A") | exact gn "low" 5 (by walk_at "A") | exact gn "high" 6 (by walk_at "A"))
local macro_rules | `(tactic| walk_at "T.n") => `(tactic| with_reducible first | exact vn "code" 0 | exact vn "both" 1 | exact vn "paper" 2 | exact vn "bounds" 3 | exact vn "state" 4 | exact vn "low" 5 | exact vn "high" 6 | exact vn "state" 0 | exact vn "code" 1 | exact vn "both" 2)
local macro_rules | `(tactic| walk_at "T.gn") => `(tactic| with_reducible first | exact gn "bounds" 3 (by walk_at "A") | exact gn "state" 4 (by walk_at "A") | exact gn "low" 5 (by walk_at "A") | exact gn "high" 6 (by walk_at "A") | exact gn "state" 0 (by walk_at "A"))
local macro_rules | `(tactic| walk_at "T.e") => `(tactic| first | (with_reducible exact pe_dnewK) | ((with_reducible refine' ix_atD ?a0 ?a1 ?a2); (case a0 => exact Room.units (by assumption)); (case a1 => with_reducible exact vn "bounds" 3); (case a2 => walk_at "T.e")) | fail "no")
local macro_rules | `(tactic| walk_at "T.g") => `(tactic| ((with_reducible refine' g_subD ?a0 ?a1 ?a2); (case a0 => exact Room.units (by assumption)); (case a1 => with_reducible exact vn "bounds" 3); (case a2 => walk_at "T.e")))
local macro_rules | `(tactic| walk_at "T.i") => `(tactic| ((with_reducible refine' pi_lstH ?a1); (case a1 => with_reducible exact vn "bounds" 3)))
theorem ok_shows {P0 : Addr} (D : FnX K mg "lean_shows" sShows ["code", "both", "paper"]) (g1 : mg "all" = none) (c1 : Can P w K mg base "is_wholes" 2 ["thing", "count"] spWholes) (c2 : Can P w K mg base "is_paper" 5 ["code", "paper"] (spIsPap P0)) (c3 : Can P w K mg base "keeps_within" 2 ["code", "both", "bounds", "state"] spKeeps) : Can P w K mg base "lean_shows" 6 ["code", "both", "paper"] (spShows P0) := by
 refine can_fn (k := 5) D scShows (fun vs H Q E h => ?_) (fun f cdv A outer s H vs Q E hr h => ?_)
 all_goals
  unfold spShows at h
  split at h
 ·rfl
 ·exact h.elim
 ·rename_i cv bo l
  walk_at "B"
  obtain ⟨k, n, rows, ps, b0, b1, hc, ok, tb, hd, p50, hbo, q⟩ := h
  walk_at "C"
  have nd := scShows.nd
  refine ⟨_, (by walk_at "T.top"), ?_⟩
  refine ⟨[b0, b1], hbo, rfl, by simp, fun H1 s1 => ?_⟩
  refine ite2 (fun z => absurd z (by decide)) (fun _ => ?_)
  refine ⟨k, n, rows, ps, hc.mono s1, ok, tb.mono s1, hd.mono s1, p50, fun qs H2 s2 t2 rc => ?_⟩
  have S2 := s1.t.trans s2
  refine ite2 (fun z => ?_) (fun z => ?_)
  ·refine q false _ S2 t2 ⟨(fun y => nomatch y), fun ⟨qs', L', U', rc', e, _⟩ => ?_⟩
   have eq := rc'.uniq rc
   subst eq
   rw [e, papOf_fst, decide_eq_true rfl] at z
   cases z
  have efs : ps.map (·.1) = qs.map (fun s => ((s : Nat) : Int)) := Classical.byContradiction fun y => z (by rw [decide_eq_false y]; rfl)
  walk_at "B"
  obtain ⟨L, U, rfl⟩ := pap_any (pw_nodup rc.1) efs
  walk_at "C"
  have hc2 := (hc.mono s1).monoT (tb.mono s1) s2
  have hd2 := (hd.mono s1).monoT (tb.mono s1) s2
  have boP : bo ≠ P0 := fun z => by obtain ⟨ps, e⟩ := tb.tbl; rw [z, e] at hbo; cases hbo
  have hbo2 := S2 _ _ boP hbo
  walk_at "B"
  obtain ⟨l', rs, e, hl, dr⟩ := hd2.lst_inv
  walk_at "C"
  cases e
  have rl : rs.length = qs.length := by rw [dr.length, List.length_map, papOf_len]
  have q8 := rc.2.2
  have fin := fun {b : Bool} {H' : Hp} (x1 : SameT P0 H H') (x2 : Tab P0 (lamPos lamSt) qSt H') (x3 : b = true ↔ (b0 ≤ 0 ∧ 0 ≤ b1) ∧ (L 0 ≤ 0 ∧ 0 ≤ U 0) ∧ ∀ s ∈ qs, Kps rows b0 b1 L U s) => q b H' x1 x2 (x3.trans (shw_iff rc).symm)
  intro B hB
  have sB : Same H2 (upd H2 B (.dK [])) := Same.upd hB
  refine ⟨⟨_, SqL.of (sB _ _ hl)⟩, ?_⟩
  refine for_by (it_list _ l rs) (fun i σ H3 => ∃ (v4 v5 v6 : Option V) (kvs : List (Key × V)), σ = [some cv, some (.ref bo), some (.ref l), some (.ref B), v4, v5, v6] ∧ Same H2 H3 ∧ H3 B = some (.dK kvs) ∧ Bd H3 kvs (qs.take i) L U)
   ⟨none, none, none, [], rfl, sB, upd_same, KS.nil, fun x hx => by simp at hx⟩ (fun i σ H3 _ ⟨_, _, _, _, _, s3, _⟩ => SqL.of (s3 _ _ hl)) ?_ ?_
  ·intro i x σ H3 hi hx hh_
   walk_at "B"
   obtain ⟨v4, v5, v6, kvs, rfl, s3, hB3, bd3⟩ := hh_
   walk_at "C"
   have hi' : i < qs.length := by (clear p50 z boP q8; omega)
   walk_at "B"
   obtain ⟨b, b1', b2⟩ := prow_at dr (papOf_at (L := L) (U := U) hi')
   walk_at "C"
   rw [hx] at b1'
   cases b1'
   refine ⟨_, .inl (s3 _ _ b2), rfl, rfl, ?_⟩
   refine ⟨lB_, fun p hp => ?_⟩
   have bd4 := bd3.mono (Same.upd (o := .tup [.int (L qs[i]), .int (U qs[i])]) hp)
   have hB4 := Same.upd (o := .tup [.int (L qs[i]), .int (U qs[i])]) hp _ _ hB3
   have kl := bd3.kz.len
   rw [List.length_take] at kl
   refine .inr ⟨B, _, rfl, DPut.k (k := nk qs[i]) hB4 (lt_line (by (clear p50 z boP rl hi; omega))), ?_⟩
   refine ⟨_, _, _, _, rfl, (s3.trans (Same.upd hp)).own hB, upd_same, ?_⟩
   rw [List.take_add_one, List.getElem?_eq_getElem hi']
   exact bd4.put hB4 (pw_not rc.1 hi') upd_same
  ·intro σ H3 hh_
   walk_at "B"
   obtain ⟨v4, v5, v6, kvs, rfl, s3, hB3, bd3⟩ := hh_
   walk_at "C"
   rw [rl, List.take_length] at bd3
   have z0 : 0 ∈ qs := (rc.2.1 0).mpr .z
   have S3 := S2.trans s3.t
   have t3 := t2.mono s3
   walk_at "B"
   obtain ⟨t0, a1, a2⟩ := bd3.vl 0 z0
   walk_at "C"
   have d0 : DGet H3 B (.int ((0 : Nat) : Int)) (some (.ref t0)) := .inl ⟨kvs, nk 0, .inl hB3, rfl, a1.symm⟩
   have no : ¬ ((b0 ≤ 0 ∧ 0 ≤ b1) ∧ (L 0 ≤ 0 ∧ 0 ≤ U 0)) → Q (.bl false) H3 := fun x => fin S3 t3 ⟨(fun y => nomatch y), fun y => absurd ⟨y.1, y.2.1⟩ x⟩
   refine ⟨_, gt (s3 _ _ hbo2) (by decide) rfl, ?_⟩
   by_cases c1 : b0 ≤ 0
   rotate_left
   ·refine iteN (decide_eq_false c1) ?_
    exact iteP (by decide) (iteP (by decide) (no (fun x => c1 x.1.1)))
   refine iteP (decide_eq_true c1) ?_
   refine ⟨_, gt (s3 _ _ hbo2) (by decide) rfl, ?_⟩
   dsimp only [rN0]
   by_cases c2 : 0 ≤ b1
   rotate_left
   ·rw [decide_eq_false c2]
    exact iteP (by decide) (iteP (by decide) (no (fun x => c2 x.1.2)))
   rw [decide_eq_true c2]
   refine ite2 (fun z => absurd z (by decide)) (fun _ => ?_)
   refine .inr ⟨B, .ref t0, rfl, d0, _, gt a2 (by decide) rfl, ?_⟩
   by_cases c3 : L 0 ≤ 0
   rotate_left
   ·refine iteN (decide_eq_false c3) ?_
    exact iteP (by decide) (no (fun x => c3 x.2.1))
   refine iteP (decide_eq_true c3) ?_
   refine .inr ⟨B, .ref t0, rfl, d0, _, gt a2 (by decide) rfl, ?_⟩
   dsimp only [rN0]
   by_cases c4 : 0 ≤ U 0
   rotate_left
   ·rw [decide_eq_false c4]
    exact iteP (by decide) (no (fun x => c4 x.2.2))
   rw [decide_eq_true c4]
   refine ite2 (fun z => absurd z (by decide)) (fun _ => ?_)
   refine ⟨kvs, .inl hB3, fun o H4 hB4 s4 => ?_⟩
   have BP : B ≠ P0 := fun z => by obtain ⟨ps, e⟩ := t2.tbl; rw [z, e] at hB; cases hB
   have S4 : Same H2 H4 := fun b u z => s4 _ _ (ne_of_none z hB) (s3 _ _ z)
   have bd4 : Bd H4 kvs qs L U := ⟨bd3.kz, fun x hx => let ⟨t, a, b⟩ := bd3.vl x hx; ⟨t, a, s4 _ _ (ne_of b hB3 (fun z => nomatch z)) b⟩⟩
   have ek : (kvs.map fun p => kV p.1) = qs.map fun s => V.int (s : Nat) := by
    have : (kvs.map fun p => kV p.1) = (kvs.map (·.1)).map kV := by rw [List.map_map]; rfl
    rw [this, bd3.kz.ks, List.map_map]; rfl
   rw [ek]
   intro C hC
   refine comp_by (it_keys B o _) (fun i τ H5 ys => (∃ v, τ = [v, some cv, some (.ref bo), some (.ref B)]) ∧ Same H4 H5 ∧ H5 C = some (.lst ys) ∧ ∃ bz : List Bool, bz.length = i ∧ ys = bz.map V.bl ∧ (bz.all id = true ↔ ∀ s ∈ qs.take i, Kps rows b0 b1 L U s)) (le_line (by rw [List.length_map]; (clear p50 z boP rl no c1 c2 c3 c4 BP; omega))) ⟨⟨none, rfl⟩, Same.upd hC, upd_same, [], rfl, rfl, fun _ s hs => by simp at hs, fun _ => rfl⟩ ?_ ?_ ?_
   ·intro i τ H5 ys hi hh_
    walk_at "B"
    obtain ⟨_, s5, h5, bz, bl, rfl, _⟩ := hh_
    walk_at "C"
    exact ⟨⟨_, s5 _ _ hB4⟩, h5, by simp [bl]⟩
   ·intro i x τ H5 ys hi hx hh_
    walk_at "B"
    obtain ⟨⟨v, rfl⟩, s5, h5, bz, bl, rfl, bi⟩ := hh_
    walk_at "C"
    rw [List.length_map] at hi
    rw [List.getElem?_map, List.getElem?_eq_getElem hi] at hx
    cases hx
    refine ⟨k, n, rows, qs, L, U, b0, b1, kvs, qs[i], hc2.mono (S4.trans s5), ok, rc, (S4.trans s5) _ _ hbo2, .inr ⟨o, s5 _ _ hB4⟩, bd4.mono s5, rfl, List.getElem_mem hi, fun b H6 s6 hb => ?_⟩
    refine ⟨s6 _ _ h5, ⟨_, rfl⟩, (s5.trans s6).own hC, upd_same, bz ++ [b], by simp [bl], by simp, ?_⟩
    rw [List.take_add_one, List.getElem?_eq_getElem hi, List.all_append, Bool.and_eq_true, bi]
    constructor
    ·rintro ⟨x1, x2⟩ s hs
     rcases List.mem_append.mp hs with y | y
     ·exact x1 s y
     ·rw [show s = qs[i] by simpa using y]; exact hb.mp (by simpa using x2)
    ·intro x
     exact ⟨fun s hs => x s (List.mem_append.mpr (.inl hs)), by simpa using hb.mpr (x _ (List.mem_append.mpr (.inr (by simp))))⟩
   ·intro τ H5 ys hh_
    walk_at "B"
    obtain ⟨_, s5, h5, bz, bl, rfl, bi⟩ := hh_
    walk_at "C"
    rw [List.length_map, List.take_length] at bi
    refine ⟨_, h5, ?_⟩
    exact fin (S2.trans (S4.trans s5).t) (t2.mono (S4.trans s5)) (bi.trans ⟨fun x => ⟨⟨c1, c2⟩, ⟨c3, c4⟩, x⟩, fun x => x.2.2⟩)
 ·exact h.elim
end

end K21
end
section
set_option Elab.async false
set_option linter.all false
set_option maxRecDepth 100000
set_option maxHeartbeats 4000000
namespace K21
open PySem L2
section
variable {P : Program} {w : World} {K : PySem.W.Frag} {mg : Str → Option Value} {base : Heap}
theorem rch_ks {k n : Nat} {rows : Om.Rows} (ok : Om.CodeOk k n rows) (no : NoLoop rows) {turn : Int} {ks : List Nat} {E : Nat → Int} (it : Iter rows turn 0 rows.length ks E) {s : Nat} (h : Om.Rch (Om.nxR rows) s) : s ∈ ks := by
 walk_at "B"
 obtain ⟨m, x, g⟩ := rch_go h
 obtain ⟨m', hm, g'⟩ := short0 ok no g
 walk_at "C"
 exact (it.best (Nat.le_of_lt hm) g').1
abbrev sLPap : Stmt := top 6
def spLPap (P0 : Addr) : Sp := fun vs H Q _ => match vs with
 | [cv] => ∃ (k n : Nat) (rows : Om.Rows), DV H cv (codeD k n rows) ∧ Om.CodeOk k n rows ∧ Tab P0 (lamPos lamSt) qSt H ∧
   (∀ H', SameT P0 H H' → Tab P0 (lamPos lamSt) qSt H' → Loops rows → Q .non H') ∧
   ∀ l (bz : List V) (qs ks1 ks2 : List Nat) (E1 E2 : Nat → Int) H', SameT P0 H H' → Tab P0 (lamPos lamSt) qSt H' → H l = none → H' l = some (.lst bz) → DVs H' bz ((papOf qs (fun s => -E1 s) E2).map prowD) → RchL rows qs → NoLoop rows → Iter rows (-1) 0 rows.length ks1 E1 → Iter rows 1 0 rows.length ks2 E2 → Q (.ref l) H'
 | _ => False
theorem scLPap : FnScope ["code", "low", "high"] ["code"] (defScope sLPap) := ⟨rfl, rfl, rfl, by decide +kernel, rfl, by decide +kernel, by decide +kernel⟩
local macro_rules | `(tactic| walk_at "T.n") => `(tactic| with_reducible first | exact vn "code" 0 | exact vn "low" 1 | exact vn "high" 2)
local macro_rules | `(tactic| walk_at "T.gn") => `(tactic| with_reducible first | exact gn "low" 1 (by walk_at "A") | exact gn "high" 2 (by walk_at "A"))
local macro_rules | `(tactic| walk_at "T.n") => `(tactic| with_reducible first | exact vn "state" 0 | exact vn "low" 1 | exact vn "high" 2)
local macro_rules | `(tactic| walk_at "T.gn") => `(tactic| with_reducible first | exact gn "state" 0 (by walk_at "A"))
local macro_rules | `(tactic| walk_at "T.c") => `(tactic| (have ndc : (["state", "low", "high"] : List Str).Nodup := (by decide +kernel)); ((with_reducible refine' c_comp ["state", "low", "high"] [1, 2] ?b1 ?b2 (fun cl C s H fp => ?b3) (fun cl C s H fp => ?b4) (fun cl C s H fp => ?b5)); (case b1 => exact ndc); (case b2 => walk_at "T.i"); (case b3 => walk_at "T.g"); (case b4 => walk_at "T.pf"); (case b5 => walk_at "T.e")))
local macro_rules | `(tactic| walk_at "T.n") => `(tactic| with_reducible first | exact vn "code" 0 | exact vn "low" 1 | exact vn "high" 2)
local macro_rules | `(tactic| walk_at "T.gn") => `(tactic| with_reducible first | exact gn "low" 1 (by walk_at "A") | exact gn "high" 2 (by walk_at "A"))
local macro_rules | `(tactic| walk_at "T.n") => `(tactic| with_reducible first | exact vn "code" 0 | exact vn "low" 1 | exact vn "high" 2 | exact vn "state" 0)
local macro_rules | `(tactic| walk_at "T.gn") => `(tactic| with_reducible first | exact gn "low" 1 (by walk_at "A") | exact gn "high" 2 (by walk_at "A") | exact gn "state" 0 (by walk_at "A"))
local macro_rules | `(tactic| walk_at "T.e") => `(tactic| first | ((with_reducible refine' ix_atD ?a0 ?a1 ?a2); (case a0 => exact Room.units (by assumption)); (case a1 => with_reducible exact vn "low" 1); (case a2 => walk_at "T.e")) | ((with_reducible refine' ix_atD ?a0 ?a1 ?a2); (case a0 => exact Room.units (by assumption)); (case a1 => with_reducible exact vn "high" 2); (case a2 => walk_at "T.e")) | fail "no")
theorem ok_lpap {P0 : Addr} (D : FnX K mg "lean_paper" sLPap ["code"]) (c1 : Can P w K mg base "leaning_loop" 5 ["code"] (spLoop P0)) (c2 : Can P w K mg base "farthest_ends" 3 ["code", "start", "turn"] spFarE) (c3 : Can P w K mg base "reached" 4 ["code"] (spReached P0)) : Can P w K mg base "lean_paper" 6 ["code"] (spLPap P0) := by
 refine can_fn (k := 5) D scLPap (fun vs H Q E h => ?_) (fun f0 cdv A outer s H vs Q X hr h => ?_)
 all_goals
  unfold spLPap at h
  split at h
 ·rfl
 ·exact h.elim
 ·rename_i cv
  walk_at "B"
  obtain ⟨k, n, rows, hc, ok, tb, qn, qt⟩ := h
  walk_at "C"
  have nd := scLPap.nd
  refine ⟨_, (by walk_at "T.top"), ?_⟩
  refine ⟨k, n, rows, hc, ok, tb, fun H1 s1 t1 no => ?_, fun t H1 s1 t1 yes => ?_⟩
  ·dsimp only [tC, rIsNotU]
   refine if_negQ (by simp) ?_
   have hc1 := hc.monoT tb s1
   refine ⟨k, n, rows, 0, hc1, ok, rfl, ok.s1, .inr rfl, fun d1 o1 kv1 ks1 E1 H2 s2 nd1 hd1 en1 it1 => ?_⟩
   have hc2 := hc1.mono s2
   have t2 := t1.mono s2
   refine ⟨k, n, rows, 0, hc2, ok, rfl, ok.s1, .inl rfl, fun d2 o2 kv2 ks2 E2 H3 s3 nd2 hd2 en2 it2 => ?_⟩
   have hc3 := hc2.mono s3
   have t3 := t2.mono s3
   have hd1 := s3 _ _ hd1
   have en1 := en1.mono s3
   refine ⟨k, n, rows, hc3, ok, t3, fun l qs H4 s4 t4 nl hl pw rcq l8 => ?_⟩
   have dP1 : d1 ≠ P0 := fun z => by obtain ⟨ps, e⟩ := t3.tbl; rw [z, e] at hd1; cases hd1
   have dP2 : d2 ≠ P0 := fun z => by obtain ⟨ps, e⟩ := t3.tbl; rw [z, e] at hd2; cases hd2
   have hd1 := s4 _ _ dP1 hd1
   have hd2 := s4 _ _ dP2 hd2
   have nt : ∀ xs, H3 P0 ≠ some (.tup xs) := fun xs z => by obtain ⟨ps, e⟩ := t3.tbl; rw [e] at z; cases z
   have nll : ∀ xs, H3 P0 ≠ some (.lst xs) := fun xs z => by obtain ⟨ps, e⟩ := t3.tbl; rw [e] at z; cases z
   have en1 := en1.monoT nt nll s4
   have en2 := en2.monoT nt nll s4
   have S4 : SameT P0 H H4 := ((s1.trans s2.t).trans s3.t).trans s4
   refine ⟨⟨_, SqL.of hl⟩, fun C hC => ?_⟩
   have lC : l ≠ C := ne_of_none hl hC
   refine comp_by (it_list _ l (qs.map fun s => V.int (s : Nat))) (fun i τ H5 ys => (∃ v, τ = [v, some (.ref d1), some (.ref d2)]) ∧ Same H4 H5 ∧ H5 C = some (.lst ys) ∧ ys.length = i ∧ DVs (woA C H5) ys ((papOf (qs.take i) (fun s => -E1 s) E2).map prowD)) (le_line (by rw [List.length_map]; (clear dP1 dP2 lC; omega))) ⟨⟨none, rfl⟩, Same.upd hC, upd_same, rfl, .nil⟩ ?_ ?_ ?_
   ·intro i τ H5 ys hi hh_
    walk_at "B"
    obtain ⟨_, s5, h5, yl, _⟩ := hh_
    walk_at "C"
    exact ⟨SqL.of (s5 _ _ hl), h5, by (clear l8 dP1 dP2 lC hi; omega)⟩
   ·intro i x τ H5 ys hi hx hh_
    walk_at "B"
    obtain ⟨⟨v, rfl⟩, s5, h5, yl, dv⟩ := hh_
    walk_at "C"
    rw [List.length_map] at hi
    rw [List.getElem?_map, List.getElem?_eq_getElem hi] at hx
    cases hx
    have sr := (rcq _).mp (List.getElem_mem hi)
    walk_at "B"
    obtain ⟨t1', l1, zs1, a1, a2, _, _⟩ := en1.vl _ (rch_ks ok no it1 sr)
    obtain ⟨t2', l2, zs2, b1, b2, _, _⟩ := en2.vl _ (rch_ks ok no it2 sr)
    walk_at "C"
    have g1 : DGet H5 d1 (.int (qs[i] : Nat)) (some (.ref t1')) := .inl ⟨kv1, nk qs[i], .inr ⟨o1, s5 _ _ hd1⟩, rfl, a1.symm⟩
    have g2 : DGet H5 d2 (.int (qs[i] : Nat)) (some (.ref t2')) := .inl ⟨kv2, nk qs[i], .inr ⟨o2, s5 _ _ hd2⟩, rfl, b1.symm⟩
    refine .inr ⟨d1, .ref t1', rfl, g1, _, gt (s5 _ _ a2) (by decide) rfl, ?_⟩
    refine .inr ⟨d2, .ref t2', rfl, g2, _, gt (s5 _ _ b2) (by decide) rfl, ?_⟩
    refine ⟨lB_, fun p hp => ?_⟩
    have Cp : C ≠ p := ne_of_none h5 hp
    refine ⟨by rw [upd_ne Cp]; exact h5, ⟨_, rfl⟩, (s5.trans (Same.upd hp)).own hC, upd_same, by simp [yl], ?_⟩
    have sm : Same (woA C H5) (woA C (upd (upd H5 p (.tup [.int (qs[i] : Nat), .int (-E1 qs[i]), .int (E2 qs[i])])) C (.lst (ys ++ [.ref p])))) := fun b o e => by
     have bC : b ≠ C := fun z => by rw [z] at e; unfold woA at e; rw [if_pos rfl] at e; cases e
     refine woA.at ?_ bC
     rw [upd_ne bC]
     exact Same.upd hp _ _ (woA.same _ _ e)
    have et : papOf (qs.take (i + 1)) (fun s => -E1 s) E2 = papOf (qs.take i) (fun s => -E1 s) E2 ++ [(((qs[i] : Nat) : Int), -E1 qs[i], E2 qs[i])] := by
     unfold papOf
     rw [List.take_add_one, List.getElem?_eq_getElem hi, List.map_append]; rfl
    rw [et, List.map_append]
    exact (dv.mono sm).app (.cons (.tup (woA.at (by rw [upd_ne (Ne.symm Cp), upd_same]) (Ne.symm Cp)) (.cons (.int _) (.cons (.int _) (.cons (.int _) .nil)))) .nil)
   ·intro τ H5 ys hh_
    walk_at "B"
    obtain ⟨_, s5, h5, yl, dv⟩ := hh_
    walk_at "C"
    rw [List.length_map, List.take_length] at dv
    have CP : C ≠ P0 := fun z => by obtain ⟨ps, e⟩ := t4.tbl; rw [z, e] at hC; cases hC
    exact qt C ys qs ks1 ks2 E1 E2 H5 (S4.trans s5.t) (t4.mono s5) (S4.free hC CP) h5 (dv.mono woA.same) ⟨pw, rcq, l8⟩ no it1 it2
  ·dsimp only [tC, rIsNotU]
   refine iteP (by simp) ?_
   exact qn _ s1 t1 yes
 ·exact h.elim
end

end K21
end
section
set_option Elab.async false
set_option linter.all false
set_option maxRecDepth 100000
set_option maxHeartbeats 4000000
namespace K21
open PySem L2
section
variable {P : Program} {w : World} {K : PySem.W.Frag} {mg : Str → Option Value} {base : Heap}
abbrev sCome : Stmt := top 22
def spCome : Sp := fun vs H Q _ => match vs with
 | [cv] => ∃ (k n : Nat) (rows : Om.Rows), DV H cv (codeD k n rows) ∧ Om.CodeOk k n rows ∧ ∀ l (qs : List Nat) H', Same H H' → H l = none → H' l = some (.lst (qs.map fun s => V.int (s : Nat))) → RchL rows qs → Q (.ref l) H'
 | _ => False
theorem scCome : FnScope ["code", "found", "at", "word", "behind"] ["code"] (defScope sCome) := ⟨rfl, rfl, rfl, by decide +kernel, rfl, by decide +kernel, by decide +kernel⟩
local macro_rules | `(tactic| walk_at "T.n") => `(tactic| with_reducible first | exact vn "code" 0 | exact vn "found" 1 | exact vn "at" 2 | exact vn "behind" 4)
local macro_rules | `(tactic| walk_at "T.gn") => `(tactic| with_reducible first | exact gn "found" 1 (by walk_at "A") | exact gn "at" 2 (by walk_at "A") | exact gn "word" 3 (by walk_at "A") | exact gn "behind" 4 (by walk_at "A"))
inductive qCA (a L : Addr) (rows : Om.Rows) (H : Hp) (mm : Nat) (σ : L2.St) (H2 : L2.Hp) : Prop
 | mk (v3 v4 : Option V) (qs : List Nat) (c : Nat) (z0 : σ = [some (.ref a), some (.ref L), some (.int (c : Nat)), v3, v4]) (z1 : mm + c = rows.length) (z2 : Same H H2) (z3 : H2 L = some (.lst (qs.map fun s => V.int (s : Nat)))) (z4 : qs.Nodup) (z5 : (∀ s ∈ qs, s < rows.length)) (z6 : 0 ∈ qs) (z7 : (∀ s ∈ qs, Om.Rch (Om.nxR rows) s)) (z8 : c ≤ qs.length) (z9 : ∀ (i s : Nat), i < c → qs[i]? = some s → ∀ t ∈ Om.nxR rows s, t ∈ qs) : qCA a L rows H mm σ H2
inductive qCN (a L : Addr) (rows : Om.Rows) (c s : Nat) (qs : List Nat) (H : Hp) (σ' : L2.St) (H' : L2.Hp) : Prop
 | mk (v3 v4 : Option V) (more : List Nat) (z0 : σ' = [some (.ref a), some (.ref L), some (.int ((c + 1 : Nat) : Nat)), v3, v4]) (z1 : Same H H') (z2 : H' L = some (.lst ((qs ++ more).map fun s => V.int (s : Nat)))) (z3 : (qs ++ more).Nodup) (z4 : (∀ s ∈ more, s < rows.length ∧ Om.Rch (Om.nxR rows) s)) (z5 : ∀ t ∈ Om.nxR rows s, t ∈ qs ++ more) : qCN a L rows c s qs H σ' H'
inductive qCL (a L : Addr) (rows : Om.Rows) (c s : Nat) (qs : List Nat) (H : Hp) (i : Nat) (σ : L2.St) (H4 : L2.Hp) : Prop
 | mk (v3 v4 : Option V) (more : List Nat) (z0 : σ = [some (.ref a), some (.ref L), some (.int (c : Nat)), v3, v4]) (z1 : Same H H4) (z2 : H4 L = some (.lst ((qs ++ more).map fun s => V.int (s : Nat)))) (z3 : (qs ++ more).Nodup) (z4 : (∀ s ∈ more, s < rows.length ∧ Om.Rch (Om.nxR rows) s)) (z5 : ∀ (j t : Nat), j < i → (Om.nxR rows s)[j]? = some t → t ∈ qs ++ more) : qCL a L rows c s qs H i σ H4
theorem ok_come (D : FnX K mg "_law_come_to" sCome ["code"]) (g1 : mg "len" = none) (g2 : mg "sorted" = none) : Can P w K mg base "_law_come_to" 1 ["code"] spCome := by
 refine can_fn (k := 0) D scCome (fun vs H Q E h => ?_) (fun f0 cdv A outer s H vs Q E hr h => ?_)
 all_goals
  unfold spCome at h
  split at h
 ·rfl
 ·exact h.elim
 ·rename_i cv
  walk_at "B"
  obtain ⟨k, n, rows, hc, ok, q⟩ := h
  obtain ⟨a, b, ss, rfl, ha, hb, hss⟩ := code_inv hc
  walk_at "C"
  have nd := scCome.nd
  refine ⟨_, (by walk_at "T.top"), ?_⟩
  refine ⟨lB_, fun L hL => ?_⟩
  refine ⟨qCA a L rows H,
   ⟨rows.length, none, none, [0], 0, rfl, rfl, Same.upd hL, upd_same, by simp, (fun s hs => by rw [List.mem_singleton.mp hs]; exact ok.s1), by simp, (fun s hs => by rw [List.mem_singleton.mp hs]; exact .z), Nat.zero_le _, fun i s h => absurd h (Nat.not_lt_zero _)⟩, ?_⟩
  intro mm σ H2 hh_
  walk_at "B"
  obtain ⟨v3, v4, qs, c, rfl, hmm, s2, h2, qn, hlt, h0, hrc, cl, hdone⟩ := hh_
  walk_at "C"
  have ql := Om.nodup_len rows.length qs qn hlt
  have r8 := ok.s8
  refine ⟨_, lenL h2, ?_⟩
  dsimp only [rN0]
  rw [List.length_map]
  refine ite2 (fun lt => ?_) (fun ge => ?_)
  ·have lt : c < qs.length := by simpa using lt
   obtain ⟨s, hs⟩ : ∃ s, qs[c]? = some s := ⟨_, List.getElem?_eq_getElem lt⟩
   have sm := List.mem_of_getElem? hs
   have slt := hlt s sm
   walk_at "B"
   obtain ⟨qx, rx, e1, e2, e3⟩ := state_at hss (s := s) (st := rows[s]) (List.getElem?_eq_getElem slt)
   walk_at "C"
   have gx : Om.nxR rows s = rows[s].map (·.2) := by unfold Om.nxR; rw [List.getD_eq_getElem?_getD, List.getElem?_eq_getElem slt]; rfl
   have rl : rx.length = rows[s].length := by rw [e3.length, List.length_map]
   refine ⟨qCN a L rows c s qs H, ?_, ?_⟩
   ·intro σ' H' hh_
    walk_at "B"
    obtain ⟨v3, v4, more, rfl, s', h', qn', hm', hd'⟩ := hh_
    walk_at "C"
    refine ⟨mm - 1, by (clear cl r8 rl; omega), v3, v4, qs ++ more, c + 1, rfl, by (clear cl r8 rl; omega), s', h', qn', fun x hx => ?_, List.mem_append_left _ h0, fun x hx => ?_, by rw [List.length_append]; (clear hmm cl ql r8 rl; omega), fun i x hi hx t ht => ?_⟩
    ·exact (List.mem_append.mp hx).elim (hlt x) fun z => (hm' x z).1
    ·exact (List.mem_append.mp hx).elim (hrc x) fun z => (hm' x z).2
    ·rw [List.getElem?_append_left (by (clear hmm cl ql r8 rl; omega))] at hx
     by_cases e : i = c
     ·subst e
      rw [hs] at hx
      cases hx
      exact hd' t ht
     ·exact List.mem_append_left _ (hdone i x (by (clear hmm cl ql r8 lt rl; omega)) hx t ht)
   ·refine ⟨_, gt (s2 _ _ ha) (by decide) rfl, V.int (s : Nat), gl h2 (by (clear hmm cl ql r8 lt rl; omega)) (by rw [List.getElem?_map, show ((c : Nat) : Int).toNat = c by (clear hmm cl ql r8 lt rl; omega), hs]; rfl), .ref qx, gl (s2 _ _ hb) (by (clear hmm cl ql r8 lt rl; omega)) (by simpa using e1), ⟨_, SqL.of (s2 _ _ e2)⟩, ?_⟩
    refine for_by (it_list _ qx rx) (qCL a L rows c s qs H)
     ⟨v3, v4, [], rfl, s2, by rw [List.append_nil]; exact h2, by rw [List.append_nil]; exact qn, by simp, fun j t h => absurd h (Nat.not_lt_zero _)⟩ (fun i σ H4 _ ⟨_, _, _, _, s4, _, _, _, _⟩ => SqL.of (s4 _ _ e2)) ?_ ?_
    ·intro i x σ H4 hi hx hh_
     walk_at "B"
     obtain ⟨v3, v4, more, rfl, s4, h4, qn4, hm4, hd4⟩ := hh_
     walk_at "C"
     have hi' : i < rows[s].length := by (clear hmm cl ql r8 lt; omega)
     walk_at "B"
     obtain ⟨r, r1, r2⟩ := row_at e3 (l := i) (r := rows[s][i]) (List.getElem?_eq_getElem hi')
     walk_at "C"
     rw [hx] at r1
     cases r1
     have tlt := (ok.row _ (List.getElem_mem slt) _ (List.getElem_mem hi')).2
     have ei : (Om.nxR rows s)[i]? = some rows[s][i].2 := by rw [gx, List.getElem?_map, List.getElem?_eq_getElem hi']; rfl
     have tm := List.mem_of_getElem? ei
     generalize et : rows[s][i].2 = t at r2 tlt ei tm
     refine ⟨_, .inl (s4 _ _ r2), rfl, rfl, ?_⟩
     refine ⟨(qs ++ more).map fun s => ((s : Nat) : Int), by rw [List.map_map]; exact h4, ?_⟩
     have mi : decide (((t : Nat) : Int) ∈ (qs ++ more).map fun s => ((s : Nat) : Int)) = decide (t ∈ qs ++ more) := by
      rw [Bool.eq_iff_iff, decide_eq_true_eq, decide_eq_true_eq, List.mem_map]
      exact ⟨fun ⟨y, hy, e⟩ => by have : y = t := (by (clear hmm cl ql r8 lt rl hi et tlt; omega)); exact this ▸ hy, fun h => ⟨t, h, rfl⟩⟩
     dsimp only
     rw [mi]
     have l4 : (qs ++ more).length ≤ rows.length := Om.nodup_len _ _ qn4 fun x hx => (List.mem_append.mp hx).elim (hlt x) fun z => (hm4 x z).1
     refine ite2 (fun c1 => ?_) (fun c1 => ?_)
     ·have nt : t ∉ qs ++ more := by simpa using c1
      refine ⟨⟨_, rfl, h4⟩, _, h4, lt_line (by rw [List.length_map]; (clear hmm cl ql lt rl hi et tlt mi c1 nt; omega)), ?_⟩
      refine ⟨_, _, more ++ [t], rfl, s4.own hL, ?_, ?_, fun x hx => ?_, fun j t' hj ht' => ?_⟩
      ·rw [upd_same, ← List.append_assoc, List.map_append (l₁ := qs ++ more)]; rfl
      ·rw [← List.append_assoc, List.nodup_append]
       refine ⟨qn4, by simp, fun x hx y hy z => ?_⟩
       have : y = t := by simpa using hy
       subst this
       subst z
       exact nt hx
      ·rcases List.mem_append.mp hx with z | z
       ·exact hm4 x z
       ·have : x = t := by simpa using z
        subst this
        exact ⟨tlt, .s (hrc s sm) tm⟩
      ·rw [← List.append_assoc]
       by_cases e : j = i
       ·subst e
        rw [ei] at ht'
        cases ht'
        exact List.mem_append_right _ (by simp)
       ·exact List.mem_append_left _ (hd4 j t' (by (clear hmm cl ql r8 lt rl hi et tlt mi l4 c1 nt; omega)) ht')
     ·have nt : t ∈ qs ++ more := by
       by_cases z : t ∈ qs ++ more
       ·exact z
       ·exact absurd (by simpa using z) c1
      refine ⟨_, _, more, rfl, s4, h4, qn4, hm4, fun j t' hj ht' => ?_⟩
      by_cases e : j = i
      ·subst e
       rw [ei] at ht'
       cases ht'
       exact nt
      ·exact hd4 j t' (by (clear hmm cl ql r8 lt rl hi et tlt mi l4 c1; omega)) ht'
    ·intro σ H4 hh_
     walk_at "B"
     obtain ⟨v3, v4, more, rfl, s4, h4, qn4, hm4, hd4⟩ := hh_
     walk_at "C"
     refine ⟨v3, v4, more, rfl, s4, h4, qn4, hm4, fun t ht => ?_⟩
     obtain ⟨j, hj⟩ := List.mem_iff_getElem?.mp ht
     have lj := (List.getElem?_eq_some_iff.mp hj).1
     rw [gx, List.length_map] at lj
     exact hd4 j t (by (clear hmm cl ql r8 lt; omega)) hj
  ·have ge : qs.length ≤ c := by
    by_cases z : c < qs.length
    ·exact absurd (by simpa using z) ge
    ·(clear hmm cl ql r8 ge; omega)
   have rch : ∀ s, s ∈ qs ↔ Om.Rch (Om.nxR rows) s := fun s => ⟨hrc s, Om.rch_in h0 (fun a ha b hb => by
    obtain ⟨i, hi⟩ := List.mem_iff_getElem?.mp ha
    have li := (List.getElem?_eq_some_iff.mp hi).1
    exact hdone i a (by (clear hmm cl ql r8; omega)) hi b hb) s⟩
   refine ⟨qs.map fun s => ((s : Nat) : Int), by rw [List.map_map]; exact h2, by rw [List.length_map]; (clear hmm cl ge; omega), fun l ns hl pm srt => ?_⟩
   walk_at "B"
   obtain ⟨qs', rfl, pm'⟩ := Om.perm_nats pm
   walk_at "C"
   refine q l qs' _ (s2.trans (Same.upd hl)) (s2.free hl) (by rw [upd_same, List.map_map]; rfl) ⟨Om.lt_of_le (pm'.nodup_iff.mpr qn) srt, fun s => by rw [pm'.mem_iff]; exact rch s, by rw [pm'.length_eq]; (clear hmm cl ge; omega)⟩
 ·exact h.elim
end

end K21
end
section
set_option Elab.async false
set_option linter.all false
set_option maxRecDepth 100000
set_option maxHeartbeats 4000000
namespace K21
open PySem L2
section
variable {P : Program} {w : World} {K : PySem.W.Frag} {mg : Str → Option Value} {base : Heap}
abbrev sDraws : Stmt := top 16
def Drn (ds : List Int) : Prop := ∀ d ∈ ds, 0 ≤ d ∧ d < 10007
theorem Drn.add {ds : List Int} (h : Drn ds) {c : Int} (h0 : 0 ≤ c) (h1 : c < 10007) : Drn (ds ++ [c]) := fun d hd => by
 rcases List.mem_append.mp hd with z | z
 ·exact h d z
 ·have e : d = c := by simpa using z
  rw [e]; exact ⟨h0, h1⟩
def spDraws (K : PySem.W.Frag) : Sp := fun vs H Q _ => match vs with
 | [.ref a, .int many] => ∃ (ns : List Int) (mN : Nat), SqL K H a (ns.map V.int) ∧ ns.length ≤ 63 ∧ many = (mN : Nat) ∧ mN ≤ 170 ∧ ∀ l (ds : List Int) H', Same H H' → H' l = some (.lst (ds.map V.int)) → mN ≤ ds.length → Drn ds → Q (.ref l) H'
 | _ => False
theorem scDraws : FnScope ["script", "many", "drawn", "base", "k", "cell", "number", "one"] ["script", "many"] (defScope sDraws) := ⟨rfl, rfl, rfl, by decide +kernel, rfl, by decide +kernel, by decide +kernel⟩
local macro_rules | `(tactic| walk_at "T.n") => `(tactic| with_reducible first | exact vn "script" 0 | exact vn "many" 1 | exact vn "drawn" 2 | exact vn "base" 3 | exact vn "k" 4 | exact vn "cell" 5 | exact vn "number" 6 | exact vn "one" 7)
local macro_rules | `(tactic| walk_at "T.gn") => `(tactic| with_reducible first | exact gn "drawn" 2 (by walk_at "A") | exact gn "base" 3 (by walk_at "A") | exact gn "k" 4 (by walk_at "A") | exact gn "cell" 5 (by walk_at "A") | exact gn "number" 6 (by walk_at "A") | exact gn "one" 7 (by walk_at "A"))
local macro_rules | `(tactic| walk_at "T.b") => `(tactic| ((with_reducible refine' fn_abs ?a0 ?a9 ?a1); (case a0 => with_reducible assumption); (case a9 => rfl); (case a1 => walk_at "T.a")))
local macro_rules | `(tactic| walk_at "T.e") => `(tactic| ((with_reducible refine' pe_slice slS ?a1 ?a2 ?a3); (case a1 => with_reducible exact vn "script" 0); (case a2 => walk_at "T.o"); (case a3 => walk_at "T.o")))
theorem ok_draws (D : FnX K mg "_law_draws" sDraws ["script", "many"]) (g1 : mg "enumerate" = none) (g2 : mg "abs" = none) (g3 : mg "len" = none) (g4 : mg "range" = none) : Can P w K mg base "_law_draws" 1 ["script", "many"] (spDraws K) := by
 refine can_fn (k := 0) D scDraws (fun vs H Q E h => ?_) (fun f cdv A outer s H vs Q E hr h => ?_)
 all_goals
  unfold spDraws at h
  split at h
 ·rfl
 ·exact h.elim
 ·rename_i a many
  walk_at "B"
  obtain ⟨ns, mN, hS, h63, rfl, m200, q⟩ := h
  walk_at "C"
  have nd := scDraws.nd
  refine ⟨_, (by walk_at "T.top"), ?_⟩
  refine ⟨Nat.zero_le _, fun L hL => ?_⟩
  have s0 : Same H (upd H L (.lst [])) := Same.upd hL
  refine ⟨_, s0.seq hS, fun S hSl => ?_⟩
  walk_at "B"
  obtain ⟨ms, em, ml⟩ := cut_intsL ns none (some 63)
  walk_at "C"
  rw [em]
  have s1 := s0.trans (Same.upd (o := .lst (ms.map V.int)) hSl)
  have SL : S ≠ L := fun z => by rw [z, upd_same] at hSl; cases hSl
  refine ⟨⟨_, SqL.of upd_same⟩, ?_⟩
  have nS : H S = none := s0.free hSl
  refine for_pr (it_enumP _ S (ms.map V.int)) (fun i σ H2 => ∃ (v4 v5 v6 v7 : Option V) (b : Int) (ds : List Int), σ = [some (.ref a), some (.int (mN : Nat)), some (.ref L), some (.int b), v4, v5, v6, v7] ∧ Same H H2 ∧ H2 L = some (.lst (ds.map V.int)) ∧ H2 S = some (.lst (ms.map V.int)) ∧ Drn ds ∧ ds.length ≤ (mN : Nat) + 2 * i)
   ⟨none, none, none, none, 7, [], rfl, s1, Same.upd hSl _ _ upd_same, upd_same, (fun d hd => nomatch hd), Nat.zero_le _⟩ (fun i σ H2 _ ⟨_, _, _, _, _, _, _, _, _, h, _⟩ => h) ?_ ?_
  ·intro i t σ H2 hi hh_ ht
   walk_at "B"
   obtain ⟨v4, v5, v6, v7, b, ds, rfl, s2, hL2, hS2, dr, dl⟩ := hh_
   walk_at "C"
   rw [List.length_map] at hi
   have ei : (ms.map V.int).getD i .non = .int ms[i] := by rw [List.getD_eq_getElem?_getD, List.getElem?_map, List.getElem?_eq_getElem hi]; rfl
   rw [ei]
   generalize ms[i] = c
   have s3 := s2.trans (Same.upd (o := .tup [.int (i : Nat), .int c]) ht)
   have hL3 := Same.upd (o := .tup [.int (i : Nat), .int c]) ht _ _ hL2
   have hS3 := Same.upd (o := .tup [.int (i : Nat), .int c]) ht _ _ hS2
   have ht3 : upd H2 t (.tup [.int (i : Nat), .int c]) t = some (.tup [.int (i : Nat), .int c]) := upd_same
   generalize upd H2 t (.tup [.int (i : Nat), .int c]) = H3 at s3 hL3 hS3 ht3 ⊢
   refine ⟨_, .inl ht3, rfl, rfl, ?_⟩
   have n0 : 0 ≤ (if c < 0 then -c else c) := by split <;> (clear h63 m200 ml SL dl; omega)
   refine ⟨.inr ⟨by decide, by decide⟩, (by decide : (0 : Int) < 2147483629), ?_⟩
   dsimp only [gName, tNext]
   generalize (b * 31 + (if c < 0 then -c else c)) % 2147483629 = b2
   generalize (if c < 0 then -c else c) = number at n0
   refine ⟨⟨by decide, by decide, by decide⟩, ite2 (fun _ => ?_) (fun _ => ?_)⟩
   ·refine ⟨fun m σ H4 => ∃ (z : Int) (ds : List Int), σ = [some (.ref a), some (.int (mN : Nat)), some (.ref L), some (.int b2), some (.int (i : Nat)), some (.int c), some (.int z), v7] ∧ Same H H4 ∧ H4 L = some (.lst (ds.map V.int)) ∧ H4 S = some (.lst (ms.map V.int)) ∧ Drn ds ∧ ds.length ≤ (mN : Nat) + 2 * i ∧ m = z.toNat, ⟨_, number, ds, rfl, s3, hL3, hS3, dr, dl, rfl⟩, ?_⟩
    intro m σ H4 hh_
    walk_at "B"
    obtain ⟨z, ds, rfl, s4, hL4, hS4, dr4, dl4, rfl⟩ := hh_
    walk_at "C"
    have out : ∃ (v4 v5 v6 v7' : Option V) (b : Int) (ds' : List Int), [some (V.ref a), some (V.int (mN : Nat)), some (V.ref L), some (V.int b2), some (V.int (i : Nat)), some (V.int c), some (V.int z), v7] = [some (V.ref a), some (V.int (mN : Nat)), some (V.ref L), some (V.int b), v4, v5, v6, v7'] ∧ Same H H4 ∧ H4 L = some (HO.lst (ds'.map V.int)) ∧ H4 S = some (HO.lst (ms.map V.int)) ∧ Drn ds' ∧ ds'.length ≤ (mN : Nat) + 2 * (i + 1) := ⟨_, _, _, _, _, ds, rfl, s4, hL4, hS4, dr4, by (clear h63 m200 ml SL dl n0; omega)⟩
    refine ite2 (fun c1 => ?_) (fun c1 => ?_)
    ·have z0 : 0 < z := of_decide_eq_true c1
     refine ⟨_, lenL hL4, ite2 (fun c2 => ?_) (fun c2 => ?_)⟩
     ·have l0 := of_decide_eq_true c2
      rw [List.length_map] at l0
      refine ⟨fun σ H4 => ∃ (z' : Int) (ds : List Int), σ = [some (.ref a), some (.int (mN : Nat)), some (.ref L), some (.int b2), some (.int (i : Nat)), some (.int c), some (.int z'), v7] ∧ Same H H4 ∧ H4 L = some (.lst (ds.map V.int)) ∧ H4 S = some (.lst (ms.map V.int)) ∧ Drn ds ∧ ds.length ≤ (mN : Nat) + 2 * i ∧ z'.toNat < z.toNat, fun σ' H' ⟨z', ds', e, a1, a2, a3, a4, a5, a6⟩ => ⟨z'.toNat, a6, z', ds', e, a1, a2, a3, a4, a5, rfl⟩, ?_⟩
      have r0 := Int.emod_nonneg z (show (10007 : Int) ≠ 0 by decide)
      have r1 := Int.emod_lt_of_pos z (show (0 : Int) < 10007 by decide)
      refine ⟨⟨_, rfl, hL4⟩, (by decide : (0 : Int) < 10007), _, hL4, lt_line (by rw [List.length_map]; (clear h63 ml SL dl n0 dl4 out c1 z0 c2 r0 r1; omega)), ⟨by decide, by decide⟩, ?_⟩
      refine ⟨z / 10007, ds ++ [z % 10007], rfl, s4.own hL, by rw [List.map_append]; exact upd_same, by rw [upd_ne SL]; exact hS4, dr4.add r0 r1, ?_, ?_⟩
      ·rw [List.length_append, List.length_singleton]; (clear h63 m200 ml SL dl n0 dl4 out c1 z0 c2 r0 r1; omega)
      ·(clear h63 m200 ml SL dl n0 dl4 out c1 c2 l0 r0 r1; omega)
     ·exact out
    ·exact out
   ·have x1 := Int.emod_nonneg ((number % 2147483647 + (i : Int) + 1) * 48271) (show (2147483647 : Int) ≠ 0 by decide)
    have x2 := Int.emod_lt_of_pos ((number % 2147483647 + (i : Int) + 1) * 48271) (show (0 : Int) < 2147483647 by decide)
    refine ⟨(by decide : (0 : Int) < 2147483647), .inr ⟨by decide, by decide⟩, (by decide : (0 : Int) < 2147483647), ?_⟩
    dsimp only [gName, tNext]
    generalize ((number % 2147483647 + (i : Int) + 1) * 48271) % 2147483647 = y1 at x1 x2 ⊢
    refine ⟨.inl ⟨by (clear h63 m200 ml SL dl n0 x2; omega), by (clear h63 m200 ml SL dl n0 x1; omega)⟩, (by decide : (0 : Int) < 2147483629), ?_⟩
    have x3 := Int.emod_nonneg (y1 * y1) (show (2147483629 : Int) ≠ 0 by decide)
    have x4 := Int.emod_lt_of_pos (y1 * y1) (show (0 : Int) < 2147483629 by decide)
    dsimp only [gName, tNext]
    generalize (y1 * y1) % 2147483629 = y2 at x3 x4 ⊢
    have p1 := Int.emod_nonneg (y2 / 8) (show (10007 : Int) ≠ 0 by decide)
    have p2 := Int.emod_lt_of_pos (y2 / 8) (show (0 : Int) < 10007 by decide)
    refine ⟨⟨_, rfl, hL3⟩, ⟨by decide, by decide⟩, (by decide : (0 : Int) < 10007), _, hL3, lt_line (by rw [List.length_map]; (clear SL n0 x1 x2 x3 x4 p1 p2; omega)), ?_⟩
    refine ⟨.inr ⟨by decide, by decide⟩, .inl ⟨by decide, by decide⟩, (by decide : (0 : Int) < 2147483563), ?_⟩
    have x5 := Int.emod_nonneg (y2 * 40692 + 2 * (i : Int) + 1) (show (2147483563 : Int) ≠ 0 by decide)
    have x6 := Int.emod_lt_of_pos (y2 * 40692 + 2 * (i : Int) + 1) (show (0 : Int) < 2147483563 by decide)
    dsimp only [gName, tNext]
    generalize (y2 * 40692 + 2 * (i : Int) + 1) % 2147483563 = y3 at x5 x6 ⊢
    refine ⟨.inl ⟨by (clear h63 m200 ml SL dl n0 x1 x2 x3 x4 p1 p2 x6; omega), by (clear h63 m200 ml SL dl n0 x1 x2 x3 x4 p1 p2 x5; omega)⟩, (by decide : (0 : Int) < 2147483647), ?_⟩
    dsimp only [gName, tNext]
    generalize (y3 * y3) % 2147483647 = y4
    have p3 := Int.emod_nonneg (y4 / 8) (show (10007 : Int) ≠ 0 by decide)
    have p4 := Int.emod_lt_of_pos (y4 / 8) (show (0 : Int) < 10007 by decide)
    have hL5 : upd H3 L (.lst ((ds ++ [y2 / 8 % 10007]).map V.int)) L = some (.lst ((ds ++ [y2 / 8 % 10007]).map V.int)) := upd_same
    rw [show ds.map V.int ++ [V.int (y2 / 8 % 10007)] = (ds ++ [y2 / 8 % 10007]).map V.int by rw [List.map_append]; rfl]
    refine ⟨⟨_, rfl, hL5⟩, ⟨by decide, by decide⟩, (by decide : (0 : Int) < 10007), _, hL5, lt_line (by rw [List.length_map, List.length_append, List.length_singleton]; (clear SL n0 x1 x2 x3 x4 p1 p2 x5 x6 p3 p4; omega)), ?_⟩
    refine ⟨_, _, _, _, _, (ds ++ [y2 / 8 % 10007]) ++ [y4 / 8 % 10007], rfl, (s3.own hL).own hL, by rw [upd_same, List.map_append (l₁ := ds ++ [y2 / 8 % 10007])]; rfl, by rw [upd_ne SL, upd_ne SL]; exact hS3, (dr.add p1 p2).add p3 p4, ?_⟩
    rw [List.length_append, List.length_append, List.length_singleton, List.length_singleton]
    (clear h63 m200 ml SL n0 x1 x2 x3 x4 p1 p2 x5 x6 p3 p4; omega)
  ·intro σ H2 hh_
   walk_at "B"
   obtain ⟨v4, v5, v6, v7, b, ds0, rfl, s2, hL2, hS2, dr, dl⟩ := hh_
   walk_at "C"
   rw [List.length_map] at dl
   refine ⟨_, lenL hL2, by rw [List.length_map]; (clear m200 SL; omega), by rw [List.length_map]; (clear h63 ml SL dl; omega), ?_⟩
   refine for_by (it_range 0 _) (fun i σ H3 => ∃ (v4 v5 v6 v7 : Option V) (ds : List Int), σ = [some (.ref a), some (.int (mN : Nat)), some (.ref L), some (.int b), v4, v5, v6, v7] ∧ Same H H3 ∧ H3 L = some (.lst (ds.map V.int)) ∧ Drn ds ∧ ds.length ≤ 300 + i ∧ (mN : Nat) - ds.length ≤ ((mN : Nat) - ((ds0.map V.int).length : Int)).toNat - i)
    ⟨v4, v5, v6, v7, ds0, rfl, s2, hL2, dr, by (clear SL; omega), by rw [List.length_map]; (clear h63 m200 ml SL dl; omega)⟩ (fun _ _ _ _ _ => trivial) ?_ ?_
   ·intro i x σ H3 hi hx hh_
    walk_at "B"
    obtain ⟨v4, v5, v6, v7, ds, rfl, s3, hL3, dr, dl, dm⟩ := hh_
    walk_at "C"
    rw [List.length_map, List.length_range] at hi
    have ex : x = V.int (i : Nat) := by
     rw [List.getElem?_map, List.getElem?_range hi] at hx
     have := Option.some.inj hx
     rw [← this]; simp
    subst ex
    have x1 := Int.emod_nonneg (b + 7919 * (i : Int) + 13) (show (2147483629 : Int) ≠ 0 by decide)
    have x2 := Int.emod_lt_of_pos (b + 7919 * (i : Int) + 13) (show (0 : Int) < 2147483629 by decide)
    refine ⟨.inl ⟨by decide, by decide⟩, (by decide : (0 : Int) < 2147483629), ?_⟩
    dsimp only [gName, tNext]
    generalize (b + 7919 * (i : Int) + 13) % 2147483629 = y1 at x1 x2 ⊢
    refine ⟨.inl ⟨by (clear h63 m200 ml SL hi dl dm x2; omega), by (clear h63 m200 ml SL hi dl dm x1; omega)⟩, (by decide : (0 : Int) < 2147483647), ?_⟩
    dsimp only [gName, tNext]
    generalize (y1 * y1) % 2147483647 = y2
    refine ⟨.inr ⟨by decide, by decide⟩, (by decide : (0 : Int) < 2147483563), ?_⟩
    have x5 := Int.emod_nonneg (y2 * 69621 + (i : Int)) (show (2147483563 : Int) ≠ 0 by decide)
    have x6 := Int.emod_lt_of_pos (y2 * 69621 + (i : Int)) (show (0 : Int) < 2147483563 by decide)
    dsimp only [gName, tNext]
    generalize (y2 * 69621 + (i : Int)) % 2147483563 = y3 at x5 x6 ⊢
    refine ⟨⟨_, rfl, hL3⟩, .inl ⟨by (clear h63 m200 ml SL hi dl dm x1 x2 x6; omega), by (clear h63 m200 ml SL hi dl dm x1 x2 x5; omega)⟩, (by decide : (0 : Int) < 2147483629), ⟨by decide, by decide⟩, (by decide : (0 : Int) < 10007), _, hL3, lt_line (by rw [List.length_map]; (clear h63 ml SL dm x1 x2 x5 x6; omega)), ?_⟩
    have p1 := Int.emod_nonneg (y3 * y3 % 2147483629 / 8) (show (10007 : Int) ≠ 0 by decide)
    have p2 := Int.emod_lt_of_pos (y3 * y3 % 2147483629 / 8) (show (0 : Int) < 10007 by decide)
    refine ⟨_, _, _, _, ds ++ [y3 * y3 % 2147483629 / 8 % 10007], rfl, s3.own hL, by rw [upd_same, List.map_append]; rfl, dr.add p1 p2, ?_, ?_⟩
    ·rw [List.length_append, List.length_singleton]; (clear h63 m200 ml SL hi dm x1 x2 x5 x6 p1 p2; omega)
    ·rw [List.length_append, List.length_singleton]; (clear h63 m200 ml SL hi dl x1 x2 x5 x6 p1 p2; omega)
   ·intro σ H3 hh_
    walk_at "B"
    obtain ⟨v4, v5, v6, v7, ds, rfl, s3, hL3, dr, dl, dm⟩ := hh_
    walk_at "C"
    rw [List.length_map, List.length_map, List.length_range] at dm
    exact q L ds _ s3 hL3 (by (clear h63 m200 ml SL dl; omega)) dr
 ·exact h.elim
end

end K21
end
section
set_option Elab.async false
set_option linter.all false
set_option maxRecDepth 100000
set_option maxHeartbeats 4000000
namespace K21
open PySem L2
section
variable {P : Program} {w : World} {K : PySem.W.Frag} {mg : Str → Option Value} {base : Heap}
abbrev sBeh : Stmt := top 18
def spBeh : Sp := fun vs H Q _ => match vs with
 | [.int x, .int st, .int many, .bl turns, .bl begins] => ∃ m : Nat, many = (m : Nat) ∧ 1 ≤ m ∧ ∀ b : Nat, b < m → Q (.int (b : Nat)) H
 | _ => False
theorem scBeh : FnScope ["x", "state", "many", "turns", "begins", "behind"] ["x", "state", "many", "turns", "begins"] (defScope sBeh) := ⟨rfl, rfl, rfl, by decide +kernel, rfl, by decide +kernel, by decide +kernel⟩
local macro_rules | `(tactic| walk_at "T.n") => `(tactic| with_reducible first | exact vn "x" 0 | exact vn "state" 1 | exact vn "many" 2 | exact vn "turns" 3 | exact vn "begins" 4 | exact vn "behind" 5)
local macro_rules | `(tactic| walk_at "T.gn") => `(tactic| with_reducible first | exact gn "behind" 5 (by walk_at "A"))
theorem ok_beh (D : FnX K mg "_law_behind" sBeh ["x", "state", "many", "turns", "begins"]) : Can P w K mg base "_law_behind" 1 ["x", "state", "many", "turns", "begins"] spBeh := by
 refine can_fn (k := 0) D scBeh (fun vs H Q E h => ?_) (fun f cdv A outer s H vs Q E hr h => ?_)
 all_goals
  unfold spBeh at h
  split at h
 ·rfl
 ·exact h.elim
 ·rename_i x st many turns begins
  walk_at "B"
  obtain ⟨m, rfl, m1, q⟩ := h
  walk_at "C"
  have nd := scBeh.nd
  refine ⟨_, (by walk_at "T.top"), ?_⟩
  have m0 : (0 : Int) < (m : Nat) := by omega
  have a0 := Int.emod_nonneg x (show ((m : Nat) : Int) ≠ 0 by omega)
  have a1 := Int.emod_lt_of_pos x m0
  refine ⟨m0, ?_⟩
  dsimp only [gName, tNext]
  generalize x % ((m : Nat) : Int) = y at a0 a1
  refine seq_by (fun σ H2 => ∃ y : Int, σ = [some (.int x), some (.int st), some (.int (m : Nat)), some (.bl turns), some (.bl begins), some (.int y)] ∧ H2 = H ∧ 0 ≤ y ∧ y < (m : Nat)) ?_ (fun fin => ?_)
  ·intro σ H2 hh_
   walk_at "B"
   obtain ⟨y, rfl, rfl, y0, y1⟩ := hh_
   walk_at "C"
   refine seq_by (fun σ H3 => ∃ y : Int, σ = [some (.int x), some (.int st), some (.int (m : Nat)), some (.bl turns), some (.bl begins), some (.int y)] ∧ H3 = H2 ∧ 0 ≤ y ∧ y < (m : Nat)) ?_ (fun fin => ?_)
   ·intro σ H3 hh_
    walk_at "B"
    obtain ⟨y, rfl, rfl, y0, y1⟩ := hh_
    walk_at "C"
    have := q y.toNat (by (clear m1 m0 a0 a1; omega))
    rw [Int.toNat_of_nonneg y0] at this
    exact this
   ·cases begins
    ·exact fin _ _ ⟨y, rfl, rfl, y0, y1⟩
    ·refine ite2 (fun c1 => ?_) (fun c1 => fin _ _ ⟨y, rfl, rfl, y0, y1⟩)
     exact fin _ _ ⟨_, rfl, rfl, by (clear m1 m0 a0 a1 c1; omega), by (clear m1 m0 a0 a1 y0 y1 c1; omega)⟩
  ·cases turns
   ·exact fin _ _ ⟨y, rfl, rfl, a0, a1⟩
   ·refine ⟨(by decide : (0 : Int) < 2), (by decide : (0 : Int) < 2), ite2 (fun c1 => ?_) (fun c1 => fin _ _ ⟨y, rfl, rfl, a0, a1⟩)⟩
    exact ⟨m0, fin _ _ ⟨_, rfl, rfl, Int.emod_nonneg _ (by (clear m1 a0 a1 c1; omega)), Int.emod_lt_of_pos _ m0⟩⟩
 ·exact h.elim
def allW (n : Nat) : List (List Bool) := (List.range (2 ^ n)).map fun x => (List.range n).map fun j => x.testBit j
theorem allW_len {n : Nat} : ∀ w ∈ allW n, w.length = n := fun w hw => by
 walk_at "B"
 obtain ⟨x, _, rfl⟩ := List.mem_map.mp hw
 walk_at "C"
 simp
theorem some_both : ∀ n, n ≤ 6 → 1 < n → ∃ w ∈ allW n, ((!(Builtin.Str.occurrences (bs w) ("0" : Str) 0 (bs w).length 1).isEmpty) && (!(Builtin.Str.occurrences (bs w) ("1" : Str) 0 (bs w).length 1).isEmpty)) = true := by
 decide +kernel
theorem some_ones : ∀ n, n ≤ 6 → ∀ o, o ≤ n → ∃ w ∈ allW n, Txt.count (bs w) ("1" : Str) = (o : Nat) := by
 decide +kernel
end

end K21
end
section
set_option Elab.async false
set_option linter.all false
set_option maxRecDepth 100000
set_option maxHeartbeats 4000000
namespace K21
open PySem L2
section
variable {P : Program} {w : World} {K : PySem.W.Frag} {mg : Str → Option Value} {base : Heap}
theorem ws_filter (f : V → Bool) (ws : List (List Bool)) : (ws.map fun w => V.str (bs w)).filter f = (ws.filter fun w => f (.str (bs w))).map fun w => V.str (bs w) := by
 rw [List.filter_map]; rfl
abbrev sSome : Stmt := top 17
def spSome : Sp := fun vs H Q _ => match vs with
 | [.ref ev, .int way, .int st, .int rise] => ∃ n : Nat, 1 ≤ n ∧ n ≤ 6 ∧ H ev = some (WS (allW n)) ∧ 0 ≤ way ∧ way < 5 ∧
   ∀ l (ws : List (List Bool)) H', Same H H' → H' l = some (WS ws) → ws ≠ [] → ws.length ≤ 64 → (∀ w ∈ ws, w.length = n) → Q (.ref l) H'
 | _ => False
theorem scSome : FnScope ["every", "way", "state", "rise", "n", "ones"] ["every", "way", "state", "rise"] (defScope sSome) := ⟨rfl, rfl, rfl, by decide +kernel, rfl, by decide +kernel, by decide +kernel⟩
local macro_rules | `(tactic| walk_at "T.n") => `(tactic| with_reducible first | exact vn "every" 0 | exact vn "way" 1 | exact vn "state" 2 | exact vn "rise" 3 | exact vn "n" 4 | exact vn "ones" 5)
local macro_rules | `(tactic| walk_at "T.gn") => `(tactic| with_reducible first | exact gn "n" 4 (by walk_at "A") | exact gn "ones" 5 (by walk_at "A"))
local macro_rules | `(tactic| walk_at "T.n") => `(tactic| with_reducible first | exact vn "word" 0)
local macro_rules | `(tactic| walk_at "T.gn") => `(tactic| with_reducible first | exact gn "word" 0 (by walk_at "A"))
local macro_rules | `(tactic| walk_at "T.c") => `(tactic| (have ndc : (["word"] : List Str).Nodup := (by decide +kernel)); ((with_reducible refine' c_comp ["word"] [] ?b1 ?b2 (fun cl C s H fp => ?b3) (fun cl C s H fp => ?b4) (fun cl C s H fp => ?b5)); (case b1 => exact ndc); (case b2 => walk_at "T.i"); (case b3 => walk_at "T.g"); (case b4 => walk_at "T.pf"); (case b5 => walk_at "T.e")))
local macro_rules | `(tactic| walk_at "T.n") => `(tactic| with_reducible first | exact vn "word" 0 | exact vn "ones" 1)
local macro_rules | `(tactic| walk_at "T.gn") => `(tactic| with_reducible first | exact gn "word" 0 (by walk_at "A"))
local macro_rules | `(tactic| walk_at "T.c") => `(tactic| (have ndc : (["word", "ones"] : List Str).Nodup := (by decide +kernel)); ((with_reducible refine' c_comp ["word", "ones"] [5] ?b1 ?b2 (fun cl C s H fp => ?b3) (fun cl C s H fp => ?b4) (fun cl C s H fp => ?b5)); (case b1 => exact ndc); (case b2 => walk_at "T.i"); (case b3 => walk_at "T.g"); (case b4 => ((with_reducible refine' pf_one ?a1); (case a1 => ((with_reducible refine' t_cmp ?a1 ?a2 ?a3); (case a1 => walk_at "T.cmp"); (case a2 => walk_at "T.e"); (case a3 => walk_at "T.e"))))); (case b5 => walk_at "T.e")))
local macro_rules | `(tactic| walk_at "T.cmp") => `(tactic| (with_reducible exact op_inS))
theorem ok_some (D : FnX K mg "_law_some" sSome ["every", "way", "state", "rise"]) (g1 : mg "len" = none) : Can P w K mg base "_law_some" 1 ["every", "way", "state", "rise"] spSome := by
 refine can_fn (k := 0) D scSome (fun vs H Q E h => ?_) (fun f cdv A outer s H vs Q E hr h => ?_)
 all_goals
  unfold spSome at h
  split at h
 ·rfl
 ·exact h.elim
 ·rename_i ev way st rise
  walk_at "B"
  obtain ⟨n, n1, n6, he, w0, w5, q⟩ := h
  walk_at "C"
  have nd := scSome.nd
  refine ⟨_, (by walk_at "T.top"), ?_⟩
  have al : (allW n).length = 2 ^ n := by unfold allW; rw [List.length_map, List.length_range]
  have a64 : (allW n).length ≤ 64 := by
   rw [al]
   calc 2 ^ n ≤ 2 ^ 6 := Nat.pow_le_pow_right (by decide) n6
    _ ≤ 64 := by decide
  have a1 : 0 < (allW n).length := by rw [al]; exact Nat.two_pow_pos n
  have g0 : (allW n)[0]? = some (allW n)[0] := List.getElem?_eq_getElem a1
  refine ⟨.str (bs (allW n)[0]), gl he (by decide) (ws_get g0), _, lenS (le_line (by rw [allW_len _ (List.getElem_mem a1)]; (clear n1 w0 w5 al a64; omega))), ?_⟩
  rw [allW_len _ (List.getElem_mem a1)]
  have fin : ∀ (H1 : Hp) (_ : Same H H1) (f : V → Bool) (l : Addr) (H' : Hp), H1 l = none → H' = upd H1 l (.lst (((allW n).map fun w => V.str (bs w)).filter f)) → (∃ w ∈ allW n, f (.str (bs w)) = true) → Q (.ref l) H' := fun H1 s1 f l H' hl e ⟨w, hw, fw⟩ => by
   subst e
   rw [ws_filter]
   refine q l _ _ (s1.trans (Same.upd hl)) upd_same (fun z => ?_) (Nat.le_trans (List.length_filter_le _ _) a64) (fun w hw => allW_len w (List.mem_filter.mp hw).1)
   have : w ∈ (allW n).filter fun w => f (.str (bs w)) := List.mem_filter.mpr ⟨hw, fw⟩
   rw [z] at this
   exact nomatch this
  have wz : ((allW n).map fun w => V.str (bs w)).length ≤ sizeLine := by rw [ws_len]; exact le_line (by (clear n1 n6 w0 w5 al; omega))
  have wx : ∀ {i : Nat} {x : V}, ((allW n).map fun w => V.str (bs w))[i]? = some x → ∃ w, x = .str (bs w) := fun {i x} hx => by
   rw [List.getElem?_map] at hx
   walk_at "B"
   obtain ⟨w, _, e⟩ := Option.map_eq_some_iff.mp hx
   walk_at "C"
   exact ⟨w, e.symm⟩
  dsimp only [gName]
  refine seq_by (fun σ H2 => σ = [some (.ref ev), some (.int way), some (.int st), some (.int rise), some (.int (n : Nat)), none] ∧ H2 = H) ?_ (fun fin2 => ?_)
  ·rintro σ H2 ⟨rfl, rfl⟩
   refine ⟨⟨by decide, by decide⟩, (by decide : (0 : Int) < 2), ⟨by decide, by decide⟩, ⟨by decide, by decide⟩, lB_, fun p hp => ?_⟩
   have s1 : Same H2 (upd H2 p (.lst [.int 0, .int 0, .int ((n : Int) / 2), .int (((n : Int) + 1 - st % 2) / 2), .int (((n : Int) + rise) / 2)])) := Same.upd hp
   obtain ⟨ones, eo⟩ : ∃ ones : Int, [V.int 0, .int 0, .int ((n : Int) / 2), .int (((n : Int) + 1 - st % 2) / 2), .int (((n : Int) + rise) / 2)][way.toNat]? = some (.int ones) := by
    have : way = 0 ∨ way = 1 ∨ way = 2 ∨ way = 3 ∨ way = 4 := by (clear n1 n6 al a64 wz; omega)
    rcases this with rfl | rfl | rfl | rfl | rfl
    ·exact ⟨_, rfl⟩
    ·exact ⟨_, rfl⟩
    ·exact ⟨_, rfl⟩
    ·exact ⟨_, rfl⟩
    ·exact ⟨_, rfl⟩
   refine ⟨.int ones, gl upd_same w0 eo, ?_⟩
   generalize upd H2 p (.lst [.int 0, .int 0, .int ((n : Int) / 2), .int (((n : Int) + 1 - st % 2) / 2), .int (((n : Int) + rise) / 2)]) = H3 at s1 ⊢
   dsimp only [gName]
   have he3 := s1 _ _ he
   have every : Q (.ref ev) H3 := q ev (allW n) H3 s1 he3 (fun z => by rw [z] at a1; exact absurd a1 (by decide)) a64 allW_len
   refine seq_by (fun σ H4 => σ = [some (.ref ev), some (.int way), some (.int st), some (.int rise), some (.int (n : Nat)), some (.int ones)] ∧ H4 = H3 ∧ 0 ≤ ones ∧ ones ≤ (n : Int)) ?_ (fun fin2 => ?_)
   ·intro σ H4 hh_
    walk_at "B"
    obtain ⟨rfl, rfl, o0, o1⟩ := hh_
    walk_at "C"
    refine ⟨⟨_, SqL.of he3⟩, fun D hD => ?_⟩
    refine comp_pick (it_list _ ev _) (fun v => match v with | .str z => decide ((Txt.count z ("1" : Str) : Int) = ones) | _ => false) wz (fun o => SqL.upd he3 hD) (fun i x ys hx C c => ?_) (fun i x ys hx C c => c) ?_
    ·obtain ⟨w, rfl⟩ := wx hx
     exact ⟨rfl, c⟩
    ·obtain ⟨w, hw, e⟩ := some_ones n n6 ones.toNat (by (clear n1 n6 w0 w5 al a64 wz o0; omega))
     exact fin _ s1 _ D _ hD rfl ⟨w, hw, decide_eq_true (by rw [e]; (clear n1 n6 w0 w5 al a64 wz o1 e; omega))⟩
   ·refine ite2 (fun c1 => every) (fun c1 => ?_)
    refine ite2 (fun c2 => ?_) (fun c2 => ?_)
    ·have o0 : 0 ≤ ones := of_decide_eq_true c2
     refine ite2 (fun c3 => every) (fun c3 => ?_)
     have o1 : ones ≤ (n : Int) := by
      have h : (!decide (ones ≤ (n : Int))) ≠ true := c3
      simpa using h
     exact fin2 _ _ ⟨rfl, rfl, o0, o1⟩
    ·exact every
  ·refine ite2 (fun c1 => ?_) (fun c1 => fin2 _ _ ⟨rfl, rfl⟩)
   refine ite2 (fun c2 => ?_) (fun c2 => fin2 _ _ ⟨rfl, rfl⟩)
   have n2 : 1 < n := by have := of_decide_eq_true c2; (clear n1 n6 w0 w5 al a64 wz c1 c2; omega)
   refine ⟨⟨_, SqL.of he⟩, fun D hD => ?_⟩
   refine comp_pick (it_list _ ev _) (fun v => match v with | .str z => (!(Builtin.Str.occurrences z ("0" : Str) 0 z.length 1).isEmpty) && (!(Builtin.Str.occurrences z ("1" : Str) 0 z.length 1).isEmpty) | _ => false) wz (fun o => SqL.upd he hD) (fun i x ys hx C c => ?_) (fun i x ys hx C c => c) ?_
   ·obtain ⟨w, rfl⟩ := wx hx
    refine ite2 (fun c1 => ?_) (fun c1 => ?_)
    ·refine Eq.mp (congrArg (fun b => C b _) ?_) c
     show ((!(Builtin.Str.occurrences (bs w) ("0" : Str) 0 (bs w).length 1).isEmpty) && (!(Builtin.Str.occurrences (bs w) ("1" : Str) 0 (bs w).length 1).isEmpty)) = (!(Builtin.Str.occurrences (bs w) ("1" : Str) 0 (bs w).length 1).isEmpty)
     rw [c1, Bool.true_and]
    ·refine Eq.mp (congrArg (fun b => C b _) ?_) c
     show ((!(Builtin.Str.occurrences (bs w) ("0" : Str) 0 (bs w).length 1).isEmpty) && (!(Builtin.Str.occurrences (bs w) ("1" : Str) 0 (bs w).length 1).isEmpty)) = false
     rw [Bool.eq_false_iff.mpr c1, Bool.false_and]
   ·exact fin _ (Same.refl _) _ D _ hD rfl (some_both n n6 n2)
 ·exact h.elim
end

end K21
end
section
set_option Elab.async false
set_option linter.all false
set_option maxRecDepth 100000
set_option maxHeartbeats 4000000
namespace K21
open PySem L2
section
variable {P : Program} {w : World} {K : PySem.W.Frag} {mg : Str → Option Value} {base : Heap}
theorem bit01 : ∀ x : Nat, x < 64 → ∀ j : Nat, j < 6 → Builtin.bitAnd ((x : Int) / 2 ^ ((j : Nat) : Int).toNat) 1 = (if x.testBit j then 1 else 0) := by
 decide +kernel
theorem join1 (w' : List Bool) (h : w'.length ≤ 6) : ((w'.map fun b => bs [b]).map (·.length)).sum + (w'.map fun b => bs [b]).length * (("" : Str)).length ≤ 16777216 := by
 have h3 : (("" : Str)).length = 0 := by decide +kernel
 have h4 : ((w'.map fun b => bs [b]).map (·.length)).sum = w'.length := by
  rw [List.map_map]
  have : (List.map ((fun x : Str => x.length) ∘ fun b => bs [b]) w') = List.replicate w'.length 1 := by
   rw [List.eq_replicate_iff]
   refine ⟨by simp, fun b hb => ?_⟩
   walk_at "B"
   obtain ⟨c, _, rfl⟩ := List.mem_map.mp hb
   walk_at "C"
   exact bs_len [c]
  rw [this]
  simp
 rw [h4, h3]
 simp
 omega
abbrev sLCode : Stmt := top 19
def spLCode : Sp := fun vs H Q _ => match vs with
 | [.ref a, .int spot] => ∃ (ds : List Int) (sp : Nat), H a = some (.lst (ds.map V.int)) ∧ spot = (sp : Nat) ∧ sp ≤ 200 ∧ sp + 70 ≤ ds.length ∧ Drn ds ∧
   ∀ v (k n : Nat) (rows : Om.Rows) H', Same H H' → DV H' v (codeD k n rows) → Om.CodeOk k n rows → Q v H'
 | _ => False
theorem scLCode : FnScope ["d", "spot", "k", "n", "many", "way", "begins", "turns", "every", "heights", "at", "states", "state", "row", "turn", "behind", "some"] ["d", "spot"] (defScope sLCode) := ⟨rfl, rfl, rfl, by decide +kernel, rfl, by decide +kernel, by decide +kernel⟩
local macro_rules | `(tactic| walk_at "T.n") => `(tactic| with_reducible first | exact vn "d" 0 | exact vn "spot" 1 | exact vn "k" 2 | exact vn "n" 3 | exact vn "many" 4 | exact vn "way" 5 | exact vn "begins" 6 | exact vn "turns" 7 | exact vn "every" 8 | exact vn "heights" 9 | exact vn "at" 10 | exact vn "states" 11 | exact vn "state" 12 | exact vn "row" 13 | exact vn "behind" 15 | exact vn "some" 16)
local macro_rules | `(tactic| walk_at "T.gn") => `(tactic| with_reducible first | exact gn "k" 2 (by walk_at "A") | exact gn "n" 3 (by walk_at "A") | exact gn "many" 4 (by walk_at "A") | exact gn "way" 5 (by walk_at "A") | exact gn "begins" 6 (by walk_at "A") | exact gn "turns" 7 (by walk_at "A") | exact gn "every" 8 (by walk_at "A") | exact gn "heights" 9 (by walk_at "A") | exact gn "at" 10 (by walk_at "A") | exact gn "states" 11 (by walk_at "A") | exact gn "state" 12 (by walk_at "A") | exact gn "row" 13 (by walk_at "A") | exact gn "turn" 14 (by walk_at "A") | exact gn "behind" 15 (by walk_at "A") | exact gn "some" 16 (by walk_at "A"))
local macro_rules | `(tactic| walk_at "T.n") => `(tactic| with_reducible first | exact vn "x" 0 | exact vn "n" 1)
local macro_rules | `(tactic| walk_at "T.gn") => `(tactic| with_reducible first | exact gn "x" 0 (by walk_at "A"))
local macro_rules | `(tactic| walk_at "T.sc") => `(tactic| (have ndc : (["x", "n"] : List Str).Nodup := (by decide +kernel)); ((with_reducible refine' s_compC "x" "every" 8 ["x", "n"] [3] ?b1 ?b0 ?b2 (fun cl C s H fp => ?b3) (fun cl C s H fp => ?b4) (fun cl C s H fp => ?b5)); (case b1 => exact ndc); (case b0 => assumption); (case b2 => walk_at "T.i"); (case b3 => walk_at "T.g"); (case b4 => walk_at "T.pf"); (case b5 => walk_at "T.e")))
local macro_rules | `(tactic| walk_at "T.n") => `(tactic| with_reducible first | exact vn "s" 0 | exact vn "d" 1 | exact vn "spot" 2 | exact vn "n" 3)
local macro_rules | `(tactic| walk_at "T.gn") => `(tactic| with_reducible first | exact gn "s" 0 (by walk_at "A"))
local macro_rules | `(tactic| walk_at "T.sc") => `(tactic| (have ndc : (["s", "d", "spot", "n"] : List Str).Nodup := (by decide +kernel)); ((with_reducible refine' s_comp "heights" 9 ["s", "d", "spot", "n"] [0, 1, 3] ?b1 ?b0 ?b2 (fun cl C s H fp => ?b3) (fun cl C s H fp => ?b4) (fun cl C s H fp => ?b5)); (case b1 => exact ndc); (case b0 => assumption); (case b2 => walk_at "T.i"); (case b3 => walk_at "T.g"); (case b4 => walk_at "T.pf"); (case b5 => walk_at "T.e")))
local macro_rules | `(tactic| walk_at "T.n") => `(tactic| with_reducible first | exact vn "j" 0 | exact vn "x" 1)
local macro_rules | `(tactic| walk_at "T.gn") => `(tactic| with_reducible first | exact gn "j" 0 (by walk_at "A"))
local macro_rules | `(tactic| walk_at "T.c") => `(tactic| (have ndc : (["j", "x"] : List Str).Nodup := (by decide +kernel)); ((with_reducible refine' c_comp ["j", "x"] [0] ?b1 ?b2 (fun cl C s H fp => ?b3) (fun cl C s H fp => ?b4) (fun cl C s H fp => ?b5)); (case b1 => exact ndc); (case b2 => walk_at "T.i"); (case b3 => walk_at "T.g"); (case b4 => walk_at "T.pf"); (case b5 => walk_at "T.e")))
local macro_rules | `(tactic| walk_at "T.n") => `(tactic| with_reducible first | exact vn "d" 0 | exact vn "spot" 1 | exact vn "k" 2 | exact vn "n" 3 | exact vn "many" 4 | exact vn "way" 5 | exact vn "begins" 6 | exact vn "turns" 7 | exact vn "every" 8 | exact vn "heights" 9 | exact vn "at" 10 | exact vn "states" 11 | exact vn "state" 12 | exact vn "row" 13 | exact vn "behind" 15 | exact vn "some" 16)
local macro_rules | `(tactic| walk_at "T.gn") => `(tactic| with_reducible first | exact gn "k" 2 (by walk_at "A") | exact gn "n" 3 (by walk_at "A") | exact gn "many" 4 (by walk_at "A") | exact gn "way" 5 (by walk_at "A") | exact gn "begins" 6 (by walk_at "A") | exact gn "turns" 7 (by walk_at "A") | exact gn "every" 8 (by walk_at "A") | exact gn "heights" 9 (by walk_at "A") | exact gn "at" 10 (by walk_at "A") | exact gn "states" 11 (by walk_at "A") | exact gn "state" 12 (by walk_at "A") | exact gn "row" 13 (by walk_at "A") | exact gn "turn" 14 (by walk_at "A") | exact gn "behind" 15 (by walk_at "A") | exact gn "some" 16 (by walk_at "A"))
inductive CA (a EV HE St : Addr) (sp k n many m2 : Nat) (way : Int) (begins turns : Bool) (H H4 : Hp) (i : Nat) (σ : L2.St) (H5 : L2.Hp) : Prop
 | mk (v12 v13 v14 v15 v16 : Option V) (at' : Int) (xs : List V) (G : Hp) (rows : Om.Rows) (z0 : σ = [some (.ref a), some (.int (sp : Nat)), some (.int (k : Nat)), some (.int (n : Nat)), some (.int (many : Nat)), some (.int way), some (.bl begins), some (.bl turns), some (.ref EV), some (.ref HE), some (.int at'), some (.ref St), v12, v13, v14, v15, v16]) (z1 : at' = ((sp + 4 + i * m2 : Nat) : Int)) (z2 : Same H H5) (z3 : Same H4 H5) (z4 : H5 St = some (.lst xs)) (z5 : Same G H5) (z6 : G St = none) (z7 : DVs G xs (rows.map stateD)) (z8 : rows.length = i) (z9 : (∀ st ∈ rows, st.length = m2)) (z10 : ∀ st ∈ rows, ∀ r ∈ st, r.1.length = n ∧ r.2 < many) : CA a EV HE St sp k n many m2 way begins turns H H4 i σ H5
inductive CB (a EV HE St S : Addr) (sp k n many m2 i : Nat) (way : Int) (begins turns : Bool) (H H4 G : Hp) (xs : List V) (j : Nat) (σ : L2.St) (H6 : L2.Hp) : Prop
 | mk (v14 v15 v16 : Option V) (at' : Int) (ys : List V) (G2 : Hp) (rs : List (List Bool × Nat)) (z0 : σ = [some (.ref a), some (.int (sp : Nat)), some (.int (k : Nat)), some (.int (n : Nat)), some (.int (many : Nat)), some (.int way), some (.bl begins), some (.bl turns), some (.ref EV), some (.ref HE), some (.int at'), some (.ref St), some (.int (i : Nat)), some (.ref S), v14, v15, v16]) (z1 : at' = ((sp + 4 + i * m2 + j : Nat) : Int)) (z2 : Same H H6) (z3 : Same H4 H6) (z4 : H6 St = some (.lst xs)) (z5 : H6 S = some (.lst ys)) (z6 : Same G2 H6) (z7 : G2 St = none) (z8 : G2 S = none) (z9 : Same G G2) (z10 : DVs G2 ys (rs.map rowD)) (z11 : rs.length = j) (z12 : ∀ r ∈ rs, r.1.length = n ∧ r.2 < many) : CB a EV HE St S sp k n many m2 i way begins turns H H4 G xs j σ H6
theorem ok_lcode (D : FnX K mg "_law_code" sLCode ["d", "spot"]) (g1 : mg "range" = none) (g2 : mg "len" = none) (c1 : Can P w K mg base "_law_behind" 1 ["x", "state", "many", "turns", "begins"] spBeh) (c2 : Can P w K mg base "_law_some" 1 ["every", "way", "state", "rise"] spSome) : Can P w K mg base "_law_code" 2 ["d", "spot"] spLCode := by
 refine can_fn (k := 1) D scLCode (fun vs H Q E h => ?_) (fun f cdv A outer s H vs Q E hr h => ?_)
 all_goals
  unfold spLCode at h
  split at h
 ·rfl
 ·exact h.elim
 ·rename_i a spot
  walk_at "B"
  obtain ⟨ds, sp, hA, rfl, sp70, dl, dr, q⟩ := h
  walk_at "C"
  have nd := scLCode.nd
  have dget : ∀ {H1 : Hp} {j : Int}, H1 a = some (.lst (ds.map V.int)) → 0 ≤ j → j < (sp + 70 : Nat) → ∃ x : Int, 0 ≤ x ∧ x < 10007 ∧ getV H1 (.ref a) j = some (.int x) := fun {H1 j} h h0 h1 => by
   have il : j.toNat < ds.length := by (clear sp70 h0; omega)
   obtain ⟨e0, e1⟩ := dr _ (List.getElem_mem il)
   exact ⟨ds[j.toNat], e0, e1, gl h h0 (by rw [List.getElem?_map, List.getElem?_eq_getElem il]; rfl)⟩
  refine ⟨_, (by walk_at "T.top"), ?_⟩
  refine ⟨lB_, fun p0 hp0 => ?_⟩
  have t0 : Same H (upd H p0 (.lst [.int 1, .int 1, .int 2, .int 1, .int 3])) := Same.upd hp0
  have ep0 : upd H p0 (.lst [.int 1, .int 1, .int 2, .int 1, .int 3]) p0 = some (.lst [.int 1, .int 1, .int 2, .int 1, .int 3]) := upd_same
  generalize upd H p0 (.lst [V.int 1, .int 1, .int 2, .int 1, .int 3]) = H0 at t0 ep0 ⊢
  have hA0 := t0 _ _ hA
  walk_at "B"
  obtain ⟨x0, _, _, e0⟩ := dget hA0 (j := ((sp : Nat) : Int)) (by omega) (by omega)
  walk_at "C"
  have a0 := Int.emod_nonneg x0 (show (5 : Int) ≠ 0 by decide)
  have a1 := Int.emod_lt_of_pos x0 (show (0 : Int) < 5 by decide)
  obtain ⟨k, k1, k3, ek⟩ : ∃ k : Nat, 1 ≤ k ∧ k ≤ 3 ∧ [V.int 1, .int 1, .int 2, .int 1, .int 3][(x0 % 5).toNat]? = some (.int (k : Nat)) := by
   generalize x0 % 5 = r0 at a0 a1 ⊢
   have : r0 = 0 ∨ r0 = 1 ∨ r0 = 2 ∨ r0 = 3 ∨ r0 = 4 := by (clear sp70 dl; omega)
   rcases this with rfl | rfl | rfl | rfl | rfl
   ·exact ⟨1, by decide, by decide, rfl⟩
   ·exact ⟨1, by decide, by decide, rfl⟩
   ·exact ⟨2, by decide, by decide, rfl⟩
   ·exact ⟨1, by decide, by decide, rfl⟩
   ·exact ⟨3, by decide, by decide, rfl⟩
  refine ⟨_, e0, (by decide : (0 : Int) < 5), .int (k : Nat), gl ep0 a0 ek, ?_⟩
  obtain ⟨x1, x10, _, e1⟩ := dget hA0 (j := ((sp : Nat) : Int) + 1) (by (clear sp70 dl a0 a1 k1 k3; omega)) (by (clear sp70 dl a0 a1 k1 k3; omega))
  have b0 := Int.emod_nonneg x1 (show (6 : Int) ≠ 0 by decide)
  have b1 := Int.emod_lt_of_pos x1 (show (0 : Int) < 6 by decide)
  obtain ⟨n, hn⟩ : ∃ n : Nat, 1 + x1 % 6 = (n : Int) := ⟨(1 + x1 % 6).toNat, by (clear sp70 dl a0 a1 k1 k3 x10 b0 b1; omega)⟩
  have n16 : 1 ≤ n ∧ n ≤ 6 := by (clear sp70 dl a0 a1 k1 k3 x10 b0 b1; omega)
  refine ⟨_, e1, (by decide : (0 : Int) < 6), ?_⟩
  dsimp only [gName, tNext, rAddU]
  rw [hn]
  obtain ⟨x2, x20, _, e2⟩ := dget hA0 (j := ((sp : Nat) : Int) + 2) (by (clear sp70 dl a0 a1 k1 k3 x10 b0 b1 hn n16; omega)) (by (clear sp70 dl a0 a1 k1 k3 x10 b0 b1 hn n16; omega))
  have m0 := Int.emod_nonneg x2 (show (8 : Int) ≠ 0 by decide)
  have m1 := Int.emod_lt_of_pos x2 (show (0 : Int) < 8 by decide)
  obtain ⟨many, hm⟩ : ∃ many : Nat, 1 + x2 % 8 = (many : Int) := ⟨(1 + x2 % 8).toNat, by (clear sp70 dl a0 a1 k1 k3 x10 b0 b1 hn n16 x20 m0 m1; omega)⟩
  have m18 : 1 ≤ many ∧ many ≤ 8 := by (clear sp70 dl a0 a1 k1 k3 x10 b0 b1 hn n16 x20 m0 m1; omega)
  refine ⟨_, e2, (by decide : (0 : Int) < 8), ?_⟩
  dsimp only [gName, tNext, rAddU]
  rw [hm]
  obtain ⟨x3, x30, _, e3⟩ := dget hA0 (j := ((sp : Nat) : Int) + 3) (by (clear sp70 dl a0 a1 k1 k3 x10 b0 b1 hn n16 x20 m0 m1 hm m18; omega)) (by (clear sp70 dl a0 a1 k1 k3 x10 b0 b1 hn n16 x20 m0 m1 hm m18; omega))
  have w0 := Int.emod_nonneg x3 (show (5 : Int) ≠ 0 by decide)
  have w1 := Int.emod_lt_of_pos x3 (show (0 : Int) < 5 by decide)
  refine ⟨_, e3, (by decide : (0 : Int) < 5), ?_⟩
  dsimp only [gName, tNext]
  generalize x3 % 5 = way at w0 w1
  refine ⟨_, e1, ⟨by decide, by decide⟩, (by decide : (0 : Int) < 4), ?_⟩
  dsimp only [gName, tNext, rEqU, tC]
  generalize decide (x1 / 6 % 4 = 0) = begins
  refine seq_by (fun σ H2 => ∃ turns : Bool, σ = [some (.ref a), some (.int (sp : Nat)), some (.int (k : Nat)), some (.int (n : Nat)), some (.int (many : Nat)), some (.int way), some (.bl begins), some (.bl turns), none, none, none, none, none, none, none, none, none] ∧ H2 = H0) ?_ (fun fin => ?_)
  ·intro σ H2 hh_
   walk_at "B"
   obtain ⟨turns, rfl, rfl⟩ := hh_
   walk_at "C"
   obtain ⟨M, hM⟩ : ∃ M, M = 2 ^ n := ⟨_, rfl⟩
   have p64 : M ≤ 64 := by
    rw [hM]
    calc 2 ^ n ≤ 2 ^ 6 := Nat.pow_le_pow_right (by decide) n16.2
     _ ≤ 64 := by decide
   have al : (allW n).length = M := by unfold allW; rw [List.length_map, List.length_range, hM]
   have ag : ∀ i, i < M → (allW n)[i]? = some ((List.range n).map fun j => i.testBit j) := fun i hi => by
    unfold allW
    rw [List.getElem?_map, List.getElem?_range (by (clear sp70 dl a0 a1 k1 k3 x10 b0 b1 hn n16 x20 m0 m1 hm m18 x30 w0 w1 p64 al; omega))]; rfl
   have e2n : ((1 : Int) * 2 ^ ((n : Nat) : Int).toNat) = ((M : Nat) : Int) := by rw [hM, Int.toNat_natCast, Int.one_mul]; push_cast; rfl
   refine ⟨⟨by (clear sp70 dl a0 a1 k1 k3 x10 b0 b1 hn n16 x20 m0 m1 hm m18 x30 w0 w1 hM p64 al e2n; omega), by (clear sp70 dl a0 a1 k1 k3 x10 b0 b1 hn x20 m0 m1 hm m18 x30 w0 w1 hM p64 al e2n; omega), by decide⟩, ?_⟩
   dsimp only [tNil]
   rw [e2n]
   refine ⟨by (clear sp70 dl a0 a1 k1 k3 x10 b0 b1 hn n16 x20 m0 m1 hm m18 x30 w0 w1 hM p64 al e2n; omega), by (clear sp70 dl a0 a1 k1 k3 x10 b0 b1 hn n16 x20 m0 m1 hm m18 x30 w0 w1 hM al e2n; omega), fun EV hEV => ?_⟩
   refine comp_by (it_range 0 _) (fun i τ H3 ys => (∃ v, τ = [v, some (.int (n : Nat))]) ∧ Same H2 H3 ∧ H3 EV = some (.lst ys) ∧ ys = ((allW n).take i).map fun w => V.str (bs w)) (by rw [List.length_map, List.length_range]; exact le_line (by (clear sp70 dl a0 a1 k1 k3 x10 b0 b1 hn n16 x20 m0 m1 hm m18 x30 w0 w1 hM al e2n; omega))) ⟨⟨none, rfl⟩, Same.upd hEV, upd_same, rfl⟩ ?_ ?_ ?_
   ·intro i τ H3 ys hi hh_
    walk_at "B"
    obtain ⟨_, _, h3, rfl⟩ := hh_
    walk_at "C"
    rw [List.length_map, List.length_range] at hi
    exact ⟨trivial, h3, by rw [List.length_map, List.length_take]; (clear sp70 dl a0 a1 k1 k3 x10 b0 b1 hn n16 x20 m0 m1 hm m18 x30 w0 w1 hM p64 al e2n hi; omega)⟩
   ·intro i x τ H3 ys hi hx hh_
    walk_at "B"
    obtain ⟨⟨v, rfl⟩, s3, h3, rfl⟩ := hh_
    walk_at "C"
    rw [List.length_map, List.length_range] at hi
    have hi : i < M := by (clear sp70 dl a0 a1 k1 k3 x10 b0 b1 hn n16 x20 m0 m1 hm m18 x30 w0 w1 hM p64 al e2n; omega)
    have ex : x = V.int (i : Nat) := by
     rw [List.getElem?_map, List.getElem?_range (by (clear sp70 dl a0 a1 k1 k3 x10 b0 b1 hn n16 x20 m0 m1 hm m18 x30 w0 w1 hM p64 al e2n; omega))] at hx
     have := Option.some.inj hx
     rw [← this]; simp
    subst ex
    refine ⟨rfl, ⟨by (clear sp70 dl a0 a1 k1 k3 x10 b0 b1 hn n16 x20 m0 m1 hm m18 x30 w0 w1 hM p64 al e2n hi; omega), by (clear sp70 dl a0 a1 k1 k3 x10 b0 b1 hn x20 m0 m1 hm m18 x30 w0 w1 hM p64 al e2n hi; omega), fun D1 hD1 => ?_⟩⟩
    have ED : EV ≠ D1 := ne_of_none h3 hD1
    refine comp_by (it_range 0 _) (fun j τ H4 ys => (∃ v, τ = [v, some (.int (i : Nat))]) ∧ H4 = upd H3 D1 (.lst ys) ∧ ys = ((List.range j).map fun j => i.testBit j).map fun b => V.str (bs [b])) (by rw [List.length_map, List.length_range]; exact le_line (by (clear sp70 dl a0 a1 k1 k3 x10 b0 b1 hn x20 m0 m1 hm m18 x30 w0 w1 hM p64 al e2n hi ED; omega))) ⟨⟨none, rfl⟩, rfl, rfl⟩ ?_ ?_ ?_
    ·intro j τ H4 ys hj hh_
     walk_at "B"
     obtain ⟨_, rfl, rfl⟩ := hh_
     walk_at "C"
     exact ⟨trivial, upd_same, by simp⟩
    ·intro j y τ H4 ys hj hy hh_
     walk_at "B"
     obtain ⟨⟨v, rfl⟩, rfl, rfl⟩ := hh_
     walk_at "C"
     rw [List.length_map, List.length_range] at hj
     have hj : j < n := by (clear sp70 dl a0 a1 k1 k3 x10 b0 b1 hn n16 x20 m0 m1 hm m18 x30 w0 w1 hM p64 al e2n hi ED; omega)
     have ey : y = V.int (j : Nat) := by
      rw [List.getElem?_map, List.getElem?_range (by (clear sp70 dl a0 a1 k1 k3 x10 b0 b1 hn n16 x20 m0 m1 hm m18 x30 w0 w1 hM p64 al e2n hi ED; omega))] at hy
      have := Option.some.inj hy
      rw [← this]; simp
     subst ey
     have bt := bit01 i (by (clear sp70 dl a0 a1 k1 k3 x10 b0 b1 hn n16 x20 m0 m1 hm m18 x30 w0 w1 hM al e2n ED hj; omega)) j (by (clear sp70 dl a0 a1 k1 k3 x10 b0 b1 hn x20 m0 m1 hm m18 x30 w0 w1 hM p64 al e2n hi ED; omega))
     have b0 : 0 ≤ Builtin.bitAnd ((i : Int) / 2 ^ ((j : Nat) : Int).toNat) 1 := by rw [bt]; split <;> decide
     have b1 : Builtin.bitAnd ((i : Int) / 2 ^ ((j : Nat) : Int).toNat) 1 < 2 := by rw [bt]; split <;> decide
     refine ⟨by (clear sp70 dl a0 a1 k1 k3 x10 hn n16 x20 m0 m1 hm m18 x30 w0 w1 hM p64 al e2n hi ED hj bt b0 b1; omega), _, g01 b0 b1, upd_same, ⟨_, rfl⟩, upd_upd, ?_⟩
     rw [bt, List.range_succ, List.map_append, List.map_append]
     congr 1
     show [V.str (bs [decide ((if i.testBit j = true then (1 : Int) else 0) = 1)])] = [V.str (bs [i.testBit j])]
     cases i.testBit j <;> rfl
    ·intro τ H4 ys hh_
     walk_at "B"
     obtain ⟨_, rfl, rfl⟩ := hh_
     walk_at "C"
     rw [List.length_map, List.length_range, Int.toNat_natCast]
     refine ⟨((List.range n).map fun j => i.testBit j).map fun b => bs [b], by rw [upd_same]; simp only [List.map_map]; rfl, join1 _ (by simp; (clear sp70 dl a0 a1 k1 k3 x10 b0 b1 hn x20 m0 m1 hm m18 x30 w0 w1 hM p64 al e2n hi ED; omega)), ?_⟩
     rw [bs_ones]
     refine ⟨by rw [upd_ne ED]; exact h3, ⟨_, rfl⟩, (s3.trans (Same.upd hD1)).own hEV, upd_same, ?_⟩
     rw [List.take_add_one, ag i hi, List.map_append]
     rfl
   ·intro τ H3 ys hh_
    walk_at "B"
    obtain ⟨_, s3, h3, rfl⟩ := hh_
    walk_at "C"
    rw [List.length_map, List.length_range, Int.toNat_natCast, ← al, List.take_length] at h3
    have h3 : H3 EV = some (WS (allW n)) := h3
    have hA3 := s3 _ _ hA0
    have t3 := t0.trans s3
    dsimp only [gName]
    refine ⟨by (clear sp70 dl a0 a1 k1 k3 x10 b0 b1 hn n16 x20 m0 m1 hm m18 x30 w0 w1 hM p64 al e2n; omega), by (clear sp70 dl a0 a1 k1 k3 x10 b0 b1 hn n16 x20 m0 m1 hm x30 w0 w1 hM p64 al e2n; omega), fun HE hHE => ?_⟩
    have EH : EV ≠ HE := ne_of_none h3 hHE
    have aH : a ≠ HE := ne_of_none hA3 hHE
    refine comp_by (it_range 0 _) (fun i τ H4 ys => (∃ v, τ = [v, some (.ref a), some (.int (sp : Nat)), some (.int (n : Nat))]) ∧ H4 = upd H3 HE (.lst ys) ∧ ys.length = i ∧ ∃ hs : List Int, ys = hs.map V.int) (by rw [List.length_map, List.length_range]; exact le_line (by (clear sp70 dl a0 a1 k1 k3 x10 b0 b1 hn n16 x20 m0 m1 hm x30 w0 w1 hM p64 al e2n EH aH; omega))) ⟨⟨none, rfl⟩, rfl, rfl, [], rfl⟩ ?_ ?_ ?_
    ·intro i τ H4 ys hi hh_
     walk_at "B"
     obtain ⟨_, rfl, yl, _⟩ := hh_
     walk_at "C"
     exact ⟨trivial, upd_same, by (clear sp70 dl a0 a1 k1 k3 x10 b0 b1 hn n16 x20 m0 m1 hm m18 x30 w0 w1 hM p64 al e2n EH aH hi; omega)⟩
    ·intro i x τ H4 ys hi hx hh_
     walk_at "B"
     obtain ⟨⟨v, rfl⟩, rfl, yl, hs, rfl⟩ := hh_
     walk_at "C"
     rw [List.length_map, List.length_range] at hi
     have ex : x = V.int (i : Nat) := by
      rw [List.getElem?_map, List.getElem?_range (by (clear sp70 dl a0 a1 k1 k3 x10 b0 b1 hn n16 x20 m0 m1 hm m18 x30 w0 w1 hM p64 al e2n EH aH yl; omega))] at hx
      have := Option.some.inj hx
      rw [← this]; simp
     subst ex
     have hA4 : upd H3 HE (.lst (hs.map V.int)) a = some (.lst (ds.map V.int)) := by rw [upd_ne aH]; exact hA3
     obtain ⟨y, _, _, ey⟩ := dget hA4 (j := ((sp : Nat) : Int) + 4 + (i : Nat)) (by (clear sp70 dl a0 a1 k1 k3 x10 b0 b1 hn n16 x20 m0 m1 hm m18 x30 w0 w1 hM p64 al e2n EH aH hi yl; omega)) (by (clear sp70 dl a0 a1 k1 k3 x10 b0 b1 hn n16 x20 m0 m1 hm x30 w0 w1 hM p64 al e2n EH aH yl; omega))
     have z0 := Int.emod_nonneg (i : Int) (show (2 : Int) ≠ 0 by decide)
     have z1 := Int.emod_lt_of_pos (i : Int) (show (0 : Int) < 2 by decide)
     refine ⟨_, ey, ⟨by decide, by decide⟩, (by decide : (0 : Int) < 3), .inr ⟨by decide, by decide⟩, (by decide : (0 : Int) < 2), (by decide : (0 : Int) < 2), .inl ⟨by (clear sp70 dl a0 a1 k1 k3 x10 b0 b1 hn n16 x20 m0 m1 hm m18 x30 w0 w1 hM p64 al e2n EH aH hi yl z0 z1; omega), by (clear sp70 dl a0 a1 k1 k3 x10 b0 b1 hn n16 x20 m0 m1 hm m18 x30 w0 w1 hM p64 al e2n EH aH hi yl z0 z1; omega)⟩, ?_⟩
     refine ⟨upd_same, ⟨_, rfl⟩, upd_upd, by rw [List.length_append, List.length_singleton]; (clear sp70 dl a0 a1 k1 k3 x10 b0 b1 hn n16 x20 m0 m1 hm m18 x30 w0 w1 hM p64 al e2n EH aH hi z0 z1; omega), hs ++ [_], by rw [List.map_append]; rfl⟩
    ·intro τ H4 ys hh_
     walk_at "B"
     obtain ⟨_, rfl, yl, hs, rfl⟩ := hh_
     walk_at "C"
     rw [List.length_map, List.length_map, List.length_range, Int.toNat_natCast] at yl
     have t4 := t3.trans (Same.upd (o := .lst (hs.map V.int)) hHE)
     have hH4 : upd H3 HE (.lst (hs.map V.int)) HE = some (.lst (hs.map V.int)) := upd_same
     have hE4 := Same.upd (o := .lst (hs.map V.int)) hHE _ _ h3
     have hA4 := Same.upd (o := .lst (hs.map V.int)) hHE _ _ hA3
     clear hEV h3 hA3 t3 s3 hA0 hHE
     generalize upd H3 HE (.lst (hs.map V.int)) = H4 at t4 hH4 hE4 hA4
     dsimp only [gName]
     have hget : ∀ {H1 : Hp} {j : Int}, H1 HE = some (.lst (hs.map V.int)) → 0 ≤ j → j < (many : Nat) → ∃ x : Int, getV H1 (.ref HE) j = some (.int x) := fun {H1 j} h h0 h1 => by
      have il : j.toNat < hs.length := by (clear sp70 dl a0 a1 k1 k3 x10 b0 b1 hn n16 x20 m0 m1 hm m18 x30 w0 w1 hM p64 al e2n EH aH; omega)
      exact ⟨hs[j.toNat], gl h h0 (by rw [List.getElem?_map, List.getElem?_eq_getElem il]; rfl)⟩
     refine ⟨Nat.zero_le _, fun St hSt => ?_⟩
     have St0 : H St = none := t4.free hSt
     have p8 : 2 ^ k ≤ 8 := Om.pow8 k3
     obtain ⟨m2, hm2⟩ : ∃ m2, m2 = 2 ^ k := ⟨_, rfl⟩
     rw [← hm2] at p8
     have e2k : ((2 : Int) * 2 ^ (((k : Nat) : Int) - 1).toNat) = ((m2 : Nat) : Int) := by
      rw [hm2]
      have : k = 1 ∨ k = 2 ∨ k = 3 := by (clear sp70 dl a0 a1 x10 b0 b1 hn n16 x20 m0 m1 hm m18 x30 w0 w1 hM p64 al e2n EH aH yl p8 hm2; omega)
      rcases this with rfl | rfl | rfl <;> rfl
     have S4 : Same H4 (upd H4 St (.lst [])) := Same.upd hSt
     refine ⟨by (clear sp70 dl a0 a1 k1 k3 x10 b0 b1 hn n16 x20 m0 m1 hm m18 x30 w0 w1 hM p64 al e2n EH aH yl p8 hm2 e2k; omega), by (clear sp70 dl a0 a1 k1 k3 x10 b0 b1 hn n16 x20 m0 m1 hm x30 w0 w1 hM p64 al e2n EH aH yl p8 hm2 e2k; omega), for_by (it_range 0 _) (CA a EV HE St sp k n many m2 way begins turns H H4)
      ⟨none, none, none, none, none, _, [], fun _ => none, [], rfl, by push_cast; (clear sp70 dl a0 a1 k1 k3 x10 b0 b1 hn n16 x20 m0 m1 hm m18 x30 w0 w1 hM p64 al e2n EH aH yl p8 hm2 e2k; omega), t4.trans S4, S4, upd_same, (fun b o e => nomatch e), rfl, .nil, rfl, by simp, by simp⟩ (fun _ _ _ _ _ => trivial) ?_ ?_⟩
     ·intro i x σ H5 hi hx hh_
      walk_at "B"
      obtain ⟨v12, v13, v14, v15, v16, at', xs, G, rows, rfl, rfl, s5, s45, h5, sG, gS, dv, rl, rk, rr⟩ := hh_
      walk_at "C"
      rw [List.length_map, List.length_range] at hi
      have hi : i < many := by (clear sp70 dl a0 a1 k1 k3 x10 b0 b1 hn n16 x20 m0 m1 hm m18 x30 w0 w1 hM p64 al e2n EH aH yl p8 hm2 e2k rl; omega)
      have ex : x = V.int (i : Nat) := by
       rw [List.getElem?_map, List.getElem?_range (by (clear sp70 dl a0 a1 k1 k3 x10 b0 b1 hn n16 x20 m0 m1 hm m18 x30 w0 w1 hM p64 al e2n EH aH yl p8 hm2 e2k rl; omega))] at hx
       have := Option.some.inj hx
       rw [← this]; simp
      subst ex
      refine ⟨Nat.zero_le _, fun S hS' => ?_⟩
      have StS : St ≠ S := ne_of_none h5 hS'
      have sS := Same.upd (o := .lst []) hS'
      refine ⟨⟨by (clear sp70 dl a0 a1 k3 x10 b0 b1 hn n16 x20 m0 m1 hm m18 x30 w0 w1 hM p64 al e2n EH aH yl p8 hm2 e2k rl hi StS; omega), by (clear sp70 dl a0 a1 k1 x10 b0 b1 hn n16 x20 m0 m1 hm m18 x30 w0 w1 hM p64 al e2n EH aH yl p8 hm2 e2k rl hi StS; omega), by decide⟩, (show -(2 ^ 62) ≤ (2 : Int) * 2 ^ (((k : Nat) : Int) - 1).toNat from by rw [e2k]; (clear sp70 dl a0 a1 k1 k3 x10 b0 b1 hn n16 x20 m0 m1 hm m18 x30 w0 w1 hM p64 al e2n EH aH yl p8 hm2 e2k rl hi StS; omega)), (show (2 : Int) * 2 ^ (((k : Nat) : Int) - 1).toNat < 2 ^ 62 from by rw [e2k]; (clear sp70 dl a0 a1 k1 k3 x10 b0 b1 hn n16 x20 m0 m1 hm m18 x30 w0 w1 hM p64 al e2n EH aH yl hm2 e2k rl hi StS; omega)), ?_⟩
      have GS : G S = none := sG.free hS'
      have i8 : i * m2 ≤ 7 * 8 := Nat.mul_le_mul (by (clear sp70 dl a0 a1 k1 k3 x10 b0 b1 hn n16 x20 m0 m1 hm x30 w0 w1 hM p64 al e2n EH aH yl p8 hm2 e2k rl StS; omega)) p8
      refine for_by (it_range 0 _) (CB a EV HE St S sp k n many m2 i way begins turns H H4 G xs)
       ⟨v14, v15, v16, ((sp + 4 + i * m2 : Nat) : Int), [], G, [], rfl, rfl, s5.trans sS, s45.trans sS, sS _ _ h5, upd_same, sG.trans sS, gS, GS, Same.refl _, .nil, rfl, by simp⟩ (fun _ _ _ _ _ => trivial) ?_ ?_
      ·intro j y σ H6 hj hy hh_
       walk_at "B"
       obtain ⟨v14, v15, v16, at', ys, G2, rs, rfl, rfl, s6, s46, h6, hS6, sG2, gS2, gSS, gg, dv2, rl2, rr2⟩ := hh_
       walk_at "C"
       rw [List.length_map, List.length_range] at hj
       have ey : y = V.int (j : Nat) := by
        rw [List.getElem?_map, List.getElem?_range hj] at hy
        have := Option.some.inj hy
        rw [← this]; simp
       subst ey
       have hj : j < m2 := by have := hj; rw [show ((2 : Int) * 2 ^ (((k : Nat) : Int) - 1).toNat) = ((m2 : Nat) : Int) from e2k, Int.toNat_natCast] at this; exact this
       obtain ⟨dx, _, _, edx⟩ := dget (s46 _ _ hA4) (j := ((sp + 4 + i * m2 + j : Nat) : Int)) (by (clear sp70 dl a0 a1 k1 k3 x10 b0 b1 hn n16 x20 m0 m1 hm m18 x30 w0 w1 hM p64 al e2n EH aH yl p8 hm2 e2k rl hi StS i8 rl2 hj; omega)) (by (clear sp70 dl a0 a1 k1 k3 x10 b0 b1 hn n16 x20 m0 m1 hm m18 x30 w0 w1 hM p64 al e2n EH aH yl hm2 rl hi StS rl2 hj; omega))
       refine ⟨_, edx, ⟨by decide, by decide⟩, many, rfl, m18.1, fun b hb => ?_⟩
       obtain ⟨h1, eh1⟩ := hget (s46 _ _ hH4) (j := (b : Int)) (by (clear sp70 dl a0 a1 k1 k3 x10 b0 b1 hn n16 x20 m0 m1 hm m18 x30 w0 w1 hM p64 al e2n EH aH yl p8 hm2 e2k rl hi StS i8 rl2 hj hb; omega)) (by (clear sp70 dl a0 a1 k1 k3 x10 b0 b1 hn n16 x20 m0 m1 hm m18 x30 w0 w1 hM p64 al e2n EH aH yl p8 hm2 e2k rl hi StS i8 rl2 hj; omega))
       obtain ⟨h2, eh2⟩ := hget (s46 _ _ hH4) (j := (i : Int)) (by (clear sp70 dl a0 a1 k1 k3 x10 b0 b1 hn n16 x20 m0 m1 hm m18 x30 w0 w1 hM p64 al e2n EH aH yl p8 hm2 e2k rl hi StS i8 rl2 hj hb; omega)) (by (clear sp70 dl a0 a1 k1 k3 x10 b0 b1 hn n16 x20 m0 m1 hm m18 x30 w0 w1 hM p64 al e2n EH aH yl p8 hm2 e2k rl StS i8 rl2 hj hb; omega))
       refine ⟨_, eh1, _, eh2, n, n16.1, n16.2, s46 _ _ hE4, w0, w1, fun sl ws H7 s7 hsl wne w64 wl => ?_⟩
       have w1' : 0 < ws.length := by
        cases ws with
        | nil => exact absurd rfl wne
        | cons _ _ => exact Nat.succ_pos _
       obtain ⟨dx, _, _, edx⟩ := dget (s7 _ _ (s46 _ _ hA4)) (j := ((sp + 4 + i * m2 + j : Nat) : Int)) (by (clear sp70 dl a0 a1 k1 k3 x10 b0 b1 hn n16 x20 m0 m1 hm m18 x30 w0 w1 hM p64 al e2n EH aH yl p8 hm2 e2k rl hi StS i8 rl2 hj hb w64 w1'; omega)) (by (clear sp70 dl a0 a1 k1 k3 x10 b0 b1 hn n16 x20 m0 m1 hm m18 x30 w0 w1 hM p64 al e2n EH aH yl hm2 e2k rl hi StS rl2 hb w64 w1'; omega))
       have q0 := Int.emod_nonneg dx (show ((ws.length : Nat) : Int) ≠ 0 by (clear sp70 dl a0 a1 k1 k3 x10 b0 b1 hn n16 x20 m0 m1 hm m18 x30 w0 w1 hM p64 al e2n EH aH yl p8 hm2 e2k rl hi StS i8 rl2 hj hb w64; omega))
       have q1 := Int.emod_lt_of_pos dx (show (0 : Int) < ((ws.length : Nat) : Int) by (clear sp70 dl a0 a1 k1 k3 x10 b0 b1 hn n16 x20 m0 m1 hm m18 x30 w0 w1 hM p64 al e2n EH aH yl p8 hm2 e2k rl hi StS i8 rl2 hj hb w64 q0; omega))
       have hS7 := s7 _ _ hS6
       have h7 := s7 _ _ h6
       have il : (dx % ((ws.length : Nat) : Int)).toNat < ws.length := by (clear sp70 dl a0 a1 k1 k3 x10 b0 b1 hn n16 x20 m0 m1 hm m18 x30 w0 w1 hM p64 al e2n EH aH yl p8 hm2 e2k rl hi StS i8 rl2 hj hb w64 w1'; omega)
       obtain ⟨wd, hwd⟩ : ∃ wd, ws[(dx % ((ws.length : Nat) : Int)).toNat]? = some wd := ⟨_, List.getElem?_eq_getElem il⟩
       have wdl : wd.length = n := wl wd (List.mem_of_getElem? hwd)
       refine ⟨⟨_, rfl, hS7⟩, _, edx, ws.length, by rw [lenL hsl, ws_len], (by (clear sp70 dl a0 a1 k1 k3 x10 b0 b1 hn n16 x20 m0 m1 hm m18 x30 w0 w1 hM p64 al e2n EH aH yl p8 hm2 e2k rl hi StS i8 rl2 hj hb w64 w1' q0 q1 wdl; omega) : (0 : Int) < ((ws.length : Nat) : Int)), .str (bs wd), gl hsl q0 (ws_get hwd), lB_, fun p hp => ?_⟩
       have sp' := Same.upd (o := .tup [.str (bs wd), .int (b : Nat)]) hp
       have Sp : S ≠ p := ne_of_none hS7 hp
       have Stp : St ≠ p := ne_of_none h7 hp
       have yl2 : ys.length = j := by rw [dv2.length, List.length_map, rl2]
       refine ⟨_, sp' _ _ hS7, lt_line (by (clear sp70 dl a0 a1 k1 k3 x10 b0 b1 hn n16 x20 m0 m1 hm m18 x30 w0 w1 hM p64 al e2n EH aH yl hm2 e2k rl hi StS i8 rl2 hb w64 w1' q0 q1 il wdl Sp Stp; omega)), ?_⟩
       have sG7 := sG2.trans s7
       have gp := sG7.free hp
       have GG : Same G2 (upd G2 p (.tup [.str (bs wd), .int (b : Nat)])) := Same.upd gp
       have HS0 : H S = none := s5.free hS'
       have H4S : H4 S = none := s45.free hS'
       refine ⟨_, _, _, _, ys ++ [.ref p], upd G2 p (.tup [.str (bs wd), .int (b : Nat)]), rs ++ [(wd, b)], rfl, by push_cast; (clear sp70 dl a0 a1 k1 k3 x10 b0 b1 hn n16 x20 m0 m1 hm m18 x30 w0 w1 hM p64 al e2n EH aH yl p8 hm2 e2k rl hi StS i8 rl2 hj hb w64 w1' q0 q1 il wdl Sp Stp yl2; omega), ((s6.trans s7).trans sp').own HS0, ((s46.trans s7).trans sp').own H4S, by rw [upd_ne StS]; exact sp' _ _ h7, upd_same, fun b o e => ?_, by rw [upd_ne Stp]; exact gS2, by rw [upd_ne Sp]; exact gSS, gg.trans GG, ?_, by simp [rl2], fun r hr' => ?_⟩
       ·have bS : b ≠ S := fun z => by rw [z, upd_ne Sp, gSS] at e; cases e
        rw [upd_ne bS]
        by_cases hb : b = p
        ·subst hb; rw [upd_same] at e ⊢; exact e
        ·rw [upd_ne hb] at e ⊢; exact sG7 _ _ e
       ·rw [List.map_append]
        exact (dv2.mono GG).app (.cons (.tup upd_same (.cons (.str _) (.cons (.int _) .nil))) .nil)
       ·rcases List.mem_append.mp hr' with z | z
        ·exact rr2 r z
        ·have : r = (wd, b) := by simpa using z
         subst this
         exact ⟨wdl, hb⟩
      ·intro σ H6 hh_
       walk_at "B"
       obtain ⟨v14, v15, v16, at', ys, G2, rs, rfl, rfl, s6, s46, h6, hS6, sG2, gS2, gSS, gg, dv2, rl2, rr2⟩ := hh_
       walk_at "C"
       rw [List.length_map, List.length_range] at rl2
       have rl2 : rs.length = m2 := by rw [show ((2 : Int) * 2 ^ (((k : Nat) : Int) - 1).toNat) = ((m2 : Nat) : Int) from e2k, Int.toNat_natCast] at rl2; exact rl2
       have xl : xs.length = i := by rw [dv.length, List.length_map, rl]
       refine ⟨⟨_, rfl, h6⟩, _, h6, lt_line (by (clear sp70 dl a0 a1 k1 k3 x10 b0 b1 hn n16 x20 m0 m1 hm x30 w0 w1 hM p64 al e2n EH aH yl p8 hm2 e2k rl StS i8 rl2; omega)), ?_⟩
       have GG : Same G2 (upd G2 S (.lst ys)) := Same.upd gSS
       have H4St : H4 St = none := hSt
       refine ⟨_, _, v14, v15, v16, _, xs ++ [.ref S], upd G2 S (.lst ys), rows ++ [rs], rfl, ?_, s6.own St0, s46.own H4St, upd_same, fun b o e => ?_, by rw [upd_ne StS]; exact gS2, ?_, by simp [rl], fun st hst => ?_, fun st hst => ?_⟩
       ·rw [List.length_map, List.length_range, show ((2 : Int) * 2 ^ (((k : Nat) : Int) - 1).toNat) = ((m2 : Nat) : Int) from e2k, Int.toNat_natCast, Nat.succ_mul]; congr 1; (clear sp70 dl a0 a1 k1 k3 x10 b0 b1 hn n16 x20 m0 m1 hm m18 x30 w0 w1 hM p64 al e2n EH aH yl p8 hm2 e2k rl hi StS i8 rl2 xl; omega)
       ·have bSt : b ≠ St := fun z => by rw [z, upd_ne StS, gS2] at e; cases e
        rw [upd_ne bSt]
        by_cases hb : b = S
        ·subst hb; rw [upd_same] at e; rw [hS6]; exact e
        ·rw [upd_ne hb] at e; exact sG2 _ _ e
       ·rw [List.map_append]
        exact (dv.mono (gg.trans GG)).app (.cons (.lst upd_same (dv2.mono GG)) .nil)
       ·rcases List.mem_append.mp hst with z | z
        ·exact rk st z
        ·have : st = rs := by simpa using z
         subst this
         exact rl2
       ·rcases List.mem_append.mp hst with z | z
        ·exact rr st z
        ·have : st = rs := by simpa using z
         subst this
         exact rr2
     ·intro σ H5 hh_
      walk_at "B"
      obtain ⟨v12, v13, v14, v15, v16, at', xs, G, rows, rfl, rfl, s5, s45, h5, sG, gS, dv, rl, rk, rr⟩ := hh_
      walk_at "C"
      rw [List.length_map, List.length_range, Int.toNat_natCast] at rl
      refine ⟨lB_, fun p hp => ?_⟩
      have gS2 : Same G (upd G St (.lst xs)) := Same.upd gS
      have sm : Same (upd G St (.lst xs)) H5 := fun b o e => by
       by_cases hb : b = St
       ·subst hb; rw [upd_same] at e; rw [h5]; exact e
       ·rw [upd_ne hb] at e; exact sG _ _ e
      refine q _ k n rows _ (s5.trans (Same.upd hp)) (.tup upd_same (.cons (.int _) (.cons (.int _) (.cons (.lst (Same.upd hp _ _ h5) (dv.mono ((gS2.trans sm).trans (Same.upd hp)))) .nil)))) ⟨k1, k3, n16.1, n16.2, by (clear sp70 dl a0 a1 k1 k3 x10 b0 b1 hn n16 x20 m0 m1 hm x30 w0 w1 hM p64 al e2n EH aH yl p8 hm2 e2k; omega), by (clear sp70 dl a0 a1 k1 k3 x10 b0 b1 hn n16 x20 m0 m1 hm x30 w0 w1 hM p64 al e2n EH aH yl p8 hm2 e2k; omega), fun st hst => (rk st hst).trans hm2, fun st hst r hr' => by have := rr st hst r hr'; (clear sp70 dl a0 a1 k1 k3 x10 b0 b1 hn n16 x20 m0 m1 hm m18 x30 w0 w1 hM p64 al e2n EH aH yl p8 hm2 e2k; omega)⟩
  ·refine ite2 (fun c => fin _ _ ⟨true, rfl, rfl⟩) (fun c => ?_)
   refine ite2 (fun c => ?_) (fun c => fin _ _ ⟨false, rfl, rfl⟩)
   exact ⟨(by decide : (0 : Int) < 2), fin _ _ ⟨_, rfl, rfl⟩⟩
 ·exact h.elim
end

end K21
end
section
set_option Elab.async false
set_option linter.all false
set_option maxRecDepth 100000
set_option maxHeartbeats 4000000
namespace K21
open PySem L2
section
variable {P : Program} {w : World} {K : PySem.W.Frag} {mg : Str → Option Value} {base : Heap}
abbrev sCopy : Stmt := top 21
def spCopyF : Sp := fun vs H Q _ => match vs with
 | [cv] => ∃ (k n : Nat) (rows : Om.Rows), DV H cv (codeD k n rows) ∧ rows.length ≤ 8 ∧ ∀ a b (qs : List Addr) H', Same H H' → H a = none → CopyOf H H' a b qs k n rows → Q (.ref a) H'
 | _ => False
theorem scCopy : FnScope ["code"] ["code"] (defScope sCopy) := ⟨rfl, rfl, rfl, by decide +kernel, rfl, by decide +kernel, by decide +kernel⟩
local macro_rules | `(tactic| walk_at "T.n") => `(tactic| with_reducible first | exact vn "code" 0)
local macro_rules | `(tactic| walk_at "T.n") => `(tactic| with_reducible first | exact vn "row" 0)
local macro_rules | `(tactic| walk_at "T.gn") => `(tactic| with_reducible first | exact gn "row" 0 (by walk_at "A"))
local macro_rules | `(tactic| walk_at "T.c") => `(tactic| (have ndc : (["row"] : List Str).Nodup := (by decide +kernel)); ((with_reducible refine' c_comp ["row"] [] ?b1 ?b2 (fun cl C s H fp => ?b3) (fun cl C s H fp => ?b4) (fun cl C s H fp => ?b5)); (case b1 => exact ndc); (case b2 => walk_at "T.i"); (case b3 => walk_at "T.g"); (case b4 => walk_at "T.pf"); (case b5 => walk_at "T.e")))
theorem ok_copy (D : FnX K mg "_law_copy" sCopy ["code"]) (g2 : mg "list" = none) : Can P w K mg base "_law_copy" 1 ["code"] spCopyF := by
 refine can_fn (k := 0) D scCopy (fun vs H Q E h => ?_) (fun f cdv A outer s H vs Q E hr h => ?_)
 all_goals
  unfold spCopyF at h
  split at h
 ·rfl
 ·exact h.elim
 ·rename_i cv
  walk_at "B"
  obtain ⟨k, n, rows, hc, rl, q⟩ := h
  walk_at "C"
  have nd := scCopy.nd
  walk_at "B"
  obtain ⟨a, b, ss, rfl, ha, hb, hss⟩ := code_inv hc
  walk_at "C"
  have sl : ss.length = rows.length := by rw [hss.length, List.length_map]
  refine ⟨_, (by walk_at "T.top1"), ?_⟩
  refine ⟨_, gt ha (by decide) rfl, _, gt ha (by decide) rfl, _, gt ha (by decide) rfl, ⟨_, SqL.of hb⟩, fun D1 hD1 => ?_⟩
  refine comp_by (it_list _ b ss) (fun i τ H2 ys => (∃ v, τ = [v]) ∧ Same H H2 ∧ H2 D1 = some (.lst ys) ∧ ∃ qs : List Addr, ys = qs.map V.ref ∧ qs.length = i ∧ qs.Nodup ∧ (∀ q ∈ qs, H q = none ∧ q ≠ D1) ∧ ∀ (j : Nat) (st : List (List Bool × Nat)), j < i → rows[j]? = some st → ∃ q rs, qs[j]? = some q ∧ H2 q = some (.lst rs) ∧ DVs H rs (st.map rowD))
   (by rw [sl]; exact le_line (by omega)) ⟨⟨none, rfl⟩, Same.upd hD1, upd_same, [], rfl, rfl, List.nodup_nil, (fun q hq => nomatch hq), fun j st h => absurd h (Nat.not_lt_zero _)⟩ ?_ ?_ ?_
  ·intro i τ H2 ys hi hh_
   walk_at "B"
   obtain ⟨_, s2, h2, qs, rfl, ql, _⟩ := hh_
   walk_at "C"
   exact ⟨SqL.of (s2 _ _ hb), h2, by rw [List.length_map]; (clear rl sl hi; omega)⟩
  ·intro i x τ H2 ys hi hx hh_
   walk_at "B"
   obtain ⟨⟨v, rfl⟩, s2, h2, qs, rfl, ql, qn, qf, hst⟩ := hh_
   walk_at "C"
   have hi' : i < rows.length := by rw [← sl]; exact hi
   walk_at "B"
   obtain ⟨p, rs, e1, e2, e3⟩ := state_at hss (s := i) (st := rows[i]) (List.getElem?_eq_getElem hi')
   walk_at "C"
   rw [hx] at e1
   cases e1
   refine ⟨rs, .inl (s2 _ _ e2), fun l hl' => ?_⟩
   have dl : D1 ≠ l := ne_of_none h2 hl'
   have lq : l ∉ qs := fun z => by
    obtain ⟨j, hj⟩ := List.mem_iff_getElem?.mp z
    have jl := (List.getElem?_eq_some_iff.mp hj).1
    have jr : j < rows.length := by (clear rl sl hi dl; omega)
    obtain ⟨q', rs', a1, a2, _⟩ := hst j rows[j] (by (clear rl sl hi dl jr; omega)) (List.getElem?_eq_getElem jr)
    rw [hj] at a1
    cases a1
    rw [hl'] at a2; cases a2
   have s3 := s2.trans (Same.upd (o := .lst rs) hl')
   have il : qs.length = i := ql
   refine ⟨by rw [upd_ne dl]; exact h2, ⟨_, rfl⟩, s3.own hD1, upd_same, qs ++ [l], by rw [List.map_append]; rfl, by simp [ql], ?_, fun q' hq' => ?_, fun j st hj hr => ?_⟩
   ·rw [List.nodup_append]
    refine ⟨qn, by simp, fun x hx y hy z => ?_⟩
    have : y = l := by simpa using hy
    subst this
    subst z
    exact lq hx
   ·rcases List.mem_append.mp hq' with z | z
    ·exact qf q' z
    ·have : q' = l := by simpa using z
     subst this
     exact ⟨s2.free hl', Ne.symm dl⟩
   ·by_cases e : j = i
    ·subst e
     rw [List.getElem?_eq_getElem hi'] at hr
     cases hr
     exact ⟨l, rs, by rw [List.getElem?_append_right (by (clear rl sl dl lq hi ql hj; omega)), il]; simp, by rw [upd_ne (Ne.symm dl), upd_same], e3⟩
    ·obtain ⟨q', rs', a1, a2, a3⟩ := hst j st (by (clear rl sl hi ql dl lq il; omega)) hr
     refine ⟨q', rs', by rw [List.getElem?_append_left (by (clear rl sl hi ql dl lq; omega))]; exact a1, ?_, a3⟩
     rw [upd_ne (qf q' (List.mem_of_getElem? a1)).2, upd_ne (ne_of_none a2 hl')]
     exact a2
  ·intro τ H2 ys hh_
   walk_at "B"
   obtain ⟨_, s2, h2, qs, rfl, ql, qn, qf, hst⟩ := hh_
   walk_at "C"
   rw [sl] at ql hst
   refine ⟨lB_, fun p hp => ?_⟩
   have s3 := s2.trans (Same.upd (o := .tup [.int (k : Nat), .int (n : Nat), .ref D1]) hp)
   refine q p D1 qs _ s3 (s2.free hp) ⟨upd_same, hD1, by rw [upd_ne (ne_of_none h2 hp)]; exact h2, qn, qf, ql, fun j st hr => ?_⟩
   walk_at "B"
   obtain ⟨q', rs', a1, a2, a3⟩ := hst j st (List.getElem?_eq_some_iff.mp hr).1 hr
   walk_at "C"
   exact ⟨q', rs', a1, by rw [upd_ne (ne_of_none a2 hp)]; exact a2, a3.mono s3⟩
 ·exact h.elim
end

end K21
end
section
set_option Elab.async false
set_option linter.all false
set_option maxRecDepth 100000
set_option maxHeartbeats 4000000
namespace L2
open PySem PySem.Spec PyProof.Rows
section
variable {X : Cx} {p pos : Pos}
end
end L2
end
section
set_option Elab.async false
set_option linter.all false
set_option maxRecDepth 100000
set_option maxHeartbeats 4000000
namespace Om
end Om
end
section
set_option Elab.async false
set_option linter.all false
set_option maxRecDepth 100000
set_option maxHeartbeats 4000000
namespace L2
open PySem PySem.Spec PyProof.Rows
section
variable {G H0 H H' : Hp} {a A S q : Addr} {ts : List Addr} {ps : List (Nat × Nat)} {rw : Nat → List (List Bool × Nat)}
end
end L2
namespace L2
open PySem PySem.Spec PyProof.Rows
end L2
end
section
set_option Elab.async false
set_option linter.all false
set_option maxRecDepth 100000
set_option maxHeartbeats 4000000
namespace L2
open PySem PySem.Spec PyProof.Rows
section
variable {X : Cx} {p pos : Pos} {a tg : Expr}
end
end L2
namespace L2
open PySem PySem.Spec PyProof.Rows
section
variable {prog : Program} {w : World} {A : Around} {E : Value → Shared → Prop} {s : Shared}
end
section
variable {X : Cx} {p p2 pos pos2 : Pos} {a : Expr}
end
end L2
end
section
set_option Elab.async false
set_option linter.all false
set_option maxRecDepth 100000
set_option maxHeartbeats 4000000
namespace L2
open PySem PySem.Spec PyProof.Rows
section
variable {prog : Program} {w : World} {A : Around} {E : Value → Shared → Prop} {s : Shared}
end
section
variable {X : Cx} {pos apos : Pos} {o e : Expr} {to : TE} {t : TA} {es : List Expr}
end
end L2
end
section
set_option Elab.async false
set_option linter.all false
set_option maxRecDepth 100000
set_option maxHeartbeats 4000000
namespace L2
open PySem PySem.Spec PyProof.Rows
section
variable {prog : Program} {w : World} {A : Around}
end
section
variable {X : Cx} {p pos : Pos}
end
end L2
end
section
set_option Elab.async false
set_option linter.all false
set_option maxRecDepth 100000
set_option maxHeartbeats 4000000
namespace L2
open PySem PySem.Spec PyProof.Rows
section
variable {X : Cx}
end
end L2
namespace L2
end L2
end
section
set_option Elab.async false
set_option linter.all false
set_option maxRecDepth 100000
set_option maxHeartbeats 4000000
namespace L2
open PySem PySem.Spec PyProof.Rows
section
variable {X : Cx} {a b : Expr} {p pos : Pos} {ta : TA}
end
end L2
end
section
set_option Elab.async false
set_option linter.all false
set_option maxRecDepth 100000
set_option maxHeartbeats 4000000
namespace L2
open PySem PySem.Spec PyProof.Rows PySem.W PySem.Calls
section
variable {n : Nat} {cmp : Nat → Nat → (Bool → Shared → Prop) → Shared → Prop} {s : Shared}
def GoodP (n : Nat) (p : Array Nat) : Prop := p.Perm (List.toArray (List.range n))
theorem GoodP.lt {p : Array Nat} (g : GoodP n p) (h0 : 0 < n) (i : Nat) : p.getD i 0 < n := by
 by_cases h : i < p.size
 ·have hm : p[i] ∈ p := Array.getElem_mem h
  have : p[i] ∈ List.toArray (List.range n) := g.mem_iff.mp hm
  rw [List.mem_toArray, List.mem_range] at this
  simpa [Array.getD, h] using this
 ·simpa [Array.getD, h] using h0
variable (hc : ∀ i j C, i < n → j < n → (∀ b, C b s) → cmp i j C s) (h0 : 0 < n)
include hc h0
theorem asc_ok {p : Array Nat} (g : GoodP n p) {Q : Nat → Shared → Prop} : ∀ f k, (∀ m, Q m s) → (kas_asc p f k).kasWp cmp Q s
 | 0, k, h => h k
 | f + 1, k, h => hc _ _ _ (g.lt h0 _) (g.lt h0 _) fun b => by
  cases b with
  | true => exact h _
  | false => exact asc_ok g f (k + 1) h
theorem desc_ok {Q : Array Nat × Nat × Nat → Shared → Prop} : ∀ f p k q, GoodP n p → (∀ r : Array Nat × Nat × Nat, GoodP n r.1 → Q r s) → (kas_desc f p k q).kasWp cmp Q s
 | 0, p, k, q, g, h => h _ g
 | f + 1, p, k, q, g, h => hc _ _ _ (g.lt h0 _) (g.lt h0 _) fun b => by
  cases b with
  | true =>
   show (if q > 0 then kas_desc f (kas_rev p (k - (q + 1)) k) (k + 1) 0 else kas_desc f p (k + 1) 0).kasWp cmp Q s
   split
   ·exact desc_ok f _ _ _ ((mirror_perm _ _ _ _).trans g) h
   ·exact desc_ok f _ _ _ g h
  | false =>
   refine hc _ _ _ (g.lt h0 _) (g.lt h0 _) fun b => ?_
   cases b with
   | true => exact h _ g
   | false => exact desc_ok f _ _ _ g h
theorem tail3_ok {p : Array Nat} (g : GoodP n p) {Q : Nat × Array Nat → Shared → Prop} (a b : Nat) (h : ∀ r : Nat × Array Nat, GoodP n r.2 → Q r s) : (kas_tail3 a b p).kasWp cmp Q s := by
 have g' : GoodP n (kas_rev p 0 a) := (mirror_perm _ _ _ _).trans g
 unfold kas_tail3
 rw [KasT.kasWp_bind]
 exact asc_ok hc h0 g' _ _ fun m => h _ g'
theorem descPart_ok {p : Array Nat} (g : GoodP n p) {Q : Nat × Array Nat → Shared → Prop} (a b : Nat) (h : ∀ r : Nat × Array Nat, GoodP n r.2 → Q r s) : (kas_descPart a b p).kasWp cmp Q s := by
 unfold kas_descPart
 rw [KasT.kasWp_bind]
 refine desc_ok hc h0 _ _ _ _ g fun r gr => ?_
 show (if r.2.2 > 0 then kas_tail3 r.2.1 b (kas_rev r.1 (r.2.1 - (r.2.2 + 1)) r.2.1) else kas_tail3 r.2.1 b r.1).kasWp cmp Q s
 split
 ·exact tail3_ok hc h0 ((mirror_perm _ _ _ _).trans gr) _ _ h
 ·exact tail3_ok hc h0 gr _ _ h
theorem count_ok {p : Array Nat} (g : GoodP n p) {Q : Nat × Array Nat → Shared → Prop} (b : Nat) (h : ∀ r : Nat × Array Nat, GoodP n r.2 → Q r s) : (kas_count b p).kasWp cmp Q s := by
 unfold kas_count
 rw [KasT.kasWp_bind]
 refine asc_ok hc h0 g _ _ fun m => ?_
 split
 ·exact h _ g
 ·split
  ·refine hc _ _ _ (g.lt h0 _) (g.lt h0 _) fun c => ?_
   cases c with
   | true => exact h _ g
   | false => exact descPart_ok hc h0 ((mirror_perm _ _ _ _).trans g) _ _ h
  ·exact descPart_ok hc h0 g _ _ h
theorem place_ok {p : Array Nat} (g : GoodP n p) {Q : Nat → Shared → Prop} (k : Nat) : ∀ f l r, (∀ m, Q m s) → (kas_place p k f l r).kasWp cmp Q s
 | 0, l, r, h => h _
 | f + 1, l, r, h => by
  unfold kas_place
  split
  ·exact h _
  ·refine hc _ _ _ (g.lt h0 _) (g.lt h0 _) fun b => ?_
   cases b with
   | true => exact place_ok g k f _ _ h
   | false => exact place_ok g k f _ _ h
theorem bin_ok {Q : Array Nat → Shared → Prop} : ∀ f p k, GoodP n p → (∀ r, GoodP n r → Q r s) → (kas_bin f p k).kasWp cmp Q s
 | 0, p, k, g, h => h _ g
 | f + 1, p, k, g, h => by
  unfold kas_bin
  rw [KasT.kasWp_bind]
  exact place_ok hc h0 g k _ _ _ fun m => bin_ok f _ _ ((bubble_perm _ _ _).trans g) h
theorem sort_ok {Q : Array Nat → Shared → Prop} (h : ∀ r, GoodP n r → Q r s) : (kas_sort n).kasWp cmp Q s := by
 unfold kas_sort
 rw [KasT.kasWp_bind]
 refine count_ok hc h0 (Array.Perm.refl _) _ fun r gr => ?_
 split
 ·exact bin_ok hc h0 _ _ _ gr h
 ·exact h _ gr
end
section
variable {prog : Program} {w : World} {A : Around} {E : Value → Shared → Prop} {s : Shared}
def Trips (h : Heap) (vs : List Value) : Prop := ∀ v ∈ vs, ∃ (t : Addr) (o : Obj) (a b c : Int) (ta tb tc : Tok) (n : Nat), v = .ref t ∧ h.get? t = some o ∧ o.cls = .type "tuple" ∧ o.data = .seq #[.int a ta, .int b tb, .int c tc] n
theorem eq_go {p q : Int} {t u : Tok} {b fin : Bool} {Q : Bool → Shared → Prop} {r : List (Value × Value)} {i : Nat} (hQ : ∀ b, Q b s) (hr : KatLex prog w A b fin Q r (i + 1) s) (hb : (b && i == 0) = true ∨ (b && i == 0) = false) : KatLex prog w A b fin Q ((.int p t, .int q u) :: r) i s := by
 refine kat_cons (wpAny_eqBool_int ?_)
 refine kat_go (fun _ => kat_yes hr) (fun _ => kat_no ?_)
 rcases hb with h | h
 ·rw [h]; exact oneLt_int (hQ _)
 ·rw [h]; exact kat_one _ _ (PyProof.Rows.lt_int (hQ _))
theorem trip_lt {C : Bool → Shared → Prop} {x y : Value} {vs : List Value} (T : Trips s.heap vs) (hx : x ∈ vs) (hy : y ∈ vs) (hC : ∀ b, C b s) : wpAny (model prog w) A (keyLt' (tuples' true) x y) C E s := by
 walk_at "B"
 obtain ⟨t, o, a, b, c, ta, tb, tc, n, rfl, h1, h2, h3⟩ := T x hx
 obtain ⟨t', o', a', b', c', ta', tb', tc', n', rfl, h1', h2', h3'⟩ := T y hy
 walk_at "C"
 refine kat_lt h1 h3 h1' h3' ?_
 refine eq_go hC (eq_go hC (eq_go hC (kat_nil (hC _)) (.inr rfl)) (.inr rfl)) (.inl rfl)
theorem trip_fst {h : Heap} : ∀ {vs : List Value}, Trips h vs → ∃ fs : List Value, KatTups h vs fs ∧ fs.length = vs.length ∧ ∀ f ∈ fs, ∃ a t, f = .int a t
 | [], _ => ⟨[], .nil, rfl, fun f hf => by cases hf⟩
 | v :: vs, T => by
  walk_at "B"
  obtain ⟨fs, k, l, al⟩ := trip_fst (vs := vs) fun x hx => T x (List.mem_cons_of_mem _ hx)
  obtain ⟨t, o, a, b, c, ta, tb, tc, n, rfl, h1, h2, h3⟩ := T v List.mem_cons_self
  walk_at "C"
  exact ⟨.int a ta :: fs, .cons h1 h2 h3 rfl k, by simp [l], fun f hf => by
   rcases List.mem_cons.mp hf with z | z
   ·exact ⟨a, ta, z⟩
   ·exact al f z⟩
theorem getD_in {vs : List Value} {i : Nat} (h : i < vs.length) : vs.getD i Value.none ∈ vs := by
 rw [List.getD_eq_getElem?_getD, List.getElem?_eq_getElem h]; exact List.getElem_mem h
theorem trip_sort {a : Addr} {vs : List Value} {n : Nat} {P : PySem.Fin → Shared → Prop} (ho : s.heap.get? a = some (seqObj "list" vs.toArray n)) (T : Trips s.heap vs) (h2 : 2 ≤ vs.length) (h64 : vs.length < 64)
  (h : ∀ (h' : Heap) (p : Array Nat) (e : Nat), GoodP vs.length p → (∀ b o, b ≠ a → s.heap.get? b = some o → h'.get? b = some o) → h'.get? a = some (seqObj "list" (List.toArray (p.toList.map fun i => vs.getD i Value.none)) e) → P (.done (.ret .none)) { s with heap := h' }) :
  wpAny (model prog w) A (Builtin.«list.sort» ⟨[.ref a], []⟩) P E s := by
 have ha : a < s.heap.objs.size := Heap.lt_size ho
 have s1 := Heap.SameBut.update s.heap a (Obj.mapSeq fun _ => (#[] : Array Value))
 obtain ⟨e1, ho1⟩ : ∃ e1, (s.heap.update a (Obj.mapSeq fun _ => (#[] : Array Value))).get? a = some (seqObj "list" #[] e1) := ⟨_, get?_update_seq ho fun _ => #[]⟩
 have kp : ∀ b o, b ≠ a → s.heap.get? b = some o → (((s.heap.update a (Obj.mapSeq fun _ => (#[] : Array Value))).push (seqObj "tuple" vs.toArray 0)).push (seqObj "list" #[] 0)).get? b = some o := fun b o n e => Heap.get?_push_of_some _ (Heap.get?_push_of_some _ ((s1.2 b n).trans e))
 have T3 : Trips (((s.heap.update a (Obj.mapSeq fun _ => (#[] : Array Value))).push (seqObj "tuple" vs.toArray 0)).push (seqObj "list" #[] 0)) vs := fun v hv => by
  walk_at "B"
  obtain ⟨t, o, a1, b1, c1, ta, tb, tc, n1, e0, e1', e2, e3⟩ := T v hv
  walk_at "C"
  exact ⟨t, o, a1, b1, c1, ta, tb, tc, n1, e0, kp t o (fun z => by rw [z, ho] at e1'; cases e1'; exact absurd (Value.type.inj e2) (by decide)) e1', e2, e3⟩
 have ho3 : (((s.heap.update a (Obj.mapSeq fun _ => (#[] : Array Value))).push (seqObj "tuple" vs.toArray 0)).push (seqObj "list" #[] 0)).get? a = some (seqObj "list" #[] e1) := Heap.get?_push_of_some _ (Heap.get?_push_of_some _ ho1)
 rw [list_sort_plain]
 refine wpAny_bind (listItems_at ho rfl ?_)
 refine wpAny_bind (listUpdate_at ho rfl ?_ (by rw [List.size_toArray, sizeLine_eq]; omega) (Nat.zero_le _))
 refine wpAny_bind (seqEpoch_at ho1 rfl ?_)
 refine wpAny_bind (wpAny_newTuple ?_ (by show vs.length ≤ _; rw [sizeLine_eq]; omega))
 refine wpAny_bind (wpAny_newList ?_ (Nat.zero_le _))
 refine wpAny_holding ?_
 show wpAny (model prog w) A _ P E { s with heap := ((s.heap.update a (Obj.mapSeq fun _ => (#[] : Array Value))).push (seqObj "tuple" vs.toArray 0)).push (seqObj "list" #[] 0) }
 dsimp only
 have hn2 : ¬ vs.toArray.size < 2 := by rw [List.size_toArray]; omega
 rw [if_neg hn2, if_neg hn2]
 generalize ((s.heap.update a (Obj.mapSeq fun _ => (#[] : Array Value))).push (seqObj "tuple" vs.toArray 0)).push (seqObj "list" #[] 0) = h3 at kp T3 ho3 ⊢
 walk_at "B"
 obtain ⟨fs, kt, fl, fi⟩ := trip_fst T3
 walk_at "C"
 refine wpAny_bind (kat_kind (T := .type "int") kt (by (clear h64 ha hn2; omega)) (fun v hv => ?_) (by decide) ?_)
 ·walk_at "B"
  obtain ⟨x, t, rfl⟩ := fi v hv
  walk_at "C"
  intro A' Q' E' s' k q
  exact wpAny_typeOf (T := "int") rfl q
 rw [show (Value.type "int" != Value.type "tuple") = true by decide]
 have ask : (kas_sort vs.length).kasWp (kas_ask prog w A (tuples' true) vs) (fun p s' => GoodP vs.length p ∧ s' = { s with heap := h3 }) { s with heap := h3 } :=
  sort_ok (fun i j C hi hj hC => trip_lt (s := { s with heap := h3 }) T3 (getD_in hi) (getD_in hj) hC) (by (clear h64 ha hn2 fl; omega)) fun r gr => ⟨gr, rfl⟩
 refine wpAny_bind (wpAny_mono (kat_run (Q := fun st' s' => ∃ p : Array Nat, GoodP vs.length p ∧ arrOf st' = p.map (kas_item (vs.toArray.zip vs.toArray)) ∧ failedOf st' = none ∧ s' = { s with heap := h3 }) (G := fun p s' => GoodP vs.length p ∧ s' = { s with heap := h3 })
  rfl h2 h64 (fun p' st' s' a1 a2 a3 a4 => ⟨p', a4.1, a2, a3, a4.2⟩) ask) ?_ fun _ _ e => e)
 rintro ⟨⟨⟩, st'⟩ s' ⟨p, gp, har, hf, rfl⟩
 dsimp only
 have hout := kat_snds rfl har
 have psz : p.toList.length = vs.length := by
  have := (Array.perm_iff_toList_perm.mp gp).length_eq
  simpa using this
 have hsz : (List.toArray (p.toList.map fun i => vs.getD i Value.none)).size = vs.length := by rw [List.size_toArray, List.length_map, psz]
 rw [hout]
 have s2 := Heap.SameBut.update h3 a (Obj.mapSeq fun _ => List.toArray (p.toList.map fun i => vs.getD i Value.none))
 obtain ⟨c2, hc2⟩ : ∃ c2, (h3.update a (Obj.mapSeq fun _ => List.toArray (p.toList.map fun i => vs.getD i Value.none))).get? a = some (seqObj "list" (List.toArray (p.toList.map fun i => vs.getD i Value.none)) c2) := ⟨_, get?_update_seq ho3 fun _ => List.toArray (p.toList.map fun i => vs.getD i Value.none)⟩
 refine wpAny_bind (seqEpoch_at ho3 rfl ?_)
 refine wpAny_bind (listUpdate_at ho3 rfl ?_ (Nat.zero_le _) (Nat.le_trans (Nat.le_of_eq hsz) (by rw [sizeLine_eq]; (clear h2 ha hn2 fl psz hsz; omega))))
 rw [hf]
 simp only [bne_self_eq_false, Bool.false_eq_true, if_false]
 exact wpAny_pure (h _ p c2 gp (fun b o n e => (s2.2 b n).trans (kp b o n e)) hc2)
theorem trip_sorted {l : Addr} {vs : List Value} {Q : Value → Shared → Prop} (hl : s.heap.IsList l vs.toArray) (T : Trips s.heap vs) (h2 : 2 ≤ vs.length) (h64 : vs.length < 64)
  (h : ∀ (h' : Heap) (l' : Addr) (p : Array Nat) (e : Nat), GoodP vs.length p → (∀ b o, s.heap.get? b = some o → h'.get? b = some o) → s.heap.objs.size ≤ l' → h'.get? l' = some (seqObj "list" (List.toArray (p.toList.map fun i => vs.getD i Value.none)) e) → Q (.ref l') { s with heap := h' }) :
  wpAny (model prog w) A (call (.builtin "sorted") [.ref l]) Q E s := by
 refine Calls.call_function_entry kind_sorted plain_sorted entry_sorted (args_sorted1 _) ?_
 unfold Builtin.«sorted»
 refine wpAny_bind (m := checkCount "sorted" 1 1 _) (wpAny_pure ?_)
 refine wpAny_bind (collect_list hl ?_ (by rw [sizeLine_eq]; omega))
 refine wpAny_bind (wpAny_newList ?_ (by rw [sizeLine_eq]; omega))
 have hsz : ((s.heap.push (seqObj "list" #[] 0)).update s.heap.objs.size (Obj.mapSeq (· ++ vs.toArray))).objs.size = s.heap.objs.size + 1 := by
  rw [Heap.size_update, size_push']
 have hoL : (((s.heap.push (seqObj "list" #[] 0)).update s.heap.objs.size (Obj.mapSeq (· ++ vs.toArray))).push (seqObj "list" vs.toArray 0)).get? (s.heap.objs.size + 1) = some (seqObj "list" vs.toArray 0) := by
  rw [← hsz]; exact Heap.get?_push_size _ rfl
 have keep : ∀ b o, s.heap.get? b = some o → (((s.heap.push (seqObj "list" #[] 0)).update s.heap.objs.size (Obj.mapSeq (· ++ vs.toArray))).push (seqObj "list" vs.toArray 0)).get? b = some o := fun b o q => by
  have hlt : b < s.heap.objs.size := Heap.lt_size q
  rw [Heap.get?_push_ne _ _ _ (by rw [hsz]; exact Nat.ne_of_lt (Nat.lt_succ_of_lt hlt)), Heap.get?_update_ne _ _ _ _ (Nat.ne_of_lt hlt), Heap.get?_push_ne _ _ _ (Nat.ne_of_lt hlt)]
  exact q
 show wpAny _ _ _ _ _ { s with heap := ((s.heap.push (seqObj "list" #[] 0)).update s.heap.objs.size (Obj.mapSeq (· ++ vs.toArray))).push (seqObj "list" vs.toArray 0) }
 rw [hsz]
 refine wpAny_bind (wpAny_holding (wpAny_call_entry slot_list_sort ⟨_, hoL, rfl⟩ entry_list_sort ?body (args_list_sort _)))
 case body =>
  refine trip_sort (s := { s with heap := ((s.heap.push (seqObj "list" #[] 0)).update s.heap.objs.size (Obj.mapSeq (· ++ vs.toArray))).push (seqObj "list" vs.toArray 0) }) hoL (fun v hv => ?_) h2 h64 fun h' p e gp kp hh => ?_
  ·walk_at "B"
   obtain ⟨t, o, a1, b1, c1, ta, tb, tc, n1, e0, e1', e2, e3⟩ := T v hv
   walk_at "C"
   exact ⟨t, o, a1, b1, c1, ta, tb, tc, n1, e0, keep _ _ e1', e2, e3⟩
  ·refine ⟨_, rfl, wpAny_pure ⟨_, rfl, h h' _ p e gp (fun b o q => kp b o (Nat.ne_of_lt (Nat.lt_succ_of_lt (Heap.lt_size q))) (keep b o q)) (Nat.le_succ _) hh⟩⟩
end
section
variable {X : Cx} {p pos : Pos}
def rSortT : List V → Hp → VK → Prop := fun vs H Q => match vs with
 | [.ref q] => ∃ xs : List V, H q = some (.lst xs) ∧ 2 ≤ xs.length ∧ xs.length < 64 ∧ (∀ x ∈ xs, ∃ t a b c, x = .ref t ∧ H t = some (.tup [.int a, .int b, .int c])) ∧ ∀ l ys, H l = none → ys.length = xs.length → (∀ y ∈ ys, y ∈ xs) → Q (.ref l) (upd H l (.lst ys))
 | _ => False
theorem call_sortT : CallR X (.builtin "sorted") rSortT := by
 intro pins s σ H xs us Q I r h
 unfold rSortT at h
 split at h
 ·walk_at "B"
  obtain ⟨xs, hH, h2, h64, hx, q⟩ := h
  obtain ⟨u, rfl, rx⟩ := vals1 r
  walk_at "C"
  cases rx
  walk_at "B"
  obtain ⟨z, its, n, rv, e⟩ := I.hok _ _ hH
  walk_at "C"
  have il : its.length = xs.length := rv.length.symm
  refine trip_sorted (vs := its) ⟨_, e, rfl, _, rfl⟩ (fun v hv => ?_) (by (clear h64 z; omega)) (by (clear h2 z; omega)) fun h' l' pp ee gp kp hl he => ?_
  ·obtain ⟨i, hi⟩ := List.mem_iff_getElem?.mp hv
   have il' := (List.getElem?_eq_some_iff.mp hi).1
   have hx' : xs[i]? = some xs[i] := List.getElem?_eq_getElem (by (clear h2 h64 z; omega))
   walk_at "B"
   obtain ⟨w, hw, rw'⟩ := rv.get hx'
   walk_at "C"
   rw [hi] at hw
   cases hw
   walk_at "B"
   obtain ⟨t, a, b, c, ex, ht⟩ := hx _ (List.mem_of_getElem? hx')
   walk_at "C"
   rw [ex] at rw'
   cases rw'
   walk_at "B"
   obtain ⟨_, its', rv', o, o1, o2, n', o3⟩ := I.hok t _ ht
   walk_at "C"
   cases rv' with
   | cons r1 r2 => cases r2 with
    | cons r2 r3 => cases r3 with
     | cons r3 r4 => cases r4 with
      | nil =>
       obtain ⟨ta, rfl⟩ := r1
       obtain ⟨tb, rfl⟩ := r2
       obtain ⟨tc, rfl⟩ := r3
       exact ⟨t, o, a, b, c, ta, tb, tc, n', rfl, o1, o2, o3⟩
  ·have plt : ∀ i ∈ pp.toList, i < xs.length := fun i hi => by
    have := (Array.perm_iff_toList_perm.mp gp).mem_iff.mp hi
    simp at this
    (clear h2 h64 z hl; omega)
   have pl : pp.toList.length = xs.length := by
    have := (Array.perm_iff_toList_perm.mp gp).length_eq
    simp at this
    simp [this, il]
   have vv : Vals (pp.toList.map fun i => xs.getD i .non) (pp.toList.map fun i => its.getD i Value.none) := by
    refine vals_of (by rw [List.length_map, List.length_map]) fun i x u hx hu => ?_
    rw [List.getElem?_map] at hx hu
    walk_at "B"
    obtain ⟨j, hj, rfl⟩ := Option.map_eq_some_iff.mp hx
    walk_at "C"
    rw [hj] at hu
    cases hu
    have jl := plt j (List.mem_of_getElem? hj)
    have hx' : xs[j]? = some xs[j] := List.getElem?_eq_getElem jl
    walk_at "B"
    obtain ⟨w, hw, rw'⟩ := rv.get hx'
    walk_at "C"
    show RelV (xs.getD j .non) (its.getD j Value.none)
    rw [List.getD_eq_getElem?_getD, List.getD_eq_getElem?_getD, hx', hw]
    exact rw'
   have hz : (pp.toList.map fun i => xs.getD i V.non).length ≤ sizeLine := by rw [List.length_map, pl, sizeLine_eq]; (clear h2 z il hl pl; omega)
   refine ⟨.ref l', upd H l' (.lst (pp.toList.map fun i => xs.getD i .non)), I.laid (t' := s.toks) kp hl ⟨hz, _, ee, vv, he⟩, rfl, q _ _ (I.hok.fresh hl) (by rw [List.length_map, pl]) fun y hy => ?_⟩
   walk_at "B"
   obtain ⟨j, hj, rfl⟩ := List.mem_map.mp hy
   walk_at "C"
   have jl := plt j hj
   rw [List.getD_eq_getElem?_getD, List.getElem?_eq_getElem jl]
   exact List.getElem_mem jl
 ·exact h.elim
theorem fn_sortT {e : Expr} {es : List Expr} {t : TA} {mg' : Str → Option Value} (hm : mg' "sorted" = none) (hX : X.mg = mg') (ha : PA X (e :: es) t) (hg : gB X "sorted" = true := by kernel_rfl) (he : starEach (e :: es) X.env = (false, eval e X.env) :: starEach es X.env := by kernel_rfl) (hpl : (backTo pos (starEach es X.env)).any (·.1) = false := by kernel_rfl) :
  PE X (.Call (.Name "sorted" p) (e :: es) [] pos) (tCB rSortT t) := pe_callB call_sortT (gl_of hg) (by rw [hX]; exact hm) PyProof.Rows.boot_sorted ha (he := he) (hpl := hpl)
end
end L2
end
section
set_option Elab.async false
set_option linter.all false
set_option maxRecDepth 100000
set_option maxHeartbeats 4000000
namespace L2
open PySem PySem.Spec PyProof.Rows
theorem seq_nx {t u : TS} {D : Ends} {σ : St} {H : Hp} (M : St → Hp → Prop) (h1 : ∀ σ' H', M σ' H' → u D σ' H') (h2 : ∀ nx : St → Hp → Prop, (∀ σ' H', M σ' H' → nx σ' H') → t { D with nx := nx } σ H) : tSeq t u D σ H := h2 (u D) h1
theorem seq3_nx {t u v : TS} {D : Ends} {σ : St} {H : Hp} (M : St → Hp → Prop) (h1 : ∀ σ' H', M σ' H' → v D σ' H') (h2 : ∀ nx : St → Hp → Prop, (∀ σ' H', M σ' H' → nx σ' H') → tSeq t u { D with nx := nx } σ H) : tSeq t (tSeq u v) D σ H := h2 (v D) h1
theorem for_nx {J : It} {xs : List V} {ok : Hp → Prop} {g : TG} {tb : TS} {D : Ends} {σ : St} {H : Hp} (IO : ItOk J xs ok) (Pv : Nat → St → Hp → Prop) (h0 : Pv 0 σ H) (hl : ∀ i σ H, i ≤ xs.length → Pv i σ H → ok H)
  (hs : ∀ i x σ H, i < xs.length → xs[i]? = some x → Pv i σ H → ∀ N bk : St → Hp → Prop, (∀ σ' H', Pv (i + 1) σ' H' → N σ' H') → g x σ H fun σ2 H2 => tb { D with nx := N, ct := N, bk := bk } σ2 H2) (hd : ∀ σ H, Pv xs.length σ H → D.nx σ H) :
  ∃ W : Nat → Nat → St → Hp → Prop, (∃ m, W 0 m σ H) ∧ ∀ i m σ H, W i m σ H →
   (J.stop i H ∧ D.nx σ H) ∨ (J.go i H ∧ ∃ N : St → Hp → Prop, (∀ σ' H', N σ' H' → ∃ m', m' < m ∧ W (i + 1) m' σ' H') ∧ ∀ x H', J.yld i H x H' → g x σ H' fun σ2 H2 => tb { D with nx := N, ct := N, bk := D.nx } σ2 H2) :=
 for_by IO Pv h0 hl (fun i x σ H hi hx p => hs i x σ H hi hx p _ _ fun _ _ z => z) hd
theorem comp_nx {J : It} {D : Addr} {xs : List V} {ok : Hp → Prop} {g : TG} {tt : TT} {te : TE} {Q : Hp → Prop} {τ : St} {H : Hp} (IO : ItOk J xs ok) (Pv : Nat → St → Hp → List V → Prop) (hz : xs.length ≤ sizeLine) (h0 : Pv 0 τ H [])
  (hl : ∀ i τ H ys, i ≤ xs.length → Pv i τ H ys → ok H ∧ H D = some (.lst ys) ∧ ys.length ≤ i)
  (hs : ∀ i x τ H ys, i < xs.length → xs[i]? = some x → Pv i τ H ys → ∀ N : St → Hp → List V → Prop, (∀ τ' H' ys', Pv (i + 1) τ' H' ys' → N τ' H' ys') → g x τ H fun τ4 H4 => tt τ4 H4 fun b H5 =>
   if b = true then te τ4 H5 fun y H6 => H6 D = some (.lst ys) ∧ N τ4 (upd H6 D (.lst (ys ++ [y]))) (ys ++ [y]) else N τ4 H5 ys)
  (hd : ∀ τ H ys, Pv xs.length τ H ys → Q H) :
  ∃ W : Nat → Nat → St → Hp → List V → Prop, (∃ m, W 0 m τ H []) ∧ ∀ i m τ H2 ys, W i m τ H2 ys → H2 D = some (.lst ys) ∧
   ((J.stop i H2 ∧ Q H2) ∨ (J.go i H2 ∧ ys.length < sizeLine ∧ ∃ N : St → Hp → List V → Prop, (∀ τ' H' ys', N τ' H' ys' → ∃ m', m' < m ∧ W (i + 1) m' τ' H' ys') ∧ ∀ x H3, J.yld i H2 x H3 → g x τ H3 fun τ4 H4 => tt τ4 H4 fun b H5 =>
    if b = true then te τ4 H5 fun y H6 => H6 D = some (.lst ys) ∧ N τ4 (upd H6 D (.lst (ys ++ [y]))) (ys ++ [y])
    else N τ4 H5 ys)) :=
 comp_by IO Pv hz h0 hl (fun i x τ H ys hi hx p => hs i x τ H ys hi hx p _ fun _ _ _ z => z) hd
theorem seq_hide {t u : TS} {D : Ends} {σ : St} {H : Hp} (h : ∀ U : TS, u = U → tSeq t U D σ H) : tSeq t u D σ H := h u rfl
theorem up_at {H : Hp} {n : Addr} (o : HO) (h : H n = none) : upd H n o n = some o := upd_same
end L2
end
section
set_option Elab.async false
set_option linter.all false
set_option maxRecDepth 100000
set_option maxHeartbeats 4000000
namespace K21
open PySem L2
theorem pap_off {H H' : Hp} {bz : List V} {ps : List (Int × Int × Int)} (h : DVs H bz (ps.map prowD)) (s : ∀ b ys, H b = some (.tup ys) → H' b = some (.tup ys)) : DVs H' bz (ps.map prowD) := by
 refine DVs.of_get h.length fun i d hd => ?_
 rw [List.getElem?_map] at hd
 walk_at "B"
 obtain ⟨p, hp, rfl⟩ := Option.map_eq_some_iff.mp hd
 obtain ⟨b, b1, b2⟩ := prow_at h hp
 walk_at "C"
 exact ⟨_, b1, .tup (s _ _ b2) (.cons (.int _) (.cons (.int _) (.cons (.int _) .nil)))⟩
theorem dv_drop {H : Hp} {bz : List V} {ds : List PyData} (h : DVs H bz ds) (i : Nat) : DVs H (bz.drop i) (ds.drop i) := DVs.of_get (by rw [List.length_drop, List.length_drop, h.length]) fun j d hd => by
 rw [List.getElem?_drop] at hd ⊢
 exact h.get hd
theorem dv_take {H : Hp} {bz : List V} {ds : List PyData} (h : DVs H bz ds) (i : Nat) : DVs H (bz.take i) (ds.take i) := DVs.of_get (by rw [List.length_take, List.length_take, h.length]) fun j d hd => by
 rw [List.getElem?_take] at hd ⊢
 split at hd
 ·rename_i z
  rw [if_pos z]
  exact h.get hd
 ·cases hd
theorem pap_cut {H : Hp} {bz : List V} {ps : List (Int × Int × Int)} (h : DVs H bz (ps.map prowD)) (lo hi : Option Int) : ∃ ps' : List (Int × Int × Int), DVs H (cutV bz lo hi) (ps'.map prowD) ∧ ps'.length ≤ ps.length :=
 ⟨(ps.drop (HT.sIx bz.length 0 lo)).take (HT.sIx bz.length bz.length hi - HT.sIx bz.length 0 lo), by unfold cutV; rw [List.map_take, List.map_drop]; exact dv_take (dv_drop h _) _, by rw [List.length_take, List.length_drop]; omega⟩
theorem pap_rev {H : Hp} {bz : List V} {ps : List (Int × Int × Int)} (h : DVs H bz (ps.map prowD)) : DVs H bz.reverse (ps.reverse.map prowD) := by
 have hl := h.length
 rw [List.length_map] at hl
 refine DVs.of_get (by rw [List.length_map, List.length_reverse, List.length_reverse, hl]) fun i d hd => ?_
 rw [List.map_reverse] at hd
 have hi : i < ps.length := by have := (List.getElem?_eq_some_iff.mp hd).1; rw [List.length_reverse, List.length_map] at this; exact this
 rw [List.getElem?_reverse (by rw [List.length_map]; exact hi)] at hd
 rw [List.getElem?_reverse (by omega), hl]
 rw [List.length_map] at hd
 exact h.get hd
theorem pap_turn {H : Hp} {C p : Addr} {ys : List V} {ps : List (Int × Int × Int)} {a b c : Int} (h5 : H C = some (.lst ys)) (hp : H p = none) (dv : DVs (woA C H) ys (ps.map prowD)) : DVs (woA C (upd (upd H p (.tup [.int a, .int b, .int c])) C (.lst (ys ++ [.ref p])))) (ys ++ [.ref p]) ((ps ++ [(a, b, c)]).map prowD) := by
 have Cp : C ≠ p := ne_of_none h5 hp
 have sm : Same (woA C H) (woA C (upd (upd H p (.tup [.int a, .int b, .int c])) C (.lst (ys ++ [.ref p])))) := fun b o e => by
  have bC : b ≠ C := fun z => by rw [z] at e; unfold woA at e; rw [if_pos rfl] at e; cases e
  refine woA.at ?_ bC
  rw [upd_ne bC]
  exact Same.upd hp _ _ (woA.same _ _ e)
 rw [List.map_append]
 exact (dv.mono sm).app (.cons (.tup (woA.at (by rw [upd_ne (Ne.symm Cp), upd_same]) (Ne.symm Cp)) (.cons (.int _) (.cons (.int _) (.cons (.int _) .nil)))) .nil)
theorem SameT.own' {P0 L : Addr} {H H' : Hp} {o : HO} (s : SameT P0 H H') (n : H L = none) : SameT P0 H (upd H' L o) := fun b u nb e => by rw [upd_ne (ne_of_none e n)]; exact s _ _ nb e
end K21
end
section
set_option Elab.async false
set_option linter.all false
set_option maxRecDepth 100000
set_option maxHeartbeats 4000000
namespace K21
open PySem L2
section
variable {P : Program} {w : World} {K : PySem.W.Frag} {mg : Str → Option Value} {base : Heap}
theorem leans_iff {ws : List Bool} {y : Int} : y ∈ Om.leans ws ↔ ∃ j, 0 < j ∧ j ≤ ws.length ∧ Om.tot (ws.take j) = y := by
 unfold Om.leans
 rw [List.mem_map]
 constructor
 ·intro hh_
  walk_at "B"
  obtain ⟨i, hi, e⟩ := hh_
  walk_at "C"
  have := List.mem_range.mp hi
  exact ⟨i + 1, Nat.succ_pos _, this, e⟩
 ·intro hh_
  walk_at "B"
  obtain ⟨j, h0, hl, e⟩ := hh_
  walk_at "C"
  exact ⟨j - 1, List.mem_range.mpr (by omega), by rw [show j - 1 + 1 = j by omega]; exact e⟩
def KR (b0 b1 : Int) (L U : Nat → Int) (h : Int) (r : List Bool × Nat) : Prop := (∀ j, 0 < j → j ≤ r.1.length → b0 ≤ h + Om.tot (r.1.take j) ∧ h + Om.tot (r.1.take j) ≤ b1) ∧ L r.2 ≤ h + Om.tot r.1 ∧ h + Om.tot r.1 ≤ U r.2
theorem kr_iff {rows : Om.Rows} {b0 b1 : Int} {L U : Nat → Int} {s : Nat} (le : L s ≤ U s) : (∀ h, (h = L s ∨ h = U s) → ∀ r ∈ rows.getD s [], KR b0 b1 L U h r) ↔ Kps rows b0 b1 L U s := by
 constructor
 ·intro a
  refine ⟨le, fun r hr => ?_⟩
  walk_at "B"
  obtain ⟨l1, l2, l3⟩ := a (L s) (.inl rfl) r hr
  obtain ⟨u1, u2, u3⟩ := a (U s) (.inr rfl) r hr
  walk_at "C"
  refine ⟨fun y hy => ?_, l2, u3⟩
  walk_at "B"
  obtain ⟨j, j0, jl, rfl⟩ := leans_iff.mp hy
  walk_at "C"
  exact ⟨(l1 j j0 jl).1, (u1 j j0 jl).2⟩
 ·rintro ⟨_, a⟩ h hh r hr
  walk_at "B"
  obtain ⟨c1, c2, c3⟩ := a r hr
  walk_at "C"
  refine ⟨fun j j0 jl => ?_, ?_, ?_⟩
  ·have := c1 _ (leans_iff.mpr ⟨j, j0, jl, rfl⟩)
   rcases hh with rfl | rfl <;> (clear le c2 c3 j0 jl; omega)
  ·rcases hh with rfl | rfl <;> (clear le c3; omega)
  ·rcases hh with rfl | rfl <;> (clear le c2; omega)
abbrev sLLeans : Stmt := top 24
def spLLeans : Sp := fun vs H Q _ => match vs with
 | [cv, .ref bo, .ref l] => ∃ (k n : Nat) (rows : Om.Rows) (ps : List (Int × Int × Int)) (b0 b1 : Int), DV H cv (codeD k n rows) ∧ Om.CodeOk k n rows ∧ DV H (.ref l) (papD ps) ∧ ps.length ≤ 50 ∧ H bo = some (.tup [.int b0, .int b1]) ∧ ∀ b H', Same H H' → (b = true ↔ ShP rows b0 b1 ps) → Q (.bl b) H'
 | _ => False
theorem scLLeans : FnScope ["code", "both", "paper", "told", "state", "low", "high", "here", "word", "behind", "there", "one"] ["code", "both", "paper"] (defScope sLLeans) := ⟨rfl, rfl, rfl, by decide +kernel, rfl, by decide +kernel, by decide +kernel⟩
local macro_rules | `(tactic| walk_at "T.n") => `(tactic| with_reducible first | exact vn "code" 0 | exact vn "both" 1 | exact vn "paper" 2 | exact vn "told" 3 | exact vn "state" 4 | exact vn "low" 5 | exact vn "high" 6 | exact vn "here" 7 | exact vn "word" 8 | exact vn "behind" 9 | exact vn "there" 10 | exact vn "one" 11)
local macro_rules | `(tactic| walk_at "T.gn") => `(tactic| with_reducible first | exact gn "told" 3 (by walk_at "A") | exact gn "state" 4 (by walk_at "A") | exact gn "low" 5 (by walk_at "A") | exact gn "high" 6 (by walk_at "A") | exact gn "here" 7 (by walk_at "A") | exact gn "word" 8 (by walk_at "A") | exact gn "behind" 9 (by walk_at "A") | exact gn "there" 10 (by walk_at "A") | exact gn "one" 11 (by walk_at "A"))
local macro_rules | `(tactic| walk_at "T.n") => `(tactic| with_reducible first | exact vn "row" 0)
local macro_rules | `(tactic| walk_at "T.gn") => `(tactic| with_reducible first | exact gn "row" 0 (by walk_at "A"))
local macro_rules | `(tactic| walk_at "T.c") => `(tactic| (have ndc : (["row"] : List Str).Nodup := (by decide +kernel)); ((with_reducible refine' c_comp ["row"] [] ?b1 ?b2 (fun cl C s H fp => ?b3) (fun cl C s H fp => ?b4) (fun cl C s H fp => ?b5)); (case b1 => exact ndc); (case b2 => walk_at "T.i"); (case b3 => walk_at "T.g"); (case b4 => walk_at "T.pf"); (case b5 => walk_at "T.e")))
local macro_rules | `(tactic| walk_at "T.n") => `(tactic| with_reducible first | exact vn "code" 0 | exact vn "both" 1 | exact vn "paper" 2 | exact vn "told" 3 | exact vn "state" 4 | exact vn "low" 5 | exact vn "high" 6 | exact vn "here" 7 | exact vn "word" 8 | exact vn "behind" 9 | exact vn "there" 10 | exact vn "one" 11)
local macro_rules | `(tactic| walk_at "T.gn") => `(tactic| with_reducible first | exact gn "told" 3 (by walk_at "A") | exact gn "state" 4 (by walk_at "A") | exact gn "low" 5 (by walk_at "A") | exact gn "high" 6 (by walk_at "A") | exact gn "here" 7 (by walk_at "A") | exact gn "word" 8 (by walk_at "A") | exact gn "behind" 9 (by walk_at "A") | exact gn "there" 10 (by walk_at "A") | exact gn "one" 11 (by walk_at "A"))
local macro_rules | `(tactic| walk_at "T.n") => `(tactic| with_reducible first | exact vn "code" 0 | exact vn "both" 1 | exact vn "paper" 2 | exact vn "told" 3 | exact vn "state" 4 | exact vn "low" 5 | exact vn "high" 6 | exact vn "here" 7 | exact vn "word" 8 | exact vn "behind" 9 | exact vn "there" 10 | exact vn "one" 11 | exact vn "row" 0)
local macro_rules | `(tactic| walk_at "T.gn") => `(tactic| with_reducible first | exact gn "told" 3 (by walk_at "A") | exact gn "state" 4 (by walk_at "A") | exact gn "low" 5 (by walk_at "A") | exact gn "high" 6 (by walk_at "A") | exact gn "here" 7 (by walk_at "A") | exact gn "word" 8 (by walk_at "A") | exact gn "behind" 9 (by walk_at "A") | exact gn "there" 10 (by walk_at "A") | exact gn "one" 11 (by walk_at "A") | exact gn "row" 0 (by walk_at "A"))
local macro_rules | `(tactic| walk_at "T.e") => `(tactic| first | (with_reducible exact pe_dnewK) | ((with_reducible refine' ix_atD ?a0 ?a1 ?a2); (case a0 => exact Room.units (by assumption)); (case a1 => with_reducible exact vn "told" 3); (case a2 => walk_at "T.e")) | fail "no")
local macro_rules | `(tactic| walk_at "T.g") => `(tactic| ((with_reducible refine' g_subD ?a0 ?a1 ?a2); (case a0 => exact Room.units (by assumption)); (case a1 => with_reducible exact vn "told" 3); (case a2 => walk_at "T.e")))
local macro_rules | `(tactic| walk_at "T.i") => `(tactic| first | ((with_reducible refine' pi_lstH ?a1); (case a1 => with_reducible exact vn "told" 3)) | ((with_reducible refine' pi_txt ?a1); (case a1 => with_reducible exact vn "word" 8)) | ((with_reducible refine' pi_tup ?a1); (case a1 => ((with_reducible refine' ix_atD ?c0 ?c1 ?c2); (case c0 => exact Room.units (by assumption)); (case c1 => with_reducible exact vn "told" 3); (case c2 => walk_at "T.e")))) | fail "no")
inductive KA (cv : V) (bo l B : Addr) (H : Hp) (qs : List Nat) (L U : Nat → Int) (i : Nat) (σ : L2.St) (H6 : L2.Hp) : Prop
 | mk (v4 v5 v6 : Option V) (kvs : List (Key × V)) (z0 : σ = [some cv, some (.ref bo), some (.ref l), some (.ref B), v4, v5, v6, none, none, none, none, none]) (z1 : Same H H6) (z2 : H6 B = some (.dK kvs)) (z3 : Bd H6 kvs (qs.take i) L U) (z4 : ∀ s ∈ qs.take i, L s ≤ U s) : KA cv bo l B H qs L U i σ H6
inductive KB (a bo l B : Addr) (H7 : Hp) (qs : List Nat) (rows : Om.Rows) (b0 b1 : Int) (L U : Nat → Int) (i : Nat) (σ : L2.St) (H8 : L2.Hp) : Prop
 | mk (v4 v5 v6 v7 v8 v9 v10 v11 : Option V) (z0 : σ = [some (.ref a), some (.ref bo), some (.ref l), some (.ref B), v4, v5, v6, v7, v8, v9, v10, v11]) (z1 : Same H7 H8) (z2 : ∀ s ∈ qs.take i, Kps rows b0 b1 L U s) : KB a bo l B H7 qs rows b0 b1 L U i σ H8
inductive KC (a bo l B : Addr) (H8 : Hp) (st : Nat) (v5 v6 : Option V) (rows : Om.Rows) (b0 b1 : Int) (L U : Nat → Int) (i : Nat) (σ : L2.St) (H9 : L2.Hp) : Prop
 | mk (v7 v8 v9 v10 v11 : Option V) (z0 : σ = [some (.ref a), some (.ref bo), some (.ref l), some (.ref B), some (.int (st : Nat)), v5, v6, v7, v8, v9, v10, v11]) (z1 : Same H8 H9) (z2 : ∀ h ∈ [L st, U st].take i, ∀ r ∈ rows.getD st [], KR b0 b1 L U h r) : KC a bo l B H8 st v5 v6 rows b0 b1 L U i σ H9
inductive KD (a bo l B : Addr) (H9 : Hp) (rows : Om.Rows) (st : Nat) (slt : st < rows.length) (h : Int) (v5 v6 : Option V) (b0 b1 : Int) (L U : Nat → Int) (j : Nat) (σ : L2.St) (H10 : L2.Hp) : Prop
 | mk (v8 v9 v10 v11 : Option V) (z0 : σ = [some (.ref a), some (.ref bo), some (.ref l), some (.ref B), some (.int (st : Nat)), v5, v6, some (.int h), v8, v9, v10, v11]) (z1 : Same H9 H10) (z2 : ∀ r ∈ rows[st].take j, KR b0 b1 L U h r) : KD a bo l B H9 rows st slt h v5 v6 b0 b1 L U j σ H10
inductive KE (a bo l B : Addr) (H10 : Hp) (st : Nat) (h : Int) (rw0 : List Bool × Nat) (v5 v6 : Option V) (b0 b1 : Int) (i : Nat) (σ : L2.St) (H11 : L2.Hp) : Prop
 | mk (v11 : Option V) (z0 : σ = [some (.ref a), some (.ref bo), some (.ref l), some (.ref B), some (.int (st : Nat)), v5, v6, some (.int h), some (.str (bs rw0.1)), some (.int (rw0.2 : Nat)), some (.int (h + Om.tot (rw0.1.take i))), v11]) (z1 : Same H10 H11) (z2 : ∀ m, 0 < m → m ≤ i → b0 ≤ h + Om.tot (rw0.1.take m) ∧ h + Om.tot (rw0.1.take m) ≤ b1) : KE a bo l B H10 st h rw0 v5 v6 b0 b1 i σ H11
theorem ok_lleans (D : FnX K mg "_law_leans" sLLeans ["code", "both", "paper"]) (g1 : mg "int" = none) (c1 : Can P w K mg base "_law_come_to" 1 ["code"] spCome) : Can P w K mg base "_law_leans" 2 ["code", "both", "paper"] spLLeans := by
 refine can_fn (k := 1) D scLLeans (fun vs H Q E h => ?_) (fun f cdv A outer s H vs Q E hr h => ?_)
 all_goals
  unfold spLLeans at h
  split at h
 ·rfl
 ·exact h.elim
 ·rename_i cv bo l
  walk_at "B"
  obtain ⟨k, n, rows, ps, b0, b1, hc, ok, hd, p50, hbo, q⟩ := h
  walk_at "C"
  have nd := scLLeans.nd
  refine ⟨_, (by walk_at "T.top"), ?_⟩
  walk_at "B"
  obtain ⟨l', rs, e, hl, dr⟩ := hd.lst_inv
  walk_at "C"
  cases e
  have rl : rs.length = ps.length := by rw [dr.length, List.length_map]
  refine ⟨⟨_, SqL.of hl⟩, fun F hF => ?_⟩
  refine comp_by (it_list _ l rs) (fun i τ H3 ys => (∃ v, τ = [v]) ∧ H3 = upd H F (.lst ys) ∧ ys = ((ps.take i).map (·.1)).map V.int) (le_line (by omega)) ⟨⟨none, rfl⟩, rfl, rfl⟩ ?_ ?_ ?_
  ·intro i τ H3 ys hi hh_
   walk_at "B"
   obtain ⟨_, rfl, rfl⟩ := hh_
   walk_at "C"
   exact ⟨SqL.of (by rw [upd_ne (ne_of_none hl hF)]; exact hl), upd_same, by rw [List.length_map, List.length_map, List.length_take]; (clear p50 rl hi; omega)⟩
  ·intro i x τ H3 ys hi hx hh_
   walk_at "B"
   obtain ⟨⟨v, rfl⟩, rfl, rfl⟩ := hh_
   walk_at "C"
   have hi' : i < ps.length := by omega
   walk_at "B"
   obtain ⟨b, b1', b2⟩ := prow_at dr (List.getElem?_eq_getElem hi')
   walk_at "C"
   rw [hx] at b1'
   cases b1'
   refine ⟨_, gt (by rw [upd_ne (ne_of_none b2 hF)]; exact b2) (by decide) rfl, upd_same, ⟨_, rfl⟩, upd_upd, ?_⟩
   rw [List.take_add_one, List.getElem?_eq_getElem hi', List.map_append, List.map_append]
   rfl
  intro τ H3 ys hh_
  walk_at "B"
  obtain ⟨_, rfl, rfl⟩ := hh_
  walk_at "C"
  rw [rl, List.take_length]
  have s3 : Same H _ := Same.upd (o := .lst ((ps.map (·.1)).map V.int)) hF
  have hF3 : upd H F (.lst ((ps.map (·.1)).map V.int)) F = some (.lst ((ps.map (·.1)).map V.int)) := upd_same
  generalize upd H F (.lst ((ps.map (·.1)).map V.int)) = H3 at s3 hF3
  refine ⟨k, n, rows, hc.mono s3, ok, fun l4 qs H4 s4 nl4 hl4 rc => ?_⟩
  refine ⟨_, _, ints_DV (s4 _ _ hF3), ints_DV (ns := qs.map fun s => ((s : Nat) : Int)) (by rw [hl4, List.map_map]; rfl), ints_shaped _, ints_shaped _, ?_⟩
  rw [eqv_ints]
  have S4 := s3.trans s4
  refine ite2 (fun z => ?_) (fun z => ?_)
  ·refine q false _ S4 ⟨(fun y => nomatch y), fun ⟨qs', L', U', rc', e, _⟩ => ?_⟩
   have eq := rc'.uniq rc
   subst eq
   rw [e, papOf_fst, decide_eq_true rfl] at z
   cases z
  have efs : ps.map (·.1) = qs.map (fun s => ((s : Nat) : Int)) := Classical.byContradiction fun y => z (by rw [decide_eq_false y]; rfl)
  walk_at "B"
  obtain ⟨L, U, rfl⟩ := pap_any (pw_nodup rc.1) efs
  walk_at "C"
  have fin := fun {b : Bool} {H' : Hp} (x1 : Same H H') (x3 : b = true ↔ (b0 ≤ 0 ∧ 0 ≤ b1) ∧ (L 0 ≤ 0 ∧ 0 ≤ U 0) ∧ ∀ s ∈ qs, Kps rows b0 b1 L U s) => q b H' x1 (x3.trans (shw_iff rc).symm)
  have rl : rs.length = qs.length := by rw [rl, papOf_len]
  have q8 := rc.2.2
  intro B hB
  have S5 : Same H (upd H4 B (.dK [])) := S4.trans (Same.upd hB)
  have nB : H B = none := S4.free hB
  have hB5 : upd H4 B (.dK []) B = some (.dK []) := upd_same
  generalize upd H4 B (.dK []) = H5 at S5 hB5
  refine ⟨⟨_, SqL.of (S5 _ _ hl)⟩, ?_⟩
  refine for_nx (it_list _ l rs) (KA cv bo l B H qs L U)
   ⟨none, none, none, [], rfl, S5, hB5, ⟨KS.nil, fun x hx => by simp at hx⟩, fun x hx => by simp at hx⟩ (fun i σ H6 _ ⟨_, _, _, _, _, s6, _, _, _⟩ => SqL.of (s6 _ _ hl)) ?_ ?_
  ·intro i x σ H6 hi hx hh_ N1 bk1 fi1
   walk_at "B"
   obtain ⟨v4, v5, v6, kvs, rfl, s6, hB6, bd6, le6⟩ := hh_
   walk_at "C"
   have hi' : i < qs.length := by (clear p50 z q8; omega)
   walk_at "B"
   obtain ⟨b, b1', b2⟩ := prow_at dr (papOf_at (L := L) (U := U) hi')
   walk_at "C"
   rw [hx] at b1'
   cases b1'
   refine ⟨_, .inl (s6 _ _ b2), rfl, rfl, ?_⟩
   refine ⟨lB_, fun p hp => ?_⟩
   have bd7 := bd6.mono (Same.upd (o := .tup [.int (L qs[i]), .int (U qs[i])]) hp)
   have hB7 := Same.upd (o := .tup [.int (L qs[i]), .int (U qs[i])]) hp _ _ hB6
   have kl := bd6.kz.len
   rw [List.length_take] at kl
   have S7 := (s6.trans (Same.upd (o := .tup [.int (L qs[i]), .int (U qs[i])]) hp)).own (o := .dK (putK kvs (nk qs[i]) (.ref p))) nB
   refine .inr ⟨B, _, rfl, DPut.k (k := nk qs[i]) hB7 (lt_line (by (clear p50 z rl hi; omega))), ?_⟩
   refine ite2 (fun z => fin S7 ⟨(fun y => nomatch y), fun y => ?_⟩) (fun z => ?_)
   ·have z : L qs[i] > U qs[i] := of_decide_eq_true z
    have := (y.2.2 _ (List.getElem_mem hi')).1
    (clear p50 rl q8 hi kl y; omega)
   have z : ¬ L qs[i] > U qs[i] := fun y => z (decide_eq_true y)
   refine fi1 _ _ ⟨_, _, _, _, rfl, S7, upd_same, ?_, fun s hs => ?_⟩
   ·rw [List.take_add_one, List.getElem?_eq_getElem hi']
    exact bd7.put hB7 (pw_not rc.1 hi') upd_same
   ·rw [List.take_add_one, List.getElem?_eq_getElem hi'] at hs
    rcases List.mem_append.mp hs with y | y
    ·exact le6 s y
    ·rw [show s = qs[i] by simpa using y]; (clear p50 rl q8 hi kl; omega)
  intro σ H6 hh_
  walk_at "B"
  obtain ⟨v4, v5, v6, kvs, rfl, s6, hB6, bd6, le6⟩ := hh_
  walk_at "C"
  rw [rl, List.take_length] at bd6 le6
  have z0 : 0 ∈ qs := (rc.2.1 0).mpr .z
  walk_at "B"
  obtain ⟨t0, a1, a2⟩ := bd6.vl 0 z0
  walk_at "C"
  have d0 : DGet H6 B (.int ((0 : Nat) : Int)) (some (.ref t0)) := .inl ⟨kvs, nk 0, .inl hB6, rfl, a1.symm⟩
  have no : ¬ ((b0 ≤ 0 ∧ 0 ≤ b1) ∧ (L 0 ≤ 0 ∧ 0 ≤ U 0)) → Q (.bl false) H6 := fun x => fin s6 ⟨(fun y => nomatch y), fun y => absurd ⟨y.1, y.2.1⟩ x⟩
  refine ⟨_, gt (s6 _ _ hbo) (by decide) rfl, ?_⟩
  by_cases c1 : b0 ≤ 0
  rotate_left
  ·refine iteN (decide_eq_false c1) ?_
   exact iteP (by decide) (iteP (by decide) (no (fun x => c1 x.1.1)))
  refine iteP (decide_eq_true c1) ?_
  refine ⟨_, gt (s6 _ _ hbo) (by decide) rfl, ?_⟩
  dsimp only [rN0]
  by_cases c2 : 0 ≤ b1
  rotate_left
  ·rw [decide_eq_false c2]
   exact iteP (by decide) (iteP (by decide) (no (fun x => c2 x.1.2)))
  rw [decide_eq_true c2]
  refine ite2 (fun z => absurd z (by decide)) (fun _ => ?_)
  refine .inr ⟨B, .ref t0, rfl, d0, _, gt a2 (by decide) rfl, ?_⟩
  by_cases c3 : L 0 ≤ 0
  rotate_left
  ·refine iteN (decide_eq_false c3) ?_
   exact iteP (by decide) (no (fun x => c3 x.2.1))
  refine iteP (decide_eq_true c3) ?_
  refine .inr ⟨B, .ref t0, rfl, d0, _, gt a2 (by decide) rfl, ?_⟩
  dsimp only [rN0]
  by_cases c4 : 0 ≤ U 0
  rotate_left
  ·rw [decide_eq_false c4]
   exact iteP (by decide) (no (fun x => c4 x.2.2))
  rw [decide_eq_true c4]
  refine ite2 (fun z => absurd z (by decide)) (fun _ => ?_)
  refine ⟨kvs, .inl hB6, fun o H7 hB7 s7 => ?_⟩
  have S7 : Same H H7 := fun b u z => s7 _ _ (ne_of_none z nB) (s6 _ _ z)
  have bd7 : Bd H7 kvs qs L U := ⟨bd6.kz, fun x hx => let ⟨t, a, b⟩ := bd6.vl x hx; ⟨t, a, s7 _ _ (ne_of b hB6 (fun z => nomatch z)) b⟩⟩
  have ek : (kvs.map fun p => kV p.1) = qs.map fun s => V.int (s : Nat) := by
   have : (kvs.map fun p => kV p.1) = (kvs.map (·.1)).map kV := by rw [List.map_map]; rfl
   rw [this, bd6.kz.ks, List.map_map]; rfl
  rw [ek]
  have dg : ∀ {H' : Hp}, Same H7 H' → ∀ x ∈ qs, ∃ t, DGet H' B (.int (x : Nat)) (some (.ref t)) ∧ H' t = some (.tup [.int (L x), .int (U x)]) := fun {H'} sm x hx => by
   walk_at "B"
   obtain ⟨t, a1, a2⟩ := bd7.vl x hx
   walk_at "C"
   exact ⟨t, .inl ⟨kvs, nk x, .inr ⟨o, sm _ _ hB7⟩, rfl, a1.symm⟩, sm _ _ a2⟩
  walk_at "B"
  obtain ⟨a, bb, ss, rfl, ha, hbb, hss⟩ := code_inv hc
  walk_at "C"
  refine for_nx (it_keys B o (qs.map fun s => V.int (s : Nat))) (KB a bo l B H7 qs rows b0 b1 L U)
   ⟨v4, v5, v6, none, none, none, none, none, rfl, Same.refl _, fun x hx => by simp at hx⟩ (fun i σ H8 _ ⟨_, _, _, _, _, _, _, _, _, s8, _⟩ => ⟨_, s8 _ _ hB7⟩) ?_ ?_
  ·intro i x σ H8 hi hx hh_ N2 bk2 fi2
   walk_at "B"
   obtain ⟨v4, v5, v6, v7, v8, v9, v10, v11, rfl, s8, al8⟩ := hh_
   walk_at "C"
   rw [List.length_map] at hi
   rw [List.getElem?_map, List.getElem?_eq_getElem hi] at hx
   cases hx
   have sm := List.getElem_mem hi
   have tki : qs.take (i + 1) = qs.take i ++ [qs[i]] := by rw [List.take_add_one, List.getElem?_eq_getElem hi]; rfl
   generalize qs[i] = st at sm tki ⊢
   have slt : st < rows.length := Om.rch_ok ok _ ((rc.2.1 st).mp sm)
   have lu := le6 st sm
   walk_at "B"
   obtain ⟨qx, rx, e1, e2, e3⟩ := state_at hss (s := st) (st := rows[st]) (List.getElem?_eq_getElem slt)
   walk_at "C"
   have rl2 : rx.length = rows[st].length := by rw [e3.length, List.length_map]
   have eg : rows.getD st [] = rows[st] := by rw [List.getD_eq_getElem?_getD, List.getElem?_eq_getElem slt]; rfl
   walk_at "B"
   obtain ⟨t1, d1, h1⟩ := dg s8 st sm
   walk_at "C"
   refine .inr ⟨B, .ref t1, rfl, d1, t1, rfl, ⟨_, SqT.of h1⟩, ?_⟩
   refine for_nx (it_tup _ t1 [.int (L st), .int (U st)]) (KC a bo l B H8 st v5 v6 rows b0 b1 L U)
    ⟨v7, v8, v9, v10, v11, rfl, Same.refl _, fun x hx => by simp at hx⟩ (fun i σ H9 _ ⟨_, _, _, _, _, _, s9, _⟩ => SqT.of (s9 _ _ h1)) ?_ ?_
   ·intro i x σ H9 hi hx hh_ N3 bk3 fi3
    walk_at "B"
    obtain ⟨v7, v8, v9, v10, v11, rfl, s9, al9⟩ := hh_
    walk_at "C"
    obtain ⟨h, rfl, hh, tkh⟩ : ∃ h, x = .int h ∧ (h = L st ∨ h = U st) ∧ [L st, U st].take (i + 1) = [L st, U st].take i ++ [h] := by
     match i, hx with
     | 0, hx => cases hx; exact ⟨_, rfl, .inl rfl, rfl⟩
     | 1, hx => cases hx; exact ⟨_, rfl, .inr rfl, rfl⟩
     | i + 2, hx => simp at hx
    have S9 := S7.trans (s8.trans s9)
    refine ⟨_, gt (S9 _ _ ha) (by decide) rfl, .ref qx, gl (S9 _ _ hbb) (by (clear p50 z rl q8 no c1 c2 c3 c4 lu rl2 hi hh; omega)) (by simpa using e1), ⟨_, SqL.of (S9 _ _ e2)⟩, ?_⟩
    refine for_nx (it_list _ qx rx) (KD a bo l B H9 rows st slt h v5 v6 b0 b1 L U)
     ⟨v8, v9, v10, v11, rfl, Same.refl _, fun x hx => by simp at hx⟩ (fun i σ H10 _ ⟨_, _, _, _, _, s10, _⟩ => SqL.of ((S9.trans s10) _ _ e2)) ?_ ?_
    ·intro j z σ H10 hj hz hh_ N4 bk4 fi4
     walk_at "B"
     obtain ⟨v8, v9, v10, v11, rfl, s10, al10⟩ := hh_
     walk_at "C"
     have hj' : j < rows[st].length := by (clear p50 rl q8 no c1 c2 c3 c4 lu hi hh; omega)
     walk_at "B"
     obtain ⟨r, r1, r2⟩ := row_at e3 (l := j) (r := rows[st][j]) (List.getElem?_eq_getElem hj')
     walk_at "C"
     rw [hz] at r1
     cases r1
     have okr := ok.row _ (List.getElem_mem slt) _ (List.getElem_mem hj')
     have hrow : rows[st][j] ∈ rows.getD st [] := by rw [eg]; exact List.getElem_mem hj'
     have tkj : rows[st].take (j + 1) = rows[st].take j ++ [rows[st][j]] := by rw [List.take_add_one, List.getElem?_eq_getElem hj']; rfl
     generalize rows[st][j] = rw0 at r2 okr hrow tkj
     have tq : rw0.2 ∈ qs := (rc.2.1 _).mpr (.s ((rc.2.1 st).mp sm) (List.mem_map.mpr ⟨_, hrow, rfl⟩))
     have S10 := S9.trans s10
     have bad : ∀ {H' : Hp}, Same H H' → ¬ KR b0 b1 L U h rw0 → Q (.bl false) H' := fun {H'} s' nk => fin s' ⟨(fun y => nomatch y), fun y => absurd ((kr_iff lu).mpr (y.2.2 st sm) h hh rw0 hrow) nk⟩
     refine ⟨_, .inl (S10 _ _ r2), rfl, rfl, ?_⟩
     refine ⟨rw0.1, rfl, ?_⟩
     refine for_nx (it_txt rw0.1) (KE a bo l B H10 st h rw0 v5 v6 b0 b1)
      ⟨v11, by rw [show h + Om.tot (rw0.1.take 0) = h by rw [List.take_zero]; exact Int.add_zero _]; rfl, Same.refl _, fun m m0 m1 => absurd m1 (by (clear p50 z rl q8 no c1 c2 c3 c4 lu rl2 hi hh hj hj' okr m1; omega))⟩ (fun _ _ _ _ _ => trivial) ?_ ?_
     ·intro i y σ H11 hi hy hh_ N5 bk5 fi5
      walk_at "B"
      obtain ⟨v11, rfl, s11, al11⟩ := hh_
      walk_at "C"
      rw [List.length_map] at hi
      have hb' : rw0.1[i]? = some rw0.1[i] := List.getElem?_eq_getElem hi
      rw [List.getElem?_map, hb'] at hy
      cases hy
      have et : h + Om.tot (rw0.1.take (i + 1)) = h + Om.tot (rw0.1.take i) + Om.stp rw0.1[i] := by rw [List.take_add_one, hb', Om.tot_app]; show _ + (_ + Om.tot [rw0.1[i]]) = _; rw [Om.tot_one]; (clear p50 z rl q8 no c1 c2 c3 c4 lu rl2 hh hj hj' okr; omega)
      generalize rw0.1[i] = bb' at et ⊢
      refine ⟨lB_, fun p hp => ?_⟩
      have pk : getV (upd H11 p (.lst [.int (-1), .int 1])) (.ref p) (if decide (bs [bb'] = ("1" : Str)) = true then 1 else 0) = some (.int (Om.stp bb')) := by
       cases bb'
       ·exact gl upd_same (by decide) rfl
       ·exact gl upd_same (by decide) rfl
      refine ⟨_, pk, ?_⟩
      have sp := s11.trans (Same.upd (o := .lst [.int (-1), .int 1]) hp)
      refine ⟨_, gt ((S10.trans sp) _ _ hbo) (by decide) rfl, ?_⟩
      refine ite2 (fun z => bad (S10.trans sp) fun kr => ?_) (fun z1 => ?_)
      ·have z : h + Om.tot (rw0.1.take i) + Om.stp bb' < b0 := of_decide_eq_true z
       have := (kr.1 (i + 1) (Nat.succ_pos _) hi).1
       (clear p50 rl q8 no c1 c2 c3 c4 lu rl2 hh hj hj' okr; omega)
      refine ⟨_, gt ((S10.trans sp) _ _ hbo) (by decide) rfl, ?_⟩
      refine ite2 (fun z => bad (S10.trans sp) fun kr => ?_) (fun z2 => ?_)
      ·have z : h + Om.tot (rw0.1.take i) + Om.stp bb' > b1 := of_decide_eq_true z
       have := (kr.1 (i + 1) (Nat.succ_pos _) hi).2
       (clear p50 rl q8 no c1 c2 c3 c4 lu rl2 hh hj hj' okr z1; omega)
      have z1 : ¬ h + Om.tot (rw0.1.take i) + Om.stp bb' < b0 := fun y => z1 (decide_eq_true y)
      have z2 : ¬ h + Om.tot (rw0.1.take i) + Om.stp bb' > b1 := fun y => z2 (decide_eq_true y)
      refine fi5 _ _ ⟨_, by rw [et]; rfl, sp, fun m m0 m1 => ?_⟩
      by_cases em : m ≤ i
      ·exact al11 m m0 em
      ·obtain rfl : m = i + 1 := by (clear p50 z rl q8 no c1 c2 c3 c4 lu rl2 hh hj hj' okr et z1 z2 m0; omega)
       rw [et]
       (clear p50 z rl q8 no c1 c2 c3 c4 lu rl2 hh hj hj' okr et m0 m1 em; omega)
     ·intro σ H11 hh_
      walk_at "B"
      obtain ⟨v11, rfl, s11, al11⟩ := hh_
      walk_at "C"
      rw [List.length_map] at al11
      rw [List.length_map, List.take_length]
      walk_at "B"
      obtain ⟨t2, d2, h2⟩ := dg (((s8.trans s9).trans s10).trans s11) _ tq
      walk_at "C"
      refine .inr ⟨B, .ref t2, rfl, d2, _, gt h2 (by decide) rfl, ?_⟩
      refine ite2 (fun z => bad (S10.trans s11) fun kr => ?_) (fun z1 => ?_)
      ·have z : h + Om.tot rw0.1 < L rw0.2 := of_decide_eq_true z
       have := kr.2.1
       (clear p50 rl q8 no c1 c2 c3 c4 lu rl2 hi hh hj hj' okr; omega)
      refine .inr ⟨B, .ref t2, rfl, d2, _, gt h2 (by decide) rfl, ?_⟩
      refine ite2 (fun z => bad (S10.trans s11) fun kr => ?_) (fun z2 => ?_)
      ·have z : h + Om.tot rw0.1 > U rw0.2 := of_decide_eq_true z
       have := kr.2.2
       (clear p50 rl q8 no c1 c2 c3 c4 lu rl2 hi hh hj hj' okr z1; omega)
      have z1 : ¬ h + Om.tot rw0.1 < L rw0.2 := fun y => z1 (decide_eq_true y)
      have z2 : ¬ h + Om.tot rw0.1 > U rw0.2 := fun y => z2 (decide_eq_true y)
      refine fi4 _ _ ⟨_, _, _, _, rfl, s10.trans s11, fun r hr => ?_⟩
      rw [tkj] at hr
      rcases List.mem_append.mp hr with y | y
      ·exact al10 r y
      ·rw [show r = rw0 by simpa using y]
       exact ⟨fun m m0 m1 => al11 m m0 m1, by (clear p50 z rl q8 no c1 c2 c3 c4 lu rl2 hi hh hj hj' okr z2; omega), by (clear p50 z rl q8 no c1 c2 c3 c4 lu rl2 hi hh hj hj' okr z1; omega)⟩
    ·intro σ H10 hh_
     walk_at "B"
     obtain ⟨v8, v9, v10, v11, rfl, s10, al10⟩ := hh_
     walk_at "C"
     rw [rl2, List.take_length] at al10
     refine fi3 _ _ ⟨_, v8, v9, v10, v11, rfl, s9.trans s10, fun h' hh' => ?_⟩
     rw [tkh] at hh'
     rcases List.mem_append.mp hh' with y | y
     ·exact al9 h' y
     ·rw [show h' = h by simpa using y, eg]; exact al10
   ·intro σ H9 hh_
    walk_at "B"
    obtain ⟨v7, v8, v9, v10, v11, rfl, s9, al9⟩ := hh_
    walk_at "C"
    refine fi2 _ _ ⟨_, v5, v6, v7, v8, v9, v10, v11, rfl, s8.trans s9, fun s hs => ?_⟩
    rw [tki] at hs
    rcases List.mem_append.mp hs with y | y
    ·exact al8 s y
    ·rw [show s = st by simpa using y]
     exact (kr_iff lu).mp fun h hh r hr => al9 h (by rcases hh with z | z <;> rw [z] <;> simp) r hr
  ·intro σ H8 hh_
   walk_at "B"
   obtain ⟨v4, v5, v6, v7, v8, v9, v10, v11, rfl, s8, al8⟩ := hh_
   walk_at "C"
   rw [List.length_map, List.take_length] at al8
   exact fin (S7.trans s8) ⟨fun _ => ⟨⟨c1, c2⟩, ⟨c3, c4⟩, al8⟩, fun _ => rfl⟩
 ·exact h.elim
end

end K21
end
section
set_option Elab.async false
set_option linter.all false
set_option maxRecDepth 100000
set_option maxHeartbeats 4000000
namespace L2
open PySem PySem.Spec PyProof.Rows
section
variable {X : Cx} {pins : List (Addr × Obj)} {σ : St} {H : Hp} {s : Shared} {a : Addr} {u : HO} {o : Obj}
end
section
variable {X : Cx} {st : Stmt} {t : TS}
end
end L2
end
section
set_option Elab.async false
set_option linter.all false
set_option maxRecDepth 100000
set_option maxHeartbeats 4000000
namespace L2
open PySem PySem.Spec PyProof.Rows
section
variable {X : Cx} {pos apos : Pos} {o : Expr} {to : TE}
end
end L2
end
section
set_option Elab.async false
set_option linter.all false
set_option maxRecDepth 100000
set_option maxHeartbeats 4000000
namespace L2
open PySem PySem.Spec PyProof.Rows
section
variable {X : Cx}
def rMulS : R2 := fun x y H Q => match x, y with
 | .str z, .int n => MulOk z n ∧ Q (.str (Txt.mul z n)) H
 | _, _ => False
theorem op_mulS : OpR X (binaryOp .Mult) rMulS := by
 intro pins s σ H x y v u Q I rx ry h
 unfold rMulS at h
 split at h
 ·obtain ⟨t, rfl⟩ := rx
  obtain ⟨t', rfl⟩ := ry
  exact SB.mul h.1 fun t2 k => ⟨.str _, H, I.tok _, ⟨_, rfl⟩, h.2⟩
 ·exact h.elim
end
theorem mulS_ok (b : Bool) (n : Nat) (h : n ≤ 6) : MulOk (bs [b]) ((n : Nat) : Int) := by
 have : n = 0 ∨ n = 1 ∨ n = 2 ∨ n = 3 ∨ n = 4 ∨ n = 5 ∨ n = 6 := by omega
 unfold MulOk
 rcases this with rfl | rfl | rfl | rfl | rfl | rfl | rfl <;> cases b <;> decide +kernel
theorem mulS_bs (b : Bool) (n : Nat) (h : n ≤ 6) : Txt.mul (bs [b]) ((n : Nat) : Int) = bs (List.replicate n b) := by
 have : n = 0 ∨ n = 1 ∨ n = 2 ∨ n = 3 ∨ n = 4 ∨ n = 5 ∨ n = 6 := by omega
 rcases this with rfl | rfl | rfl | rfl | rfl | rfl | rfl <;> cases b <;> decide +kernel
end L2
end
section
set_option Elab.async false
set_option linter.all false
set_option maxRecDepth 100000
set_option maxHeartbeats 4000000
namespace K21
open PySem L2
theorem row_turn {H : Hp} {C p : Addr} {ys : List V} {st : List (List Bool × Nat)} {w : List Bool} {b : Nat} (h5 : H C = some (.lst ys)) (hp : H p = none) (dv : DVs (woA C H) ys (st.map rowD)) : DVs (woA C (upd (upd H p (.tup [.str (bs w), .int (b : Nat)])) C (.lst (ys ++ [.ref p])))) (ys ++ [.ref p]) ((st ++ [(w, b)]).map rowD) := by
 have Cp : C ≠ p := ne_of_none h5 hp
 have sm : Same (woA C H) (woA C (upd (upd H p (.tup [.str (bs w), .int (b : Nat)])) C (.lst (ys ++ [.ref p])))) := fun b o e => by
  have bC : b ≠ C := fun z => by rw [z] at e; unfold woA at e; rw [if_pos rfl] at e; cases e
  refine woA.at ?_ bC
  rw [upd_ne bC]
  exact Same.upd hp _ _ (woA.same _ _ e)
 rw [List.map_append]
 exact (dv.mono sm).app (.cons (.tup (woA.at (by rw [upd_ne (Ne.symm Cp), upd_same]) (Ne.symm Cp)) (.cons (.str _) (.cons (.int _) .nil))) .nil)
section
variable {rows : Om.Rows} {k n : Nat}
theorem wide_ok (ok : Om.CodeOk k n rows) {b : Bool} {t : Nat} (l8 : rows.length < 8) (tl : t ≤ rows.length) : Om.CodeOk k n (rows ++ [List.replicate (2 ^ k) (List.replicate n b, t)]) := by
 have l : (rows ++ [List.replicate (2 ^ k) (List.replicate n b, t)]).length = rows.length + 1 := by rw [List.length_append]; rfl
 refine ⟨ok.k1, ok.k3, ok.n1, ok.n6, by rw [l]; exact Nat.succ_pos _, by rw [l]; omega, fun st hst => ?_, fun st hst r hr => ?_⟩
 ·rcases List.mem_append.mp hst with z | z
  ·exact ok.len st z
  ·rw [List.mem_singleton.mp z, List.length_replicate]
 ·rw [l]
  rcases List.mem_append.mp hst with z | z
  ·have := ok.row st z r hr
   exact ⟨this.1, by (clear l8 tl l; omega)⟩
  ·rw [List.mem_singleton.mp z] at hr
   rw [List.eq_of_mem_replicate hr]
   exact ⟨List.length_replicate, by show t < _; omega⟩
end
section
variable {P : Program} {w : World} {K : PySem.W.Frag} {mg : Str → Option Value} {base : Heap}
abbrev sWide : Stmt := top 20
def spWide : Sp := fun vs H Q _ => match vs with
 | [cv, .int x] => ∃ (k n : Nat) (rows : Om.Rows), DV H cv (codeD k n rows) ∧ Om.CodeOk k n rows ∧ 0 ≤ x ∧ Q cv H ∧
   ∀ v rws H', Same H H' → DV H' v (codeD k n rws) → Om.CodeOk k n rws → Q v H'
 | _ => False
theorem scWide : FnScope ["code", "x", "row"] ["code", "x"] (defScope sWide) := ⟨rfl, rfl, rfl, by decide +kernel, rfl, by decide +kernel, by decide +kernel⟩
local macro_rules | `(tactic| walk_at "T.n") => `(tactic| with_reducible first | exact vn "code" 0 | exact vn "x" 1 | exact vn "row" 2)
local macro_rules | `(tactic| walk_at "T.gn") => `(tactic| with_reducible first | exact gn "row" 2 (by walk_at "A"))
local macro_rules | `(tactic| walk_at "T.n") => `(tactic| with_reducible first | exact vn "letter" 0 | exact vn "x" 1 | exact vn "code" 2)
local macro_rules | `(tactic| walk_at "T.gn") => `(tactic| with_reducible first | exact gn "letter" 0 (by walk_at "A"))
local macro_rules | `(tactic| walk_at "T.sc") => `(tactic| (have ndc : (["letter", "x", "code"] : List Str).Nodup := (by decide +kernel)); ((with_reducible refine' s_comp "row" 2 ["letter", "x", "code"] [1, 0] ?b1 ?b0 ?b2 (fun cl C s H fp => ?b3) (fun cl C s H fp => ?b4) (fun cl C s H fp => ?b5)); (case b1 => exact ndc); (case b0 => assumption); (case b2 => walk_at "T.i"); (case b3 => walk_at "T.g"); (case b4 => walk_at "T.pf"); (case b5 => walk_at "T.e")))
local macro_rules | `(tactic| walk_at "T.n") => `(tactic| with_reducible first | exact vn "code" 0 | exact vn "x" 1 | exact vn "row" 2)
local macro_rules | `(tactic| walk_at "T.gn") => `(tactic| with_reducible first | exact gn "row" 2 (by walk_at "A"))
local macro_rules | `(tactic| walk_at "T.n") => `(tactic| with_reducible first | exact vn "code" 0 | exact vn "x" 1 | exact vn "row" 2 | exact vn "letter" 0 | exact vn "x" 1 | exact vn "code" 2)
local macro_rules | `(tactic| walk_at "T.e") => `(tactic| ((with_reducible refine' pe_op ?a1 ?a2 ?a3); (case a1 => with_reducible exact op_mulS); (case a2 => ((with_reducible refine' ix_at ?c1 ?c2); (case c1 => with_reducible exact pe_str); (case c2 => walk_at "T.e"))); (case a3 => walk_at "T.e")))
theorem ok_wide (D : FnX K mg "_law_wider" sWide ["code", "x"]) (g1 : mg "len" = none) : Can P w K mg base "_law_wider" 1 ["code", "x"] spWide := by
 refine can_fn (k := 0) D scWide (fun vs H Q E h => ?_) (fun f cdv A outer s H vs Q E hr h => ?_)
 all_goals
  unfold spWide at h
  split at h
 ·rfl
 ·exact h.elim
 ·rename_i cv x
  walk_at "B"
  obtain ⟨k, n, rows, hc, ok, x0, q0, q⟩ := h
  walk_at "C"
  have nd := scWide.nd
  walk_at "B"
  obtain ⟨a0, b0, ss, rfl, ha, hb, hss⟩ := code_inv hc
  walk_at "C"
  have sl : ss.length = rows.length := by rw [hss.length, List.length_map]
  have s8 := ok.s8
  have n6 := ok.n6
  have s1' : 0 < rows.length := ok.s1
  have p8 : 2 ^ k ≤ 8 := Om.pow8 ok.k3
  refine ⟨_, (by walk_at "T.top"), ?_⟩
  refine ⟨(by decide : (0 : Int) < 3), ?_⟩
  refine ite2 (fun _ => q0) (fun _ => ?_)
  refine ⟨_, gt ha (by decide) rfl, _, lenL hb, ?_⟩
  refine ite2 (fun _ => q0) (fun z => ?_)
  have l8 : rows.length < 8 := by
   have : ¬ ((ss.length : Nat) : Int) = 8 := fun y => z (decide_eq_true y)
   (clear x0 n6 s1' p8 z; omega)
  walk_at "B"
  obtain ⟨qx, rx, e1, e2, e3⟩ := state_at hss (s := 0) (st := rows[0]) (List.getElem?_eq_getElem s1')
  walk_at "C"
  have rl : rx.length = 2 ^ k := by rw [e3.length, List.length_map]; exact ok.len _ (List.getElem_mem s1')
  refine ⟨_, gt ha (by decide) rfl, .ref qx, gl hb (by decide) (by simpa using e1), ⟨_, SqL.of e2⟩, fun C hC => ?_⟩
  have r0 := Int.emod_nonneg (x / 3) (show (2 : Int) ≠ 0 by decide)
  have r1 := Int.emod_lt_of_pos (x / 3) (show (0 : Int) < 2 by decide)
  refine comp_by (it_list _ qx rx) (fun i τ H5 zs => (∃ v, τ = [v, some (.int x), some (.ref a0)]) ∧ Same H H5 ∧ H5 C = some (.lst zs) ∧ zs.length = i ∧ DVs (woA C H5) zs ((List.replicate i (List.replicate n (decide (x / 3 % 2 = 1)), 0)).map rowD)) (le_line (by (clear x0 sl s8 n6 z l8 r0 r1; omega))) ⟨⟨none, rfl⟩, Same.upd hC, upd_same, rfl, .nil⟩ ?_ ?_ ?_
  ·intro i τ H5 zs hi hh_
   walk_at "B"
   obtain ⟨_, s5, h5, zl, _⟩ := hh_
   walk_at "C"
   exact ⟨SqL.of (s5 _ _ e2), h5, by (clear x0 sl s8 n6 p8 z l8 rl r0 r1 hi; omega)⟩
  ·intro i y τ H5 zs hi hy hh_
   walk_at "B"
   obtain ⟨⟨v, rfl⟩, s5, h5, zl, dv⟩ := hh_
   walk_at "C"
   refine ⟨⟨by decide, by decide⟩, (by decide : (0 : Int) < 2), _, g01 r0 r1, _, gt (s5 _ _ ha) (by decide) rfl, mulS_ok _ n n6, ?_⟩
   rw [mulS_bs _ n n6]
   refine ⟨lB_, fun p hp => ?_⟩
   refine ⟨by rw [upd_ne (ne_of_none h5 hp)]; exact h5, ⟨_, rfl⟩, (s5.trans (Same.upd hp)).own hC, upd_same, by simp [zl], ?_⟩
   rw [List.replicate_succ']
   exact row_turn h5 hp dv
  intro τ H5 zs hh_
  walk_at "B"
  obtain ⟨_, s5, h5, zl, dv⟩ := hh_
  walk_at "C"
  rw [rl] at dv
  replace dv := dv.mono woA.same
  dsimp only [gName]
  refine ⟨_, gt (s5 _ _ ha) (by decide) rfl, _, gt (s5 _ _ ha) (by decide) rfl, _, gt (s5 _ _ ha) (by decide) rfl, lB_, fun n1 hn1 => ?_⟩
  have w6 := Same.upd (o := .lst [.ref C]) hn1
  refine ⟨_, _, w6 _ _ (s5 _ _ hb), upd_same, le_line (by rw [List.length_singleton]; (clear x0 n6 p8 z l8 rl r0 r1 zl; omega)), fun n2 hn2 => ?_⟩
  have w7 := Same.upd (o := .lst (ss ++ [.ref C])) hn2
  refine ⟨lB_, fun p hp => ?_⟩
  have W := (w6.trans w7).trans (Same.upd (o := .tup [.int (k : Nat), .int (n : Nat), .ref n2]) hp)
  refine q (.ref p) (rows ++ [List.replicate (2 ^ k) (List.replicate n (decide (x / 3 % 2 = 1)), 0)]) _ (s5.trans W) ?_ (wide_ok ok l8 (Nat.zero_le _))
  refine .tup upd_same (.cons (.int _) (.cons (.int _) (.cons (.lst (Same.upd hp _ _ upd_same) ?_) .nil)))
  rw [List.map_append]
  exact (hss.mono (s5.trans W)).app (.cons (.lst (W _ _ h5) (dv.mono W)) .nil)
 ·exact h.elim
end

end K21
end
section
set_option Elab.async false
set_option linter.all false
set_option maxRecDepth 100000
set_option maxHeartbeats 4000000
namespace K21
open PySem L2
section
variable {P : Program} {w : World} {K : PySem.W.Frag} {mg : Str → Option Value} {base : Heap}
def Pz (L : Addr) (H : Hp) (x : V) : Prop := ∃ (p : Addr) (bz : List V) (ps : List (Int × Int × Int)), x = .ref p ∧ p ≠ L ∧ 1 ≤ ps.length ∧ ps.length ≤ 8 ∧ H p = some (.lst bz) ∧ DVs H bz (ps.map prowD)
theorem Pz.keep {L : Addr} {H H' : Hp} {x : V} {zs : List V} (h : Pz L H x) (hL : H L = some (.lst zs)) (k : ∀ b o, b ≠ L → (∀ ps, o ≠ .tbl ps) → H b = some o → H' b = some o) : Pz L H' x := by
 walk_at "B"
 obtain ⟨p, bz, ps, e, n, l1, l, h1, h2⟩ := h
 walk_at "C"
 exact ⟨p, bz, ps, e, n, l1, l, k _ _ n (fun ps z => nomatch z) h1, pap_off h2 fun b ys e => k _ _ (ne_of e hL (fun z => nomatch z)) (fun ps z => nomatch z) e⟩
theorem Pz.same {L : Addr} {H H' : Hp} {x : V} {zs : List V} (h : Pz L H x) (hL : H L = some (.lst zs)) (s : Same H H') : Pz L H' x := h.keep hL fun b o _ _ e => s _ _ e
theorem Pz.up {L : Addr} {H : Hp} {x : V} {zs ys : List V} (h : Pz L H x) (hL : H L = some (.lst zs)) : Pz L (upd H L (.lst ys)) x := h.keep hL fun b o n _ e => by rw [upd_ne n]; exact e
theorem Pz.t {L P0 : Addr} {H H' : Hp} {x : V} {zs : List V} {ls : Pos} {q : Str} (h : Pz L H x) (hL : H L = some (.lst zs)) (tb : Tab P0 ls q H) (s : SameT P0 H H') : Pz L H' x := h.keep hL fun b o _ n e => s _ _ (fun z => by obtain ⟨ps, e'⟩ := tb.tbl; rw [z, e'] at e; exact n ps (Option.some.inj e).symm) e
structure PK (P0 L : Addr) (c : Pos) (q : Str) (H : Hp) (xs : List V) (Hx : Hp) : Prop where
 S : SameT P0 H Hx
 t : Tab P0 c q Hx
 hL : Hx L = some (.lst xs)
 pp : ∀ x ∈ xs, Pz L Hx x
theorem PK.same {P0 L : Addr} {c : Pos} {q : Str} {H : Hp} {xs : List V} {Hx Hy : Hp} (j : PK P0 L c q H xs Hx) (s : Same Hx Hy) : PK P0 L c q H xs Hy := ⟨j.S.trans s.t, j.t.mono s, s _ _ j.hL, fun x hx => (j.pp x hx).same j.hL s⟩
theorem PK.tr {P0 L : Addr} {c : Pos} {q : Str} {H : Hp} {xs : List V} {Hx Hy : Hp} (j : PK P0 L c q H xs Hx) (s : SameT P0 Hx Hy) (t : Tab P0 c q Hy) : PK P0 L c q H xs Hy := ⟨j.S.trans s, t, s _ _ (fun z => by obtain ⟨ps, e⟩ := j.t.tbl; have := j.hL; rw [z, e] at this; cases this) j.hL, fun x hx => (j.pp x hx).t j.hL j.t s⟩
theorem PK.put {P0 L : Addr} {c : Pos} {q : Str} {H : Hp} {xs : List V} {Hx : Hp} {x : V} (j : PK P0 L c q H xs Hx) (nL : H L = none) (px : Pz L Hx x) : PK P0 L c q H (xs ++ [x]) (upd Hx L (.lst (xs ++ [x]))) :=
 ⟨SameT.own' j.S nL, j.t.upd j.hL, upd_same, fun y hy => by
  rcases List.mem_append.mp hy with z | z
  ·exact (j.pp y z).up j.hL
  ·rw [List.mem_singleton.mp z]; exact px.up j.hL⟩
abbrev sPapers : Stmt := top 25
def spPapers (P0 : Addr) : Sp := fun vs H Q _ => match vs with
 | [cv, .ref a, .int spot] => ∃ (k n : Nat) (rows : Om.Rows) (ds : List Int) (sp : Nat), DV H cv (codeD k n rows) ∧ Om.CodeOk k n rows ∧ Tab P0 (lamPos lamSt) qSt H ∧ H a = some (.lst (ds.map V.int)) ∧ spot = (sp : Nat) ∧ sp + 20 ≤ ds.length ∧ Drn ds ∧
   ∀ l xs H', SameT P0 H H' → Tab P0 (lamPos lamSt) qSt H' → H' l = some (.lst xs) → xs.length ≤ 5 → (∀ x ∈ xs, Pz l H' x) → Q (.ref l) H'
 | _ => False
theorem scPapers : FnScope ["code", "d", "spot", "states", "far", "found", "told", "one", "other"] ["code", "d", "spot"] (defScope sPapers) := ⟨rfl, rfl, rfl, by decide +kernel, rfl, by decide +kernel, by decide +kernel⟩
local macro_rules | `(tactic| walk_at "T.n") => `(tactic| with_reducible first | exact vn "code" 0 | exact vn "d" 1 | exact vn "spot" 2 | exact vn "states" 3 | exact vn "far" 4 | exact vn "found" 5 | exact vn "told" 6 | exact vn "one" 7 | exact vn "other" 8)
local macro_rules | `(tactic| walk_at "T.gn") => `(tactic| with_reducible first | exact gn "states" 3 (by walk_at "A") | exact gn "far" 4 (by walk_at "A") | exact gn "found" 5 (by walk_at "A") | exact gn "told" 6 (by walk_at "A") | exact gn "one" 7 (by walk_at "A") | exact gn "other" 8 (by walk_at "A"))
local macro_rules | `(tactic| walk_at "T.n") => `(tactic| with_reducible first | exact vn "state" 0 | exact vn "d" 1 | exact vn "spot" 2 | exact vn "far" 3)
local macro_rules | `(tactic| walk_at "T.gn") => `(tactic| with_reducible first | exact gn "state" 0 (by walk_at "A"))
local macro_rules | `(tactic| walk_at "T.c") => `(tactic| (have ndc : (["state", "d", "spot", "far"] : List Str).Nodup := (by decide +kernel)); ((with_reducible refine' c_comp ["state", "d", "spot", "far"] [1, 2, 4] ?b1 ?b2 (fun cl C s H fp => ?b3) (fun cl C s H fp => ?b4) (fun cl C s H fp => ?b5)); (case b1 => exact ndc); (case b2 => walk_at "T.i"); (case b3 => walk_at "T.g"); (case b4 => walk_at "T.pf"); (case b5 => walk_at "T.e")))
local macro_rules | `(tactic| walk_at "T.n") => `(tactic| with_reducible first | exact vn "state" 0 | exact vn "d" 1 | exact vn "spot" 2)
local macro_rules | `(tactic| walk_at "T.gn") => `(tactic| with_reducible first | exact gn "state" 0 (by walk_at "A"))
local macro_rules | `(tactic| walk_at "T.c") => `(tactic| (have ndc : (["state", "d", "spot"] : List Str).Nodup := (by decide +kernel)); ((with_reducible refine' c_comp ["state", "d", "spot"] [1, 2] ?b1 ?b2 (fun cl C s H fp => ?b3) (fun cl C s H fp => ?b4) (fun cl C s H fp => ?b5)); (case b1 => exact ndc); (case b2 => walk_at "T.i"); (case b3 => walk_at "T.g"); (case b4 => walk_at "T.pf"); (case b5 => walk_at "T.e")))
local macro_rules | `(tactic| walk_at "T.n") => `(tactic| with_reducible first | exact vn "state" 0 | exact vn "low" 1 | exact vn "high" 2 | exact vn "one" 3 | exact vn "other" 4)
local macro_rules | `(tactic| walk_at "T.gn") => `(tactic| with_reducible first | exact gn "state" 0 (by walk_at "A") | exact gn "low" 1 (by walk_at "A") | exact gn "high" 2 (by walk_at "A"))
local macro_rules | `(tactic| walk_at "T.c") => `(tactic| (have ndc : (["state", "low", "high", "one", "other"] : List Str).Nodup := (by decide +kernel)); ((with_reducible refine' c_comp ["state", "low", "high", "one", "other"] [7, 8] ?b1 ?b2 (fun cl C s H fp => ?b3) (fun cl C s H fp => ?b4) (fun cl C s H fp => ?b5)); (case b1 => exact ndc); (case b2 => walk_at "T.i"); (case b3 => walk_at "T.g"); (case b4 => walk_at "T.pf"); (case b5 => walk_at "T.e")))
local macro_rules | `(tactic| walk_at "T.n") => `(tactic| with_reducible first | exact vn "code" 0 | exact vn "d" 1 | exact vn "spot" 2 | exact vn "states" 3 | exact vn "far" 4 | exact vn "found" 5 | exact vn "told" 6 | exact vn "one" 7 | exact vn "other" 8)
local macro_rules | `(tactic| walk_at "T.gn") => `(tactic| with_reducible first | exact gn "states" 3 (by walk_at "A") | exact gn "far" 4 (by walk_at "A") | exact gn "found" 5 (by walk_at "A") | exact gn "told" 6 (by walk_at "A") | exact gn "one" 7 (by walk_at "A") | exact gn "other" 8 (by walk_at "A"))
theorem ok_papers {P0 : Addr} (D : FnX K mg "_law_papers" sPapers ["code", "d", "spot"]) (g1 : mg "list" = none) (c1 : Can P w K mg base "_law_come_to" 1 ["code"] spCome) (c2 : Can P w K mg base "lean_paper" 6 ["code"] (spLPap P0)) : Can P w K mg base "_law_papers" 7 ["code", "d", "spot"] (spPapers P0) := by
 refine can_fn (k := 6) D scPapers (fun vs H Q E h => ?_) (fun f cdv A outer s H vs Q E hr h => ?_)
 all_goals
  unfold spPapers at h
  split at h
 ·rfl
 ·exact h.elim
 ·rename_i cv a spot
  walk_at "B"
  obtain ⟨k, n, rows, ds, sp, hc, ok, tb, hA, rfl, dl, dr, q⟩ := h
  walk_at "C"
  have nd := scPapers.nd
  have dget : ∀ {H1 : Hp} {j : Int}, H1 a = some (.lst (ds.map V.int)) → 0 ≤ j → j < (sp + 20 : Nat) → ∃ x : Int, 0 ≤ x ∧ x < 10007 ∧ getV H1 (.ref a) j = some (.int x) := fun {H1 j} h h0 h1 => by
   have il : j.toNat < ds.length := by omega
   obtain ⟨e0, e1⟩ := dr _ (List.getElem_mem il)
   exact ⟨ds[j.toNat], e0, e1, gl h h0 (by rw [List.getElem?_map, List.getElem?_eq_getElem il]; rfl)⟩
  refine ⟨_, (by walk_at "T.top"), ?_⟩
  refine ⟨k, n, rows, hc, ok, fun ls qs H1 s1 nls hls rc => ?_⟩
  have q8 := rc.2.2
  have q1 : 1 ≤ qs.length := List.length_pos_of_mem ((rc.2.1 0).mpr .z)
  have sl8 : ∀ s ∈ qs, s < 8 := fun s hs => Nat.lt_of_lt_of_le (Om.rch_ok ok _ ((rc.2.1 _).mp hs)) ok.s8
  refine ⟨lB_, fun p0 hp0 => ?_⟩
  have s2 := s1.trans (Same.upd (o := .lst [.int 2, .int 6, .int 13]) hp0)
  have hls2 := Same.upd (o := .lst [.int 2, .int 6, .int 13]) hp0 _ _ hls
  have ep0 : upd H1 p0 (.lst [.int 2, .int 6, .int 13]) p0 = some (.lst [.int 2, .int 6, .int 13]) := upd_same
  generalize upd H1 p0 (.lst [V.int 2, .int 6, .int 13]) = H2 at s2 hls2 ep0 ⊢
  have hA2 := s2 _ _ hA
  walk_at "B"
  obtain ⟨x0, _, _, e0⟩ := dget hA2 (j := ((sp : Nat) : Int)) (by omega) (by omega)
  walk_at "C"
  have a0 := Int.emod_nonneg x0 (show (3 : Int) ≠ 0 by decide)
  have a1 := Int.emod_lt_of_pos x0 (show (0 : Int) < 3 by decide)
  obtain ⟨fr, fr0, ef⟩ : ∃ fr : Int, 0 < fr ∧ [V.int 2, .int 6, .int 13][(x0 % 3).toNat]? = some (.int fr) := by
   generalize x0 % 3 = r0 at a0 a1 ⊢
   have : r0 = 0 ∨ r0 = 1 ∨ r0 = 2 := by (clear dl q8 q1; omega)
   rcases this with rfl | rfl | rfl
   ·exact ⟨2, by decide, rfl⟩
   ·exact ⟨6, by decide, rfl⟩
   ·exact ⟨13, by decide, rfl⟩
  refine ⟨_, e0, (by decide : (0 : Int) < 3), .int fr, gl ep0 a0 ef, ?_⟩
  dsimp only [gName]
  refine ⟨⟨_, SqL.of hls2⟩, fun C hC => ?_⟩
  refine comp_nx (it_list _ ls (qs.map fun s => V.int (s : Nat))) (fun i τ H5 ys => (∃ v, τ = [v, some (.ref a), some (.int (sp : Nat)), some (.int fr)]) ∧ Same H2 H5 ∧ H5 C = some (.lst ys) ∧ ∃ ps : List (Int × Int × Int), ps.length = i ∧ ys.length = i ∧ DVs (woA C H5) ys (ps.map prowD)) (le_line (by rw [List.length_map]; (clear dl q1 a0 a1 fr0; omega))) ⟨⟨none, rfl⟩, Same.upd hC, upd_same, [], rfl, rfl, .nil⟩ ?_ ?_ ?_
  ·intro i τ H5 ys hi hh_
   walk_at "B"
   obtain ⟨_, s5, h5, ps, pl, yl, _⟩ := hh_
   walk_at "C"
   exact ⟨SqL.of (s5 _ _ hls2), h5, by (clear dl q8 q1 a0 a1 fr0 hi pl; omega)⟩
  ·intro i x τ H5 ys hi hx hh_ N hN
   walk_at "B"
   obtain ⟨⟨v, rfl⟩, s5, h5, ps, pl, yl, dv⟩ := hh_
   walk_at "C"
   rw [List.length_map] at hi
   rw [List.getElem?_map, List.getElem?_eq_getElem hi] at hx
   cases hx
   have sl := sl8 _ (List.getElem_mem hi)
   obtain ⟨y1, _, _, f1⟩ := dget (s5 _ _ hA2) (j := ((sp : Nat) : Int) + (qs[i] : Nat)) (by (clear dl q8 q1 a0 a1 fr0 pl yl sl; omega)) (by (clear dl q8 q1 a0 a1 fr0 pl yl; omega))
   obtain ⟨y2, _, _, f2⟩ := dget (s5 _ _ hA2) (j := ((sp : Nat) : Int) + 8 + (qs[i] : Nat)) (by (clear dl q8 q1 a0 a1 fr0 pl yl sl; omega)) (by (clear dl q8 q1 a0 a1 fr0 pl yl; omega))
   refine ⟨_, f1, fr0, _, f2, fr0, lB_, fun p hp => ?_⟩
   exact ⟨by rw [upd_ne (ne_of_none h5 hp)]; exact h5, hN _ _ _ ⟨⟨_, rfl⟩, (s5.trans (Same.upd hp)).own hC, upd_same, _, by simp [pl], by simp [yl], pap_turn h5 hp dv⟩⟩
  intro τ H5 ys1 hh_
  walk_at "B"
  obtain ⟨_, s5, h5, ps1, pl1, yl1, dv1⟩ := hh_
  walk_at "C"
  rw [List.length_map] at pl1
  replace dv1 := dv1.mono woA.same
  refine ⟨lB_, fun L hL => ?_⟩
  have CL : C ≠ L := ne_of_none h5 hL
  have lsL : ls ≠ L := ne_of_none (s5 _ _ hls2) hL
  have nL : H L = none := (s2.trans s5).free hL
  have s6 := (s2.trans s5).trans (Same.upd (o := .lst [.ref C]) hL)
  have hls6 := Same.upd (o := .lst [.ref C]) hL _ _ (s5 _ _ hls2)
  have J0 : PK P0 L (lamPos lamSt) qSt H [.ref C] (upd H5 L (.lst [.ref C])) := ⟨s6.t, tb.mono s6, upd_same, fun x hx => by
   rw [List.mem_singleton.mp hx]
   exact ⟨C, ys1, ps1, rfl, CL, by (clear dl q8 a0 a1 fr0 yl1 CL lsL; omega), by (clear dl q1 a0 a1 fr0 yl1 CL lsL; omega), Same.upd hL _ _ h5, dv1.mono (Same.upd hL)⟩⟩
  generalize upd H5 L (.lst [.ref C]) = H6 at s6 hls6 J0
  dsimp only [gName]
  refine ⟨⟨_, rfl, J0.hL⟩, ⟨_, SqL.of hls6⟩, fun C2 hC2 => ?_⟩
  refine comp_nx (it_list _ ls (qs.map fun s => V.int (s : Nat))) (fun i τ H5 ys => (∃ v, τ = [v, some (.ref a), some (.int (sp : Nat))]) ∧ Same H6 H5 ∧ H5 C2 = some (.lst ys) ∧ ∃ ps : List (Int × Int × Int), ps.length = i ∧ ys.length = i ∧ DVs (woA C2 H5) ys (ps.map prowD)) (le_line (by rw [List.length_map]; (clear dl q1 a0 a1 fr0 pl1 yl1 CL lsL; omega))) ⟨⟨none, rfl⟩, Same.upd hC2, upd_same, [], rfl, rfl, .nil⟩ ?_ ?_ ?_
  ·intro i τ H5 ys hi hh_
   walk_at "B"
   obtain ⟨_, s5, h5, ps, pl, yl, _⟩ := hh_
   walk_at "C"
   exact ⟨SqL.of (s5 _ _ hls6), h5, by (clear dl q8 q1 a0 a1 fr0 pl1 yl1 CL lsL hi pl; omega)⟩
  ·intro i x τ H5 ys hi hx hh_ N hN
   walk_at "B"
   obtain ⟨⟨v, rfl⟩, s5, h5, ps, pl, yl, dv⟩ := hh_
   walk_at "C"
   rw [List.length_map] at hi
   rw [List.getElem?_map, List.getElem?_eq_getElem hi] at hx
   cases hx
   obtain ⟨y1, _, _, f1⟩ := dget (s5 _ _ (s6 _ _ hA)) (j := ((sp : Nat) : Int) + 1) (by (clear dl q8 q1 a0 a1 fr0 pl1 yl1 CL lsL hi pl yl; omega)) (by (clear dl q8 q1 a0 a1 fr0 pl1 yl1 CL lsL hi pl yl; omega))
   obtain ⟨y2, _, _, f2⟩ := dget (s5 _ _ (s6 _ _ hA)) (j := ((sp : Nat) : Int) + 2) (by (clear dl q8 q1 a0 a1 fr0 pl1 yl1 CL lsL hi pl yl; omega)) (by (clear dl q8 q1 a0 a1 fr0 pl1 yl1 CL lsL hi pl yl; omega))
   refine ⟨_, f1, (by decide : (0 : Int) < 9), _, f2, (by decide : (0 : Int) < 9), lB_, fun p hp => ?_⟩
   exact ⟨by rw [upd_ne (ne_of_none h5 hp)]; exact h5, hN _ _ _ ⟨⟨_, rfl⟩, (s5.trans (Same.upd hp)).own hC2, upd_same, _, by simp [pl], by simp [yl], pap_turn h5 hp dv⟩⟩
  intro τ H7 ys2 hh_
  walk_at "B"
  obtain ⟨_, s7, h7, ps2, pl2, yl2, dv2⟩ := hh_
  walk_at "C"
  rw [List.length_map] at pl2
  replace dv2 := dv2.mono woA.same
  have C2L : C2 ≠ L := fun z => by rw [z, J0.hL] at hC2; cases hC2
  have J1 := (J0.same s7).put nL (x := .ref C2) ⟨C2, ys2, ps2, rfl, C2L, by (clear dl q8 a0 a1 fr0 pl1 yl1 CL lsL yl2 C2L; omega), by (clear dl q1 a0 a1 fr0 pl1 yl1 CL lsL yl2 C2L; omega), h7, dv2⟩
  refine ⟨_, (J0.same s7).hL, lt_line (Nat.lt_of_sub_pos (Nat.succ_pos _)), ?_⟩
  have S8 := (s6.trans s7).own (o := .lst ([.ref C] ++ [.ref C2])) nL
  have hls8 : upd H7 L (.lst ([.ref C] ++ [.ref C2])) ls = some (.lst (qs.map fun s => V.int (s : Nat))) := by rw [upd_ne lsL]; exact s7 _ _ hls6
  generalize upd H7 L (.lst ([.ref C] ++ [.ref C2])) = H8 at S8 hls8 J1
  dsimp only
  refine ⟨⟨_, rfl, J1.hL⟩, ⟨_, SqL.of hls8⟩, fun C3 hC3 => ?_⟩
  refine comp_nx (it_list _ ls (qs.map fun s => V.int (s : Nat))) (fun i τ H5 ys => (∃ v, τ = [v, some (.ref a), some (.int (sp : Nat))]) ∧ Same H8 H5 ∧ H5 C3 = some (.lst ys) ∧ ∃ ps : List (Int × Int × Int), ps.length = i ∧ ys.length = i ∧ DVs (woA C3 H5) ys (ps.map prowD)) (le_line (by rw [List.length_map]; (clear dl q1 a0 a1 fr0 pl1 yl1 CL lsL pl2 yl2 C2L; omega))) ⟨⟨none, rfl⟩, Same.upd hC3, upd_same, [], rfl, rfl, .nil⟩ ?_ ?_ ?_
  ·intro i τ H5 ys hi hh_
   walk_at "B"
   obtain ⟨_, s5, h5, ps, pl, yl, _⟩ := hh_
   walk_at "C"
   exact ⟨SqL.of (s5 _ _ hls8), h5, by (clear dl q8 q1 a0 a1 fr0 pl1 yl1 CL lsL pl2 yl2 C2L hi pl; omega)⟩
  ·intro i x τ H5 ys hi hx hh_ N hN
   walk_at "B"
   obtain ⟨⟨v, rfl⟩, s5, h5, ps, pl, yl, dv⟩ := hh_
   walk_at "C"
   rw [List.length_map] at hi
   rw [List.getElem?_map, List.getElem?_eq_getElem hi] at hx
   cases hx
   have sl := sl8 _ (List.getElem_mem hi)
   obtain ⟨y1, _, _, f1⟩ := dget (s5 _ _ (S8 _ _ hA)) (j := ((sp : Nat) : Int) + (qs[i] : Nat)) (by (clear dl q8 q1 a0 a1 fr0 pl1 yl1 CL lsL pl2 yl2 C2L pl yl sl; omega)) (by (clear dl q8 q1 a0 a1 fr0 pl1 yl1 CL lsL pl2 yl2 C2L pl yl; omega))
   obtain ⟨y2, _, _, f2⟩ := dget (s5 _ _ (S8 _ _ hA)) (j := ((sp : Nat) : Int) + 8 + (qs[i] : Nat)) (by (clear dl q8 q1 a0 a1 fr0 pl1 yl1 CL lsL pl2 yl2 C2L pl yl sl; omega)) (by (clear dl q8 q1 a0 a1 fr0 pl1 yl1 CL lsL pl2 yl2 C2L pl yl; omega))
   refine ⟨_, f1, (by decide : (0 : Int) < 5), _, f2, (by decide : (0 : Int) < 5), lB_, fun p hp => ?_⟩
   exact ⟨by rw [upd_ne (ne_of_none h5 hp)]; exact h5, hN _ _ _ ⟨⟨_, rfl⟩, (s5.trans (Same.upd hp)).own hC3, upd_same, _, by simp [pl], by simp [yl], pap_turn h5 hp dv⟩⟩
  intro τ H9 ys3 hh_
  walk_at "B"
  obtain ⟨_, s9, h9, ps3, pl3, yl3, dv3⟩ := hh_
  walk_at "C"
  rw [List.length_map] at pl3
  replace dv3 := dv3.mono woA.same
  have C3L : C3 ≠ L := fun z => by rw [z, J1.hL] at hC3; cases hC3
  have J2 := (J1.same s9).put nL (x := .ref C3) ⟨C3, ys3, ps3, rfl, C3L, by (clear dl q8 a0 a1 fr0 pl1 yl1 CL lsL pl2 yl2 C2L yl3 C3L; omega), by (clear dl q1 a0 a1 fr0 pl1 yl1 CL lsL pl2 yl2 C2L yl3 C3L; omega), h9, dv3⟩
  refine ⟨_, (J1.same s9).hL, lt_line (Nat.lt_of_sub_pos (Nat.succ_pos _)), ?_⟩
  have S10 := (S8.trans s9).own (o := .lst (([.ref C] ++ [.ref C2]) ++ [.ref C3])) nL
  have xl : (([V.ref C] ++ [V.ref C2]) ++ [V.ref C3]).length = 3 := rfl
  generalize ([V.ref C] ++ [V.ref C2]) ++ [V.ref C3] = xs3 at S10 J2 xl ⊢
  generalize upd H9 L (.lst xs3) = H10 at S10 J2 ⊢
  dsimp only
  have aP : a ≠ P0 := fun z => by obtain ⟨ps, e⟩ := tb.tbl; rw [z, e] at hA; cases hA
  refine ⟨k, n, rows, hc.mono S10, ok, tb.mono S10, fun H11 s11 t11 _ => ?_, fun tl bz qs' ks1 ks2 E1 E2 H11 s11 t11 ntl htl dr' rc' _ _ _ => ?_⟩
  ·have J3 := J2.tr s11 t11
   dsimp only [gName, tSeq, tIfS, tBU, tOp, tV, tC, rIsNotU, tNext]
   refine if_negQ (by simp) ?_
   exact q L xs3 H11 J3.S J3.t J3.hL (by (clear dl q8 q1 a0 a1 fr0 pl1 yl1 CL lsL pl2 yl2 C2L pl3 yl3 C3L aP; omega)) J3.pp
  ·have J3 := J2.tr s11 t11
   have eq := rc'.uniq rc
   subst eq
   have tL : tl ≠ L := fun z => by rw [z, J2.hL] at ntl; cases ntl
   have psl := papOf_len qs' (fun s => -E1 s) E2
   generalize papOf qs' (fun s => -E1 s) E2 = ps at dr' psl
   have bl : bz.length = ps.length := by rw [dr'.length, List.length_map]
   dsimp only [gName, tSeq, tIfS, tBU, tOp, tV, tC, rIsNotU, tNext]
   refine iteP (by simp) ?_
   refine ⟨⟨_, rfl, J3.hL⟩, _, .inl htl, fun n1 hn1 => ?_⟩
   have w1 := Same.upd (o := .lst bz) hn1
   have n1L : n1 ≠ L := fun z => by rw [z, J3.hL] at hn1; cases hn1
   have J4 := (J3.same w1).put nL (x := .ref n1) ⟨n1, bz, ps, rfl, n1L, by (clear dl a0 a1 fr0 CL lsL C2L C3L xl aP q8 pl1 yl1 pl2 yl2 pl3 yl3 tL bl n1L; omega), by (clear dl a0 a1 fr0 CL lsL C2L C3L xl aP q1 pl1 yl1 pl2 yl2 pl3 yl3 tL bl n1L; omega), upd_same, dr'.mono w1⟩
   refine ⟨_, (J3.same w1).hL, lt_line (by (clear dl a0 a1 fr0 CL lsL C2L C3L aP q8 q1 pl1 yl1 pl2 yl2 pl3 yl3 tL psl bl n1L; omega)), ?_⟩
   have htl' : upd (upd H11 n1 (.lst bz)) L (.lst (xs3 ++ [.ref n1])) tl = some (.lst bz) := by rw [upd_ne tL]; exact w1 _ _ htl
   have dt' : DVs (upd (upd H11 n1 (.lst bz)) L (.lst (xs3 ++ [.ref n1]))) bz (ps.map prowD) := pap_off (dr'.mono w1) fun b ys e => by rw [upd_ne (ne_of e (J3.same w1).hL (fun z => nomatch z))]; exact e
   have xl4 : (xs3 ++ [V.ref n1]).length = 4 := by rw [List.length_append, xl]; rfl
   dsimp only
   generalize xs3 ++ [V.ref n1] = xs4 at J4 xl4 htl' dt' ⊢
   generalize upd (upd H11 n1 (.lst bz)) L (.lst xs4) = H12 at J4 htl' dt' ⊢
   obtain ⟨y3, _, _, f3⟩ := dget (J4.S _ _ aP hA) (j := ((sp : Nat) : Int) + 3) (by (clear dl a0 a1 fr0 CL lsL C2L C3L xl aP q8 q1 pl1 yl1 pl2 yl2 pl3 yl3 tL psl bl n1L xl4; omega)) (by (clear dl a0 a1 fr0 CL lsL C2L C3L xl aP q8 q1 pl1 yl1 pl2 yl2 pl3 yl3 tL psl bl n1L xl4; omega))
   obtain ⟨y4, _, _, f4⟩ := dget (J4.S _ _ aP hA) (j := ((sp : Nat) : Int) + 4) (by (clear dl a0 a1 fr0 CL lsL C2L C3L xl aP q8 q1 pl1 yl1 pl2 yl2 pl3 yl3 tL psl bl n1L xl4; omega)) (by (clear dl a0 a1 fr0 CL lsL C2L C3L xl aP q8 q1 pl1 yl1 pl2 yl2 pl3 yl3 tL psl bl n1L xl4; omega))
   refine ⟨_, f3, (by decide : (0 : Int) < 3), ?_⟩
   refine ⟨_, f4, (by decide : (0 : Int) < 3), ?_⟩
   refine ⟨⟨_, rfl, J4.hL⟩, ⟨_, SqL.of htl'⟩, fun C5 hC5 => ?_⟩
   have C5L : C5 ≠ L := fun z => by rw [z, J4.hL] at hC5; cases hC5
   refine comp_nx (it_list _ tl bz) (fun i τ H5 ys => (∃ v0 v1 v2, τ = [v0, v1, v2, some (.int (y3 % 3)), some (.int (y4 % 3))]) ∧ Same H12 H5 ∧ H5 C5 = some (.lst ys) ∧ ∃ ps : List (Int × Int × Int), ps.length = i ∧ ys.length = i ∧ DVs (woA C5 H5) ys (ps.map prowD)) (le_line (by (clear dl a0 a1 fr0 CL lsL C2L C3L xl aP q1 pl1 yl1 pl2 yl2 pl3 yl3 tL n1L xl4 C5L; omega))) ⟨⟨none, none, none, rfl⟩, Same.upd hC5, upd_same, [], rfl, rfl, .nil⟩ ?_ ?_ ?_
   ·intro i τ H5 ys hi hh_
    walk_at "B"
    obtain ⟨_, s5, h5, ps, pl, yl, _⟩ := hh_
    walk_at "C"
    exact ⟨SqL.of (s5 _ _ htl'), h5, by (clear dl a0 a1 fr0 CL lsL C2L C3L xl aP q8 q1 pl1 yl1 pl2 yl2 pl3 yl3 tL psl bl n1L xl4 C5L hi pl; omega)⟩
   ·intro i x τ H5 ys hi hx hh_ N hN
    walk_at "B"
    obtain ⟨⟨v0, v1, v2, rfl⟩, s5, h5, ps', pl, yl, dv⟩ := hh_
    walk_at "C"
    have hi' : i < ps.length := by (clear dl a0 a1 fr0 CL lsL C2L C3L xl aP q8 q1 pl1 yl1 pl2 yl2 pl3 yl3 tL psl n1L xl4 C5L pl yl; omega)
    walk_at "B"
    obtain ⟨b, b1, b2⟩ := prow_at (dt'.mono s5) (List.getElem?_eq_getElem hi')
    walk_at "C"
    rw [hx] at b1
    cases b1
    refine ⟨_, .inl b2, rfl, rfl, ?_⟩
    refine ⟨lB_, fun p hp => ?_⟩
    exact ⟨by rw [upd_ne (ne_of_none h5 hp)]; exact h5, hN _ _ _ ⟨⟨_, _, _, rfl⟩, (s5.trans (Same.upd hp)).own hC5, upd_same, _, by simp [pl], by simp [yl], pap_turn h5 hp dv⟩⟩
   intro τ H13 ys5 hh_
   walk_at "B"
   obtain ⟨_, s13, h13, ps5, pl5, yl5, dv5⟩ := hh_
   walk_at "C"
   replace dv5 := dv5.mono woA.same
   have J5 := (J4.same s13).put nL (x := .ref C5) ⟨C5, ys5, ps5, rfl, C5L, by (clear dl a0 a1 fr0 CL lsL C2L C3L xl aP q8 pl1 yl1 pl2 yl2 pl3 yl3 tL n1L xl4 C5L yl5; omega), by (clear dl a0 a1 fr0 CL lsL C2L C3L xl aP q1 pl1 yl1 pl2 yl2 pl3 yl3 tL n1L xl4 C5L yl5; omega), h13, dv5⟩
   refine ⟨_, (J4.same s13).hL, lt_line (by (clear dl a0 a1 fr0 CL lsL C2L C3L xl aP q8 q1 pl1 yl1 pl2 yl2 pl3 yl3 tL psl bl n1L C5L pl5 yl5; omega)), ?_⟩
   exact q L _ _ J5.S J5.t J5.hL (by rw [List.length_append, xl4]; exact Nat.le_refl _) J5.pp
 ·exact h.elim
end

end K21
end
section
set_option Elab.async false
set_option linter.all false
set_option maxRecDepth 100000
set_option maxHeartbeats 4000000
namespace K21
open PySem L2
section
variable {P : Program} {w : World} {K : PySem.W.Frag} {mg : Str → Option Value} {base : Heap}
def Pw (H : Hp) (n : Addr) (zs : List V) (m : Nat) : Prop := H n = some (.lst zs) ∧ zs.length ≤ m ∧ ∃ ps : List (Int × Int × Int), DVs H zs (ps.map prowD)
theorem Pw.mono {H H' : Hp} {n : Addr} {zs : List V} {m : Nat} (h : Pw H n zs m) (s : Same H H') : Pw H' n zs m := ⟨s _ _ h.1, h.2.1, let ⟨ps, d⟩ := h.2.2; ⟨ps, d.mono s⟩⟩
theorem Pw.cut {H : Hp} {n x : Addr} {zs : List V} {m : Nat} {lo hi : Option Int} (h : Pw H n zs m) (hx : H x = none) : Pw (upd H x (.lst (cutV zs lo hi))) x (cutV zs lo hi) m := by
 walk_at "B"
 obtain ⟨h1, h2, ps, d⟩ := h
 obtain ⟨ps', d', _⟩ := pap_cut d lo hi
 walk_at "C"
 exact ⟨upd_same, Nat.le_trans (cutV_length zs lo hi) h2, ps', d'.mono (Same.upd hx)⟩
theorem Pw.rev {H : Hp} {n x : Addr} {zs : List V} {m : Nat} (h : Pw H n zs m) (hx : H x = none) : Pw (upd H x (.lst zs.reverse)) x zs.reverse m := by
 walk_at "B"
 obtain ⟨h1, h2, ps, d⟩ := h
 walk_at "C"
 exact ⟨upd_same, by rw [List.length_reverse]; exact h2, ps.reverse, (pap_rev d).mono (Same.upd hx)⟩
theorem Pw.app {H : Hp} {n n' x : Addr} {zs zs' : List V} {m m' : Nat} (h : Pw H n zs m) (h' : Pw H n' zs' m') (hx : H x = none) : Pw (upd H x (.lst (zs ++ zs'))) x (zs ++ zs') (m + m') := by
 walk_at "B"
 obtain ⟨h1, h2, ps, d⟩ := h
 obtain ⟨h1', h2', ps', d'⟩ := h'
 walk_at "C"
 exact ⟨upd_same, by rw [List.length_append]; exact Nat.add_le_add h2 h2', ps ++ ps', by rw [List.map_append]; exact (d.app d').mono (Same.upd hx)⟩
theorem Pw.one {H : Hp} {t x : Addr} {a b c : Int} (h : H t = some (.tup [.int a, .int b, .int c])) (hx : H x = none) : Pw (upd H x (.lst [.ref t])) x [.ref t] 1 :=
 ⟨upd_same, Nat.le_refl _, [(a, b, c)], .cons (.tup (Same.upd hx _ _ h) (.cons (.int _) (.cons (.int _) (.cons (.int _) .nil)))) .nil⟩
theorem Pw.at {H : Hp} {n : Addr} {zs : List V} {m : Nat} (h : Pw H n zs m) {i : Int} (i0 : 0 ≤ i) (il : i < (zs.length : Nat)) : ∃ b x y z, zs[i.toNat]? = some (.ref b) ∧ getV H (.ref n) i = some (.ref b) ∧ H b = some (.tup [.int x, .int y, .int z]) := by
 walk_at "B"
 obtain ⟨h1, h2, ps, d⟩ := h
 walk_at "C"
 have hl := d.length
 rw [List.length_map] at hl
 obtain ⟨b, b1, b2⟩ := prow_at d (List.getElem?_eq_getElem (show i.toNat < ps.length by (clear h2; omega)))
 exact ⟨b, _, _, _, b1, gl h1 i0 b1, b2⟩
abbrev sBent : Stmt := top 26
def spBent : Sp := fun vs H Q _ => match vs with
 | [.ref p, .int x] => ∃ zs : List V, Pw H p zs 8 ∧ 1 ≤ zs.length ∧ 0 ≤ x ∧ ∀ l zs' H', Same H H' → Pw H' l zs' 20 → Q (.ref l) H'
 | _ => False
theorem scBent : FnScope ["paper", "x", "at", "state", "low", "high", "more"] ["paper", "x"] (defScope sBent) := ⟨rfl, rfl, rfl, by decide +kernel, rfl, by decide +kernel, by decide +kernel⟩
local macro_rules | `(tactic| walk_at "T.n") => `(tactic| with_reducible first | exact vn "paper" 0 | exact vn "x" 1 | exact vn "at" 2 | exact vn "state" 3 | exact vn "low" 4 | exact vn "high" 5 | exact vn "more" 6)
local macro_rules | `(tactic| walk_at "T.gn") => `(tactic| with_reducible first | exact gn "at" 2 (by walk_at "A") | exact gn "state" 3 (by walk_at "A") | exact gn "low" 4 (by walk_at "A") | exact gn "high" 5 (by walk_at "A") | exact gn "more" 6 (by walk_at "A"))
theorem ok_bent (D : FnX K mg "_law_bent" sBent ["paper", "x"]) (g1 : mg "len" = none) : Can P w K mg base "_law_bent" 1 ["paper", "x"] spBent := by
 refine can_fn (k := 0) D scBent (fun vs H Q E h => ?_) (fun f cdv A outer s H vs Q E hr h => ?_)
 all_goals
  unfold spBent at h
  split at h
 ·rfl
 ·exact h.elim
 ·rename_i p x
  walk_at "B"
  obtain ⟨zs, pw, z1, x0, q⟩ := h
  walk_at "C"
  have nd := scBent.nd
  have z8 := pw.2.1
  refine ⟨_, (by walk_at "T.top"), ?_⟩
  have zp : (0 : Int) < ((zs.length : Nat) : Int) := by omega
  refine ⟨_, lenL pw.1, zp, ?_⟩
  have c0 := Int.emod_nonneg x (show ((zs.length : Nat) : Int) ≠ 0 by (clear z1 x0 z8; omega))
  have c1 := Int.emod_lt_of_pos x zp
  dsimp only [gName]
  generalize x % ((zs.length : Nat) : Int) = at' at c0 c1 ⊢
  walk_at "B"
  obtain ⟨b, s0, l0, h0, _, gb, hb⟩ := pw.at c0 c1
  walk_at "C"
  refine ⟨_, gb, _, .inl hb, rfl, rfl, ?_⟩
  refine ⟨lB_, fun p0 hp0 => ?_⟩
  have w0 := Same.upd (o := .lst [.int 1, .int (-1), .int 2, .int (-2), .int 30, .int 0]) hp0
  have e0 : upd H p0 (.lst [.int 1, .int (-1), .int 2, .int (-2), .int 30, .int 0]) p0 = some (.lst [.int 1, .int (-1), .int 2, .int (-2), .int 30, .int 0]) := upd_same
  have m0 := Int.emod_nonneg (x / 16) (show (6 : Int) ≠ 0 by decide)
  have m1 := Int.emod_lt_of_pos (x / 16) (show (0 : Int) < 6 by decide)
  obtain ⟨mo, em⟩ : ∃ mo : Int, [V.int 1, .int (-1), .int 2, .int (-2), .int 30, .int 0][(x / 16 % 6).toNat]? = some (.int mo) := by
   generalize x / 16 % 6 = r at m0 m1 ⊢
   have : r = 0 ∨ r = 1 ∨ r = 2 ∨ r = 3 ∨ r = 4 ∨ r = 5 := by (clear z1 x0 z8 zp c0 c1; omega)
   rcases this with rfl | rfl | rfl | rfl | rfl | rfl <;> exact ⟨_, rfl⟩
  refine ⟨⟨by decide, by decide⟩, (by decide : (0 : Int) < 6), .int mo, gl e0 m0 em, ?_⟩
  have pw1 := pw.mono w0
  dsimp only [gName]
  generalize upd H p0 (.lst [.int 1, .int (-1), .int 2, .int (-2), .int 30, .int 0]) = H1 at w0 pw1 ⊢
  refine seq_by (fun σ H2 => ∃ lo hi : Int, σ = [some (.ref p), some (.int x), some (.int at'), some (.int s0), some (.int lo), some (.int hi), some (.int mo)] ∧ H2 = H1) ?_ (fun fin => ?_)
  rotate_left
  ·refine ⟨⟨by decide, by decide⟩, (by decide : (0 : Int) < 2), ?_⟩
   refine ite2 (fun _ => ?_) (fun _ => ?_)
   ·exact fin _ _ ⟨_, _, rfl, rfl⟩
   ·exact fin _ _ ⟨_, _, rfl, rfl⟩
  intro σ H2 hh_
  walk_at "B"
  obtain ⟨lo, hi, rfl, rfl⟩ := hh_
  walk_at "C"
  refine ⟨_, pw1.1, fun n1 hn1 => ?_⟩
  have w1 := Same.upd (o := .lst (cutV zs none (some at'))) hn1
  have x1 := pw1.cut (lo := none) (hi := some at') hn1
  have pw2 := pw1.mono w1
  dsimp only
  generalize upd H2 n1 (.lst (cutV zs none (some at'))) = H3 at w1 x1 pw2 ⊢
  refine ⟨lB_, fun n2 hn2 => ?_⟩
  have w2 := Same.upd (o := .tup [.int s0, .int lo, .int hi]) hn2
  have h2 : upd H3 n2 (.tup [.int s0, .int lo, .int hi]) n2 = some (.tup [.int s0, .int lo, .int hi]) := upd_same
  have x1 := x1.mono w2
  have pw3 := pw2.mono w2
  dsimp only
  generalize upd H3 n2 (.tup [.int s0, .int lo, .int hi]) = H4 at w2 x1 pw3 h2 ⊢
  refine ⟨lB_, fun n3 hn3 => ?_⟩
  have w3 := Same.upd (o := .lst [.ref n2]) hn3
  have x3 := Pw.one h2 hn3
  have x1 := x1.mono w3
  have pw4 := pw3.mono w3
  generalize upd H4 n3 (.lst [.ref n2]) = H5 at w3 x1 x3 pw4 ⊢
  have l1 := x1.2.1
  refine ⟨_, _, x1.1, x3.1, le_line (by rw [List.length_singleton]; (clear z1 x0 z8 zp c0 c1 m0 m1; omega)), fun n4 hn4 => ?_⟩
  have w4 := Same.upd (o := .lst (cutV zs none (some at') ++ [.ref n2])) hn4
  have x4 := x1.app x3 hn4
  have pw5 := pw4.mono w4
  dsimp only
  generalize upd H5 n4 (.lst (cutV zs none (some at') ++ [.ref n2])) = H6 at w4 x4 pw5 ⊢
  refine ⟨_, pw5.1, fun n5 hn5 => ?_⟩
  have w5 := Same.upd (o := .lst (cutV zs (some (at' + 1)) none)) hn5
  have x5 := pw5.cut (lo := some (at' + 1)) (hi := none) hn5
  have x4 := x4.mono w5
  dsimp only
  generalize upd H6 n5 (.lst (cutV zs (some (at' + 1)) none)) = H7 at w5 x4 x5 ⊢
  have l4 := x4.2.1
  have l5 := x5.2.1
  refine ⟨_, _, x4.1, x5.1, le_line (by (clear z1 x0 z8 zp c0 c1 m0 m1 l1; omega)), fun n6 hn6 => ?_⟩
  have x6 := x4.app x5 hn6
  exact q n6 _ _ (((((w0.trans w1).trans w2).trans w3).trans (w4.trans w5)).trans (Same.upd hn6)) ⟨x6.1, by have := x6.2.1; (clear z1 x0 z8 zp c0 c1 m0 m1 l1 l4 l5; omega), x6.2.2⟩
 ·exact h.elim
abbrev sNmb : Stmt := top 28
def Bo (H : Hp) (x : V) : Prop := ∃ b b0 b1, x = .ref b ∧ H b = some (.tup [.int b0, .int b1])
theorem Bo.mono {H H' : Hp} {x : V} (h : Bo H x) (s : Same H H') : Bo H' x := let ⟨b, b0, b1, e, a⟩ := h; ⟨b, b0, b1, e, s _ _ a⟩
def spNmb : Sp := fun vs H Q _ => match vs with
 | [.ref u, .ref a, .int spot] => ∃ (lo hi : Int) (ds : List Int) (sp : Nat), H u = some (.tup [.int lo, .int hi]) ∧ H a = some (.lst (ds.map V.int)) ∧ spot = (sp : Nat) ∧ sp + 3 ≤ ds.length ∧ ∀ l xs H', Same H H' → H' l = some (.lst xs) → xs.length = 7 → (∀ x ∈ xs, Bo H' x) → Q (.ref l) H'
 | _ => False
theorem scNmb : FnScope ["due", "d", "spot", "low", "high", "x", "some"] ["due", "d", "spot"] (defScope sNmb) := ⟨rfl, rfl, rfl, by decide +kernel, rfl, by decide +kernel, by decide +kernel⟩
local macro_rules | `(tactic| walk_at "T.n") => `(tactic| with_reducible first | exact vn "due" 0 | exact vn "d" 1 | exact vn "spot" 2 | exact vn "low" 3 | exact vn "high" 4 | exact vn "x" 5 | exact vn "some" 6)
local macro_rules | `(tactic| walk_at "T.gn") => `(tactic| with_reducible first | exact gn "low" 3 (by walk_at "A") | exact gn "high" 4 (by walk_at "A") | exact gn "x" 5 (by walk_at "A") | exact gn "some" 6 (by walk_at "A"))
theorem ok_nmb (D : FnX K mg "_law_numbers" sNmb ["due", "d", "spot"]) (g1 : mg "max" = none) (g2 : mg "min" = none) : Can P w K mg base "_law_numbers" 1 ["due", "d", "spot"] spNmb := by
 refine can_fn (k := 0) D scNmb (fun vs H Q E h => ?_) (fun f cdv A outer s H vs Q E hr h => ?_)
 all_goals
  unfold spNmb at h
  split at h
 ·rfl
 ·exact h.elim
 ·rename_i u a spot
  walk_at "B"
  obtain ⟨lo, hi, ds, sp, hu, hA, rfl, dl, q⟩ := h
  walk_at "C"
  have nd := scNmb.nd
  have dget : ∀ {H1 : Hp} {j : Int}, H1 a = some (.lst (ds.map V.int)) → 0 ≤ j → j < (sp + 3 : Nat) → ∃ x : Int, getV H1 (.ref a) j = some (.int x) := fun {H1 j} h h0 h1 => by
   have il : j.toNat < ds.length := by omega
   exact ⟨ds[j.toNat], gl h h0 (by rw [List.getElem?_map, List.getElem?_eq_getElem il]; rfl)⟩
  refine ⟨_, (by walk_at "T.top"), ?_⟩
  refine ⟨_, .inl hu, rfl, rfl, ?_⟩
  obtain ⟨x, ex⟩ := dget hA (j := ((sp : Nat) : Int)) (by omega) (by omega)
  refine ⟨_, ex, ?_⟩
  refine ⟨lB_, fun n1 hn1 => ?_⟩
  have w1 := Same.upd (o := .tup [.int (lo + 1), .int hi]) hn1
  have b1 : Bo (upd H n1 (.tup [.int (lo + 1), .int hi])) (.ref n1) := ⟨_, _, _, rfl, upd_same⟩
  dsimp only [rAddU]
  generalize upd H n1 (.tup [.int (lo + 1), .int hi]) = H1 at w1 b1 ⊢
  refine ⟨lB_, fun n2 hn2 => ?_⟩
  have w2 := Same.upd (o := .tup [.int lo, .int (hi - 1)]) hn2
  have b2 : Bo (upd H1 n2 (.tup [.int lo, .int (hi - 1)])) (.ref n2) := ⟨_, _, _, rfl, upd_same⟩
  have b1 := b1.mono w2
  dsimp only
  generalize upd H1 n2 (.tup [.int lo, .int (hi - 1)]) = H2 at w2 b1 b2 ⊢
  refine ⟨(by decide : (0 : Int) < 3), ⟨by decide, by decide⟩, (by decide : (0 : Int) < 3), lB_, fun n3 hn3 => ?_⟩
  have w3 := Same.upd (o := .tup [.int (lo - x % 3), .int (hi + x / 3 % 3)]) hn3
  have b3 : Bo (upd H2 n3 (.tup [.int (lo - x % 3), .int (hi + x / 3 % 3)])) (.ref n3) := ⟨_, _, _, rfl, upd_same⟩
  have b1 := b1.mono w3
  have b2 := b2.mono w3
  dsimp only [rAddU]
  generalize upd H2 n3 (.tup [.int (lo - x % 3), .int (hi + x / 3 % 3)]) = H3 at w3 b1 b2 b3 ⊢
  refine ⟨lB_, fun n4 hn4 => ?_⟩
  have w4 := Same.upd (o := .lst [.ref u, .ref n1, .ref n2, .ref n3]) hn4
  have h4 : upd H3 n4 (.lst [.ref u, .ref n1, .ref n2, .ref n3]) n4 = some (.lst [.ref u, .ref n1, .ref n2, .ref n3]) := upd_same
  have b1 := b1.mono w4
  have b2 := b2.mono w4
  have b3 := b3.mono w4
  have W := ((w1.trans w2).trans w3).trans w4
  dsimp only [gName]
  generalize upd H3 n4 (.lst [.ref u, .ref n1, .ref n2, .ref n3]) = H4 at W w4 b1 b2 b3 h4 ⊢
  obtain ⟨y1, f1⟩ := dget (W _ _ hA) (j := ((sp : Nat) : Int) + 1) (by omega) (by omega)
  obtain ⟨y2, f2⟩ := dget (W _ _ hA) (j := ((sp : Nat) : Int) + 2) (by omega) (by omega)
  refine ⟨_, f1, (by decide : (0 : Int) < 9), _, f2, (by decide : (0 : Int) < 9), lB_, fun n5 hn5 => ?_⟩
  have w5 := Same.upd (o := .tup [.int (0 - y1 % 9), .int (y2 % 9)]) hn5
  have b5 : Bo (upd H4 n5 (.tup [.int (0 - y1 % 9), .int (y2 % 9)])) (.ref n5) := ⟨_, _, _, rfl, upd_same⟩
  have b1 := b1.mono w5
  have b2 := b2.mono w5
  have b3 := b3.mono w5
  have h4 := w5 _ _ h4
  dsimp only
  generalize upd H4 n5 (.tup [.int (0 - y1 % 9), .int (y2 % 9)]) = H5 at w5 b1 b2 b3 b5 h4 ⊢
  refine ⟨lB_, fun n6 hn6 => ?_⟩
  have w6 := Same.upd (o := .tup [.int 1, .int (if hi > 1 then hi else 1)]) hn6
  have b6 : Bo (upd H5 n6 (.tup [.int 1, .int (if hi > 1 then hi else 1)])) (.ref n6) := ⟨_, _, _, rfl, upd_same⟩
  have b1 := b1.mono w6
  have b2 := b2.mono w6
  have b3 := b3.mono w6
  have b5 := b5.mono w6
  have h4 := w6 _ _ h4
  dsimp only
  generalize upd H5 n6 (.tup [.int 1, .int (if hi > 1 then hi else 1)]) = H6 at w6 b1 b2 b3 b5 b6 h4 ⊢
  refine ⟨lB_, fun n7 hn7 => ?_⟩
  have w7 := Same.upd (o := .tup [.int (if -1 < lo then -1 else lo), .int (-1)]) hn7
  have b7 : Bo (upd H6 n7 (.tup [.int (if -1 < lo then -1 else lo), .int (-1)])) (.ref n7) := ⟨_, _, _, rfl, upd_same⟩
  have b1 := b1.mono w7
  have b2 := b2.mono w7
  have b3 := b3.mono w7
  have b5 := b5.mono w7
  have b6 := b6.mono w7
  have h4 := w7 _ _ h4
  dsimp only
  generalize upd H6 n7 (.tup [.int (if -1 < lo then -1 else lo), .int (-1)]) = H7 at w7 b1 b2 b3 b5 b6 b7 h4 ⊢
  refine ⟨lB_, fun n8 hn8 => ?_⟩
  have w8 := Same.upd (o := .lst [.ref n5, .ref n6, .ref n7]) hn8
  refine ⟨_, _, w8 _ _ h4, upd_same, lB_, fun n9 hn9 => ?_⟩
  have w9 := Same.upd (o := .lst ([.ref u, .ref n1, .ref n2, .ref n3] ++ [.ref n5, .ref n6, .ref n7])) hn9
  have V := ((w5.trans w6).trans w7).trans (w8.trans w9)
  have v8 := w8.trans w9
  refine q n9 _ _ (W.trans V) upd_same rfl fun y hy => ?_
  simp only [List.cons_append, List.nil_append, List.mem_cons, List.not_mem_nil, or_false] at hy
  rcases hy with rfl | rfl | rfl | rfl | rfl | rfl | rfl
  ·exact ⟨_, _, _, rfl, V _ _ (W _ _ hu)⟩
  ·exact b1.mono v8
  ·exact b2.mono v8
  ·exact b3.mono v8
  ·exact b5.mono v8
  ·exact b6.mono v8
  ·exact b7.mono v8
 ·exact h.elim
end

end K21
end
section
set_option Elab.async false
set_option linter.all false
set_option maxRecDepth 100000
set_option maxHeartbeats 4000000
namespace K21
open PySem L2
section
variable {P : Program} {w : World} {K : PySem.W.Frag} {mg : Str → Option Value} {base : Heap}
theorem cut1 (as : List Int) : ∃ ms : List Int, cutV (as.map V.int) none (some 1) = ms.map V.int ∧ ms.length ≤ 1 := by
 refine ⟨(as.drop (HT.sIx as.length 0 none)).take (HT.sIx as.length as.length (some 1) - HT.sIx as.length 0 none), by unfold cutV; rw [List.length_map, List.map_take, List.map_drop], ?_⟩
 rw [List.length_take]
 have b : HT.sIx as.length as.length (some 1) ≤ 1 := by
  unfold HT.sIx
  dsimp only
  rw [if_neg (by decide)]
  exact Nat.min_le_left _ _
 omega
theorem trip_dvs {H : Hp} : ∀ {ys : List V}, (∀ y ∈ ys, ∃ t a b c, y = .ref t ∧ H t = some (.tup [.int a, .int b, .int c])) → ∃ ps : List (Int × Int × Int), DVs H ys (ps.map prowD)
 | [], _ => ⟨[], .nil⟩
 | y :: ys, h => by
  obtain ⟨ps, d⟩ := trip_dvs (ys := ys) fun z hz => h z (List.mem_cons_of_mem _ hz)
  walk_at "B"
  obtain ⟨t, a, b, c, rfl, ht⟩ := h y List.mem_cons_self
  walk_at "C"
  exact ⟨(a, b, c) :: ps, .cons (.tup ht (.cons (.int _) (.cons (.int _) (.cons (.int _) .nil)))) d⟩
theorem Pw.trips {H : Hp} {n : Addr} {zs : List V} {m : Nat} (h : Pw H n zs m) : ∀ y ∈ zs, ∃ t a b c, y = .ref t ∧ H t = some (.tup [.int a, .int b, .int c]) := fun y hy => by
 walk_at "B"
 obtain ⟨h1, h2, ps, d⟩ := h
 obtain ⟨i, hi⟩ := List.mem_iff_getElem?.mp hy
 walk_at "C"
 have hl := d.length
 rw [List.length_map] at hl
 obtain ⟨b, b1, b2⟩ := prow_at d (List.getElem?_eq_getElem (show i < ps.length by have := (List.getElem?_eq_some_iff.mp hi).1; omega))
 rw [hi] at b1
 exact ⟨b, _, _, _, Option.some.inj b1, b2⟩
theorem Pw.sort {H : Hp} {n x : Addr} {zs ys : List V} {m : Nat} (h : Pw H n zs m) (hx : H x = none) (yl : ys.length = zs.length) (ym : ∀ y ∈ ys, y ∈ zs) : Pw (upd H x (.lst ys)) x ys m := by
 obtain ⟨ps, d⟩ := trip_dvs fun y hy => h.trips y (ym y hy)
 exact ⟨upd_same, by rw [yl]; exact h.2.1, ps, d.mono (Same.upd hx)⟩
def Px (H : Hp) (y : V) : Prop := ∃ n zs, y = .ref n ∧ Pw H n zs 20
theorem Px.mono {H H' : Hp} {y : V} (h : Px H y) (s : Same H H') : Px H' y := let ⟨n, zs, e, a⟩ := h; ⟨n, zs, e, a.mono s⟩
theorem Pw.px {H : Hp} {n : Addr} {zs : List V} {m : Nat} (h : Pw H n zs m) (hm : m ≤ 20) : Px H (.ref n) := ⟨n, zs, rfl, h.1, Nat.le_trans h.2.1 hm, h.2.2⟩
abbrev sTorn : Stmt := top 27
def spTorn : Sp := fun vs H Q _ => match vs with
 | [.ref p, .int x, .ref ai] => ∃ (zs : List V) (as : List Int), Pw H p zs 8 ∧ 1 ≤ zs.length ∧ 0 ≤ x ∧ H ai = some (.lst (as.map V.int)) ∧ ∀ l zs' H', Same H H' → Pw H' l zs' 20 → Q (.ref l) H'
 | _ => False
theorem scTorn : FnScope ["paper", "x", "aside", "at", "state", "low", "high", "some", "other"] ["paper", "x", "aside"] (defScope sTorn) := ⟨rfl, rfl, rfl, by decide +kernel, rfl, by decide +kernel, by decide +kernel⟩
local macro_rules | `(tactic| walk_at "T.n") => `(tactic| with_reducible first | exact vn "paper" 0 | exact vn "x" 1 | exact vn "aside" 2 | exact vn "at" 3 | exact vn "state" 4 | exact vn "low" 5 | exact vn "high" 6 | exact vn "some" 7 | exact vn "other" 8)
local macro_rules | `(tactic| walk_at "T.gn") => `(tactic| with_reducible first | exact gn "at" 3 (by walk_at "A") | exact gn "state" 4 (by walk_at "A") | exact gn "low" 5 (by walk_at "A") | exact gn "high" 6 (by walk_at "A") | exact gn "some" 7 (by walk_at "A") | exact gn "other" 8 (by walk_at "A"))
local macro_rules | `(tactic| walk_at "T.ty") => `(tactic| ((with_reducible refine' e_rev ?a1 ?a2); (case a1 => walk_at "T.e"); (case a2 => walk_at "T.o")))
local macro_rules | `(tactic| walk_at "T.b") => `(tactic| ((with_reducible refine' fn_sortT ?a0 ?a9 ?a1); (case a0 => with_reducible assumption); (case a9 => rfl); (case a1 => walk_at "T.a")))
theorem ok_torn (D : FnX K mg "_law_torn" sTorn ["paper", "x", "aside"]) (g1 : mg "len" = none) (g2 : mg "sorted" = none) : Can P w K mg base "_law_torn" 1 ["paper", "x", "aside"] spTorn := by
 refine can_fn (k := 0) D scTorn (fun vs H Q E h => ?_) (fun f cdv A outer s H vs Q E hr h => ?_)
 all_goals
  unfold spTorn at h
  split at h
 ·rfl
 ·exact h.elim
 ·rename_i p x ai
  walk_at "B"
  obtain ⟨zs, as, pw, z1, x0, hai, q⟩ := h
  walk_at "C"
  have nd := scTorn.nd
  have z8 := pw.2.1
  refine ⟨_, (by walk_at "T.top"), ?_⟩
  have zp : (0 : Int) < ((zs.length : Nat) : Int) := by omega
  refine ⟨_, lenL pw.1, zp, ?_⟩
  have c0 := Int.emod_nonneg x (show ((zs.length : Nat) : Int) ≠ 0 by (clear z1 x0 z8; omega))
  have c1 := Int.emod_lt_of_pos x zp
  dsimp only [gName]
  generalize x % ((zs.length : Nat) : Int) = at' at c0 c1 ⊢
  walk_at "B"
  obtain ⟨b, s0, l0, h0, zb, gb, hb⟩ := pw.at c0 c1
  walk_at "C"
  refine ⟨_, gb, _, .inl hb, rfl, rfl, ?_⟩
  clear gb
  have pw0 := pw
  have hb0 := hb
  dsimp only [gName]
  refine seq_nx (fun σ Hx => ∃ (S : Addr) (xs : List V), σ = [some (.ref p), some (.int x), some (.ref ai), some (.int at'), some (.int s0), some (.int l0), some (.int h0), some (.ref S), none] ∧ Same H Hx ∧ Hx S = some (.lst xs) ∧ xs.length = 4 ∧ ∀ y ∈ xs, Px Hx y) ?_ (fun nx fin => ?_)
  rotate_left
  ·skip
   refine ⟨_, pw.1, fun a1 ha1 => ?_⟩
   have w1_ := Same.upd (o := .lst (cutV zs none (some at'))) ha1
   have x1 := pw.cut (lo := none) (hi := (some at')) ha1
   have pw := pw.mono w1_
   have hb := w1_ _ _ hb
   refine ⟨_, pw.1, fun a2 ha2 => ?_⟩
   have w2_ := Same.upd (o := .lst (cutV zs (some (at' + 1)) none)) ha2
   have x2 := pw.cut (lo := (some (at' + 1))) (hi := none) ha2
   have pw := pw.mono w2_
   have hb := w2_ _ _ hb
   have x1 := x1.mono w2_
   have lx := x1.2.1
   have ly := x2.2.1
   refine ⟨_, _, x1.1, x2.1, le_line (by (clear z1 x0 z8 zp c0 c1; omega)), fun a3 ha3 => ?_⟩
   have w3_ := Same.upd (o := .lst (cutV zs none (some at') ++ cutV zs (some (at' + 1)) none)) ha3
   have p1 := x1.app x2 ha3
   have pw := pw.mono w3_
   have hb := w3_ _ _ hb
   have x1 := x1.mono w3_
   have x2 := x2.mono w3_
   refine ⟨_, pw.1, fun a4 ha4 => ?_⟩
   have w4_ := Same.upd (o := .lst (cutV zs none (some at'))) ha4
   have x1 := pw.cut (lo := none) (hi := (some at')) ha4
   have pw := pw.mono w4_
   have hb := w4_ _ _ hb
   have p1 := p1.mono w4_
   refine ⟨_, gl pw.1 c0 zb, ?_⟩
   refine ⟨lB_, fun a5 ha5 => ?_⟩
   have w5_ := Same.upd (o := .lst [.ref b]) ha5
   have x2 := Pw.one hb ha5
   have pw := pw.mono w5_
   have hb := w5_ _ _ hb
   have p1 := p1.mono w5_
   have x1 := x1.mono w5_
   have lx := x1.2.1
   have ly := x2.2.1
   refine ⟨_, _, x1.1, x2.1, le_line (by (clear z1 x0 z8 zp c0 c1; omega)), fun a6 ha6 => ?_⟩
   have w6_ := Same.upd (o := .lst (cutV zs none (some at') ++ [.ref b])) ha6
   have x3 := x1.app x2 ha6
   have pw := pw.mono w6_
   have hb := w6_ _ _ hb
   have p1 := p1.mono w6_
   have x1 := x1.mono w6_
   have x2 := x2.mono w6_
   refine ⟨_, pw.1, fun a7 ha7 => ?_⟩
   have w7_ := Same.upd (o := .lst (cutV zs (some at') none)) ha7
   have x4 := pw.cut (lo := (some at')) (hi := none) ha7
   have pw := pw.mono w7_
   have hb := w7_ _ _ hb
   have p1 := p1.mono w7_
   have x3 := x3.mono w7_
   have lx := x3.2.1
   have ly := x4.2.1
   refine ⟨_, _, x3.1, x4.1, le_line (by (clear z1 x0 z8 zp c0 c1; omega)), fun a8 ha8 => ?_⟩
   have w8_ := Same.upd (o := .lst ((cutV zs none (some at') ++ [.ref b]) ++ cutV zs (some at') none)) ha8
   have p2 := x3.app x4 ha8
   have pw := pw.mono w8_
   have hb := w8_ _ _ hb
   have p1 := p1.mono w8_
   have x3 := x3.mono w8_
   have x4 := x4.mono w8_
   refine ⟨_, pw.1, fun a9 ha9 => ?_⟩
   have w9_ := Same.upd (o := .lst (cutV zs none (some 0))) ha9
   have p3 := pw.cut (lo := none) (hi := (some 0)) ha9
   have pw := pw.mono w9_
   have hb := w9_ _ _ hb
   have p1 := p1.mono w9_
   have p2 := p2.mono w9_
   refine ⟨rfl, _, pw.1, fun a10 ha10 => ?_⟩
   have w10_ := Same.upd (o := .lst zs.reverse) ha10
   have p4 := pw.rev ha10
   have pw := pw.mono w10_
   have hb := w10_ _ _ hb
   have p1 := p1.mono w10_
   have p2 := p2.mono w10_
   have p3 := p3.mono w10_
   refine ⟨lB_, fun s1 hs1 => ?_⟩
   have wz_ := Same.upd (o := .lst [.ref a3, .ref a8, .ref a9, .ref a10]) hs1
   refine fin _ _ ⟨s1, _, rfl, ((((((((((w1_.trans w2_).trans w3_).trans w4_).trans w5_).trans w6_).trans w7_).trans w8_).trans w9_).trans w10_).trans wz_), upd_same, rfl, fun y hy => ?_⟩
   simp only [List.mem_cons, List.not_mem_nil, or_false] at hy
   rcases hy with rfl | rfl | rfl | rfl
   ·exact (p1.mono wz_).px (by decide)
   ·exact (p2.mono wz_).px (by decide)
   ·exact (p3.mono wz_).px (by decide)
   ·exact (p4.mono wz_).px (by decide)
  intro σ Hx hh_
  walk_at "B"
  obtain ⟨S, xs, rfl, sx, hS, xl, px⟩ := hh_
  walk_at "C"
  have pw := pw0.mono sx
  refine seq_nx (fun σ Hx => ∃ (S : Addr) (xs : List V), σ = [some (.ref p), some (.int x), some (.ref ai), some (.int at'), some (.int s0), some (.int l0), some (.int h0), some (.ref S), none] ∧ Same H Hx ∧ Hx S = some (.lst xs) ∧ xs.length = 6 ∧ ∀ y ∈ xs, Px Hx y) ?_ (fun nx fin => ?_)
  rotate_left
  ·skip
   refine ⟨_, pw.1, fun b1 hb1 => ?_⟩
   have w11_ := Same.upd (o := .lst (cutV zs none (some at'))) hb1
   have x1 := pw.cut (lo := none) (hi := (some at')) hb1
   have pw := pw.mono w11_
   have hS := w11_ _ _ hS
   refine ⟨lB_, fun b2 hb2 => ?_⟩
   have w12_ := Same.upd (o := .tup [.int (s0), .int (l0 - 1), .int (h0 + 1)]) hb2
   have hT := up_at (.tup [.int (s0), .int (l0 - 1), .int (h0 + 1)]) hb2
   have pw := pw.mono w12_
   have hS := w12_ _ _ hS
   have x1 := x1.mono w12_
   refine ⟨lB_, fun b3 hb3 => ?_⟩
   have w13_ := Same.upd (o := .lst [.ref b2]) hb3
   have x2 := Pw.one hT hb3
   have pw := pw.mono w13_
   have hS := w13_ _ _ hS
   have x1 := x1.mono w13_
   have hT := w13_ _ _ hT
   have lx := x1.2.1
   have ly := x2.2.1
   refine ⟨_, _, x1.1, x2.1, le_line (by (clear z1 x0 z8 zp c0 c1 xl; omega)), fun b4 hb4 => ?_⟩
   have w14_ := Same.upd (o := .lst (cutV zs none (some at') ++ [.ref b2])) hb4
   have x3 := x1.app x2 hb4
   have pw := pw.mono w14_
   have hS := w14_ _ _ hS
   have x1 := x1.mono w14_
   have x2 := x2.mono w14_
   refine ⟨_, pw.1, fun b5 hb5 => ?_⟩
   have w15_ := Same.upd (o := .lst (cutV zs (some at') none)) hb5
   have x4 := pw.cut (lo := (some at')) (hi := none) hb5
   have pw := pw.mono w15_
   have hS := w15_ _ _ hS
   have x3 := x3.mono w15_
   have lx := x3.2.1
   have ly := x4.2.1
   refine ⟨_, _, x3.1, x4.1, le_line (by (clear z1 x0 z8 zp c0 c1 xl; omega)), fun b6 hb6 => ?_⟩
   have w16_ := Same.upd (o := .lst ((cutV zs none (some at') ++ [.ref b2]) ++ cutV zs (some at') none)) hb6
   have p5 := x3.app x4 hb6
   have pw := pw.mono w16_
   have hS := w16_ _ _ hS
   have x3 := x3.mono w16_
   have x4 := x4.mono w16_
   refine ⟨_, pw.1, fun b7 hb7 => ?_⟩
   have w17_ := Same.upd (o := .lst (cutV zs (some (at' + 1)) none)) hb7
   have x1 := pw.cut (lo := (some (at' + 1))) (hi := none) hb7
   have pw := pw.mono w17_
   have hS := w17_ _ _ hS
   have p5 := p5.mono w17_
   refine ⟨_, pw.1, fun b8 hb8 => ?_⟩
   have w18_ := Same.upd (o := .lst (cutV zs none (some (at' + 1)))) hb8
   have x2 := pw.cut (lo := none) (hi := (some (at' + 1))) hb8
   have pw := pw.mono w18_
   have hS := w18_ _ _ hS
   have p5 := p5.mono w18_
   have x1 := x1.mono w18_
   have lx := x1.2.1
   have ly := x2.2.1
   refine ⟨_, _, x1.1, x2.1, le_line (by (clear z1 x0 z8 zp c0 c1 xl; omega)), fun b9 hb9 => ?_⟩
   have w19_ := Same.upd (o := .lst (cutV zs (some (at' + 1)) none ++ cutV zs none (some (at' + 1)))) hb9
   have p6 := x1.app x2 hb9
   have pw := pw.mono w19_
   have hS := w19_ _ _ hS
   have p5 := p5.mono w19_
   have x1 := x1.mono w19_
   have x2 := x2.mono w19_
   refine ⟨lB_, fun b10 hb10 => ?_⟩
   have w20_ := Same.upd (o := .lst [.ref b6, .ref b9]) hb10
   have hX := up_at (.lst [.ref b6, .ref b9]) hb10
   have pw := pw.mono w20_
   have hS := w20_ _ _ hS
   have p5 := p5.mono w20_
   have p6 := p6.mono w20_
   refine ⟨_, _, hS, hX, le_line (by rw [xl]; exact Nat.le_of_ble_eq_true rfl), fun s2 hs2 => ?_⟩
   have wz_ := Same.upd (o := .lst (xs ++ [.ref b6, .ref b9])) hs2
   have Wz := ((((((((((w11_.trans w12_).trans w13_).trans w14_).trans w15_).trans w16_).trans w17_).trans w18_).trans w19_).trans w20_).trans wz_)
   refine fin _ _ ⟨s2, _, rfl, sx.trans Wz, upd_same, by rw [List.length_append, xl]; rfl, fun y hy => ?_⟩
   rcases List.mem_append.mp hy with z | z
   ·exact (px y z).mono Wz
   ·simp only [List.mem_cons, List.not_mem_nil, or_false] at z
    rcases z with rfl | rfl
    ·exact (p5.mono wz_).px (by decide)
    ·exact (p6.mono wz_).px (by decide)
  intro σ Hx hh_
  walk_at "B"
  obtain ⟨S, xs, rfl, sx, hS, xl, px⟩ := hh_
  walk_at "C"
  have pw := pw0.mono sx
  refine seq_nx (fun σ Hx => ∃ (S : Addr) (xs : List V), σ = [some (.ref p), some (.int x), some (.ref ai), some (.int at'), some (.int s0), some (.int l0), some (.int h0), some (.ref S), none] ∧ Same H Hx ∧ Hx S = some (.lst xs) ∧ xs.length = 8 ∧ ∀ y ∈ xs, Px Hx y) ?_ (fun nx fin => ?_)
  rotate_left
  ·skip
   refine ⟨lB_, fun d1 hd1 => ?_⟩
   have w21_ := Same.upd (o := .tup [.int (8), .int (l0), .int (h0)]) hd1
   have hT := up_at (.tup [.int (8), .int (l0), .int (h0)]) hd1
   have pw := pw.mono w21_
   have hS := w21_ _ _ hS
   refine ⟨lB_, fun d2 hd2 => ?_⟩
   have w22_ := Same.upd (o := .lst [.ref d1]) hd2
   have x2 := Pw.one hT hd2
   have pw := pw.mono w22_
   have hS := w22_ _ _ hS
   have hT := w22_ _ _ hT
   have lx := pw.2.1
   have ly := x2.2.1
   refine ⟨_, _, pw.1, x2.1, le_line (by (clear z1 x0 z8 zp c0 c1 xl; omega)), fun d3 hd3 => ?_⟩
   have w23_ := Same.upd (o := .lst (zs ++ [.ref d1])) hd3
   have p7 := pw.app x2 hd3
   have pw := pw.mono w23_
   have hS := w23_ _ _ hS
   have x2 := x2.mono w23_
   refine ⟨lB_, fun d4 hd4 => ?_⟩
   have w24_ := Same.upd (o := .tup [.int (-1), .int (l0), .int (h0)]) hd4
   have hT := up_at (.tup [.int (-1), .int (l0), .int (h0)]) hd4
   have pw := pw.mono w24_
   have hS := w24_ _ _ hS
   have p7 := p7.mono w24_
   refine ⟨lB_, fun d5 hd5 => ?_⟩
   have w25_ := Same.upd (o := .lst [.ref d4]) hd5
   have x2 := Pw.one hT hd5
   have pw := pw.mono w25_
   have hS := w25_ _ _ hS
   have p7 := p7.mono w25_
   have hT := w25_ _ _ hT
   have lx := x2.2.1
   have ly := pw.2.1
   refine ⟨_, _, x2.1, pw.1, le_line (by (clear z1 x0 z8 zp c0 c1 xl; omega)), fun d6 hd6 => ?_⟩
   have w26_ := Same.upd (o := .lst ([.ref d4] ++ zs)) hd6
   have p8 := x2.app pw hd6
   have pw := pw.mono w26_
   have hS := w26_ _ _ hS
   have p7 := p7.mono w26_
   have x2 := x2.mono w26_
   refine ⟨lB_, fun d7 hd7 => ?_⟩
   have w27_ := Same.upd (o := .lst [.ref d3, .ref d6]) hd7
   have hX := up_at (.lst [.ref d3, .ref d6]) hd7
   have pw := pw.mono w27_
   have hS := w27_ _ _ hS
   have p7 := p7.mono w27_
   have p8 := p8.mono w27_
   refine ⟨_, _, hS, hX, le_line (by rw [xl]; exact Nat.le_of_ble_eq_true rfl), fun s3 hs3 => ?_⟩
   have wz_ := Same.upd (o := .lst (xs ++ [.ref d3, .ref d6])) hs3
   have Wz := (((((((w21_.trans w22_).trans w23_).trans w24_).trans w25_).trans w26_).trans w27_).trans wz_)
   refine fin _ _ ⟨s3, _, rfl, sx.trans Wz, upd_same, by rw [List.length_append, xl]; rfl, fun y hy => ?_⟩
   rcases List.mem_append.mp hy with z | z
   ·exact (px y z).mono Wz
   ·simp only [List.mem_cons, List.not_mem_nil, or_false] at z
    rcases z with rfl | rfl
    ·exact (p7.mono wz_).px (by decide)
    ·exact (p8.mono wz_).px (by decide)
  intro σ Hx hh_
  walk_at "B"
  obtain ⟨S, xs, rfl, sx, hS, xl, px⟩ := hh_
  walk_at "C"
  have pw := pw0.mono sx
  refine seq_nx (fun σ Hx => ∃ (S : Addr) (xs : List V), σ = [some (.ref p), some (.int x), some (.ref ai), some (.int at'), some (.int s0), some (.int l0), some (.int h0), some (.ref S), none] ∧ Same H Hx ∧ Hx S = some (.lst xs) ∧ xs.length = 9 ∧ ∀ y ∈ xs, Px Hx y) ?_ (fun nx fin => ?_)
  rotate_left
  ·skip
   refine ⟨_, pw.1, fun e1 he1 => ?_⟩
   have w28_ := Same.upd (o := .lst (cutV zs none (some at'))) he1
   have x1 := pw.cut (lo := none) (hi := (some at')) he1
   have pw := pw.mono w28_
   have hS := w28_ _ _ hS
   refine ⟨lB_, fun e2 he2 => ?_⟩
   have w29_ := Same.upd (o := .tup [.int (s0 + 1), .int (l0), .int (h0)]) he2
   have hT := up_at (.tup [.int (s0 + 1), .int (l0), .int (h0)]) he2
   have pw := pw.mono w29_
   have hS := w29_ _ _ hS
   have x1 := x1.mono w29_
   refine ⟨lB_, fun e3 he3 => ?_⟩
   have w30_ := Same.upd (o := .lst [.ref e2]) he3
   have x2 := Pw.one hT he3
   have pw := pw.mono w30_
   have hS := w30_ _ _ hS
   have x1 := x1.mono w30_
   have hT := w30_ _ _ hT
   have lx := x1.2.1
   have ly := x2.2.1
   refine ⟨_, _, x1.1, x2.1, le_line (by (clear z1 x0 z8 zp c0 c1 xl; omega)), fun e4 he4 => ?_⟩
   have w31_ := Same.upd (o := .lst (cutV zs none (some at') ++ [.ref e2])) he4
   have x3 := x1.app x2 he4
   have pw := pw.mono w31_
   have hS := w31_ _ _ hS
   have x1 := x1.mono w31_
   have x2 := x2.mono w31_
   refine ⟨_, pw.1, fun e5 he5 => ?_⟩
   have w32_ := Same.upd (o := .lst (cutV zs (some (at' + 1)) none)) he5
   have x4 := pw.cut (lo := (some (at' + 1))) (hi := none) he5
   have pw := pw.mono w32_
   have hS := w32_ _ _ hS
   have x3 := x3.mono w32_
   have lx := x3.2.1
   have ly := x4.2.1
   refine ⟨_, _, x3.1, x4.1, le_line (by (clear z1 x0 z8 zp c0 c1 xl; omega)), fun e6 he6 => ?_⟩
   have w33_ := Same.upd (o := .lst ((cutV zs none (some at') ++ [.ref e2]) ++ cutV zs (some (at' + 1)) none)) he6
   have p9 := x3.app x4 he6
   have pw := pw.mono w33_
   have hS := w33_ _ _ hS
   have x3 := x3.mono w33_
   have x4 := x4.mono w33_
   refine ⟨lB_, fun e7 he7 => ?_⟩
   have w34_ := Same.upd (o := .lst [.ref e6]) he7
   have hX := up_at (.lst [.ref e6]) he7
   have pw := pw.mono w34_
   have hS := w34_ _ _ hS
   have p9 := p9.mono w34_
   refine ⟨_, _, hS, hX, le_line (by rw [xl]; exact Nat.le_of_ble_eq_true rfl), fun s4 hs4 => ?_⟩
   have wz_ := Same.upd (o := .lst (xs ++ [.ref e6])) hs4
   have Wz := (((((((w28_.trans w29_).trans w30_).trans w31_).trans w32_).trans w33_).trans w34_).trans wz_)
   refine fin _ _ ⟨s4, _, rfl, sx.trans Wz, upd_same, by rw [List.length_append, xl]; rfl, fun y hy => ?_⟩
   rcases List.mem_append.mp hy with z | z
   ·exact (px y z).mono Wz
   ·simp only [List.mem_cons, List.not_mem_nil, or_false] at z
    rcases z with rfl
    ·exact (p9.mono wz_).px (by decide)
  intro σ Hx hh_
  walk_at "B"
  obtain ⟨S, xs, rfl, sx, hS, xl, px⟩ := hh_
  walk_at "C"
  have pw := pw0.mono sx
  have hai := sx _ _ hai
  have W := sx
  have hS4 := hS
  refine ⟨_, hai, fun n1 hn1 => ?_⟩
  walk_at "B"
  obtain ⟨ms, em, ml⟩ := cut1 as
  walk_at "C"
  rw [em]
  have v1 := Same.upd (o := .lst (ms.map V.int)) hn1
  have hm1 : upd Hx n1 (.lst (ms.map V.int)) n1 = some (.lst (ms.map V.int)) := upd_same
  have W := W.trans v1
  have pw := pw.mono v1
  have hS4 := v1 _ _ hS4
  have px := fun y hy => (px y hy).mono v1
  generalize upd Hx n1 (.lst (ms.map V.int)) = H0_ at v1 hm1 W pw hS4 px
  refine ⟨⟨_, SqL.of hm1⟩, ?_⟩
  refine for_nx (it_list _ n1 (ms.map V.int)) (fun i σ Hy => ∃ (v8 : Option V) (S : Addr) (xs : List V), σ = [some (.ref p), some (.int x), some (.ref ai), some (.int at'), some (.int s0), some (.int l0), some (.int h0), some (.ref S), v8] ∧ Same H0_ Hy ∧ Hy S = some (.lst xs) ∧ xs.length = 9 + 2 * i ∧ ∀ y ∈ xs, Px Hy y)
   ⟨none, S, xs, rfl, Same.refl _, hS4, xl, px⟩ (fun i σ Hy _ ⟨_, _, _, _, sx, _⟩ => SqL.of (sx _ _ hm1)) ?_ ?_
  ·intro i y σ Hx hi hy hh_ N bk fin
   walk_at "B"
   obtain ⟨v8, S, xs, rfl, sx, hS, xl', px'⟩ := hh_
   walk_at "C"
   rw [List.length_map] at hi
   rw [List.getElem?_map] at hy
   walk_at "B"
   obtain ⟨o, _, rfl⟩ := Option.map_eq_some_iff.mp hy
   walk_at "C"
   have pw := pw.mono sx
   have zl := pw.2.1
   refine ⟨lB_, fun t1 ht1 => ?_⟩
   have u1 := Same.upd (o := .tup [.int o, .int l0, .int h0]) ht1
   have k1 := up_at (.tup [.int o, .int l0, .int h0]) ht1
   have pw := pw.mono u1
   refine ⟨lB_, fun t2 ht2 => ?_⟩
   have u2 := Same.upd (o := .lst [.ref t1]) ht2
   have y1 := Pw.one k1 ht2
   have pw := pw.mono u2
   refine ⟨_, _, pw.1, y1.1, le_line (by rw [List.length_singleton]; (clear z1 x0 z8 zp c0 c1 xl ml hi xl'; omega)), fun t3 ht3 => ?_⟩
   have u3 := Same.upd (o := .lst (zs ++ [.ref t1])) ht3
   have y3 := pw.app y1 ht3
   have pw := pw.mono u3
   have ly := y3.2.1
   refine ⟨_, y3.1, by rw [List.length_append]; exact Nat.succ_le_succ z1, by (clear z1 x0 z8 zp c0 c1 xl ml hi xl' zl; omega), y3.trips, fun t4 ys4 ht4 yl4 ym4 => ?_⟩
   have u4 := Same.upd (o := .lst ys4) ht4
   have y4 := y3.sort ht4 yl4 ym4
   have pw := pw.mono u4
   refine ⟨lB_, fun t5 ht5 => ?_⟩
   have u5 := Same.upd (o := .tup [.int o, .int 0, .int 0]) ht5
   have k5 := up_at (.tup [.int o, .int 0, .int 0]) ht5
   have pw := pw.mono u5
   have y4 := y4.mono u5
   refine ⟨lB_, fun t6 ht6 => ?_⟩
   have u6 := Same.upd (o := .lst [.ref t5]) ht6
   have y6 := Pw.one k5 ht6
   have pw := pw.mono u6
   have y4 := y4.mono u6
   refine ⟨_, _, pw.1, y6.1, le_line (by rw [List.length_singleton]; (clear z1 x0 z8 zp c0 c1 xl ml hi xl' ly yl4; omega)), fun t7 ht7 => ?_⟩
   have u7 := Same.upd (o := .lst (zs ++ [.ref t5])) ht7
   have y7 := pw.app y6 ht7
   have y4 := y4.mono u7
   have ly := y7.2.1
   refine ⟨_, y7.1, by rw [List.length_append]; exact Nat.succ_le_succ z1, by (clear z1 x0 z8 zp c0 c1 xl ml hi xl' zl yl4; omega), y7.trips, fun t8 ys8 ht8 yl8 ym8 => ?_⟩
   have u8 := Same.upd (o := .lst ys8) ht8
   have y8 := y7.sort ht8 yl8 ym8
   have y4 := y4.mono u8
   refine ⟨lB_, fun t9 ht9 => ?_⟩
   have u9 := Same.upd (o := .lst [.ref t4, .ref t8]) ht9
   have U := (((u1.trans u2).trans u3).trans (u4.trans u5)).trans (((u6.trans u7).trans u8).trans u9)
   refine ⟨_, _, U _ _ hS, upd_same, le_line (by rw [xl']; show 9 + 2 * i + 2 ≤ 1000; (clear z1 x0 z8 zp c0 c1 xl xl' zl yl4 ly yl8; omega)), fun t10 ht10 => ?_⟩
   have u10 := Same.upd (o := .lst (xs ++ [.ref t4, .ref t8])) ht10
   refine fin _ _ ⟨_, t10, _, rfl, (sx.trans U).trans u10, upd_same, by rw [List.length_append, xl']; show 9 + 2 * i + 2 = _; (clear z1 x0 z8 zp c0 c1 xl ml hi xl' zl yl4 ly yl8; omega), fun y hy => ?_⟩
   rcases List.mem_append.mp hy with z | z
   ·exact ((px' y z).mono U).mono u10
   ·rcases List.mem_cons.mp z with z | z
    ·rw [z]; exact ((y4.px (by decide)).mono u9).mono u10
    ·rw [List.mem_singleton.mp z]; exact ((y8.px (by decide)).mono u9).mono u10
  ·intro σ Hx hh_
   walk_at "B"
   obtain ⟨v8, S, xs, rfl, sx, hS, xl', px'⟩ := hh_
   walk_at "C"
   have xp : (0 : Int) < ((xs.length : Nat) : Int) := by (clear z1 x0 z8 zp c0 c1 xl ml; omega)
   have r0 := Int.emod_nonneg (x / 16) (show ((xs.length : Nat) : Int) ≠ 0 by (clear z1 x0 z8 zp c0 c1 xl ml xl'; omega))
   have r1 := Int.emod_lt_of_pos (x / 16) xp
   have il : (x / 16 % ((xs.length : Nat) : Int)).toNat < xs.length := by (clear z1 x0 z8 zp c0 c1 xl ml xl' xp; omega)
   walk_at "B"
   obtain ⟨n, zs', e, pwn⟩ := px' _ (List.getElem_mem il)
   walk_at "C"
   refine ⟨⟨by decide, by decide⟩, _, lenL hS, xp, _, gl hS r0 (List.getElem?_eq_getElem il), ?_⟩
   rw [e]
   exact q n zs' Hx (W.trans sx) pwn
 ·exact h.elim
end

end K21
end
section
set_option Elab.async false
set_option linter.all false
set_option maxRecDepth 100000
set_option maxHeartbeats 4000000
namespace K21
open PySem L2
section
variable {P : Program} {w : World} {K : PySem.W.Frag} {mg : Str → Option Value} {base : Heap}
def Kp (H H' : Hp) : Prop := ∀ b o, (∀ ps, o ≠ .tbl ps) → H b = some o → H' b = some o
theorem SameT.kp {P0 : Addr} {c : Pos} {q : Str} {H H' : Hp} (tb : Tab P0 c q H) (s : SameT P0 H H') : Kp H H' := fun b o n e => s _ _ (fun z => by obtain ⟨ps, e'⟩ := tb.tbl; rw [z, e'] at e; exact n ps (Option.some.inj e).symm) e
theorem Kp.lst {H H' : Hp} (s : Kp H H') {b : Addr} {xs : List V} (h : H b = some (.lst xs)) : H' b = some (.lst xs) := s _ _ (fun ps z => nomatch z) h
theorem Kp.tup {H H' : Hp} (s : Kp H H') {b : Addr} {xs : List V} (h : H b = some (.tup xs)) : H' b = some (.tup xs) := s _ _ (fun ps z => nomatch z) h
theorem Pw.kp {H H' : Hp} {n : Addr} {zs : List V} {m : Nat} (h : Pw H n zs m) (s : Kp H H') : Pw H' n zs m := ⟨s.lst h.1, h.2.1, let ⟨ps, d⟩ := h.2.2; ⟨ps, pap_off d fun b ys e => s.tup e⟩⟩
theorem Bo.kp {H H' : Hp} {x : V} (h : Bo H x) (s : Kp H H') : Bo H' x := let ⟨b, b0, b1, e, a⟩ := h; ⟨b, b0, b1, e, s.tup a⟩
abbrev sLaw : Stmt := top 29
def spLaw (P0 : Addr) (K : PySem.W.Frag) : Sp := fun vs H Q _ => match vs with
 | [.ref a] => ∃ ns : List Int, SqL K H a (ns.map V.int) ∧ ns.length ≤ 63 ∧ Tab P0 (lamPos lamSt) qSt H ∧ ∀ H', Q (.bl true) H'
 | _ => False
theorem scLaw : FnScope ["script", "d", "code", "aside", "due", "far", "numbers", "papers", "handed_code", "k", "paper", "some", "one", "both", "handed", "found"] ["script"] (defScope sLaw) := ⟨rfl, rfl, rfl, by decide +kernel, rfl, by decide +kernel, by decide +kernel⟩
local macro_rules | `(tactic| walk_at "T.n") => `(tactic| with_reducible first | exact vn "script" 0 | exact vn "d" 1 | exact vn "code" 2 | exact vn "aside" 3 | exact vn "due" 4 | exact vn "far" 5 | exact vn "numbers" 6 | exact vn "papers" 7 | exact vn "handed_code" 8 | exact vn "k" 9 | exact vn "paper" 10 | exact vn "some" 11 | exact vn "one" 12 | exact vn "both" 13 | exact vn "handed" 14 | exact vn "found" 15)
local macro_rules | `(tactic| walk_at "T.gn") => `(tactic| with_reducible first | exact gn "d" 1 (by walk_at "A") | exact gn "code" 2 (by walk_at "A") | exact gn "aside" 3 (by walk_at "A") | exact gn "due" 4 (by walk_at "A") | exact gn "far" 5 (by walk_at "A") | exact gn "numbers" 6 (by walk_at "A") | exact gn "papers" 7 (by walk_at "A") | exact gn "handed_code" 8 (by walk_at "A") | exact gn "k" 9 (by walk_at "A") | exact gn "paper" 10 (by walk_at "A") | exact gn "some" 11 (by walk_at "A") | exact gn "one" 12 (by walk_at "A") | exact gn "both" 13 (by walk_at "A") | exact gn "handed" 14 (by walk_at "A") | exact gn "found" 15 (by walk_at "A"))
local macro_rules | `(tactic| walk_at "T.n") => `(tactic| with_reducible first | exact vn "state" 0 | exact vn "code" 1)
local macro_rules | `(tactic| walk_at "T.gn") => `(tactic| with_reducible first | exact gn "state" 0 (by walk_at "A"))
local macro_rules | `(tactic| walk_at "T.sc") => `(tactic| (have ndc : (["state", "code"] : List Str).Nodup := (by decide +kernel)); ((with_reducible refine' s_comp "aside" 3 ["state", "code"] [2] ?b1 ?b0 ?b2 (fun cl C s H fp => ?b3) (fun cl C s H fp => ?b4) (fun cl C s H fp => ?b5)); (case b1 => exact ndc); (case b0 => assumption); (case b2 => walk_at "T.i"); (case b3 => walk_at "T.g"); (case b4 => walk_at "T.pf"); (case b5 => walk_at "T.e")))
local macro_rules | `(tactic| walk_at "T.n") => `(tactic| with_reducible first | exact vn "state" 0 | exact vn "far" 1)
local macro_rules | `(tactic| walk_at "T.gn") => `(tactic| with_reducible first | exact gn "state" 0 (by walk_at "A"))
local macro_rules | `(tactic| walk_at "T.c") => `(tactic| (have ndc : (["state", "far"] : List Str).Nodup := (by decide +kernel)); ((with_reducible refine' c_comp ["state", "far"] [5] ?b1 ?b2 (fun cl C s H fp => ?b3) (fun cl C s H fp => ?b4) (fun cl C s H fp => ?b5)); (case b1 => exact ndc); (case b2 => walk_at "T.i"); (case b3 => walk_at "T.g"); (case b4 => walk_at "T.pf"); (case b5 => walk_at "T.e")))
local macro_rules | `(tactic| walk_at "T.n") => `(tactic| with_reducible first | exact vn "script" 0 | exact vn "d" 1 | exact vn "code" 2 | exact vn "aside" 3 | exact vn "due" 4 | exact vn "far" 5 | exact vn "numbers" 6 | exact vn "papers" 7 | exact vn "handed_code" 8 | exact vn "k" 9 | exact vn "paper" 10 | exact vn "some" 11 | exact vn "one" 12 | exact vn "both" 13 | exact vn "handed" 14 | exact vn "found" 15)
local macro_rules | `(tactic| walk_at "T.gn") => `(tactic| with_reducible first | exact gn "d" 1 (by walk_at "A") | exact gn "code" 2 (by walk_at "A") | exact gn "aside" 3 (by walk_at "A") | exact gn "due" 4 (by walk_at "A") | exact gn "far" 5 (by walk_at "A") | exact gn "numbers" 6 (by walk_at "A") | exact gn "papers" 7 (by walk_at "A") | exact gn "handed_code" 8 (by walk_at "A") | exact gn "k" 9 (by walk_at "A") | exact gn "paper" 10 (by walk_at "A") | exact gn "some" 11 (by walk_at "A") | exact gn "one" 12 (by walk_at "A") | exact gn "both" 13 (by walk_at "A") | exact gn "handed" 14 (by walk_at "A") | exact gn "found" 15 (by walk_at "A"))
local macro_rules | `(tactic| walk_at "T.n") => `(tactic| with_reducible first | exact vn "script" 0 | exact vn "d" 1 | exact vn "code" 2 | exact vn "aside" 3 | exact vn "due" 4 | exact vn "far" 5 | exact vn "numbers" 6 | exact vn "papers" 7 | exact vn "handed_code" 8 | exact vn "k" 9 | exact vn "paper" 10 | exact vn "some" 11 | exact vn "one" 12 | exact vn "both" 13 | exact vn "handed" 14 | exact vn "found" 15 | exact vn "state" 0 | exact vn "code" 1 | exact vn "far" 1)
inductive LA (a d0 a0 AS u NB PB ah P0 : Addr) (fr : Int) (H14 : Hp) (i : Nat) (σ : L2.St) (H15 : L2.Hp) : Prop
 | mk (v9 v10 v11 v12 v13 v14 v15 : Option V) (z0 : σ = [some (.ref a), some (.ref d0), some (.ref a0), some (.ref AS), some (.ref u), some (.int fr), some (.ref NB), some (.ref PB), some (.ref ah), v9, v10, v11, v12, v13, v14, v15]) (z1 : SameT P0 H14 H15) (z2 : Tab P0 (lamPos lamSt) qSt H15) : LA a d0 a0 AS u NB PB ah P0 fr H14 i σ H15
inductive LB (a d0 a0 AS u NB PB ah pn SL P0 : Addr) (fr : Int) (i : Nat) (H20 : Hp) (j : Nat) (σ : L2.St) (H21 : L2.Hp) : Prop
 | mk (v12 v13 v14 v15 : Option V) (z0 : σ = [some (.ref a), some (.ref d0), some (.ref a0), some (.ref AS), some (.ref u), some (.int fr), some (.ref NB), some (.ref PB), some (.ref ah), some (.int (i : Nat)), some (.ref pn), some (.ref SL), v12, v13, v14, v15]) (z1 : SameT P0 H20 H21) (z2 : Tab P0 (lamPos lamSt) qSt H21) : LB a d0 a0 AS u NB PB ah pn SL P0 fr i H20 j σ H21
inductive LC (a d0 a0 AS u NB PB ah pn SL on P0 : Addr) (fr : Int) (i : Nat) (H22 : Hp) (m : Nat) (σ : L2.St) (H23 : L2.Hp) : Prop
 | mk (v13 v14 v15 : Option V) (z0 : σ = [some (.ref a), some (.ref d0), some (.ref a0), some (.ref AS), some (.ref u), some (.int fr), some (.ref NB), some (.ref PB), some (.ref ah), some (.int (i : Nat)), some (.ref pn), some (.ref SL), some (.ref on), v13, v14, v15]) (z1 : SameT P0 H22 H23) (z2 : Tab P0 (lamPos lamSt) qSt H23) : LC a d0 a0 AS u NB PB ah pn SL on P0 fr i H22 m σ H23
theorem ok_law {f : Addr} {fd : FuncData} {P0 : Addr} (D : Fun K "law" "law" sLaw f fd) (g1 : mg "range" = none) (g2 : mg "len" = none) (g3 : mg "list" = none) (g4 : mg "isinstance" = none) (g5 : mg "bool" = none) (c1 : Can P w K mg base "_law_draws" 1 ["script", "many"] (spDraws K)) (c2 : Can P w K mg base "_law_code" 2 ["d", "spot"] spLCode)
  (c3 : Can P w K mg base "_law_wider" 1 ["code", "x"] spWide) (c4 : Can P w K mg base "_law_come_to" 1 ["code"] spCome) (c5 : Can P w K mg base "_law_far" 1 ["code"] spLFar) (c6 : Can P w K mg base "_law_numbers" 1 ["due", "d", "spot"] spNmb) (c7 : Can P w K mg base "_law_papers" 7 ["code", "d", "spot"] (spPapers P0)) (c8 : Can P w K mg base "_law_copy" 1 ["code"] spCopyF)
  (c9 : Can P w K mg base "_law_bent" 1 ["paper", "x"] spBent) (c10 : Can P w K mg base "_law_torn" 1 ["paper", "x", "aside"] spTorn) (c11 : Can P w K mg base "lean_shows" 6 ["code", "both", "paper"] (spShows P0)) (c12 : Can P w K mg base "_law_leans" 2 ["code", "both", "paper"] spLLeans) : FnOk P w K mg base CX0 8 f fd ["script"] (spLaw P0 K) := by
 refine D.ok (k := 7) scLaw (fun vs H Q E h => ?_) (fun cdv A outer s H vs Q E hr h => ?_)
 all_goals
  unfold spLaw at h
  split at h
 ·rfl
 ·exact h.elim
 ·rename_i a
  walk_at "B"
  obtain ⟨ns, hS, h63, tb, q⟩ := h
  walk_at "C"
  have nd := scLaw.nd
  refine ⟨_, (by walk_at "T.top"), ?_⟩
  refine seq_hide fun U1 hU1 => ?_
  refine ⟨ns, 140, hS, h63, rfl, by decide, fun d0 ds H1 s1 hl d140 drn => ?_⟩
  have dget : ∀ {Hx : Hp} {j : Nat}, Hx d0 = some (.lst (ds.map V.int)) → j < 140 → ∃ x : Int, 0 ≤ x ∧ x < 10007 ∧ getV Hx (.ref d0) (j : Nat) = some (.int x) := fun {Hx j} h h1 => by
   have il : j < ds.length := by omega
   obtain ⟨e0, e1⟩ := drn _ (List.getElem_mem il)
   exact ⟨ds[j], e0, e1, gl h (by (clear h63 d140 h1 e0 e1; omega)) (by rw [Int.toNat_natCast, List.getElem?_map, List.getElem?_eq_getElem il]; rfl)⟩
  have t1 := tb.mono s1
  dsimp only [gName]
  subst hU1
  refine seq_nx (fun σ H3 => ∃ (cv : V) (k n : Nat) (rows : Om.Rows), σ = [some (.ref a), some (.ref d0), some cv, none, none, none, none, none, none, none, none, none, none, none, none, none] ∧ Same H1 H3 ∧ DV H3 cv (codeD k n rows) ∧ Om.CodeOk k n rows) ?_ (fun nx fin => ?_)
  rotate_left
  ·refine ⟨ds, 0, hl, rfl, by decide, by omega, drn, fun cv k n rows H2 s2 dv2 ok => ?_⟩
   walk_at "B"
   obtain ⟨x, x0, _, ex⟩ := dget (s2 _ _ hl) (j := 138) (by decide)
   walk_at "C"
   refine ⟨_, ex, k, n, rows, dv2, ok, x0, ?_, fun v rws H3 s3 dv3 ok3 => ?_⟩
   ·exact fin _ _ ⟨cv, k, n, rows, rfl, s2, dv2, ok⟩
   ·exact fin _ _ ⟨v, k, n, rws, rfl, s2.trans s3, dv3, ok3⟩
  intro σ H3 hh_
  walk_at "B"
  obtain ⟨cv, k, n, rows, rfl, s3, dv3, ok⟩ := hh_
  walk_at "C"
  have t3 := t1.mono s3
  have hd3 := s3 _ _ hl
  walk_at "B"
  obtain ⟨a0, b0, ss0, rfl, ha0, hb0, hss0⟩ := code_inv dv3
  walk_at "C"
  have sl0 : ss0.length = rows.length := by rw [hss0.length, List.length_map]
  have s8 := ok.s8
  refine seq_hide fun U2 hU2 => ?_
  refine ⟨_, gt ha0 (by decide) rfl, _, lenL hb0, ?_⟩
  refine ⟨by (clear h63 d140 sl0 s8; omega), by (clear h63 d140; omega), fun AS nAS => ?_⟩
  refine comp_nx (it_range 0 _) (fun i τ H4 ys => (∃ v, τ = [v, some (.ref a0)]) ∧ Same H3 H4 ∧ H4 AS = some (.lst ys) ∧ ys.length ≤ i ∧ ∃ as : List Int, ys = as.map V.int) (by rw [List.length_map, List.length_range]; exact le_line (by (clear h63 d140; omega))) ⟨⟨none, rfl⟩, Same.upd nAS, upd_same, Nat.le_refl _, [], rfl⟩ ?_ ?_ ?_
  ·intro i τ H4 ys hi hh_
   walk_at "B"
   obtain ⟨_, s4, h4, yl, _⟩ := hh_
   walk_at "C"
   exact ⟨trivial, h4, yl⟩
  ·intro i y τ H4 ys hi hy hh_ N hN
   walk_at "B"
   obtain ⟨⟨v, rfl⟩, s4, h4, yl, as, rfl⟩ := hh_
   walk_at "C"
   rw [List.length_map, List.length_range] at hi
   obtain ⟨j, rfl⟩ : ∃ j : Int, y = .int j := by
    rw [List.getElem?_map] at hy
    walk_at "B"
    obtain ⟨j, _, rfl⟩ := Option.map_eq_some_iff.mp hy
    walk_at "C"
    exact ⟨_, rfl⟩
   refine ⟨k, n, rows, dv3.mono s4, ok, fun l5 qs5 H5 s5 nl5 hl5 rc5 => ?_⟩
   refine ⟨qs5.map fun s => ((s : Nat) : Int), by rw [hl5, List.map_map]; rfl, ?_⟩
   refine ite2 (fun _ => ?_) (fun _ => ?_)
   ·exact ⟨s5 _ _ h4, hN _ _ _ ⟨⟨_, rfl⟩, (s4.trans s5).own nAS, upd_same, by rw [List.length_append]; exact Nat.succ_le_succ yl, as ++ [j], by rw [List.map_append]; rfl⟩⟩
   ·exact hN _ _ _ ⟨⟨_, rfl⟩, s4.trans s5, s5 _ _ h4, Nat.le_succ_of_le yl, as, rfl⟩
  intro τ H4 ys hh_
  walk_at "B"
  obtain ⟨_, s4, hAS, _, as, rfl⟩ := hh_
  walk_at "C"
  dsimp only [gName]
  subst hU2
  refine seq3_nx (fun σ H5 => ∃ (u : Addr) (lo hi : Int), σ = [some (.ref a), some (.ref d0), some (.ref a0), some (.ref AS), some (.ref u), none, none, none, none, none, none, none, none, none, none, none] ∧ Same H4 H5 ∧ H5 u = some (.tup [.int lo, .int hi])) ?_ (fun nx fin => ?_)
  rotate_left
  ·refine ⟨k, n, rows, dv3.mono s4, ok, fun H5 s5 _ => ?_, fun p low high H5 s5 np hp _ => ?_⟩
   ·dsimp only [gName, tIfS, tBU, tOp, tV, tC, rIsU, tNext]
    refine iteP (by simp) ?_
    walk_at "B"
    obtain ⟨x68, _, _, e68⟩ := dget ((s4.trans s5) _ _ hd3) (j := 68) (by decide)
    obtain ⟨x69, _, _, e69⟩ := dget ((s4.trans s5) _ _ hd3) (j := 69) (by decide)
    walk_at "C"
    refine ⟨_, e68, (by decide : (0 : Int) < 12), _, e69, (by decide : (0 : Int) < 12), lB_, fun u hu => ?_⟩
    exact fin _ _ ⟨u, _, _, rfl, s5.trans (Same.upd hu), upd_same⟩
   ·dsimp only [gName, tIfS, tBU, tOp, tV, tC, rIsU, tNext]
    refine if_negQ (by simp) ?_
    exact fin _ _ ⟨p, _, _, rfl, s5, hp⟩
  intro σ H5 hh_
  walk_at "B"
  obtain ⟨u, lo, hi', rfl, s5, hu⟩ := hh_
  walk_at "C"
  have S5 := s4.trans s5
  refine seq_hide fun U3 hU3 => ?_
  refine ⟨⟨by decide, by decide, by decide⟩, ⟨by decide, by decide, by decide⟩, lB_, fun p0 hp0 => ?_⟩
  have w0 := Same.upd (o := .lst [.int 60, .int (10 ^ (6 : Int).toNat), .int (10 ^ (25 : Int).toNat)]) hp0
  have e0 : upd H5 p0 (.lst [.int 60, .int (10 ^ (6 : Int).toNat), .int (10 ^ (25 : Int).toNat)]) p0 = some (.lst [.int 60, .int (10 ^ (6 : Int).toNat), .int (10 ^ (25 : Int).toNat)]) := upd_same
  dsimp only
  generalize upd H5 p0 (.lst [.int 60, .int (10 ^ (6 : Int).toNat), .int (10 ^ (25 : Int).toNat)]) = H6 at w0 e0 ⊢
  have S6 := S5.trans w0
  walk_at "B"
  obtain ⟨x120, _, _, e120⟩ := dget (S6 _ _ hd3) (j := 120) (by decide)
  obtain ⟨x121, _, _, e121⟩ := dget (S6 _ _ hd3) (j := 121) (by decide)
  walk_at "C"
  have r0 := Int.emod_nonneg x120 (show (3 : Int) ≠ 0 by decide)
  have r1 := Int.emod_lt_of_pos x120 (show (0 : Int) < 3 by decide)
  obtain ⟨m, em⟩ : ∃ m : Int, [V.int 60, .int (10 ^ (6 : Int).toNat), .int (10 ^ (25 : Int).toNat)][(x120 % 3).toNat]? = some (.int m) := by
   generalize x120 % 3 = r at r0 r1 ⊢
   have : r = 0 ∨ r = 1 ∨ r = 2 := by (clear h63 d140 sl0 s8; omega)
   rcases this with rfl | rfl | rfl <;> exact ⟨_, rfl⟩
  refine ⟨_, e120, (by decide : (0 : Int) < 3), .int m, gl e0 r0 em, _, e121, ?_⟩
  dsimp only [gName, rAddU]
  generalize m + x121 = fr
  subst hU3
  refine seq_hide fun U4 hU4 => ?_
  refine ⟨lo, hi', ds, 100, w0 _ _ hu, S6 _ _ hd3, rfl, by (clear h63 sl0 s8 r0 r1; omega), fun N0 ns0 H7 s7 hN0 n7 bo7 => ?_⟩
  have S7 := S6.trans s7
  walk_at "B"
  obtain ⟨x122, _, _, e122⟩ := dget (S7 _ _ hd3) (j := 122) (by decide)
  obtain ⟨x123, _, _, e123⟩ := dget (S7 _ _ hd3) (j := 123) (by decide)
  walk_at "C"
  refine ⟨_, e122, (by decide : (0 : Int) < 9), _, e123, (by decide : (0 : Int) < 9), lB_, fun m1 hm1 => ?_⟩
  have w1 := Same.upd (o := .tup [.int (0 - fr - x122 % 9), .int (fr + x123 % 9)]) hm1
  have b1 : Bo (upd H7 m1 (.tup [.int (0 - fr - x122 % 9), .int (fr + x123 % 9)])) (.ref m1) := ⟨_, _, _, rfl, upd_same⟩
  dsimp only [rAddU]
  generalize upd H7 m1 (.tup [.int (0 - fr - x122 % 9), .int (fr + x123 % 9)]) = H8 at w1 b1 ⊢
  refine ⟨lB_, fun m2 hm2 => ?_⟩
  have w2 := Same.upd (o := .lst [.ref m1]) hm2
  refine ⟨_, _, (w1.trans w2) _ _ hN0, upd_same, le_line (by rw [n7]; exact Nat.le_of_ble_eq_true rfl), fun NB nNB => ?_⟩
  have w3 := Same.upd (o := .lst (ns0 ++ [.ref m1])) nNB
  have W := (w1.trans w2).trans w3
  have hNB : upd (upd H8 m2 (.lst [.ref m1])) NB (.lst (ns0 ++ [.ref m1])) NB = some (.lst (ns0 ++ [.ref m1])) := upd_same
  have nl8 : (ns0 ++ [V.ref m1]).length = 8 := by rw [List.length_append, n7]; rfl
  have boB : ∀ x ∈ ns0 ++ [V.ref m1], Bo (upd (upd H8 m2 (.lst [.ref m1])) NB (.lst (ns0 ++ [.ref m1]))) x := fun x hx => by
   rcases List.mem_append.mp hx with z | z
   ·exact (bo7 x z).mono W
   ·rw [List.mem_singleton.mp z]; exact (b1.mono w2).mono w3
  dsimp only [gName]
  generalize ns0 ++ [V.ref m1] = nbs at hNB nl8 boB W ⊢
  generalize upd (upd H8 m2 (.lst [.ref m1])) NB (.lst nbs) = H9 at W hNB boB ⊢
  subst hU4
  have S9 := S7.trans W
  have t9 := t3.mono S9
  refine seq_hide fun U5 hU5 => ?_
  refine ⟨k, n, rows, ds, 70, dv3.mono S9, ok, t9, S9 _ _ hd3, rfl, by (clear h63 sl0 s8 r0 r1 n7 nl8; omega), drn, fun PL xs H10 s10 t10 hPL xl5 pz => ?_⟩
  have k10 := SameT.kp t9 s10
  have dv10 := (dv3.mono S9).monoT t9 s10
  refine ⟨k, n, rows, dv10, ok, fun ls qs H11 s11 nls hls rc => ?_⟩
  have q8 := rc.2.2
  have q1 : 1 ≤ qs.length := List.length_pos_of_mem ((rc.2.1 0).mpr .z)
  refine ⟨⟨_, SqL.of hls⟩, fun C hC => ?_⟩
  refine comp_nx (it_list _ ls (qs.map fun s => V.int (s : Nat))) (fun i τ H5 ys => (∃ v, τ = [v, some (.int fr)]) ∧ Same H11 H5 ∧ H5 C = some (.lst ys) ∧ ∃ ps : List (Int × Int × Int), ps.length = i ∧ ys.length = i ∧ DVs (woA C H5) ys (ps.map prowD)) (le_line (by rw [List.length_map]; (clear h63 d140 sl0 s8 r0 r1 n7 nl8 xl5 q1; omega))) ⟨⟨none, rfl⟩, Same.upd hC, upd_same, [], rfl, rfl, .nil⟩ ?_ ?_ ?_
  ·intro i τ H5 ys hi hh_
   walk_at "B"
   obtain ⟨_, s5, h5, ps, pl, yl, _⟩ := hh_
   walk_at "C"
   exact ⟨SqL.of (s5 _ _ hls), h5, by (clear h63 d140 sl0 s8 r0 r1 n7 nl8 xl5 q8 q1 hi pl; omega)⟩
  ·intro i x τ H5 ys hi hx hh_ N hN
   walk_at "B"
   obtain ⟨⟨v, rfl⟩, s5, h5, ps, pl, yl, dv⟩ := hh_
   walk_at "C"
   rw [List.length_map] at hi
   rw [List.getElem?_map, List.getElem?_eq_getElem hi] at hx
   cases hx
   refine ⟨lB_, fun p hp => ?_⟩
   exact ⟨by rw [upd_ne (ne_of_none h5 hp)]; exact h5, hN _ _ _ ⟨⟨_, rfl⟩, (s5.trans (Same.upd hp)).own hC, upd_same, _, by simp [pl], by simp [yl], pap_turn h5 hp dv⟩⟩
  intro τ H12 ysC hh_
  walk_at "B"
  obtain ⟨_, s12, hC12, psC, plC, ylC, dvC⟩ := hh_
  walk_at "C"
  rw [List.length_map] at plC ylC
  replace dvC := dvC.mono woA.same
  refine ⟨lB_, fun m3 hm3 => ?_⟩
  have w4 := Same.upd (o := .lst [.ref C]) hm3
  refine ⟨_, _, ((s11.trans s12).trans w4) _ _ hPL, upd_same, le_line (by rw [List.length_singleton]; (clear h63 d140 sl0 s8 r0 r1 n7 nl8 q8 q1 plC ylC; omega)), fun PB nPB => ?_⟩
  have w5 := Same.upd (o := .lst (xs ++ [.ref C])) nPB
  have W2 := ((s11.trans s12).trans w4).trans w5
  have hPB : upd (upd H12 m3 (.lst [.ref C])) PB (.lst (xs ++ [.ref C])) PB = some (.lst (xs ++ [.ref C])) := upd_same
  have pwB : ∀ x ∈ xs ++ [V.ref C], ∃ n zs, x = .ref n ∧ Pw (upd (upd H12 m3 (.lst [.ref C])) PB (.lst (xs ++ [.ref C]))) n zs 8 ∧ 1 ≤ zs.length := fun x hx => by
   rcases List.mem_append.mp hx with z | z
   ·walk_at "B"
    obtain ⟨p, bz, ps, e, _, l1, l8, h1, h2⟩ := pz x z
    walk_at "C"
    have hl := h2.length
    rw [List.length_map] at hl
    exact ⟨p, bz, e, ⟨W2 _ _ h1, by (clear h63 d140 sl0 s8 r0 r1 n7 nl8 xl5 q8 q1 plC ylC l1; omega), ps, h2.mono W2⟩, by (clear h63 d140 sl0 s8 r0 r1 n7 nl8 xl5 q8 q1 plC ylC l8; omega)⟩
   ·exact ⟨C, ysC, List.mem_singleton.mp z, ⟨(w4.trans w5) _ _ hC12, by (clear h63 d140 sl0 s8 r0 r1 n7 nl8 xl5 q1 plC; omega), psC, dvC.mono (w4.trans w5)⟩, by (clear h63 d140 sl0 s8 r0 r1 n7 nl8 xl5 q8 plC; omega)⟩
  have pl6 : (xs ++ [V.ref C]).length ≤ 6 := by rw [List.length_append, List.length_singleton]; (clear h63 d140 sl0 s8 r0 r1 n7 nl8 q8 q1 plC ylC; omega)
  dsimp only [gName]
  generalize xs ++ [V.ref C] = pbs at hPB pwB pl6 W2 ⊢
  generalize upd (upd H12 m3 (.lst [.ref C])) PB (.lst pbs) = H13 at W2 hPB pwB ⊢
  subst hU5
  have dv13 := dv10.mono W2
  refine seq_hide fun U6 hU6 => ?_
  refine ⟨k, n, rows, dv13, ok.s8, fun ah bh qh H14 s14 nah C14 => ?_⟩
  have dvh := C14.dv
  have dvB := dv13.mono s14
  have S14 : SameT P0 H3 H14 := (S9.t.trans s10).trans (W2.trans s14).t
  have tB := t10.mono (W2.trans s14)
  have kB : Kp H9 H14 := fun b o n e => (W2.trans s14) _ _ (k10 b o n e)
  have hdB := kB.lst (S9 _ _ hd3)
  have hASB := kB.lst ((((s5.trans w0).trans s7).trans W) _ _ hAS)
  have hNBB := kB.lst hNB
  have boBB := fun x hx => (boB x hx).kp kB
  have hPBB := s14 _ _ hPB
  have pwBB : ∀ x ∈ pbs, ∃ n zs, x = .ref n ∧ Pw H14 n zs 8 ∧ 1 ≤ zs.length := fun x hx => let ⟨n, zs, e, a, b⟩ := pwB x hx; ⟨n, zs, e, a.mono s14, b⟩
  clear pwB boB hNB hPB hAS dvC pz bo7 b1 C14
  have dgi : ∀ {Hx : Hp} {j : Int}, Kp H14 Hx → 0 ≤ j → j < 140 → ∃ x : Int, 0 ≤ x ∧ x < 10007 ∧ getV Hx (.ref d0) j = some (.int x) := fun {Hx j} kx h0 h1 => by
   obtain ⟨x, a1, a2, a3⟩ := dget (kx.lst hdB) (j := j.toNat) (by (clear h63 d140 sl0 s8 r0 r1 n7 nl8 xl5 q8 q1 plC ylC pl6 h0; omega))
   exact ⟨x, a1, a2, by rw [show j = ((j.toNat : Nat) : Int) by (clear h63 d140 sl0 s8 r0 r1 n7 nl8 xl5 q8 q1 plC ylC pl6 h1 a1 a2; omega)]; exact a3⟩
  dsimp only [gName]
  subst hU6
  refine ⟨_, lenL hPBB, by (clear h63 d140 sl0 s8 r0 r1 n7 nl8 xl5 q8 q1 plC ylC pl6; omega), by (clear h63 d140 sl0 s8 r0 r1 n7 nl8 xl5 q8 q1 plC ylC; omega), ?_⟩
  refine for_nx (it_range 0 _) (LA a d0 a0 AS u NB PB ah P0 fr H14)
   ⟨none, none, none, none, none, none, none, rfl, SameT.refl _ _, tB⟩ (fun _ _ _ _ _ => trivial) ?_ ?_
  rotate_left
  ·intro σ H15 hh_
   walk_at "B"
   obtain ⟨_, _, _, _, _, _, _, rfl, _, _⟩ := hh_
   walk_at "C"
   exact q _
  intro i y σ H15 hi hy hh_ N1 b1 hN1
  walk_at "B"
  obtain ⟨v9, v10, v11, v12, v13, v14, v15, rfl, s15, t15⟩ := hh_
  walk_at "C"
  rw [List.length_map, List.length_range] at hi
  have hi : i < pbs.length := by (clear h63 d140 sl0 s8 r0 r1 n7 nl8 xl5 q8 q1 plC ylC pl6; omega)
  have ey : y = V.int (i : Nat) := by
   rw [List.getElem?_map, List.getElem?_range (by (clear h63 d140 sl0 s8 r0 r1 n7 nl8 xl5 q8 q1 plC ylC pl6; omega))] at hy
   have := Option.some.inj hy
   rw [← this]; simp
  subst ey
  have k15 := SameT.kp tB s15
  walk_at "B"
  obtain ⟨pn, zs, epn, pw0, z1⟩ := pwBB _ (List.getElem_mem hi)
  walk_at "C"
  have pw15 := pw0.kp k15
  refine seq_hide fun U7 hU7 => ?_
  refine ⟨.ref pn, gl (k15.lst hPBB) (by (clear h63 d140 sl0 s8 r0 r1 n7 nl8 xl5 q8 q1 plC ylC pl6 z1; omega)) (by rw [Int.toNat_natCast, List.getElem?_eq_getElem hi, epn]), ?_⟩
  obtain ⟨xa, xa0, _, exa⟩ := dgi k15 (j := 104 + 2 * ((i : Nat) : Int)) (by (clear h63 d140 sl0 s8 r0 r1 n7 nl8 xl5 q8 q1 plC ylC pl6 z1; omega)) (by (clear h63 d140 sl0 s8 r0 r1 n7 nl8 xl5 q8 q1 plC ylC z1; omega))
  dsimp only [gName]
  subst hU7
  refine seq_hide fun U8 hU8 => ?_
  refine ⟨.inl ⟨by decide, by decide⟩, _, exa, zs, pw15, z1, xa0, fun l1 zs1 H16 s16 pw1 => ?_⟩
  have k16 : Kp H14 H16 := fun b o n e => s16 _ _ (k15 b o n e)
  obtain ⟨xb, xb0, _, exb⟩ := dgi k16 (j := 105 + 2 * ((i : Nat) : Int)) (by (clear h63 d140 sl0 s8 r0 r1 n7 nl8 xl5 q8 q1 plC ylC pl6 z1 xa0; omega)) (by (clear h63 d140 sl0 s8 r0 r1 n7 nl8 xl5 q8 q1 plC ylC z1 xa0; omega))
  refine ⟨.inl ⟨by decide, by decide⟩, _, exb, zs, pw15.mono s16, z1, xb0, fun l2 zs2 H17 s17 pw2 => ?_⟩
  have pw1 := pw1.mono s17
  refine ⟨lB_, fun SL nSL => ?_⟩
  have u1 := Same.upd (o := .lst [.ref pn, .ref l1, .ref l2]) nSL
  have hSL : upd H17 SL (.lst [.ref pn, .ref l1, .ref l2]) SL = some (.lst [.ref pn, .ref l1, .ref l2]) := upd_same
  have pw1 := pw1.mono u1
  have pw2 := pw2.mono u1
  have pw18 := ((pw15.mono s16).mono s17).mono u1
  have V18 := (s16.trans s17).trans u1
  dsimp only [gName]
  generalize upd H17 SL (.lst [.ref pn, .ref l1, .ref l2]) = H18 at u1 hSL pw1 pw2 pw18 V18 ⊢
  subst hU8
  have k18 : Kp H14 H18 := fun b o n e => V18 _ _ (k15 b o n e)
  obtain ⟨xc, xc0, _, exc⟩ := dgi k18 (j := 124 + ((i : Nat) : Int)) (by (clear h63 d140 sl0 s8 r0 r1 n7 nl8 xl5 q8 q1 plC ylC pl6 z1 xa0 xb0; omega)) (by (clear h63 d140 sl0 s8 r0 r1 n7 nl8 xl5 q8 q1 plC ylC z1 xa0 xb0; omega))
  refine ⟨_, exc, zs, as, pw18, z1, xc0, k18.lst hASB, fun l3 zs3 H19 s19 pw3 => ?_⟩
  refine ⟨lB_, fun m4 hm4 => ?_⟩
  have u2 := Same.upd (o := .lst [.ref l3]) hm4
  refine ⟨_, _, (s19.trans u2) _ _ hSL, upd_same, lB_, fun L4 nL4 => ?_⟩
  have u3 := Same.upd (o := .lst ([.ref pn, .ref l1, .ref l2] ++ [.ref l3])) nL4
  have hL4 : upd (upd H19 m4 (.lst [.ref l3])) L4 (.lst ([.ref pn, .ref l1, .ref l2] ++ [.ref l3])) L4 = some (.lst ([.ref pn, .ref l1, .ref l2] ++ [.ref l3])) := upd_same
  have U := (s19.trans u2).trans u3
  have px : ∀ y ∈ [V.ref pn, V.ref l1, V.ref l2] ++ [V.ref l3], Px (upd (upd H19 m4 (.lst [.ref l3])) L4 (.lst ([.ref pn, .ref l1, .ref l2] ++ [.ref l3]))) y := fun y hy => by
   simp only [List.cons_append, List.nil_append, List.mem_cons, List.not_mem_nil, or_false] at hy
   rcases hy with rfl | rfl | rfl | rfl
   ·exact (pw18.mono U).px (by decide)
   ·exact (pw1.mono U).px (by decide)
   ·exact (pw2.mono U).px (by decide)
   ·exact ((pw3.mono u2).mono u3).px (by decide)
  have ol : ([V.ref pn, V.ref l1, V.ref l2] ++ [V.ref l3]).length = 4 := rfl
  generalize [V.ref pn, V.ref l1, V.ref l2] ++ [V.ref l3] = ones at hL4 px ol u3 U ⊢
  generalize upd (upd H19 m4 (.lst [.ref l3])) L4 (.lst ones) = H20 at hL4 px U ⊢
  have t20 := (t15.mono V18).mono U
  have S20 := s15.trans (V18.trans U).t
  refine ⟨⟨_, SqL.of hL4⟩, ?_⟩
  refine for_nx (it_list _ L4 ones) (LB a d0 a0 AS u NB PB ah pn SL P0 fr i H20)
   ⟨v12, v13, v14, v15, rfl, SameT.refl _ _, t20⟩ (fun j σ H21 _ ⟨_, _, _, _, _, s21, _⟩ => SqL.of ((SameT.kp t20 s21).lst hL4)) ?_ ?_
  rotate_left
  ·intro σ H21 hh_
   walk_at "B"
   obtain ⟨v12, v13, v14, v15, rfl, s21, t21⟩ := hh_
   walk_at "C"
   exact hN1 _ _ ⟨_, _, _, _, _, _, _, rfl, S20.trans s21, t21⟩
  intro j y σ H21 hj hy hh_ N2 b2 hN2
  walk_at "B"
  obtain ⟨v12, v13, v14, v15, rfl, s21, t21⟩ := hh_
  walk_at "C"
  have k21 := SameT.kp t20 s21
  walk_at "B"
  obtain ⟨on, zo, rfl, pwo⟩ := px y (List.mem_of_getElem? hy)
  walk_at "C"
  have pwo := pwo.kp k21
  have k20 : Kp H14 H21 := SameT.kp tB (S20.trans s21)
  obtain ⟨xd, xd0, _, exd⟩ := dgi k20 (j := 90 + ((i : Nat) : Int)) (by (clear h63 d140 sl0 s8 r0 r1 n7 nl8 xl5 q8 q1 plC ylC pl6 z1 xa0 xb0 xc0 ol hj; omega)) (by (clear h63 d140 sl0 s8 r0 r1 n7 nl8 xl5 q8 q1 plC ylC z1 xa0 xb0 xc0 ol hj; omega))
  obtain ⟨xe, xe0, _, exe⟩ := dgi k20 (j := 132 + ((i : Nat) : Int)) (by (clear h63 d140 sl0 s8 r0 r1 n7 nl8 xl5 q8 q1 plC ylC pl6 z1 xa0 xb0 xc0 ol hj xd0; omega)) (by (clear h63 d140 sl0 s8 r0 r1 n7 nl8 xl5 q8 q1 plC ylC z1 xa0 xb0 xc0 ol hj xd0; omega))
  have d0' := Int.emod_nonneg xd (show (6 : Int) ≠ 0 by decide)
  have d1' := Int.emod_lt_of_pos xd (show (0 : Int) < 6 by decide)
  have e0' := Int.emod_nonneg xe (show (7 : Int) ≠ 0 by decide)
  have e1' := Int.emod_lt_of_pos xe (show (0 : Int) < 7 by decide)
  have gN : ∀ {z : Int}, 0 ≤ z → z < 8 → ∃ v, v ∈ nbs ∧ getV H21 (.ref NB) z = some v := fun {z} h0 h1 => by
   have il : z.toNat < nbs.length := by (clear h63 d140 sl0 s8 r0 r1 n7 xl5 q8 q1 plC ylC pl6 z1 xa0 xb0 xc0 ol hj xd0 xe0 d0' d1' e0' e1' h0; omega)
   exact ⟨nbs[z.toNat], List.getElem_mem il, gl (k20.lst hNBB) h0 (List.getElem?_eq_getElem il)⟩
  walk_at "B"
  obtain ⟨w1', m1', gw1⟩ := gN (z := 0) (by decide) (by decide)
  obtain ⟨w2', m2', gw2⟩ := gN (z := 1 + xd % 6) (by (clear h63 d140 sl0 s8 r0 r1 n7 nl8 xl5 q8 q1 plC ylC pl6 z1 xa0 xb0 xc0 ol hj xd0 xe0 d0' d1' e0' e1'; omega)) (by (clear h63 d140 sl0 s8 r0 r1 n7 nl8 xl5 q8 q1 plC ylC pl6 z1 xa0 xb0 xc0 ol hj xd0 xe0 d0' d1' e0' e1'; omega))
  obtain ⟨w3', m3', gw3⟩ := gN (z := 7 - xe % 7) (by (clear h63 d140 sl0 s8 r0 r1 n7 nl8 xl5 q8 q1 plC ylC pl6 z1 xa0 xb0 xc0 ol hj xd0 xe0 d0' d1' e0' e1'; omega)) (by (clear h63 d140 sl0 s8 r0 r1 n7 nl8 xl5 q8 q1 plC ylC pl6 z1 xa0 xb0 xc0 ol hj xd0 xe0 d0' d1' e0' e1'; omega))
  walk_at "C"
  dsimp only [gName]
  refine ⟨w1', gw1, _, exd, (by decide : (0 : Int) < 6), w2', gw2, _, exe, (by decide : (0 : Int) < 7), w3', gw3, lB_, fun L5 nL5 => ?_⟩
  have u5 := Same.upd (o := .lst [w1', w2', w3']) nL5
  have hL5 : upd H21 L5 (.lst [w1', w2', w3']) L5 = some (.lst [w1', w2', w3']) := upd_same
  generalize upd H21 L5 (.lst [w1', w2', w3']) = H22 at u5 hL5 ⊢
  have t22 := t21.mono u5
  have S22 := (S20.trans s21).trans u5.t
  have pwo22 := pwo.mono u5
  refine ⟨⟨_, SqL.of hL5⟩, ?_⟩
  refine for_nx (it_list _ L5 [w1', w2', w3']) (LC a d0 a0 AS u NB PB ah pn SL on P0 fr i H22)
   ⟨v13, v14, v15, rfl, SameT.refl _ _, t22⟩ (fun m σ H23 _ ⟨_, _, _, _, s23, _⟩ => SqL.of ((SameT.kp t22 s23).lst hL5)) ?_ ?_
  rotate_left
  ·intro σ H23 hh_
   walk_at "B"
   obtain ⟨v13, v14, v15, rfl, s23, t23⟩ := hh_
   walk_at "C"
   exact hN2 _ _ ⟨_, _, _, _, rfl, (s21.trans u5.t).trans s23, t23⟩
  intro m' y σ H23 hm hy hh_ N3 b3 hN3
  walk_at "B"
  obtain ⟨v13, v14, v15, rfl, s23, t23⟩ := hh_
  walk_at "C"
  have S23 := S22.trans s23
  have k23 := SameT.kp tB S23
  have ym : y ∈ nbs := by
   have := List.mem_of_getElem? hy
   simp only [List.mem_cons, List.not_mem_nil, or_false] at this
   rcases this with rfl | rfl | rfl
   ·exact m1'
   ·exact m2'
   ·exact m3'
  walk_at "B"
  obtain ⟨bo, y0, y1, rfl, hbo⟩ := (boBB y ym).kp k23
  walk_at "C"
  have pwo23 := pwo22.kp (SameT.kp t22 s23)
  refine seq_hide fun U9 hU9 => ?_
  refine ⟨zo, .inl pwo23.1, fun hd nhd => ?_⟩
  walk_at "B"
  obtain ⟨ho, zl, ps, dps⟩ := pwo23
  walk_at "C"
  have pl : ps.length ≤ 50 := by have := dps.length; rw [List.length_map] at this; (clear h63 d140 sl0 s8 r0 r1 n7 nl8 xl5 q8 q1 plC ylC pl6 z1 xa0 xb0 xc0 ol hj xd0 xe0 d0' d1' e0' e1' hm; omega)
  have u6 := Same.upd (o := .lst zo) nhd
  have hhd : upd H23 hd (.lst zo) hd = some (.lst zo) := upd_same
  have ho := u6 _ _ ho
  have hbo := u6 _ _ hbo
  have dps := dps.mono u6
  have t24 := t23.mono u6
  have S24 := S23.trans u6.t
  dsimp only [gName]
  generalize upd H23 hd (.lst zo) = H24 at u6 hhd ho hbo dps t24 S24 ⊢
  subst hU9
  refine ⟨k, n, rows, ps, y0, y1, dvh.monoT tB S24, ok, t24, .lst hhd dps, pl, hbo, fun bb1 H25 s25 t25 iff1 => ?_⟩
  have k25 := SameT.kp t24 s25
  have S25 := S24.trans s25
  have dps25 : DVs H25 zo (ps.map prowD) := pap_off dps fun b ys e => k25.tup e
  refine ⟨"bool", rfl, by decide, ?_⟩
  refine ite2 (fun z => absurd z (by decide)) (fun _ => ?_)
  refine ⟨k, n, rows, ps, y0, y1, dvB.monoT tB S25, ok, .lst (k25.lst ho) dps25, pl, k25.tup hbo, fun bb2 H26 s26 iff2 => ?_⟩
  have eb : bb1 = bb2 := Bool.eq_iff_iff.mpr (iff1.trans iff2.symm)
  subst eb
  refine ite2 (fun z => absurd z (by simp)) (fun _ => ?_)
  have S26 := S25.trans s26.t
  refine ⟨_, _, DV.lst (s26 _ _ (k25.lst hhd)) (dps25.mono s26), DV.lst (s26 _ _ (k25.lst ho)) (dps25.mono s26), papD_shaped _, papD_shaped _, ?_⟩
  have pe := papD_eq ps
  unfold papD at pe
  rw [pe]
  refine ite2 (fun z => absurd z (by decide)) (fun _ => ?_)
  refine ⟨_, _, dvh.monoT tB S26, dvB.monoT tB S26, codeD_shaped _ _ _, codeD_shaped _ _ _, ?_⟩
  rw [codeD_eq]
  refine ite2 (fun z => absurd z (by decide)) (fun _ => ?_)
  exact hN3 _ _ ⟨_, _, _, rfl, ((s23.trans u6.t).trans s25).trans s26.t, t25.mono s26⟩
 ·exact h.elim
end

end K21
end
section
set_option Elab.async false
set_option linter.all false
set_option maxRecDepth 100000
set_option maxHeartbeats 4000000
namespace K21
open PySem L2
theorem fnX_1 {K : PySem.W.Frag} {h : Heap} {mg : Str → Option Value} {x : Str} {st : Stmt} {p0 : Str} (D : DefIn K x st) (X : K.In h) (G : h.Ns mainGlobals mg)
  (hb : ∀ (kV doc pm : Value) (an : Option Addr) (cdv ct : Value) (a0 : Value), bindArgs (PySem.W.fnOf x x (defArgs st) (defBody st) (defScope st) .none kV doc pm an cdv ct) ⟨[a0], []⟩ = pure ([p0].zip [a0])) : FnX K mg x st [p0] :=
 D.fnX X G fun kV doc pm an cdv ct us hl => match us, hl with
  | [a0], _ => hb kV doc pm an cdv ct a0
theorem fnX_2 {K : PySem.W.Frag} {h : Heap} {mg : Str → Option Value} {x : Str} {st : Stmt} {p0 p1 : Str} (D : DefIn K x st) (X : K.In h) (G : h.Ns mainGlobals mg)
  (hb : ∀ (kV doc pm : Value) (an : Option Addr) (cdv ct : Value) (a0 a1 : Value), bindArgs (PySem.W.fnOf x x (defArgs st) (defBody st) (defScope st) .none kV doc pm an cdv ct) ⟨[a0, a1], []⟩ = pure ([p0, p1].zip [a0, a1])) : FnX K mg x st [p0, p1] :=
 D.fnX X G fun kV doc pm an cdv ct us hl => match us, hl with
  | [a0, a1], _ => hb kV doc pm an cdv ct a0 a1
theorem fnX_3 {K : PySem.W.Frag} {h : Heap} {mg : Str → Option Value} {x : Str} {st : Stmt} {p0 p1 p2 : Str} (D : DefIn K x st) (X : K.In h) (G : h.Ns mainGlobals mg)
  (hb : ∀ (kV doc pm : Value) (an : Option Addr) (cdv ct : Value) (a0 a1 a2 : Value), bindArgs (PySem.W.fnOf x x (defArgs st) (defBody st) (defScope st) .none kV doc pm an cdv ct) ⟨[a0, a1, a2], []⟩ = pure ([p0, p1, p2].zip [a0, a1, a2])) : FnX K mg x st [p0, p1, p2] :=
 D.fnX X G fun kV doc pm an cdv ct us hl => match us, hl with
  | [a0, a1, a2], _ => hb kV doc pm an cdv ct a0 a1 a2
theorem fnX_4 {K : PySem.W.Frag} {h : Heap} {mg : Str → Option Value} {x : Str} {st : Stmt} {p0 p1 p2 p3 : Str} (D : DefIn K x st) (X : K.In h) (G : h.Ns mainGlobals mg)
  (hb : ∀ (kV doc pm : Value) (an : Option Addr) (cdv ct : Value) (a0 a1 a2 a3 : Value), bindArgs (PySem.W.fnOf x x (defArgs st) (defBody st) (defScope st) .none kV doc pm an cdv ct) ⟨[a0, a1, a2, a3], []⟩ = pure ([p0, p1, p2, p3].zip [a0, a1, a2, a3])) : FnX K mg x st [p0, p1, p2, p3] :=
 D.fnX X G fun kV doc pm an cdv ct us hl => match us, hl with
  | [a0, a1, a2, a3], _ => hb kV doc pm an cdv ct a0 a1 a2 a3
theorem fnX_5 {K : PySem.W.Frag} {h : Heap} {mg : Str → Option Value} {x : Str} {st : Stmt} {p0 p1 p2 p3 p4 : Str} (D : DefIn K x st) (X : K.In h) (G : h.Ns mainGlobals mg)
  (hb : ∀ (kV doc pm : Value) (an : Option Addr) (cdv ct : Value) (a0 a1 a2 a3 a4 : Value), bindArgs (PySem.W.fnOf x x (defArgs st) (defBody st) (defScope st) .none kV doc pm an cdv ct) ⟨[a0, a1, a2, a3, a4], []⟩ = pure ([p0, p1, p2, p3, p4].zip [a0, a1, a2, a3, a4])) : FnX K mg x st [p0, p1, p2, p3, p4] :=
 D.fnX X G fun kV doc pm an cdv ct us hl => match us, hl with
  | [a0, a1, a2, a3, a4], _ => hb kV doc pm an cdv ct a0 a1 a2 a3 a4
theorem all_mk {l : PySem.W.OpenLaw} {w : World} {K : PySem.W.Frag} {h : Heap} {mg : Str → Option Value} {fa : Addr} (X : K.In h) (G : h.Ns mainGlobals mg) (hfa : mg "law" = some (.ref fa))
  (d1 : DefIn K "texts_from" sTexts) (d2 : DefIn K "state_texts" sStT) (d3 : DefIn K "reached" sReached) (d4 : DefIn K "leans_in" sLeans) (d5 : DefIn K "ends_behind" sEndsB) (d6 : DefIn K "farthest_ends" sFar) (d7 : DefIn K "leaning_loop" sLoop) (d8 : DefIn K "is_whole" sIsWh) (d9 : DefIn K "is_wholes" sWholes) (d10 : DefIn K "is_paper" sIsPap) (d11 : DefIn K "keeps_within" sKeeps) (d12 : DefIn K "lean_shows" sShows) (d13 : DefIn K "lean_paper" sLPap) (d14 : DefIn K "_law_draws" sDraws) (d15 : DefIn K "_law_behind" sBeh) (d16 : DefIn K "_law_some" sSome) (d17 : DefIn K "_law_code" sLCode) (d18 : DefIn K "_law_copy" sCopy) (d19 : DefIn K "_law_far" sLFar) (d20 : DefIn K "_law_come_to" sCome) (d21 : DefIn K "_law_leans" sLLeans) (d22 : DefIn K "_law_wider" sWide) (d23 : DefIn K "_law_papers" sPapers) (d24 : DefIn K "_law_bent" sBent) (d25 : DefIn K "_law_torn" sTorn) (d26 : DefIn K "_law_numbers" sNmb) (dl : DefIn K "law" sLaw) {c0 P0 : Addr} (ht : PySem.W.tabIn K "state_texts" = some (c0, P0))
  (z1 : PySem.W.nsIn K mainGlobals "len" = some none) (z2 : PySem.W.nsIn K mainGlobals "range" = some none) (z3 : PySem.W.nsIn K mainGlobals "isinstance" = some none) (z4 : PySem.W.nsIn K mainGlobals "int" = some none) (z5 : PySem.W.nsIn K mainGlobals "bool" = some none) (z6 : PySem.W.nsIn K mainGlobals "list" = some none) (z7 : PySem.W.nsIn K mainGlobals "tuple" = some none) (z8 : PySem.W.nsIn K mainGlobals "max" = some none) (z9 : PySem.W.nsIn K mainGlobals "min" = some none) (z10 : PySem.W.nsIn K mainGlobals "enumerate" = some none) (z11 : PySem.W.nsIn K mainGlobals "sorted" = some none) (z12 : PySem.W.nsIn K mainGlobals "abs" = some none) (z13 : PySem.W.nsIn K mainGlobals "dict" = some none) (z14 : PySem.W.nsIn K mainGlobals "all" = some none) :
  ∃ fd : FuncData, (∀ (s : Shared) (v : Value), BindsTo s fd ⟨[v], []⟩ [("script", v)]) ∧ ∀ base : Heap, K.In base → base.Ns mainGlobals mg → Maker mg base c0 P0 → FnOk l.prog w K mg base CX0 8 fa fd ["script"] (spLaw P0 K) := by
 walk_at "B"
 obtain ⟨f, oc, od, an, osl, kV, dc, pm, cd, ct, h1, h2, h3, h4⟩ := dl
 walk_at "C"
 have e := hfa.symm.trans (PySem.W.mg_of X G h1)
 cases e
 have F := fun_mk (st := sLaw) h2 h3 h4
 refine ⟨PySem.W.fnOf "law" "law" (defArgs sLaw) (defBody sLaw) (defScope sLaw) .none kV dc pm an cd ct, fun s v => .of_eq rfl, fun base _ _ M => ?_⟩
 have z_len := PySem.W.mg_none_of X G z1
 have z_range := PySem.W.mg_none_of X G z2
 have z_isinstance := PySem.W.mg_none_of X G z3
 have z_int := PySem.W.mg_none_of X G z4
 have z_bool := PySem.W.mg_none_of X G z5
 have z_list := PySem.W.mg_none_of X G z6
 have z_tuple := PySem.W.mg_none_of X G z7
 have z_max := PySem.W.mg_none_of X G z8
 have z_min := PySem.W.mg_none_of X G z9
 have z_enumerate := PySem.W.mg_none_of X G z10
 have z_sorted := PySem.W.mg_none_of X G z11
 have z_abs := PySem.W.mg_none_of X G z12
 have z_dict := PySem.W.mg_none_of X G z13
 have z_all := PySem.W.mg_none_of X G z14
 have x_tf := fnX_2 d1 X G (fun _ _ _ _ _ _ _ _ => rfl)
 have c_stT := ok_stT (P := l.prog) (w := w) (base := base) (FnC.of d2 ht X G (fun kV doc pm an cdv ct us hl => match us, hl with | [_], _ => rfl)) x_tf z_len z_enumerate M
 have c_reached := ok_reached (P := l.prog) (w := w) (base := base) (fnX_1 d3 X G (fun _ _ _ _ _ _ _ => rfl)) z_sorted c_stT
 have c_leans := ok_leans (P := l.prog) (w := w) (base := base) (fnX_1 d4 X G (fun _ _ _ _ _ _ _ => rfl))
 have c_endsB := ok_endsB (P := l.prog) (w := w) (base := base) (fnX_3 d5 X G (fun _ _ _ _ _ _ _ _ _ => rfl)) z_dict z_enumerate c_leans
 have c_farE := ok_farE (P := l.prog) (w := w) (base := base) (fnX_3 d6 X G (fun _ _ _ _ _ _ _ _ _ => rfl)) z_range z_len c_endsB
 have c_loop := ok_loop (P := l.prog) (w := w) (base := base) (fnX_1 d7 X G (fun _ _ _ _ _ _ _ => rfl)) c_reached c_farE
 have c_isWh := ok_isWh (P := l.prog) (w := w) (base := base) (fnX_1 d8 X G (fun _ _ _ _ _ _ _ => rfl)) z_isinstance z_int z_bool
 have c_wholes := ok_wholes (P := l.prog) (w := w) (base := base) (fnX_2 d9 X G (fun _ _ _ _ _ _ _ _ => rfl)) z_isinstance z_tuple z_len z_all c_isWh
 have c_isPap := ok_isPap (P := l.prog) (w := w) (base := base) (fnX_2 d10 X G (fun _ _ _ _ _ _ _ _ => rfl)) z_isinstance z_list z_all c_wholes c_reached
 have c_keeps := ok_keeps (P := l.prog) (w := w) (base := base) (fnX_4 d11 X G (fun _ _ _ _ _ _ _ _ _ _ => rfl)) z_min z_max c_leans
 have c_shows := ok_shows (P := l.prog) (w := w) (base := base) (fnX_3 d12 X G (fun _ _ _ _ _ _ _ _ _ => rfl)) z_all c_wholes c_isPap c_keeps
 have c_lpap := ok_lpap (P := l.prog) (w := w) (base := base) (fnX_1 d13 X G (fun _ _ _ _ _ _ _ => rfl)) c_loop c_farE c_reached
 have c_draws := ok_draws (P := l.prog) (w := w) (base := base) (fnX_2 d14 X G (fun _ _ _ _ _ _ _ _ => rfl)) z_enumerate z_abs z_len z_range
 have c_beh := ok_beh (P := l.prog) (w := w) (base := base) (fnX_5 d15 X G (fun _ _ _ _ _ _ _ _ _ _ _ => rfl))
 have c_some := ok_some (P := l.prog) (w := w) (base := base) (fnX_4 d16 X G (fun _ _ _ _ _ _ _ _ _ _ => rfl)) z_len
 have c_lcode := ok_lcode (P := l.prog) (w := w) (base := base) (fnX_2 d17 X G (fun _ _ _ _ _ _ _ _ => rfl)) z_range z_len c_beh c_some
 have c_copy := ok_copy (P := l.prog) (w := w) (base := base) (fnX_1 d18 X G (fun _ _ _ _ _ _ _ => rfl)) z_list
 have c_lfar := ok_lfar (P := l.prog) (w := w) (base := base) (fnX_1 d19 X G (fun _ _ _ _ _ _ _ => rfl)) z_len z_abs z_min z_max z_int
 have c_come := ok_come (P := l.prog) (w := w) (base := base) (fnX_1 d20 X G (fun _ _ _ _ _ _ _ => rfl)) z_len z_sorted
 have c_lleans := ok_lleans (P := l.prog) (w := w) (base := base) (fnX_3 d21 X G (fun _ _ _ _ _ _ _ _ _ => rfl)) z_int c_come
 have c_wide := ok_wide (P := l.prog) (w := w) (base := base) (fnX_2 d22 X G (fun _ _ _ _ _ _ _ _ => rfl)) z_len
 have c_papers := ok_papers (P := l.prog) (w := w) (base := base) (fnX_3 d23 X G (fun _ _ _ _ _ _ _ _ _ => rfl)) z_list c_come c_lpap
 have c_bent := ok_bent (P := l.prog) (w := w) (base := base) (fnX_2 d24 X G (fun _ _ _ _ _ _ _ _ => rfl)) z_len
 have c_torn := ok_torn (P := l.prog) (w := w) (base := base) (fnX_3 d25 X G (fun _ _ _ _ _ _ _ _ _ => rfl)) z_len z_sorted
 have c_nmb := ok_nmb (P := l.prog) (w := w) (base := base) (fnX_3 d26 X G (fun _ _ _ _ _ _ _ _ _ => rfl)) z_max z_min
 exact ok_law F z_range z_len z_list z_isinstance z_bool c_draws c_lcode c_wide c_come c_lfar c_nmb c_papers c_copy c_bent c_torn c_shows c_lleans
theorem walk {l : PySem.W.OpenLaw} {q : Program} {loose : List Str} {XP : (Str → Option Value) → Heap → Prop} {YP : World → Heap → Prop} {d : DefRec} {K : Params → PySem.W.Frag} {c0 P0 : Addr} (hn : l.most = some 63) (hdf : d.params.defaults = [])
  (hY : ∀ (w : World) (h : Heap), YP w h → (K w.params).In h) (hnt : ∀ w : World, PySem.W.noTabs (K w.params) = true) (htb : ∀ (w : World) (h : Heap), YP w h → h.get? P0 = some (PySem.W.tabObj #[])) (hcd : ∀ w : World, PySem.W.codeHdIn (K w.params) c0 P0 = true) (ht0 : ∀ w : World, PySem.W.tabIn (K w.params) "state_texts" = some (c0, P0))
  (F : ∀ (w : World) (mg : Str → Option Value) (fa : Addr) (h : Heap), (K w.params).In h → h.Ns mainGlobals mg → mg d.name = some (.ref fa) →
   ∃ fd : FuncData, (∀ (s : Shared) (u : Value), BindsTo s fd ⟨[u], []⟩ [("script", u)]) ∧ ∀ base : Heap, (K w.params).In base → base.Ns mainGlobals mg → Maker mg base c0 P0 → FnOk l.prog w (K w.params) mg base CX0 8 fa fd ["script"] (spLaw P0 (K w.params))) :
  PySem.W.WalkO q loose XP YP l.row.toRowW d [] (fun f vs => PySem.call f vs) :=
 L2.walk_ofT (n := 63) (k := 8) (x := "script") (CX := fun _ => CX0) (sp := fun w => spLaw P0 (K w.params)) hn (by decide) hdf ⟨rfl, by decide, by decide⟩ hY hnt htb hcd F (fun _ _ a ns hl hT hS => ⟨ns, hS, hl, .inl hT, fun _ => rfl⟩) fun _ _ _ _ _ z => z
end K21
open PySem PySem.W PyProof.Rows
local macro_rules | `(tactic| walk_at "k_def") => `(tactic| ((refine' L2.DefIn.mk ?a ?l ?c ?k); (case a => k_is); (case l => k_is); (case c => k_is); (case k => k_is)))
set_option maxRecDepth 100000 in
set_option maxHeartbeats 0 in
theorem PySem.Challenge.cw_ownbeat_k21_leans_let_by_or_not_holds : PySem.Challenge.rw_ownbeat_k21_leans_let_by_or_not.Holds := by
 w_on; o_law; k_head; (case hw => w_witness2)
 k_fill
 refine' K21.walk (l := PySem.Challenge.rw_ownbeat_k21_leans_let_by_or_not) rfl rfl (fun w h Y => PySem.W.km_in_of Y) ?nt ?tb ?cd ?t0 ?F
 (case t0 => intro w; exact rfl)
 (case nt => intro w; exact rfl)
 (case tb => intro w h Y; exact PySem.W.km_tabs_of Y _ (by decide))
 (case cd => intro w; exact rfl)
 case F =>
  intro w mg fa h KX G hmg
  refine' K21.all_mk KX G hmg ?d1 ?d2 ?d3 ?d4 ?d5 ?d6 ?d7 ?d8 ?d9 ?d10 ?d11 ?d12 ?d13 ?d14 ?d15 ?d16 ?d17 ?d18 ?d19 ?d20 ?d21 ?d22 ?d23 ?d24 ?d25 ?d26 ?dl (by exact rfl) ?z1 ?z2 ?z3 ?z4 ?z5 ?z6 ?z7 ?z8 ?z9 ?z10 ?z11 ?z12 ?z13 ?z14
  (case d1 => walk_at "k_def")
  (case d2 => walk_at "k_def")
  (case d3 => walk_at "k_def")
  (case d4 => walk_at "k_def")
  (case d5 => walk_at "k_def")
  (case d6 => walk_at "k_def")
  (case d7 => walk_at "k_def")
  (case d8 => walk_at "k_def")
  (case d9 => walk_at "k_def")
  (case d10 => walk_at "k_def")
  (case d11 => walk_at "k_def")
  (case d12 => walk_at "k_def")
  (case d13 => walk_at "k_def")
  (case d14 => walk_at "k_def")
  (case d15 => walk_at "k_def")
  (case d16 => walk_at "k_def")
  (case d17 => walk_at "k_def")
  (case d18 => walk_at "k_def")
  (case d19 => walk_at "k_def")
  (case d20 => walk_at "k_def")
  (case d21 => walk_at "k_def")
  (case d22 => walk_at "k_def")
  (case d23 => walk_at "k_def")
  (case d24 => walk_at "k_def")
  (case d25 => walk_at "k_def")
  (case d26 => walk_at "k_def")
  (case dl => walk_at "k_def")
  (case z1 => k_is)
  (case z2 => k_is)
  (case z3 => k_is)
  (case z4 => k_is)
  (case z5 => k_is)
  (case z6 => k_is)
  (case z7 => k_is)
  (case z8 => k_is)
  (case z9 => k_is)
  (case z10 => k_is)
  (case z11 => k_is)
  (case z12 => k_is)
  (case z13 => k_is)
  (case z14 => k_is)
end
end
