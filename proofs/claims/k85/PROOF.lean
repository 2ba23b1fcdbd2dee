import PyProof.Rows.All
import Wide.All
import OpenK.AllK
import Wide.FinOn
import HandS.Base
import HandS.Call
import HandS.List
import HandS.Comp
import HandS.Ends
import HandS.Words
import HandS.NoneIn
import HandS.Wide
import HandS.IsInst
import HandS.Gcd
import HandS.Dict
import HandS.Style
import HandS.Iter
import HandS.Zip
import HandS.Deep
import HandS.WideBits
import KE.GoesEnum
import PyProof.CallFns
import Flt.RightSqrt
import PySem.Challenge.RW_spoutlines_k85_whole_streams_on_one_curv
set_option Elab.async false
set_option linter.all false
set_option maxRecDepth 100000
set_option maxHeartbeats 8000000
namespace Pf
open PySem PySem.Spec PyProof.Rows L2
abbrev Fg := PySem.W.Frag

/-! ### worlds -/
/-- what may be read, what data keeps off (A: the caller's own, O: this frame's growing lists), the vats -/
structure Wd where
  H : Hp
  A : Addr → Prop
  V : Addr → Prop
  O : Addr → Prop
def VatAt (H : Hp) (a : Addr) : Prop := ∃ c h n : Int, H a = some (.lst [.int c, .int h, .int n]) ∧ 0 ≤ c ∧ 0 ≤ h ∧ h < 2147483489 ∧ 0 ≤ n
structure Wd.Ok (W : Wd) : Prop where
  va : ∀ a, W.V a → W.A a ∧ VatAt W.H a
  at_ : ∀ a, W.A a → ∃ o, W.H a = some o
  ot : ∀ a, W.O a → ∃ xs, W.H a = some (.lst xs)
  oa : ∀ a, W.O a → ¬ W.A a
/-- a step of statements -/
structure Stp (W U : Wd) : Prop where
  ext : ∀ a o, W.H a = some o → ¬ W.V a → ¬ W.O a → U.H a = some o
  a1 : ∀ a, W.A a → U.A a
  a2 : ∀ a, U.A a → W.A a ∨ W.H a = none
  v1 : ∀ a, W.V a → U.V a
  v2 : ∀ a, U.V a → W.V a ∨ W.H a = none
  o2 : ∀ a, U.O a → W.O a ∨ W.H a = none
/-- a step of expressions -/
structure Le (W U : Wd) : Prop where
  ext : ∀ a o, W.H a = some o → ¬ W.V a → U.H a = some o
  a1 : ∀ a, W.A a → U.A a
  a2 : ∀ a, U.A a → W.A a ∨ W.H a = none
  v1 : ∀ a, W.V a → U.V a
  v2 : ∀ a, U.V a → W.V a ∨ W.H a = none
  o : U.O = W.O
theorem Le.refl (W : Wd) : Le W W := ⟨fun _ _ e _ => e, fun _ h => h, fun _ h => .inl h, fun _ h => h, fun _ h => .inl h, rfl⟩
theorem Stp.refl (W : Wd) : Stp W W := ⟨fun _ _ e _ _ => e, fun _ h => h, fun _ h => .inl h, fun _ h => h, fun _ h => .inl h, fun _ h => .inl h⟩
theorem Le.stp {W U : Wd} (l : Le W U) : Stp W U := ⟨fun a o e n _ => l.ext a o e n, l.a1, l.a2, l.v1, l.v2, fun a h => .inl (by rw [← l.o]; exact h)⟩
theorem Wd.Ok.vt {W : Wd} (k : W.Ok) {a : Addr} (h : W.V a) : ∃ xs, W.H a = some (.lst xs) := by
  obtain ⟨_, _, _, _, e, _⟩ := k.va a h
  exact ⟨_, e⟩
theorem Wd.Ok.ov {W : Wd} (k : W.Ok) {a : Addr} (h : W.O a) : ¬ W.V a := fun v => k.oa a h (k.va a v).1
theorem some_ne {H : Hp} {a : Addr} {o : HO} (e : H a = some o) (n : H a = none) : False := by rw [e] at n; cases n
/-- what was there is there -/
theorem Le.there {W U : Wd} (l : Le W U) (k : W.Ok) (q : U.Ok) {a : Addr} {o : HO} (e : W.H a = some o) : ∃ u, U.H a = some u := by
  by_cases v : W.V a
  · obtain ⟨xs, h⟩ := q.vt (l.v1 a v)
    exact ⟨_, h⟩
  · exact ⟨_, l.ext a o e v⟩
theorem Stp.there {W U : Wd} (l : Stp W U) (k : W.Ok) (q : U.Ok) {a : Addr} {o : HO} (e : W.H a = some o) (h : ¬ W.O a) : ∃ u, U.H a = some u := by
  by_cases v : W.V a
  · obtain ⟨xs, h⟩ := q.vt (l.v1 a v)
    exact ⟨_, h⟩
  · exact ⟨_, l.ext a o e v h⟩
theorem Le.trans {W U Z : Wd} (k : W.Ok) (q : U.Ok) (l : Le W U) (m : Le U Z) : Le W Z where
  ext := fun a o e n => m.ext a o (l.ext a o e n) fun v => by
    rcases l.v2 a v with z | z
    · exact n z
    · exact some_ne e z
  a1 := fun a h => m.a1 a (l.a1 a h)
  a2 := fun a h => by
    rcases m.a2 a h with z | z
    · exact l.a2 a z
    · cases e : W.H a with
      | none => exact .inr rfl
      | some o =>
        obtain ⟨u, hu⟩ := l.there k q e
        exact (some_ne hu z).elim
  v1 := fun a h => m.v1 a (l.v1 a h)
  v2 := fun a h => by
    rcases m.v2 a h with z | z
    · exact l.v2 a z
    · cases e : W.H a with
      | none => exact .inr rfl
      | some o =>
        obtain ⟨u, hu⟩ := l.there k q e
        exact (some_ne hu z).elim
  o := m.o.trans l.o

/-! ### data -/
mutual
inductive R (K : Fg) (W : Wd) : V → PyData → Prop
  | non : R K W .non .none
  | bl (b : Bool) : R K W (.bl b) (.bool b)
  | int (i : Int) : R K W (.int i) (.int i)
  | str (x : Str) : R K W (.str x) (.str x)
  | lst {a : Addr} {xs : List V} {ds : List PyData} : W.H a = some (.lst xs) → ¬ W.A a → ¬ W.O a → Rs K W xs ds → R K W (.ref a) (.list ds)
  | tup {a : Addr} {xs : List V} {ds : List PyData} : SqT K W.H a xs → Rs K W xs ds → R K W (.ref a) (.tuple ds)
  | dic {a : Addr} : W.H a = some (.dK []) → R K W (.ref a) (.dict [])
inductive Rs (K : Fg) (W : Wd) : List V → List PyData → Prop
  | nil : Rs K W [] []
  | cons {v : V} {vs : List V} {d : PyData} {ds : List PyData} : R K W v d → Rs K W vs ds → Rs K W (v :: vs) (d :: ds)
end
section
variable {K : Fg} {W U : Wd}
theorem rd_keep {H H' : Hp} (h : ∀ a o, H a = some o → (∀ xs, o ≠ .lst xs) → H' a = some o) {a : Addr} {xs : List V} (e : SqT K H a xs) : SqT K H' a xs := by
  rcases e with (e | ⟨o, e⟩) | e
  · exact .inl (.inl (h _ _ e fun _ z => by cases z))
  · exact .inl (.inr ⟨o, h _ _ e fun _ z => by cases z⟩)
  · exact .inr e
theorem Le.keepN {W U : Wd} (l : Le W U) (k : W.Ok) : ∀ a o, W.H a = some o → (∀ xs, o ≠ .lst xs) → U.H a = some o := fun a o e n => l.ext a o e fun v => by
  obtain ⟨xs, h⟩ := k.vt v
  rw [e] at h
  cases h
  exact n _ rfl
theorem Stp.keepN {W U : Wd} (l : Stp W U) (k : W.Ok) : ∀ a o, W.H a = some o → (∀ xs, o ≠ .lst xs) → U.H a = some o := fun a o e n => l.ext a o e (fun v => by
  obtain ⟨xs, h⟩ := k.vt v
  rw [e] at h
  cases h
  exact n _ rfl) fun z => by
  obtain ⟨xs, h⟩ := k.ot a z
  rw [e] at h
  cases h
  exact n _ rfl
mutual
theorem R.stp (l : Stp W U) (k : W.Ok) : ∀ {v : V} {d : PyData}, R K W v d → R K U v d
  | _, _, .non => .non
  | _, _, .bl b => .bl b
  | _, _, .int i => .int i
  | _, _, .str x => .str x
  | _, _, .lst e n m h => .lst (l.ext _ _ e (fun v => n (k.va _ v).1) m) (fun z => by
      rcases l.a2 _ z with z | z
      · exact n z
      · exact some_ne e z) (fun z => by
      rcases l.o2 _ z with z | z
      · exact m z
      · exact some_ne e z) (Rs.stp l k h)
  | _, _, .tup e h => .tup (rd_keep (l.keepN k) e) (Rs.stp l k h)
  | _, _, .dic e => .dic (l.keepN k _ _ e fun _ z => by cases z)
theorem Rs.stp (l : Stp W U) (k : W.Ok) : ∀ {vs : List V} {ds : List PyData}, Rs K W vs ds → Rs K U vs ds
  | _, _, .nil => .nil
  | _, _, .cons h t => .cons (R.stp l k h) (Rs.stp l k t)
end
theorem Rs.length : ∀ {vs : List V} {ds : List PyData}, Rs K W vs ds → vs.length = ds.length
  | _, _, .nil => rfl
  | _, _, .cons _ t => congrArg Nat.succ (Rs.length t)
theorem Rs.append : ∀ {vs ws : List V} {ds es : List PyData}, Rs K W vs ds → Rs K W ws es → Rs K W (vs ++ ws) (ds ++ es)
  | _, _, _, _, .nil, h => h
  | _, _, _, _, .cons h t, q => .cons h (Rs.append t q)
theorem Rs.get : ∀ {vs : List V} {ds : List PyData} {i : Nat} {d : PyData}, Rs K W vs ds → ds[i]? = some d → ∃ v, vs[i]? = some v ∧ R K W v d
  | _, _, _, _, .nil, e => by simp at e
  | _, _, 0, _, .cons h _, e => by simp at e; subst e; exact ⟨_, rfl, h⟩
  | _, _, i + 1, d, .cons _ t, e => by
    obtain ⟨v, h1, h2⟩ := Rs.get (i := i) (d := d) t (by simpa using e)
    exact ⟨v, by simpa using h1, h2⟩
theorem Rs.getV : ∀ {vs : List V} {ds : List PyData} {i : Nat} {v : V}, Rs K W vs ds → vs[i]? = some v → ∃ d, ds[i]? = some d ∧ R K W v d
  | _, _, _, _, .nil, e => by simp at e
  | _, _, 0, _, .cons h _, e => by simp at e; subst e; exact ⟨_, rfl, h⟩
  | _, _, i + 1, v, .cons _ t, e => by
    obtain ⟨d, h1, h2⟩ := Rs.getV (i := i) (v := v) t (by simpa using e)
    exact ⟨d, by simpa using h1, h2⟩
theorem Rs.drop : ∀ {vs : List V} {ds : List PyData} (n : Nat), Rs K W vs ds → Rs K W (vs.drop n) (ds.drop n)
  | _, _, 0, h => h
  | _, _, _ + 1, .nil => .nil
  | _, _, n + 1, .cons _ t => Rs.drop n t
theorem Rs.take : ∀ {vs : List V} {ds : List PyData} (n : Nat), Rs K W vs ds → Rs K W (vs.take n) (ds.take n)
  | _, _, 0, _ => .nil
  | _, _, _ + 1, .nil => .nil
  | _, _, n + 1, .cons h t => .cons h (Rs.take n t)
end

/-! ### what a name may stand for -/
inductive DV where
  | d (x : PyData)
  | scr (ns : List Int)
  | vat
inductive RD (K : Fg) (W : Wd) : V → DV → Prop
  | d {v : V} {x : PyData} : R K W v x → RD K W v (.d x)
  | scr {a : Addr} {ns : List Int} : ((∃ o, W.H a = some (.frz o (.lst (ns.map V.int)))) ∨ ∃ (o : Obj) (its : Array Value) (n : Nat), K.lookup a = some o ∧ o.cls = .type "list" ∧ o.dict = none ∧ o.data = .seq its n ∧ its.size ≤ sizeLine ∧ Vals (ns.map V.int) its.toList) → RD K W (.ref a) (.scr ns)
  | vat {a : Addr} : W.V a → RD K W (.ref a) .vat
inductive RDs (K : Fg) (W : Wd) : List V → List DV → Prop
  | nil : RDs K W [] []
  | cons {v : V} {vs : List V} {d : DV} {ds : List DV} : RD K W v d → RDs K W vs ds → RDs K W (v :: vs) (d :: ds)
inductive SD where
  | val (x : DV)
  | own (ds : List PyData)
abbrev SDs := List (Option SD)
inductive RSD (K : Fg) (W : Wd) : V → SD → Prop
  | val {v : V} {x : DV} : RD K W v x → RSD K W v (.val x)
  | own {a : Addr} {xs : List V} {ds : List PyData} : W.H a = some (.lst xs) → W.O a → Rs K W xs ds → RSD K W (.ref a) (.own ds)
structure Gd (K : Fg) (W : Wd) (σ : L2.St) (τ : SDs) : Prop where
  len : τ.length = σ.length
  get : ∀ (i : Nat) (x : SD), τ[i]? = some (some x) → ∃ v, σ[i]? = some (some v) ∧ RSD K W v x
  uni : ∀ (i j : Nat) (a : Addr) (xs ys : List PyData), τ[i]? = some (some (.own xs)) → τ[j]? = some (some (.own ys)) → σ[i]? = some (some (.ref a)) → σ[j]? = some (some (.ref a)) → i = j
section
variable {K : Fg} {W U : Wd}
theorem RD.stp (l : Stp W U) (k : W.Ok) {v : V} {d : DV} (h : RD K W v d) : RD K U v d := by
  cases h with
  | d h => exact .d (h.stp l k)
  | scr h =>
    rcases h with ⟨o, h⟩ | h
    · exact .scr (.inl ⟨o, l.keepN k _ _ h fun _ z => by cases z⟩)
    · exact .scr (.inr h)
  | vat h => exact .vat (l.v1 _ h)
theorem RDs.stp (l : Stp W U) (k : W.Ok) : ∀ {vs : List V} {ds : List DV}, RDs K W vs ds → RDs K U vs ds
  | _, _, .nil => .nil
  | _, _, .cons h t => .cons (h.stp l k) (RDs.stp l k t)
theorem RSD.le (l : Le W U) (k : W.Ok) {v : V} {d : SD} (h : RSD K W v d) : RSD K U v d := by
  cases h with
  | val h => exact .val (h.stp l.stp k)
  | own e o h => exact .own (l.ext _ _ e (k.ov o)) (by rw [l.o]; exact o) (h.stp l.stp k)
theorem Gd.le (l : Le W U) (k : W.Ok) {σ : L2.St} {τ : SDs} (h : Gd K W σ τ) : Gd K U σ τ :=
  ⟨h.len, fun i x e => by
    obtain ⟨v, h1, h2⟩ := h.get i x e
    exact ⟨v, h1, h2.le l k⟩, h.uni⟩
theorem RDs.length : ∀ {vs : List V} {ds : List DV}, RDs K W vs ds → vs.length = ds.length
  | _, _, .nil => rfl
  | _, _, .cons _ t => congrArg Nat.succ (RDs.length t)
/-- the data of a list of values, if all are data -/
def datas : List DV → Option (List PyData)
  | [] => some []
  | .d x :: r => (datas r).map (x :: ·)
  | _ :: _ => none
theorem RDs.datas : ∀ {vs : List V} {ds : List DV} {xs : List PyData}, RDs K W vs ds → datas ds = some xs → Rs K W vs xs
  | _, _, _, .nil, e => by
    have : [] = _ := Option.some.inj e
    subst this
    exact .nil
  | _, _, _, .cons (ds := r) (.d h) t, e => by
    obtain ⟨ys, e1, e2⟩ := Option.map_eq_some_iff.mp e
    subst e2
    exact .cons h (RDs.datas t e1)
  | _, _, _, .cons (.scr _) _, e => by cases e
  | _, _, _, .cons (.vat _) _, e => by cases e
/-- a new object is laid -/
theorem lay {p : Addr} {o : HO} (k : W.Ok) (n : W.H p = none) : Le W { W with H := upd W.H p o } ∧ ({ W with H := upd W.H p o } : Wd).Ok := by
  have ne : ∀ {a : Addr} {u : HO}, W.H a = some u → upd W.H p o a = some u := fun {a u} e => by rw [upd_ne (ne_of_none e n)]; exact e
  refine ⟨⟨fun a u e _ => ne e, fun _ h => h, fun _ h => .inl h, fun _ h => h, fun _ h => .inl h, rfl⟩, ⟨fun a h => ?_, fun a h => ?_, fun a h => ?_, k.oa⟩⟩
  · obtain ⟨h1, c, hh, m, e, r⟩ := k.va a h
    exact ⟨h1, c, hh, m, ne e, r⟩
  · obtain ⟨u, e⟩ := k.at_ a h
    exact ⟨u, ne e⟩
  · obtain ⟨xs, e⟩ := k.ot a h
    exact ⟨xs, ne e⟩
theorem lay_tup {p : Addr} {vs : List V} {ds : List PyData} (k : W.Ok) (n : W.H p = none) (h : Rs K W vs ds) : R K { W with H := upd W.H p (.tup vs) } (.ref p) (.tuple ds) :=
  .tup (.inl (.inl upd_same)) (h.stp (lay k n).1.stp k)
theorem lay_lst {p : Addr} {vs : List V} {ds : List PyData} (k : W.Ok) (n : W.H p = none) (h : Rs K W vs ds) : R K { W with H := upd W.H p (.lst vs) } (.ref p) (.list ds) :=
  .lst upd_same (fun z => by
    obtain ⟨u, e⟩ := k.at_ p z
    exact some_ne e n) (fun z => by
    obtain ⟨u, e⟩ := k.ot p z
    exact some_ne e n) (h.stp (lay k n).1.stp k)
end
end Pf

namespace Pf
open PySem PySem.Spec PyProof.Rows L2

/-! ### the small language -/
inductive BOp where | add | sub | mul | div | mod | pow | shl
inductive COp where | lt | le | gt | ge | eq | ne | inn | notin | iss | isnt
inductive Bi where | len | abs | int | sum | all | any | max2 | min2 | divmod | tuple | list | repr | gcd2 | gcd3 | isqrt | max1 | min1
mutual
inductive Tg where
  | one (i : Nat)
  | many (is : List Nat)
  | nest (ts : Tgs)
inductive Tgs where
  | nil
  | cons (t : Tg) (ts : Tgs)
end
mutual
inductive RE where
  | con (d : PyData)
  | var (i : Nat)
  | tup (es : RA)
  | lst (es : RA)
  | dic
  | bin (op : BOp) (a b : RE)
  | neg (a : RE)
  | notV (a : RE)
  | andV (a b : RE)
  | orV (a b : RE)
  | cmp (op : COp) (a b : RE)
  | isN (a : RE)
  | notN (a : RE)
  | ite (t : RT) (a b : RE)
  | idx (a b : RE)
  | slc (a : RE) (lo hi : RO)
  | call (f : Nat) (es : RA)
  | callK (f n m : Nat) (pm : List Nat) (es ks : RA)
  | bi (b : Bi) (es : RA)
  | isi (a : RE) (T : String)
  | lc (wp : List Nat) (tg : Tg) (it : RI) (t : RT) (e : RE)
  | ixf (a b : RE)
  | bits (a : RE)
  | look (kvs : List (PyData × PyData)) (a : RE)
inductive RA where
  | nil
  | cons (e : RE) (es : RA)
inductive RT where
  | yes
  | val (e : RE)
  | bl (e : RE)
  | not (t : RT)
  | and (t u : RT)
  | or (t u : RT)
inductive RO where
  | none
  | some (e : RE)
inductive RI where
  | seq (e : RE)
  | rng (a : RE)
  | rng2 (a b : RE)
  | enm (e : RE)
  | zip (a b : RE)
end
/-- a value or a list that will grow -/
inductive RX where
  | e (x : RE)
  | l (es : RA)
inductive RS where
  | asg (i : Nat) (e : RE)
  | own (i : Nat) (es : RA)
  | asgT (tg : Tg) (e : RE)
  | par (is : List Nat) (es : RA)
  | parX (is : List Nat) (xs : List RX)
  | app (i : Nat) (e : RE)
  | frz (i : Nat) (s : RS)
  | setV (i j : Nat) (e : RE)
  | setV2 (i j x : Nat) (e : RE)
  | ret (e : RE)
  | retV (es : RA)
  | retN
  | iff (t : RT) (a b : RS)
  | iffz (is : List Nat) (t : RT) (a b : RS)
  | whl (t : RT) (b : RS)
  | «for» (tg : Tg) (it : RI) (b : RS)
  | exp (e : RE)
  | brk
  | cnt
  | skip
  | fail
  | aug (i : Nat) (e : RE)
  | seq (s u : RS)

/-! ### what it means, over plain data -/
abbrev PSp := List DV → (DV → Prop) → Prop
def dint : DV → (Int → Prop) → Prop
  | .d (.int i), Q => Q i
  | _, _ => False
def dbool : DV → (Bool → Prop) → Prop
  | .d (.bool i), Q => Q i
  | _, _ => False
def seqOf : DV → Option (List PyData)
  | .d (.list xs) => some xs
  | .d (.tuple xs) => some xs
  | _ => none
def mx : Nat := 100000
def wBin : BOp → DV → DV → (DV → Prop) → Prop
  | .add, .d (.int i), .d (.int j), Q => Q (.d (.int (i + j)))
  | .add, .d (.list xs), .d (.list ys), Q => xs.length + ys.length ≤ mx ∧ Q (.d (.list (xs ++ ys)))
  | .add, .d (.tuple xs), .d (.tuple ys), Q => xs ≠ [] ∧ xs.length + ys.length ≤ mx ∧ Q (.d (.tuple (xs ++ ys)))
  | .add, .d (.str x), .d (.str y), Q => x.length + y.length ≤ mx ∧ Q (.d (.str (x ++ y)))
  | .sub, .d (.int i), .d (.int j), Q => Q (.d (.int (i - j)))
  | .mul, .d (.int i), .d (.int j), Q => (CMul i j ∨ CMulW i j) ∧ Q (.d (.int (i * j)))
  | .mul, .d (.list xs), .d (.int j), Q => -1000 ≤ j ∧ j ≤ 1000 ∧ xs.length ≤ 100 ∧ Q (.d (.list (List.replicate j.toNat xs).flatten))
  | .div, .d (.int i), .d (.int j), Q => CDivW i j ∧ Q (.d (.int (i / j)))
  | .mod, .d (.int i), .d (.int j), Q => 0 < j ∧ Q (.d (.int (i % j)))
  | .pow, .d (.int i), .d (.int j), Q => CPow i j ∧ Q (.d (.int (i ^ j.toNat)))
  | .shl, .d (.int i), .d (.int j), Q => CShl i j ∧ Q (.d (.int (i * 2 ^ j.toNat)))
  | _, _, _, _ => False
def flatD : PyData → Bool
  | .none => true
  | .bool _ => true
  | .int _ => true
  | .str _ => true
  | _ => false
def wCmp : COp → DV → DV → (DV → Prop) → Prop
  | .lt, .d (.int i), .d (.int j), Q => Q (.d (.bool (decide (i < j))))
  | .le, .d (.int i), .d (.int j), Q => Q (.d (.bool (decide (i ≤ j))))
  | .gt, .d (.int i), .d (.int j), Q => Q (.d (.bool (decide (j < i))))
  | .ge, .d (.int i), .d (.int j), Q => Q (.d (.bool (decide (j ≤ i))))
  | .eq, .d (.int i), .d (.int j), Q => Q (.d (.bool (decide (i = j))))
  | .ne, .d (.int i), .d (.int j), Q => Q (.d (.bool (!decide (i = j))))
  | .eq, .d (.str i), .d (.str j), Q => Q (.d (.bool (decide (i = j))))
  | .ne, .d (.str i), .d (.str j), Q => Q (.d (.bool (!decide (i = j))))
  | .eq, .d x, .d y, Q => SeqAt.shaped x = true ∧ SeqAt.shaped y = true ∧ Q (.d (.bool (PyData.eqv x y)))
  | .ne, .d x, .d y, Q => SeqAt.shaped x = true ∧ SeqAt.shaped y = true ∧ Q (.d (.bool (!PyData.eqv x y)))
  | .inn, .d (.tuple x), y, Q => ∃ ys, (y = .d (.tuple ys) ∨ y = .d (.list ys)) ∧ SeqAt.shaped (.tuple x) = true ∧ SeqAt.shaped (.tuple ys) = true ∧ Q (.d (.bool (ys.any fun z => PyData.eqv z (.tuple x))))
  | .notin, .d (.tuple x), y, Q => ∃ ys, (y = .d (.tuple ys) ∨ y = .d (.list ys)) ∧ SeqAt.shaped (.tuple x) = true ∧ SeqAt.shaped (.tuple ys) = true ∧ Q (.d (.bool (!ys.any fun z => PyData.eqv z (.tuple x))))
  | .inn, .d x, y, Q => ∃ ys, seqOf y = some ys ∧ flatD x = true ∧ ys.all flatD = true ∧ Q (.d (.bool (ys.any fun z => PyData.eqv z x)))
  | .notin, .d x, y, Q => ∃ ys, seqOf y = some ys ∧ flatD x = true ∧ ys.all flatD = true ∧ Q (.d (.bool (!ys.any fun z => PyData.eqv z x)))
  | .iss, .d (.bool i), .d (.bool j), Q => Q (.d (.bool (decide (i = j))))
  | .isnt, .d (.bool i), .d (.bool j), Q => Q (.d (.bool (!decide (i = j))))
  | _, _, _, _ => False
/-- what may stand at a vat's places -/
def VatZ (j : Nat) (z : Int) : Prop := 0 ≤ z ∧ (j = 1 → z < 2147483489)
def wIdx : DV → DV → (DV → Prop) → Prop
  | .vat, .d (.int i), Q => 0 ≤ i ∧ i < 3 ∧ ∀ z, VatZ i.toNat z → Q (.d (.int z))
  | .scr ns, .d (.int i), Q => ∃ n, atI ns i = some n ∧ Q (.d (.int n))
  | .d (.list xs), .d (.int i), Q => ∃ x, atI xs i = some x ∧ Q (.d x)
  | .d (.tuple xs), .d (.int i), Q => ∃ x, atI xs i = some x ∧ Q (.d x)
  | _, _, _ => False
def cutD {α : Type} (xs : List α) (lo hi : Option Int) : List α := (xs.drop (HT.sIx xs.length 0 lo)).take (HT.sIx xs.length xs.length hi - HT.sIx xs.length 0 lo)
def wSlc : DV → Option Int → Option Int → (DV → Prop) → Prop
  | .scr ns, lo, hi, Q => Q (.d (.list ((cutD ns lo hi).map PyData.int)))
  | .d (.list xs), lo, hi, Q => Q (.d (.list (cutD xs lo hi)))
  | .d (.tuple xs), lo, hi, Q => (cutD xs lo hi).length < xs.length ∧ Q (.d (.tuple (cutD xs lo hi)))
  | _, _, _, _ => False
def intsD : List PyData → Option (List Int)
  | [] => some []
  | .int i :: r => (intsD r).map (i :: ·)
  | _ => none
def boolsD : List PyData → Option (List Bool)
  | [] => some []
  | .bool i :: r => (boolsD r).map (i :: ·)
  | _ => none
def lenD : DV → Option Nat
  | .scr ns => some ns.length
  | .d (.list xs) => some xs.length
  | .d (.tuple xs) => some xs.length
  | _ => none
def wBi : Bi → List DV → (DV → Prop) → Prop
  | .len, [x], Q => ∃ n, lenD x = some n ∧ Q (.d (.int n))
  | .abs, [.d (.int i)], Q => Q (.d (.int (if i < 0 then -i else i)))
  | .int, [.d (.int i)], Q => Q (.d (.int i))
  | .int, [.d (.bool b)], Q => Q (.d (.int (if b = true then 1 else 0)))
  | .sum, [.d (.list xs)], Q => ∃ ns, intsD xs = some ns ∧ Q (.d (.int ns.sum))
  | .all, [.d (.list xs)], Q => ∃ bs, boolsD xs = some bs ∧ Q (.d (.bool (bs.all id)))
  | .any, [.d (.list xs)], Q => ∃ bs, boolsD xs = some bs ∧ Q (.d (.bool (bs.any id)))
  | .max2, [.d (.int i), .d (.int j)], Q => Q (.d (.int (if j > i then j else i)))
  | .min2, [.d (.int i), .d (.int j)], Q => Q (.d (.int (if j < i then j else i)))
  | .divmod, [.d (.int i), .d (.int j)], Q => CDiv i j ∧ Q (.d (.tuple [.int (i / j), .int (i % j)]))
  | .tuple, [.d (.list xs)], Q => Q (.d (.tuple xs))
  | .tuple, [.d (.tuple xs)], Q => Q (.d (.tuple xs))
  | .list, [.d (.list xs)], Q => Q (.d (.list xs))
  | .list, [.d (.tuple xs)], Q => Q (.d (.list xs))
  | .repr, [.d (.list xs)], Q => (PyData.list xs).showable = true ∧ (PyData.list xs).hasDict = false ∧ (PyData.list xs).depth ≤ 40 ∧ (PyData.list xs).shown.length ≤ sizeLine ∧ Q (.d (.str (PyData.list xs).shown))
  | .repr, [.d (.tuple xs)], Q => (PyData.tuple xs).showable = true ∧ (PyData.tuple xs).hasDict = false ∧ (PyData.tuple xs).depth ≤ 40 ∧ (PyData.tuple xs).shown.length ≤ sizeLine ∧ Q (.d (.str (PyData.tuple xs).shown))
  | .repr, [.d (.bool b)], Q => Q (.d (.str (PyData.bool b).shown))
  | .gcd2, [.d (.int i), .d (.int j)], Q => Q (.d (.int ((Nat.gcd i.natAbs j.natAbs : Nat) : Int)))
  | .gcd3, [.d (.int i), .d (.int j), .d (.int k)], Q => Q (.d (.int ((Nat.gcd (Nat.gcd i.natAbs j.natAbs) k.natAbs : Nat) : Int)))
  | .max1, [.d (.list xs)], Q => ∃ ns, intsD xs = some ns ∧ 0 < ns.length ∧ ∀ m, m ∈ ns → (∀ y, y ∈ ns → y ≤ m) → Q (.d (.int m))
  | .min1, [.d (.list xs)], Q => ∃ ns, intsD xs = some ns ∧ 0 < ns.length ∧ ∀ m, m ∈ ns → (∀ y, y ∈ ns → m ≤ y) → Q (.d (.int m))
  | .isqrt, [.d (.int i)], Q => 0 ≤ i ∧ i < 2 ^ 13000 ∧ Q (.d (.int ((Float64.isqrt i.toNat : Nat) : Int)))
  | _, _, _ => False
/-- the name of a value's built-in type -/
def tyD : PyData → String
  | .none => "NoneType"
  | .bool _ => "bool"
  | .int _ => "int"
  | .str _ => "str"
  | .list _ => "list"
  | .tuple _ => "tuple"
  | .dict _ => "dict"
def wIsi (x : DV) (T : String) (Q : DV → Prop) : Prop := match x with
  | .d y => ∃ b, kitB (tyD y) T = some b ∧ Q (.d (.bool b))
  | _ => False
def truD : PyData → Option Bool
  | .none => some false
  | .bool b => some b
  | .int i => some (i != 0)
  | .list xs => some (!xs.isEmpty)
  | .tuple xs => some (!xs.isEmpty)
  | _ => none
/-- what is walked, item by item -/
def itemsD : DV → Option (List DV)
  | .scr ns => some (ns.map fun n => .d (.int n))
  | .d (.list xs) => some (xs.map .d)
  | .d (.tuple xs) => some (xs.map .d)
  | _ => none
def rngD (lo : Int) (n : Nat) : List DV := (List.range n).map fun (i : Nat) => DV.d (.int (lo + (i : Int)))
def setAll (τ : SDs) : List Nat → List PyData → SDs
  | i :: is, x :: xs => setAll (τ.set i (some (.val (.d x)))) is xs
  | _, _ => τ
def Tgs.len : Tgs → Nat
  | .nil => 0
  | .cons _ ts => ts.len + 1
mutual
def wTg : Tg → DV → SDs → (SDs → Prop) → Prop
  | .one i, x, τ, Q => Q (τ.set i (some (.val x)))
  | .many is, .d (.tuple xs), τ, Q => xs.length = is.length ∧ Q (setAll τ is xs)
  | .many is, .d (.list xs), τ, Q => xs.length = is.length ∧ Q (setAll τ is xs)
  | .nest ts, .d (.tuple xs), τ, Q => xs.length = ts.len ∧ wTgs ts xs τ Q
  | _, _, _, _ => False
def wTgs : Tgs → List PyData → SDs → (SDs → Prop) → Prop
  | .nil, [], τ, Q => Q τ
  | .cons t ts, x :: xs, τ, Q => wTg t (.d x) τ fun τ2 => wTgs ts xs τ2 Q
  | _, _, _, _ => False
end
mutual
def Tg.slots : Tg → List Nat
  | .one i => [i]
  | .many is => is
  | .nest ts => ts.slots
def Tgs.slots : Tgs → List Nat
  | .nil => []
  | .cons t ts => t.slots ++ ts.slots
end
def enmD : Nat → List PyData → List DV
  | _, [] => []
  | n, x :: r => .d (.tuple [.int (n : Int), x]) :: enmD (n + 1) r
def zipD : List PyData → List PyData → List DV
  | x :: xs, y :: ys => .d (.tuple [x, y]) :: zipD xs ys
  | _, _ => []
/-- the first place of an equal one -/
def ixfD (xs : List PyData) : DV → (DV → Prop) → Prop
  | .d y, Q => SeqAt.shaped (.list xs) = true ∧ SeqAt.shaped y = true ∧ ∃ (j : Nat) (z : PyData), xs[j]? = some z ∧ PyData.eqv z y = true ∧ (∀ (m : Nat) (z' : PyData), m < j → xs[m]? = some z' → PyData.eqv z' y = false) ∧ Q (.d (.int (j : Nat)))
  | _, _ => False
/-- a table's value -/
def lookD : List (PyData × PyData) → DV → (DV → Prop) → Prop
  | (.int i, d) :: r, .d (.int j), Q => if i = j then Q (.d d) else lookD r (.d (.int j)) Q
  | (.str i, d) :: r, .d (.str j), Q => if i = j then Q (.d d) else lookD r (.d (.str j)) Q
  | _, _, _ => False
def wipeD (τ : SDs) : List Nat → SDs
  | [] => τ
  | v :: vs => (wipeD τ vs).set v none
def goLc (turn : DV → (Option PyData → Prop) → Prop) : List DV → List PyData → (List PyData → Prop) → Prop
  | [], acc, Q => Q acc
  | x :: r, acc, Q => turn x fun o => goLc turn r (acc ++ o.toList) Q
def perm (pm : List Nat) (rs : List DV) : List DV := pm.filterMap fun i => rs[i]?
section
variable (Φ : Nat → PSp)
mutual
def wE : RE → SDs → (DV → Prop) → Prop
  | .con d, _, Q => Q (.d d)
  | .var i, τ, Q => match τ[i]? with
    | some (some (.val x)) => Q x
    | _ => False
  | .tup es, τ, Q => wA es τ fun rs => ∃ ds, datas rs = some ds ∧ ds.length ≤ mx ∧ Q (.d (.tuple ds))
  | .lst es, τ, Q => wA es τ fun rs => ∃ ds, datas rs = some ds ∧ ds.length ≤ mx ∧ Q (.d (.list ds))
  | .dic, _, Q => Q (.d (.dict []))
  | .bin op a b, τ, Q => wE a τ fun x => wE b τ fun y => wBin op x y Q
  | .neg a, τ, Q => wE a τ fun x => dint x fun i => Q (.d (.int (-i)))
  | .notV a, τ, Q => wE a τ fun x => dbool x fun b => Q (.d (.bool (!b)))
  | .andV a b, τ, Q => wE a τ fun x => dbool x fun c => if c = true then wE b τ Q else Q (.d (.bool false))
  | .orV a b, τ, Q => wE a τ fun x => dbool x fun c => if c = true then Q (.d (.bool true)) else wE b τ Q
  | .cmp op a b, τ, Q => wE a τ fun x => wE b τ fun y => wCmp op x y Q
  | .isN a, τ, Q => wE a τ fun x => match x with
    | .d y => Q (.d (.bool (match y with | .none => true | _ => false)))
    | _ => False
  | .notN a, τ, Q => wE a τ fun x => match x with
    | .d y => Q (.d (.bool (match y with | .none => false | _ => true)))
    | _ => False
  | .ite t a b, τ, Q => wT t τ fun c => if c = true then wE a τ Q else wE b τ Q
  | .idx a b, τ, Q => wE a τ fun x => wE b τ fun y => wIdx x y Q
  | .slc a lo hi, τ, Q => wE a τ fun x => wO lo τ fun l => wO hi τ fun h => wSlc x l h Q
  | .call f es, τ, Q => wA es τ fun rs => Φ f rs Q
  | .callK f n m pm es ks, τ, Q => wA es τ fun rs => rs.length = n ∧ wA ks τ fun zs => zs.length = m ∧ Φ f (perm pm (rs ++ zs)) Q
  | .bi b es, τ, Q => wA es τ fun rs => wBi b rs Q
  | .isi a T, τ, Q => wE a τ fun x => wIsi x T Q
  | .lc wp tg it t e, τ, Q => wI it τ fun xs => xs.length ≤ mx ∧ goLc (fun x k => wTg tg x (wipeD τ wp) fun τ2 => wT t τ2 fun b => if b = true then wE e τ2 fun r => match r with
      | .d y => k (some y)
      | _ => False
    else k none) xs [] fun ys => Q (.d (.list ys))
  | .ixf a b, τ, Q => wE a τ fun x => ∃ xs, x = .d (.list xs) ∧ wE b τ fun y => ixfD xs y Q
  | .bits a, τ, Q => wE a τ fun x => dint x fun i => Q (.d (.int (Builtin.Int.intBits i : Nat)))
  | .look kvs a, τ, Q => wE a τ fun x => lookD kvs x Q
def wA : RA → SDs → (List DV → Prop) → Prop
  | .nil, _, Q => Q []
  | .cons e es, τ, Q => wE e τ fun x => wA es τ fun xs => Q (x :: xs)
def wT : RT → SDs → (Bool → Prop) → Prop
  | .yes, _, Q => Q true
  | .val e, τ, Q => wE e τ fun x => match x with
    | .d y => ∃ b, truD y = some b ∧ Q b
    | _ => False
  | .bl e, τ, Q => wE e τ fun x => dbool x Q
  | .not t, τ, Q => wT t τ fun b => Q (!b)
  | .and t u, τ, Q => wT t τ fun b => if b = true then wT u τ Q else Q false
  | .or t u, τ, Q => wT t τ fun b => if b = true then Q true else wT u τ Q
def wO : RO → SDs → (Option Int → Prop) → Prop
  | .none, _, Q => Q none
  | .some e, τ, Q => wE e τ fun x => dint x fun i => Q (some i)
def wI : RI → SDs → (List DV → Prop) → Prop
  | .seq e, τ, Q => wE e τ fun x => ∃ xs, itemsD x = some xs ∧ Q xs
  | .rng a, τ, Q => wE a τ fun x => dint x fun n => n < 2 ^ 62 ∧ -(2 ^ 62) ≤ n ∧ Q (rngD 0 n.toNat)
  | .rng2 a b, τ, Q => wE a τ fun x => wE b τ fun y => dint x fun m => dint y fun n => (-(2 ^ 62) ≤ m ∧ m < 2 ^ 62 ∧ -(2 ^ 62) ≤ n ∧ n < 2 ^ 62) ∧ Q (rngD m (n - m).toNat)
  | .enm e, τ, Q => wE e τ fun x => ∃ xs, seqOf x = some xs ∧ Q (enmD 0 xs)
  | .zip a b, τ, Q => wE a τ fun x => wE b τ fun y => match x, y with
    | .d (.list xs), .d (.list ys) => Q (zipD xs ys)
    | .d (.tuple xs), .d (.tuple ys) => Q (zipD xs ys)
    | _, _ => False
end
end
structure PD where
  nx : SDs → Prop
  rt : DV → Prop
  bk : SDs → Prop := fun _ => False
  ct : SDs → Prop := fun _ => False
def goFor (turn : DV → SDs → (SDs → Prop) → Prop) (nx : SDs → Prop) : List DV → SDs → Prop
  | [], τ => nx τ
  | x :: r, τ => turn x τ fun τ2 => goFor turn nx r τ2
def goWh (turn : SDs → (SDs → Prop) → Prop) : Nat → SDs → Prop
  | 0, _ => False
  | n + 1, τ => turn τ fun τ2 => goWh turn n τ2
def frzD (τ : SDs) (i : Nat) : SDs := match τ[i]? with
  | some (some (.own ds)) => τ.set i (some (.val (.d (.list ds))))
  | _ => τ
def frzs (τ : SDs) (is : List Nat) : SDs := is.foldl frzD τ
def setVals (τ : SDs) : List Nat → List DV → SDs
  | i :: is, x :: xs => setVals (τ.set i (some (.val x))) is xs
  | _, _ => τ
def setSD (τ : SDs) : List Nat → List SD → SDs
  | i :: is, x :: xs => setSD (τ.set i (some x)) is xs
  | _, _ => τ
def wXs (Φ : Nat → PSp) : List RX → SDs → (List SD → Prop) → Prop
  | [], _, Q => Q []
  | .e x :: r, τ, Q => wE Φ x τ fun d => wXs Φ r τ fun ys => Q (.val d :: ys)
  | .l es :: r, τ, Q => wA Φ es τ fun rs => ∃ ds, datas rs = some ds ∧ ds.length ≤ mx ∧ wXs Φ r τ fun ys => Q (.own ds :: ys)
section
variable (Φ : Nat → PSp)
def wS : RS → PD → SDs → Prop
  | .asg i e, D, τ => wE Φ e τ fun r => D.nx (τ.set i (some (.val r)))
  | .own i es, D, τ => wA Φ es τ fun rs => ∃ ds, datas rs = some ds ∧ ds.length ≤ mx ∧ D.nx (τ.set i (some (.own ds)))
  | .asgT tg e, D, τ => wE Φ e τ fun r => wTg tg r τ D.nx
  | .par is es, D, τ => wA Φ es τ fun rs => rs.length = is.length ∧ D.nx (setVals τ is rs)
  | .parX is xs, D, τ => wXs Φ xs τ fun rs => rs.length = is.length ∧ D.nx (setSD τ is rs)
  | .app i e, D, τ => match τ[i]? with
    | some (some (.own ds)) => wE Φ e τ fun r => match r with
      | .d y => ds.length < mx ∧ D.nx (τ.set i (some (.own (ds ++ [y]))))
      | _ => False
    | _ => False
  | .frz i s, D, τ => wS s D (frzD τ i)
  | .setV i j e, D, τ => j < 3 ∧ wE Φ e τ fun r => match r, τ[i]? with
    | .d (.int z), some (some (.val .vat)) => VatZ j z ∧ D.nx τ
    | _, _ => False
  | .setV2 i j x e, D, τ => j < 3 ∧ wE Φ e τ fun r => match r, τ[i]? with
    | .d (.tuple [.int z, y]), some (some (.val .vat)) => VatZ j z ∧ D.nx (τ.set x (some (.val (.d y))))
    | _, _ => False
  | .ret e, D, τ => wE Φ e τ D.rt
  | .retV es, D, τ => wA Φ es τ fun rs => match rs with
    | [.d (.int c), .d (.int h), .d (.int n)] => 0 ≤ c ∧ 0 ≤ h ∧ h < 2147483489 ∧ 0 ≤ n ∧ D.rt .vat
    | _ => False
  | .retN, D, _ => D.rt (.d .none)
  | .iff t a b, D, τ => wT Φ t τ fun c => if c = true then wS a D τ else wS b D τ
  | .iffz is t a b, D, τ => wT Φ t (frzs τ is) fun c => if c = true then wS a D τ else wS b D τ
  | .whl t b, D, τ => ∃ n, goWh (fun τ1 k => wT Φ t τ1 fun c => if c = true then wS b { D with nx := k, ct := k, bk := D.nx } τ1 else D.nx τ1) n τ
  | .for tg it b, D, τ => wI Φ it τ fun xs => goFor (fun x τ1 k => wTg tg x τ1 fun τ2 => wS b { D with nx := k, ct := k, bk := D.nx } τ2) D.nx xs τ
  | .exp e, D, τ => wE Φ e τ fun _ => D.nx τ
  | .brk, D, τ => D.bk τ
  | .cnt, D, τ => D.ct τ
  | .skip, D, τ => D.nx τ
  | .fail, _, _ => False
  | .aug i e, D, τ => match τ[i]? with
    | some (some (.val (.d (.int a)))) => wE Φ e τ fun r => dint r fun b => D.nx (τ.set i (some (.val (.d (.int (a + b))))))
    | _ => False
  | .seq s u, D, τ => wS s { D with nx := fun τ2 => wS u D τ2 } τ
end
end Pf

namespace Pf
open PySem PySem.Spec PyProof.Rows L2
section
variable {X : Cx} {K : Fg}

/-! ### readings from plain meanings -/
def trE (K : Fg) (w : SDs → (DV → Prop) → Prop) : TE := fun σ H Q => ∃ W τ R, W.H = H ∧ W.Ok ∧ Gd K W σ τ ∧ w τ R ∧ ∀ r v U, R r → U.Ok → Le W U → RD K U v r → Q v U.H
def trA (K : Fg) (w : SDs → (List DV → Prop) → Prop) : TA := fun σ H Q => ∃ W τ R, W.H = H ∧ W.Ok ∧ Gd K W σ τ ∧ w τ R ∧ ∀ r v U, R r → U.Ok → Le W U → RDs K U v r → Q v U.H
def trT (K : Fg) (w : SDs → (Bool → Prop) → Prop) : TT := fun σ H Q => ∃ W τ R, W.H = H ∧ W.Ok ∧ Gd K W σ τ ∧ w τ R ∧ ∀ r U, R r → U.Ok → Le W U → Q r U.H
def trO (K : Fg) (w : SDs → (Option Int → Prop) → Prop) : TO := fun σ H Q => ∃ W τ R, W.H = H ∧ W.Ok ∧ Gd K W σ τ ∧ w τ R ∧ ∀ r U, R r → U.Ok → Le W U → Q r U.H
theorem pE_imp {e : Expr} {t u : TE} (h : PE X e t) (i : ∀ σ H Q, u σ H Q → t σ H Q) : PE X e u := ⟨fun p s σ H Q I q => h.run p s σ H Q I (i _ _ _ q)⟩
theorem pT_imp {e : Expr} {t u : TT} (h : PT X e t) (i : ∀ σ H Q, u σ H Q → t σ H Q) : PT X e u := ⟨fun p s σ H Q I q => h.run p s σ H Q I (i _ _ _ q)⟩
theorem pW_imp {e : Expr} {t u : TT} (h : PW X e t) (i : ∀ σ H Q, u σ H Q → t σ H Q) : PW X e u := ⟨fun w p s σ H Q I q => h.run w p s σ H Q I (i _ _ _ q)⟩
theorem pA_imp {e : List Expr} {t u : TA} (h : PA X e t) (i : ∀ σ H Q, u σ H Q → t σ H Q) : PA X e u := ⟨fun w p s σ H Q I q => h.run w p s σ H Q I (i _ _ _ q)⟩
theorem pS_imp {e : Stmt} {t u : TS} (h : PS X e t) (i : ∀ D σ H, u D σ H → t D σ H) : PS X e u := ⟨fun p s σ H D I q => h.run p s σ H D I (i _ _ _ q)⟩
theorem pSs_imp {e : List Stmt} {t u : TS} (h : PSs X e t) (i : ∀ D σ H, u D σ H → t D σ H) : PSs X e u := ⟨fun p s σ H D I q => h.run p s σ H D I (i _ _ _ q)⟩
/-! ### operators on values -/
def rW2 (K : Fg) (w : DV → DV → (DV → Prop) → Prop) : R2 := fun x y H Q => ∃ W dx dy R, W.H = H ∧ W.Ok ∧ RD K W x dx ∧ RD K W y dy ∧ w dx dy R ∧ ∀ r v U, R r → U.Ok → Le W U → RD K U v r → Q v U.H
def rWs (K : Fg) (w : List DV → (DV → Prop) → Prop) : List V → Hp → VK → Prop := fun xs H Q => ∃ W ds R, W.H = H ∧ W.Ok ∧ RDs K W xs ds ∧ w ds R ∧ ∀ r v U, R r → U.Ok → Le W U → RD K U v r → Q v U.H
theorem bin_imp {wa wb : SDs → (DV → Prop) → Prop} {w : DV → DV → (DV → Prop) → Prop} {σ : L2.St} {H : Hp} {Q : VK}
    (h : trE K (fun τ R => wa τ fun x => wb τ fun y => w x y R) σ H Q) : tOp (rW2 K w) (trE K wa) (trE K wb) σ H Q := by
  obtain ⟨W, τ, R, rfl, k, g, hw, hq⟩ := h
  refine ⟨W, τ, _, rfl, k, g, hw, fun x v U hx k1 l1 rx => ?_⟩
  refine ⟨U, τ, _, rfl, k1, g.le l1 k, hx, fun y u Z hy k2 l2 ry => ?_⟩
  exact ⟨Z, x, y, R, rfl, k2, rx.stp l2.stp k1, ry, hy, fun r z Y hr k3 l3 rz => hq r z Y hr k3 (l1.trans k k1 (l2.trans k1 k2 l3)) rz⟩
theorem sz {n : Nat} (h : n ≤ mx) : n ≤ sizeLine := Nat.le_trans h (by decide)
theorem szl {n : Nat} (h : n < mx) : n < sizeLine := Nat.lt_of_lt_of_le h (by decide)
theorem op_addW : OpR X (binaryOp .Add) (rW2 X.K (wBin .add)) := by
  rintro p s σ H x y v u Q I rx ry ⟨W, dx, dy, R, rfl, k, hx, hy, hw, hq⟩
  cases hx with
  | scr => exact hw.elim
  | vat => exact hw.elim
  | d hx =>
    cases hy with
    | scr => cases hx <;> exact hw.elim
    | vat => cases hx <;> exact hw.elim
    | d hy =>
      cases hx with
      | int i =>
        cases hy with
        | int j => exact op_add p s σ _ _ _ v u Q I rx ry ⟨i, j, rfl, rfl, hq _ _ W hw k (Le.refl W) (.d (.int _))⟩
        | _ => exact hw.elim
      | str i =>
        cases hy with
        | str j => exact op_add_str p s σ _ _ _ v u Q I rx ry ⟨i, j, rfl, rfl, sz hw.1, hq _ _ W hw.2 k (Le.refl W) (.d (.str _))⟩
        | _ => exact hw.elim
      | lst e a o hs =>
        cases hy with
        | lst e' a' o' hs' =>
          exact op_cat p s σ _ _ _ v u Q I rx ry ⟨_, _, _, _, rfl, rfl, e, e', by rw [hs.length, hs'.length]; exact sz hw.1, fun q n => hq _ _ _ hw.2 (lay k n).2 (lay k n).1 (.d (lay_lst k n (hs.append hs')))⟩
        | _ => exact hw.elim
      | tup e hs =>
        cases hy with
        | tup e' hs' =>
          refine op_catT p s σ _ _ _ v u Q I rx ry ⟨_, _, _, _, rfl, rfl, e, e', fun z => ?_, by rw [hs.length, hs'.length]; exact sz hw.2.1, fun z => ?_, fun _ q n => hq _ _ _ hw.2.2 (lay k n).2 (lay k n).1 (.d (lay_tup k n (hs.append hs')))⟩
          · subst z
            cases hs
            exact hw.1 rfl
          · subst z
            cases hs'
            refine hq _ _ W hw.2.2 k (Le.refl W) (.d ?_)
            rw [List.append_nil]
            exact .tup e hs
        | _ => exact hw.elim
      | _ => exact hw.elim
theorem op_subW : OpR X (binaryOp .Sub) (rW2 X.K (wBin .sub)) := by
  rintro p s σ H x y v u Q I rx ry ⟨W, dx, dy, R, rfl, k, hx, hy, hw, hq⟩
  cases hx with
  | d hx =>
    cases hy with
    | d hy =>
      cases hx with
      | int i =>
        cases hy with
        | int j => exact op_sub p s σ _ _ _ v u Q I rx ry ⟨i, j, rfl, rfl, hq _ _ W hw k (Le.refl W) (.d (.int _))⟩
        | _ => exact hw.elim
      | _ => exact hw.elim
    | _ => cases hx <;> exact hw.elim
  | _ => exact hw.elim
theorem op_mulWW : OpR X (binaryOp .Mult) (rW2 X.K (wBin .mul)) := by
  rintro p s σ H x y v u Q I rx ry ⟨W, dx, dy, R, rfl, k, hx, hy, hw, hq⟩
  cases hx with
  | d hx =>
    cases hy with
    | d hy =>
      cases hx with
      | int i =>
        cases hy with
        | int j =>
          rcases hw.1 with h | h
          · exact op_mul p s σ _ _ _ v u Q I rx ry ⟨i, j, rfl, rfl, h, hq _ _ W hw.2 k (Le.refl W) (.d (.int _))⟩
          · exact op_mulW p s σ _ _ _ v u Q I rx ry ⟨i, j, rfl, rfl, h, hq _ _ W hw.2 k (Le.refl W) (.d (.int _))⟩
        | _ => exact hw.elim
      | lst e a o hs =>
        cases hy with
        | int j =>
          obtain ⟨h1, h2, h3, hw⟩ := hw
          refine op_rep p s σ _ _ _ v u Q I rx ry ⟨_, j, _, rfl, rfl, e, by omega, by omega, ?_, fun q n => hq _ _ _ hw (lay k n).2 (lay k n).1 (.d (lay_lst k n ?_))⟩
          · rw [hs.length]
            exact Nat.le_trans (Nat.mul_le_mul h3 (show j.toNat ≤ 1000 by omega)) (by decide)
          · clear hw hq h1 h2
            induction j.toNat with
            | zero => exact .nil
            | succ m ih =>
              rw [List.replicate_succ, List.replicate_succ, List.flatten_cons, List.flatten_cons]
              exact hs.append ih
        | _ => exact hw.elim
      | _ => exact hw.elim
    | _ => cases hx <;> exact hw.elim
  | _ => exact hw.elim
theorem op_divW : OpR X (binaryOp .FloorDiv) (rW2 X.K (wBin .div)) := by
  rintro p s σ H x y v u Q I rx ry ⟨W, dx, dy, R, rfl, k, hx, hy, hw, hq⟩
  cases hx with
  | d hx =>
    cases hy with
    | d hy =>
      cases hx with
      | int i =>
        cases hy with
        | int j => exact op_fdivW p s σ _ _ _ v u Q I rx ry ⟨i, j, rfl, rfl, hw.1, hq _ _ W hw.2 k (Le.refl W) (.d (.int _))⟩
        | _ => exact hw.elim
      | _ => exact hw.elim
    | _ => cases hx <;> exact hw.elim
  | _ => exact hw.elim
theorem op_modW : OpR X (binaryOp .Mod) (rW2 X.K (wBin .mod)) := by
  rintro p s σ H x y v u Q I rx ry ⟨W, dx, dy, R, rfl, k, hx, hy, hw, hq⟩
  cases hx with
  | d hx =>
    cases hy with
    | d hy =>
      cases hx with
      | int i =>
        cases hy with
        | int j => exact op_mod p s σ _ _ _ v u Q I rx ry ⟨i, j, rfl, rfl, hw.1, hq _ _ W hw.2 k (Le.refl W) (.d (.int _))⟩
        | _ => exact hw.elim
      | _ => exact hw.elim
    | _ => cases hx <;> exact hw.elim
  | _ => exact hw.elim
theorem op_powW : OpR X (binaryOp .Pow) (rW2 X.K (wBin .pow)) := by
  rintro p s σ H x y v u Q I rx ry ⟨W, dx, dy, R, rfl, k, hx, hy, hw, hq⟩
  cases hx with
  | d hx =>
    cases hy with
    | d hy =>
      cases hx with
      | int i =>
        cases hy with
        | int j => exact op_pow p s σ _ _ _ v u Q I rx ry ⟨i, j, rfl, rfl, hw.1, hq _ _ W hw.2 k (Le.refl W) (.d (.int _))⟩
        | _ => exact hw.elim
      | _ => exact hw.elim
    | _ => cases hx <;> exact hw.elim
  | _ => exact hw.elim
theorem op_shlWW : OpR X (binaryOp .LShift) (rW2 X.K (wBin .shl)) := by
  rintro p s σ H x y v u Q I rx ry ⟨W, dx, dy, R, rfl, k, hx, hy, hw, hq⟩
  cases hx with
  | d hx =>
    cases hy with
    | d hy =>
      cases hx with
      | int i =>
        cases hy with
        | int j => exact op_shlW p s σ _ _ _ v u Q I rx ry ⟨i, j, rfl, rfl, hw.1, hq _ _ W hw.2 k (Le.refl W) (.d (.int _))⟩
        | _ => exact hw.elim
      | _ => exact hw.elim
    | _ => cases hx <;> exact hw.elim
  | _ => exact hw.elim
/-- comparisons of ints -/
theorem cmp_int {op : CmpOp} {c : COp} {f : Int → Int → Bool} (ho : OpR X (compareOp op) (rI0 fun i j => .bl (f i j))) (hc : ∀ x y Q, wCmp c x y Q → ∃ i j, x = .d (.int i) ∧ y = .d (.int j) ∧ Q (.d (.bool (f i j)))) :
    OpR X (compareOp op) (rW2 X.K (wCmp c)) := by
  rintro p s σ H x y v u Q I rx ry ⟨W, dx, dy, R, rfl, k, hx, hy, hw, hq⟩
  obtain ⟨i, j, rfl, rfl, hr⟩ := hc _ _ _ hw
  cases hx with
  | d hx =>
    cases hy with
    | d hy =>
      cases hx
      cases hy
      exact ho p s σ _ _ _ v u Q I rx ry ⟨i, j, rfl, rfl, hq _ _ W hr k (Le.refl W) (.d (.bl _))⟩
theorem op_ltW : OpR X (compareOp .Lt) (rW2 X.K (wCmp .lt)) := cmp_int op_lt fun x y Q h => by
  unfold wCmp at h
  split at h <;> first | exact ⟨_, _, rfl, rfl, h⟩ | (exfalso; assumption) | (rename_i e; cases e) | exact h.elim
theorem op_leW : OpR X (compareOp .LtE) (rW2 X.K (wCmp .le)) := cmp_int op_le fun x y Q h => by
  unfold wCmp at h
  split at h <;> first | exact ⟨_, _, rfl, rfl, h⟩ | (exfalso; assumption) | (rename_i e; cases e) | exact h.elim
theorem op_gtW : OpR X (compareOp .Gt) (rW2 X.K (wCmp .gt)) := cmp_int op_gt fun x y Q h => by
  unfold wCmp at h
  split at h <;> first | exact ⟨_, _, rfl, rfl, h⟩ | (exfalso; assumption) | (rename_i e; cases e) | exact h.elim
theorem op_geW : OpR X (compareOp .GtE) (rW2 X.K (wCmp .ge)) := cmp_int op_ge fun x y Q h => by
  unfold wCmp at h
  split at h <;> first | exact ⟨_, _, rfl, rfl, h⟩ | (exfalso; assumption) | (rename_i e; cases e) | exact h.elim
theorem op_isW : OpR X (compareOp .Is) (rW2 X.K (wCmp .iss)) := by
  rintro p s σ H x y v u Q I rx ry ⟨W, dx, dy, R, rfl, k, hx, hy, hw, hq⟩
  cases hx with
  | d hx =>
    cases hy with
    | d hy =>
      cases hx with
      | bl a =>
        cases hy with
        | bl b => exact op_isBl p s σ _ _ _ v u Q I rx ry ⟨a, b, rfl, rfl, hq _ _ W hw k (Le.refl W) (.d (.bl _))⟩
        | _ => exact hw.elim
      | _ => exact hw.elim
    | _ => cases hx <;> exact hw.elim
  | _ => exact hw.elim
theorem op_isntW : OpR X (compareOp .IsNot) (rW2 X.K (wCmp .isnt)) := by
  rintro p s σ H x y v u Q I rx ry ⟨W, dx, dy, R, rfl, k, hx, hy, hw, hq⟩
  cases hx with
  | d hx =>
    cases hy with
    | d hy =>
      cases hx with
      | bl a =>
        cases hy with
        | bl b => exact op_notBl p s σ _ _ _ v u Q I rx ry ⟨a, b, rfl, rfl, hq _ _ W hw k (Le.refl W) (.d (.bl _))⟩
        | _ => exact hw.elim
      | _ => exact hw.elim
    | _ => cases hx <;> exact hw.elim
  | _ => exact hw.elim
mutual
theorem R.dp {W : Wd} : ∀ {v : V} {d : PyData}, R K W v d → d.hasDict = false → Dp K W.H v d
  | _, _, .non, _ => .non
  | _, _, .bl b, _ => .bl b
  | _, _, .int i, _ => .int i
  | _, _, .str x, _ => .str x
  | _, _, .lst e _ _ h, q => .lst (SqL.of e) (Rs.dp h (by simpa only [PyData.hasDict] using q))
  | _, _, .tup e h, q => .tup e (Rs.dp h (by simpa only [PyData.hasDict] using q))
  | _, _, .dic _, q => by simp [PyData.hasDict] at q
theorem Rs.dp {W : Wd} : ∀ {vs : List V} {ds : List PyData}, Rs K W vs ds → PyData.hasDictAll ds = false → DpAll K W.H vs ds
  | _, _, .nil, _ => .nil
  | _, _, .cons h t, q => by
    simp only [PyData.hasDictAll, Bool.or_eq_false_iff] at q
    exact .cons (R.dp h q.1) (Rs.dp t q.2)
end
theorem nodict {d : PyData} (h : SeqAt.shaped d = true) : d.hasDict = false := PyData.hasDict_of_canLay d (SeqAt.canLay_of_shaped h)
theorem decI {i j : Int} : decide (V.int i = V.int j) = decide (i = j) := by rw [dec_int, Bool.beq_eq_decide_eq]
theorem decS {i j : Str} : decide (V.str i = V.str j) = decide (i = j) := by rw [dec_str, Bool.beq_eq_decide_eq]
theorem op_eqW (hu : X.A.units + 64 < cLine) : OpR X (compareOp .Eq) (rW2 X.K (wCmp .eq)) := by
  rintro p s σ H x y v u Q I rx ry ⟨W, dx, dy, R, rfl, k, hx, hy, hw, hq⟩
  unfold wCmp at hw
  split at hw <;> first
    | exact hw.elim
    | (rename_i hh _ _; cases hh; done)
    | skip
  all_goals (try (rename_i hh; cases hh; done))
  · cases hx with
    | d hx => cases hy with
      | d hy =>
        cases hx
        cases hy
        refine op_eq p s σ _ _ _ v u Q I rx ry ⟨rfl, ?_⟩
        rw [decI]
        exact hq _ _ W hw k (Le.refl W) (.d (.bl _))
  · cases hx with
    | d hx => cases hy with
      | d hy =>
        cases hx
        cases hy
        refine op_eq p s σ _ _ _ v u Q I rx ry ⟨rfl, ?_⟩
        rw [decS]
        exact hq _ _ W hw k (Le.refl W) (.d (.bl _))
  · cases hx with
    | d hx => cases hy with
      | d hy => exact op_eqD hu p s σ _ _ _ v u Q I rx ry ⟨_, _, hx.dp (nodict hw.1), hy.dp (nodict hw.2.1), hw.1, hw.2.1, hq _ _ W hw.2.2 k (Le.refl W) (.d (.bl _))⟩
theorem op_neW (hu : X.A.units + 64 < cLine) : OpR X (compareOp .NotEq) (rW2 X.K (wCmp .ne)) := by
  rintro p s σ H x y v u Q I rx ry ⟨W, dx, dy, R, rfl, k, hx, hy, hw, hq⟩
  unfold wCmp at hw
  split at hw <;> first
    | exact hw.elim
    | (rename_i hh _ _; cases hh; done)
    | skip
  all_goals (try (rename_i hh; cases hh; done))
  · cases hx with
    | d hx => cases hy with
      | d hy =>
        cases hx
        cases hy
        refine op_ne p s σ _ _ _ v u Q I rx ry ⟨rfl, ?_⟩
        rw [decI]
        exact hq _ _ W hw k (Le.refl W) (.d (.bl _))
  · cases hx with
    | d hx => cases hy with
      | d hy =>
        cases hx
        cases hy
        refine op_ne p s σ _ _ _ v u Q I rx ry ⟨rfl, ?_⟩
        rw [decS]
        exact hq _ _ W hw k (Le.refl W) (.d (.bl _))
  · cases hx with
    | d hx => cases hy with
      | d hy => exact op_neD hu p s σ _ _ _ v u Q I rx ry ⟨_, _, hx.dp (nodict hw.1), hy.dp (nodict hw.2.1), hw.1, hw.2.1, hq _ _ W hw.2.2 k (Le.refl W) (.d (.bl _))⟩
theorem flat_v {W : Wd} {v : V} {d : PyData} (h : R K W v d) (f : flatD d = true) : flatV v = true := by
  cases h <;> first | rfl | cases f
theorem flat_eq {W : Wd} {v u : V} {d e : PyData} (h : R K W v d) (g : R K W u e) (f : flatD d = true) (f' : flatD e = true) : eqV v u = PyData.eqv d e := by
  cases h <;> cases g <;> first | (simp [eqV, PyData.eqv]; done) | cases f | cases f'
theorem flat_all {W : Wd} : ∀ {vs : List V} {ds : List PyData}, Rs K W vs ds → ds.all flatD = true → vs.all flatV = true
  | _, _, .nil, _ => rfl
  | _, _, .cons h t, q => by
    rw [List.all_cons, Bool.and_eq_true] at q
    rw [List.all_cons, Bool.and_eq_true]
    exact ⟨flat_v h q.1, flat_all t q.2⟩
theorem flat_any {W : Wd} {u : V} {e : PyData} (g : R K W u e) (f' : flatD e = true) : ∀ {vs : List V} {ds : List PyData}, Rs K W vs ds → ds.all flatD = true → inV u vs = ds.any fun z => PyData.eqv z e
  | _, _, .nil, _ => rfl
  | _, _, .cons h t, q => by
    rw [List.all_cons, Bool.and_eq_true] at q
    have := flat_any g f' t q.2
    unfold inV at this ⊢
    rw [List.any_cons, List.any_cons, this, flat_eq h g q.1 f']
theorem seq_of {W : Wd} {v : V} {d : DV} {ds : List PyData} (h : RD K W v d) (e : seqOf d = some ds) : ∃ a vs, v = .ref a ∧ (SqL K W.H a vs ∨ SqT K W.H a vs) ∧ Rs K W vs ds := by
  cases h with
  | d h =>
    cases h with
    | lst e1 _ _ hs =>
      cases e
      exact ⟨_, _, rfl, .inl (SqL.of e1), hs⟩
    | tup e1 hs =>
      cases e
      exact ⟨_, _, rfl, .inr e1, hs⟩
    | _ => cases e
  | _ => cases e
theorem op_inW (hu : X.A.units + 65 < cLine) : OpR X (compareOp .In) (rW2 X.K (wCmp .inn)) := by
  rintro p s σ H x y v u Q I rx ry ⟨W, dx, dy, R, rfl, k, hx, hy, hw, hq⟩
  have flat : (∃ ys, seqOf dy = some ys ∧ ∃ d, dx = .d d ∧ flatD d = true ∧ ys.all flatD = true ∧ R (.d (.bool (ys.any fun z => PyData.eqv z d)))) → wpAny (model X.prog X.w) X.A (compareOp .In v u) (EP X p σ Q) X.xe s := by
    rintro ⟨ys, e, d, rfl, f1, f2, hr⟩
    cases hx with
    | d hx =>
      obtain ⟨a, vs, rfl, hs, hr'⟩ := seq_of hy e
      refine op_in_seq p s σ _ _ _ v u Q I rx ry ⟨a, vs, rfl, hs, flat_v hx f1, flat_all hr' f2, ?_⟩
      refine hq _ _ W hr k (Le.refl W) ?_
      rw [← flat_any hx f1 hr' f2]
      exact .d (.bl _)
  unfold wCmp at hw
  split at hw <;> first
    | exact hw.elim
    | (rename_i hh _ _; cases hh; done)
    | skip
  all_goals (try (rename_i hh; cases hh; done))
  · obtain ⟨ys, hy2, s1, s2, hr⟩ := hw
    cases hx with
    | d hx =>
      obtain ⟨as, r1⟩ := Dp.reads I _ _ v (hx.dp (nodict s1)) rx
      rcases hy2 with rfl | rfl
      · cases hy with
        | d hy =>
          obtain ⟨bs, r2⟩ := Dp.reads I _ _ u (hy.dp (nodict s2)) ry
          exact SeqAt.in_tuple_reads r2 r1 (SeqAt.canLay_of_shaped s2) (SeqAt.canLay_of_shaped s1) (room_in_shaped s1 hu) ⟨.bl _, _, I, rfl, hq _ _ W hr k (Le.refl W) (.d (.bl _))⟩
      · cases hy with
        | d hy =>
          have nd : PyData.hasDict (.list ys) = false := by
            have := nodict s2
            simpa only [PyData.hasDict] using this
          obtain ⟨bs, r2⟩ := Dp.reads I _ _ u (hy.dp nd) ry
          exact SeqAt.in_list_reads r2 r1 (SeqAt.canLay_of_shaped s2) (SeqAt.canLay_of_shaped s1) (room_in_shaped s1 hu) ⟨.bl _, _, I, rfl, hq _ _ W hr k (Le.refl W) (.d (.bl _))⟩
  · obtain ⟨ys, e, f1, f2, hr⟩ := hw
    exact flat ⟨ys, e, _, rfl, f1, f2, hr⟩
theorem op_niW (hu : X.A.units + 65 < cLine) : OpR X (compareOp .NotIn) (rW2 X.K (wCmp .notin)) := by
  rintro p s σ H x y v u Q I rx ry ⟨W, dx, dy, R, rfl, k, hx, hy, hw, hq⟩
  have flat : (∃ ys, seqOf dy = some ys ∧ ∃ d, dx = .d d ∧ flatD d = true ∧ ys.all flatD = true ∧ R (.d (.bool (!ys.any fun z => PyData.eqv z d)))) → wpAny (model X.prog X.w) X.A (compareOp .NotIn v u) (EP X p σ Q) X.xe s := by
    rintro ⟨ys, e, d, rfl, f1, f2, hr⟩
    cases hx with
    | d hx =>
      obtain ⟨a, vs, rfl, hs, hr'⟩ := seq_of hy e
      refine op_notIn_seq p s σ _ _ _ v u Q I rx ry ⟨a, vs, rfl, hs, flat_v hx f1, flat_all hr' f2, ?_⟩
      refine hq _ _ W hr k (Le.refl W) ?_
      rw [← flat_any hx f1 hr' f2]
      exact .d (.bl _)
  unfold wCmp at hw
  split at hw <;> first
    | exact hw.elim
    | (rename_i hh _ _; cases hh; done)
    | skip
  all_goals (try (rename_i hh; cases hh; done))
  · obtain ⟨ys, hy2, s1, s2, hr⟩ := hw
    cases hx with
    | d hx =>
      obtain ⟨as, r1⟩ := Dp.reads I _ _ v (hx.dp (nodict s1)) rx
      rcases hy2 with rfl | rfl
      · cases hy with
        | d hy =>
          obtain ⟨bs, r2⟩ := Dp.reads I _ _ u (hy.dp (nodict s2)) ry
          exact SeqAt.notIn_tuple_reads r2 r1 (SeqAt.canLay_of_shaped s2) (SeqAt.canLay_of_shaped s1) (room_in_shaped s1 hu) ⟨.bl _, _, I, rfl, hq _ _ W hr k (Le.refl W) (.d (.bl _))⟩
      · cases hy with
        | d hy =>
          have nd : PyData.hasDict (.list ys) = false := by
            have := nodict s2
            simpa only [PyData.hasDict] using this
          obtain ⟨bs, r2⟩ := Dp.reads I _ _ u (hy.dp nd) ry
          exact SeqAt.notIn_list_reads r2 r1 (SeqAt.canLay_of_shaped s2) (SeqAt.canLay_of_shaped s1) (room_in_shaped s1 hu) ⟨.bl _, _, I, rfl, hq _ _ W hr k (Le.refl W) (.d (.bl _))⟩
  · obtain ⟨ys, e, f1, f2, hr⟩ := hw
    exact flat ⟨ys, e, _, rfl, f1, f2, hr⟩
/-! ### places and cuts -/
theorem atI_len {α β : Type} {xs : List α} {ys : List β} (h : xs.length = ys.length) {i : Int} {y : β} (e : atI ys i = some y) : ∃ j : Nat, ys[j]? = some y ∧ ∀ x : α, xs[j]? = some x → atI xs i = some x := by
  unfold atI at e ⊢
  rw [h]
  cases q : ixN ys.length i with
  | none => rw [q] at e; cases e
  | some j =>
    rw [q] at e
    exact ⟨j, e, fun x hx => hx⟩
theorem atI_R {W : Wd} {vs : List V} {ds : List PyData} (h : Rs K W vs ds) {i : Int} {d : PyData} (e : atI ds i = some d) : ∃ v, atI vs i = some v ∧ R K W v d := by
  obtain ⟨j, h1, h2⟩ := atI_len h.length e
  obtain ⟨v, h3, h4⟩ := h.get h1
  exact ⟨v, h2 v h3, h4⟩
theorem scr_sq {W : Wd} {a : Addr} {ns : List Int} (h : RD K W (.ref a) (.scr ns)) : SqL K W.H a (ns.map V.int) := by
  cases h with
  | scr h =>
    rcases h with ⟨o, h⟩ | h
    · exact .inl (.inr ⟨o, h⟩)
    · exact .inr h
theorem ixW : IxR X (rW2 X.K wIdx) := by
  rintro ve se p s σ H x y v u Q I rx ry ⟨W, dx, dy, R, rfl, k, hx, hy, hw, hq⟩ hsub
  cases hy with
  | d hy =>
    cases hy with
    | int i =>
      cases hx with
      | scr h =>
        obtain ⟨n, e, hr⟩ := (show ∃ n, atI _ i = some n ∧ _ from hw)
        obtain ⟨j, h1, h2⟩ := atI_len (List.length_map V.int) e
        refine ix_list ve se p s σ _ _ _ v u Q I rx ry ⟨_, _, i, .int n, rfl, rfl, scr_sq (.scr h), h2 _ (by rw [List.getElem?_map, h1]; rfl), hq _ _ W hr k (Le.refl W) (.d (.int _))⟩ hsub
      | vat h =>
        obtain ⟨h0, h3, hz⟩ := (show 0 ≤ i ∧ i < 3 ∧ _ from hw)
        obtain ⟨_, c, hh, n, e, b1, b2, b3, b4⟩ := k.va _ h
        have go : ∀ z : Int, VatZ i.toNat z → atI [V.int c, V.int hh, V.int n] i = some (.int z) → wpAny (model X.prog X.w) X.A (subscriptTail ve se v u) (EP X p σ Q) X.xe s := fun z q1 q2 =>
          ix_list ve se p s σ _ _ _ v u Q I rx ry ⟨_, _, i, _, rfl, rfl, SqL.of e, q2, hq _ _ W (hz z q1) k (Le.refl W) (.d (.int _))⟩ hsub
        have hi : i = 0 ∨ i = 1 ∨ i = 2 := by omega
        rcases hi with rfl | rfl | rfl
        · exact go c ⟨b1, fun z => by cases z⟩ rfl
        · exact go hh ⟨b2, fun _ => b3⟩ rfl
        · exact go n ⟨b4, fun z => by cases z⟩ rfl
      | d hx =>
        cases hx with
        | lst e a o hs =>
          obtain ⟨z, e1, hr⟩ := (show ∃ z, atI _ i = some z ∧ _ from hw)
          obtain ⟨z', e2, r⟩ := atI_R hs e1
          exact ix_list ve se p s σ _ _ _ v u Q I rx ry ⟨_, _, i, _, rfl, rfl, SqL.of e, e2, hq _ _ W hr k (Le.refl W) (.d r)⟩ hsub
        | tup e hs =>
          obtain ⟨z, e1, hr⟩ := (show ∃ z, atI _ i = some z ∧ _ from hw)
          obtain ⟨z', e2, r⟩ := atI_R hs e1
          exact ix_tup ve se p s σ _ _ _ v u Q I rx ry ⟨_, _, i, _, rfl, rfl, e, e2, hq _ _ W hr k (Le.refl W) (.d r)⟩ hsub
        | _ => exact hw.elim
    | _ => cases hx <;> first | exact hw.elim | (rename_i hx; cases hx <;> exact hw.elim)
  | _ => cases hx <;> first | exact hw.elim | (rename_i hx; cases hx <;> exact hw.elim)
theorem cut_R {W : Wd} {vs : List V} {ds : List PyData} (h : Rs K W vs ds) (lo hi : Option Int) : Rs K W (cutV vs lo hi) (cutD ds lo hi) := by
  unfold cutV cutD
  rw [h.length]
  exact (h.drop _).take _
theorem ints_R {W : Wd} : ∀ ns : List Int, Rs K W (ns.map V.int) (ns.map PyData.int)
  | [] => .nil
  | n :: r => .cons (.int n) (ints_R r)
theorem cut_map {α β : Type} (f : α → β) (xs : List α) (lo hi : Option Int) : cutD (xs.map f) lo hi = (cutD xs lo hi).map f := by
  unfold cutD
  rw [List.length_map, List.map_take, List.map_drop]
def rWsl (K : Fg) : V → Option Int → Option Int → Hp → VK → Prop := fun x lo hi H Q => ∃ W dx R, W.H = H ∧ W.Ok ∧ RD K W x dx ∧ wSlc dx lo hi R ∧ ∀ r v U, R r → U.Ok → Le W U → RD K U v r → Q v U.H
theorem slW : SlR X (rWsl X.K) := by
  have key : ∀ x lo hi H Q, rWsl X.K x lo hi H Q → rSlL X.K x lo hi H Q ∨ rSlT X.K x lo hi H Q := by
    rintro x lo hi H Q ⟨W, dx, R, rfl, k, hx, hw, hq⟩
    cases hx with
    | scr h =>
      refine .inl ⟨_, _, rfl, scr_sq (.scr h), fun q n => hq _ _ _ hw (lay k n).2 (lay k n).1 (.d (lay_lst k n ?_))⟩
      rw [show cutV _ lo hi = (cutD _ lo hi).map V.int from cut_map V.int _ lo hi]
      exact ints_R _
    | vat h => exact hw.elim
    | d hx =>
      cases hx with
      | lst e a o hs => exact .inl ⟨_, _, rfl, SqL.of e, fun q n => hq _ _ _ hw (lay k n).2 (lay k n).1 (.d (lay_lst k n (cut_R hs lo hi)))⟩
      | tup e hs =>
        refine .inr ⟨_, _, rfl, e, fun z => ?_, fun q n => hq _ _ _ hw.2 (lay k n).2 (lay k n).1 (.d (lay_tup k n (cut_R hs lo hi)))⟩
        have h1 := hw.1
        unfold cutD at h1
        rw [← hs.length, z.1, z.2] at h1
        simp [hs.length] at h1
      | _ => exact hw.elim
  have h := (sl_list (X := X)).or (sl_tup (X := X))
  intro p s σ H x v vl vu lo hi sl Q I rx hs h1 h2 q
  exact h p s σ H x v vl vu lo hi sl Q I rx hs h1 h2 (key _ _ _ _ _ q)
end
end Pf

namespace Pf
open PySem PySem.Spec PyProof.Rows L2
/-! ### built-ins -/
theorem gcd3_args (a b c : Value) : argsOk "math.gcd" ⟨[a, b, c], []⟩ := by unfold argsOk; kernel_rfl
theorem gcd3_run (a : Int) (t : Tok) (b : Int) (u : Tok) (c : Int) (v : Tok) :
    Gives (Builtin.«math.gcd» ⟨[.int a t, .int b u, .int c v], []⟩) (.int (((((Nat.gcd 0 a.natAbs).gcd b.natAbs).gcd c.natAbs : Nat) : Int))) :=
  .of_wp fun M A E s Q h => by obtain ⟨hp, g, d, tk, os⟩ := s; wp_walk; exact ⟨_, rfl, h⟩
section
variable {X : Cx}
theorem cr_gcd3 : CallR X (.builtin "math.gcd") (fun vs H Q => ∃ a b c : Int, vs = [.int a, .int b, .int c] ∧ Q (.int (((a.natAbs.gcd b.natAbs).gcd c.natAbs : Nat) : Int)) H) := by
  intro pins s σ H vs us Q I r h
  obtain ⟨a, b, c, rfl, q⟩ := h
  cases r with
  | cons r1 r =>
    cases r with
    | cons r2 r =>
      cases r with
      | cons r3 r =>
        cases r
        obtain ⟨t1, rfl⟩ := r1
        obtain ⟨t2, rfl⟩ := r2
        obtain ⟨t3, rfl⟩ := r3
        have g := gcd3_run a t1 b t2 c t3
        rw [Nat.gcd_zero_left] at g
        exact PySem.call_function_meets PySem.W.MGF.kind_gcd PySem.W.MGF.plain_gcd PySem.W.MGF.entry_gcd (gcd3_args _ _ _) g.meets ⟨.int _, H, I.tok _, ⟨_, rfl⟩, q⟩
theorem cr_isqrt : CallR X (.builtin "math.isqrt") (fun vs H Q => ∃ a : Int, vs = [.int a] ∧ 0 ≤ a ∧ a < 2 ^ 13000 ∧ Q (.int ((Float64.isqrt a.toNat : Nat) : Int)) H) := by
  intro pins s σ H vs us Q I r h
  obtain ⟨a, rfl, h0, h1, q⟩ := h
  obtain ⟨u, rfl, t, rfl⟩ := vals1 r
  have h2 : a.toNat < 2 ^ (12999 + 1) := by
    have : ((a.toNat : Nat) : Int) < ((2 ^ (12999 + 1) : Nat) : Int) := by rw [Int.toNat_of_nonneg h0, Int.natCast_pow]; exact h1
    exact Int.ofNat_lt.mp this
  have hl := PySem.W.mg_log h2
  exact PySem.call_function_meets PySem.W.MGF.kind_isqrt PySem.W.MGF.plain_isqrt PySem.W.MGF.entry_isqrt (PySem.W.MGF.args_isqrt _) (PySem.W.mg_run_isqrt a t (by omega) (by omega) (by omega)).meets ⟨.int _, H, I.tok _, ⟨_, rfl⟩, q⟩
def biV : Bi → Value
  | .len => .builtin "len"
  | .abs => .builtin "abs"
  | .int => .type "int"
  | .sum => .builtin "sum"
  | .all => .builtin "all"
  | .any => .builtin "any"
  | .max2 => .builtin "max"
  | .min2 => .builtin "min"
  | .divmod => .builtin "divmod"
  | .tuple => .type "tuple"
  | .list => .type "list"
  | .repr => .builtin "repr"
  | .gcd2 => .builtin "math.gcd"
  | .gcd3 => .builtin "math.gcd"
  | .isqrt => .builtin "math.isqrt"
  | .max1 => .builtin "max"
  | .min1 => .builtin "min"
theorem R.int_of {K : Fg} {W : Wd} {v : V} {i : Int} (h : R K W v (.int i)) : v = .int i := by cases h; rfl
theorem R.bool_of {K : Fg} {W : Wd} {v : V} {i : Bool} (h : R K W v (.bool i)) : v = .bl i := by cases h; rfl
theorem RD.int_of {K : Fg} {W : Wd} {v : V} {i : Int} (h : RD K W v (.d (.int i))) : v = .int i := by
  cases h with
  | d h => exact h.int_of
theorem ints_of {K : Fg} {W : Wd} : ∀ {vs : List V} {ds : List PyData} {ns : List Int}, Rs K W vs ds → intsD ds = some ns → vs = ns.map V.int
  | _, _, _, .nil, e => by
    have : [] = _ := Option.some.inj e
    subst this
    rfl
  | _, _, _, .cons (ds := r) (.int i) t, e => by
    obtain ⟨ys, e1, e2⟩ := Option.map_eq_some_iff.mp e
    subst e2
    rw [ints_of t e1]
    rfl
  | _, _, _, .cons .non _, e => by cases e
  | _, _, _, .cons (.bl _) _, e => by cases e
  | _, _, _, .cons (.str _) _, e => by cases e
  | _, _, _, .cons (.lst _ _ _ _) _, e => by cases e
  | _, _, _, .cons (.tup _ _) _, e => by cases e
  | _, _, _, .cons (.dic _) _, e => by cases e
theorem bools_of {K : Fg} {W : Wd} : ∀ {vs : List V} {ds : List PyData} {ns : List Bool}, Rs K W vs ds → boolsD ds = some ns → vs = ns.map V.bl
  | _, _, _, .nil, e => by
    have : [] = _ := Option.some.inj e
    subst this
    rfl
  | _, _, _, .cons (ds := r) (.bl i) t, e => by
    obtain ⟨ys, e1, e2⟩ := Option.map_eq_some_iff.mp e
    subst e2
    rw [bools_of t e1]
    rfl
  | _, _, _, .cons .non _, e => by cases e
  | _, _, _, .cons (.int _) _, e => by cases e
  | _, _, _, .cons (.str _) _, e => by cases e
  | _, _, _, .cons (.lst _ _ _ _) _, e => by cases e
  | _, _, _, .cons (.tup _ _) _, e => by cases e
  | _, _, _, .cons (.dic _) _, e => by cases e
theorem len_of {K : Fg} {W : Wd} {v : V} {d : DV} {n : Nat} (h : RD K W v d) (e : lenD d = some n) : LenV K v W.H n := by
  cases h with
  | scr h =>
    cases e
    exact .inl ⟨_, scr_sq (.scr h), by rw [List.length_map]⟩
  | vat h => cases e
  | d h =>
    cases h with
    | lst e1 _ _ hs =>
      cases e
      exact .inl ⟨_, SqL.of e1, hs.length.symm⟩
    | tup e1 hs =>
      cases e
      exact .inr ⟨_, e1, hs.length.symm⟩
    | _ => cases e
/-- one argument, two -/
theorem rds1 {K : Fg} {W : Wd} {vs : List V} {a : DV} (h : RDs K W vs [a]) : ∃ v, vs = [v] ∧ RD K W v a := by
  cases h with
  | cons h t => cases t; exact ⟨_, rfl, h⟩
theorem rds2 {K : Fg} {W : Wd} {vs : List V} {a b : DV} (h : RDs K W vs [a, b]) : ∃ v u, vs = [v, u] ∧ RD K W v a ∧ RD K W u b := by
  cases h with
  | cons h t =>
    obtain ⟨u, rfl, h2⟩ := rds1 t
    exact ⟨_, _, rfl, h, h2⟩
theorem rds3 {K : Fg} {W : Wd} {vs : List V} {a b c : DV} (h : RDs K W vs [a, b, c]) : ∃ v u z, vs = [v, u, z] ∧ RD K W v a ∧ RD K W u b ∧ RD K W z c := by
  cases h with
  | cons h t =>
    obtain ⟨u, z, rfl, h2⟩ := rds2 t
    exact ⟨_, _, _, rfl, h, h2⟩
theorem repr_seq (hg : X.A.guards = some []) (hu : X.A.units + 64 < cLine) {pins : List (Addr × Obj)} {s : Shared} {σ : L2.St} {W : Wd} {v : V} {us : List Value} {d : PyData} {Q : VK} (I : Inv X pins σ W.H s) (rv : Vals [v] us) (a : Addr) (ha : v = .ref a) (h : R X.K W v d)
    (h1 : d.showable = true) (h2 : d.hasDict = false) (h3 : d.depth ≤ 40) (h4 : d.shown.length ≤ sizeLine) (hq : Q (.str d.shown) W.H) : wpAny (model X.prog X.w) X.A (call (.builtin "repr") us) (EP X pins σ Q) X.xe s := by
  subst ha
  obtain ⟨u, rfl, ru⟩ := vals1 rv
  have eu : u = Value.ref a := ru
  subst eu
  obtain ⟨as, hr⟩ := Dp.reads I d (.ref a) _ (h.dp h2) rfl
  exact repr_of_reads' hr h1 (PyData.noDict_hsm h2) hg (by omega) (fun _ _ e => e) (fun h' u tk hk => ⟨.str _, _, I.kept hk, ⟨_, rfl⟩, hq⟩) h4
theorem repr_bool {pins : List (Addr × Obj)} {s : Shared} {σ : L2.St} {W : Wd} {b : Bool} {us : List Value} {Q : VK} (I : Inv X pins σ W.H s) (rv : Vals [V.bl b] us)
    (hq : Q (.str (PyData.bool b).shown) W.H) : wpAny (model X.prog X.w) X.A (call (.builtin "repr") us) (EP X pins σ Q) X.xe s := by
  obtain ⟨u, rfl, ru⟩ := vals1 rv
  have eu : u = Value.bool b := ru
  subst eu
  cases b
  · exact PySem.P.repr_of_bool ⟨.str _, _, I.tok _, ⟨_, rfl⟩, (by simp only [PyData.shown] at hq; exact hq)⟩
  · exact PySem.P.repr_of_bool ⟨.str _, _, I.tok _, ⟨_, rfl⟩, (by simp only [PyData.shown] at hq; exact hq)⟩
theorem biW (hc : X.calm = true) (hg : X.A.guards = some []) (hu : X.A.units + 64 < cLine) : ∀ b : Bi, CallR X (biV b) (rWs X.K (wBi b)) := by
  intro b p s σ H vs us Q I rv ⟨W, ds, R, e, k, hd, hw, hq⟩
  subst e
  unfold wBi at hw
  split at hw
  · obtain ⟨v, rfl, h⟩ := rds1 hd
    obtain ⟨n, e, hr⟩ := hw
    exact call_len p s σ _ _ us Q I rv ⟨v, n, rfl, len_of h e, hq _ _ W hr k (Le.refl W) (.d (.int _))⟩
  · obtain ⟨v, rfl, h⟩ := rds1 hd
    have := h.int_of
    subst this
    exact call_abs p s σ _ _ us Q I rv ⟨_, rfl, hq _ _ W hw k (Le.refl W) (.d (.int _))⟩
  · obtain ⟨v, rfl, h⟩ := rds1 hd
    have := h.int_of
    subst this
    exact call_int1 p s σ _ _ us Q I rv (.inl ⟨_, rfl, hq _ _ W hw k (Le.refl W) (.d (.int _))⟩)
  · obtain ⟨v, rfl, h⟩ := rds1 hd
    cases h with
    | d h =>
      cases h with
      | bl b => exact call_int1 p s σ _ _ us Q I rv (.inr ⟨_, rfl, hq _ _ W hw k (Le.refl W) (.d (.int _))⟩)
  · obtain ⟨v, rfl, h⟩ := rds1 hd
    obtain ⟨ns, e, hr⟩ := hw
    cases h with
    | d h =>
      cases h with
      | lst e1 a o hs =>
        rw [ints_of hs e] at e1
        exact cr_sum hc p s σ _ _ us Q I rv ⟨_, ns, rfl, SqL.of e1, hq _ _ W hr k (Le.refl W) (.d (.int _))⟩
  · obtain ⟨v, rfl, h⟩ := rds1 hd
    obtain ⟨ns, e, hr⟩ := hw
    cases h with
    | d h =>
      cases h with
      | lst e1 a o hs =>
        rw [bools_of hs e] at e1
        exact cr_all hc p s σ _ _ us Q I rv ⟨_, ns, rfl, SqL.of e1, hq _ _ W hr k (Le.refl W) (.d (.bl _))⟩
  · obtain ⟨v, rfl, h⟩ := rds1 hd
    obtain ⟨ns, e, hr⟩ := hw
    cases h with
    | d h =>
      cases h with
      | lst e1 a o hs =>
        rw [bools_of hs e] at e1
        exact cr_any hc p s σ _ _ us Q I rv ⟨_, ns, rfl, SqL.of e1, hq _ _ W hr k (Le.refl W) (.d (.bl _))⟩
  · obtain ⟨v, u, rfl, h, h'⟩ := rds2 hd
    have e1 := h.int_of
    have e2 := h'.int_of
    subst e1 e2
    exact call_max2 hc p s σ _ _ us Q I rv ⟨_, _, rfl, hq _ _ W hw k (Le.refl W) (.d (.int _))⟩
  · obtain ⟨v, u, rfl, h, h'⟩ := rds2 hd
    have e1 := h.int_of
    have e2 := h'.int_of
    subst e1 e2
    exact call_min2 hc p s σ _ _ us Q I rv ⟨_, _, rfl, hq _ _ W hw k (Le.refl W) (.d (.int _))⟩
  · obtain ⟨v, u, rfl, h, h'⟩ := rds2 hd
    have e1 := h.int_of
    have e2 := h'.int_of
    subst e1 e2
    exact call_divmod p s σ _ _ us Q I rv ⟨_, _, rfl, hw.1, fun q n => hq _ _ _ hw.2 (lay k n).2 (lay k n).1 (.d (lay_tup k n (.cons (.int _) (.cons (.int _) .nil))))⟩
  · obtain ⟨v, rfl, h⟩ := rds1 hd
    cases h with
    | d h =>
      cases h with
      | lst e1 a o hs => exact call_tuple_of p s σ _ _ us Q I rv ⟨_, _, rfl, .inl ⟨SqL.of e1, fun q n => hq _ _ _ hw (lay k n).2 (lay k n).1 (.d (lay_tup k n hs))⟩⟩
  · obtain ⟨v, rfl, h⟩ := rds1 hd
    cases h with
    | d h =>
      cases h with
      | tup e1 hs => exact call_tuple_of p s σ _ _ us Q I rv ⟨_, _, rfl, .inr ⟨e1, hq _ _ W hw k (Le.refl W) (.d (.tup e1 hs))⟩⟩
  · obtain ⟨v, rfl, h⟩ := rds1 hd
    cases h with
    | d h =>
      cases h with
      | lst e1 a o hs => exact call_list_of p s σ _ _ us Q I rv ⟨_, _, rfl, .inl (SqL.of e1), fun q n => hq _ _ _ hw (lay k n).2 (lay k n).1 (.d (lay_lst k n hs))⟩
  · obtain ⟨v, rfl, h⟩ := rds1 hd
    cases h with
    | d h =>
      cases h with
      | tup e1 hs => exact call_list_of p s σ _ _ us Q I rv ⟨_, _, rfl, .inr e1, fun q n => hq _ _ _ hw (lay k n).2 (lay k n).1 (.d (lay_lst k n hs))⟩
  · obtain ⟨v, rfl, h⟩ := rds1 hd
    obtain ⟨h1, h2, h3, h4, hr⟩ := hw
    have hh := hq _ (.str _) W hr k (Le.refl W) (.d (.str _))
    cases h with
    | d h =>
      cases h with
      | lst e1 a o hs => exact repr_seq hg hu I rv _ rfl (.lst e1 a o hs) h1 h2 h3 h4 hh
  · obtain ⟨v, rfl, h⟩ := rds1 hd
    obtain ⟨h1, h2, h3, h4, hr⟩ := hw
    have hh := hq _ (.str _) W hr k (Le.refl W) (.d (.str _))
    cases h with
    | d h =>
      cases h with
      | tup e1 hs => exact repr_seq hg hu I rv _ rfl (.tup e1 hs) h1 h2 h3 h4 hh
  · obtain ⟨v, rfl, h⟩ := rds1 hd
    cases h with
    | d h =>
      have := h.bool_of
      subst this
      exact repr_bool I rv (hq _ (.str _) W hw k (Le.refl W) (.d (.str _)))
  · obtain ⟨v, u, rfl, h, h'⟩ := rds2 hd
    have e1 := h.int_of
    have e2 := h'.int_of
    subst e1 e2
    exact cr_gcd p s σ _ _ us Q I rv ⟨_, _, rfl, hq _ _ W hw k (Le.refl W) (.d (.int _))⟩
  · obtain ⟨v, u, z, rfl, h, h', h''⟩ := rds3 hd
    have e1 := h.int_of
    have e2 := h'.int_of
    have e3 := h''.int_of
    subst e1 e2 e3
    exact cr_gcd3 p s σ _ _ us Q I rv ⟨_, _, _, rfl, hq _ _ W hw k (Le.refl W) (.d (.int _))⟩
  · obtain ⟨v, rfl, h⟩ := rds1 hd
    obtain ⟨ns, e, hn, hr⟩ := hw
    cases h with
    | d h =>
      cases h with
      | lst e1 a o hs =>
        rw [ints_of hs e] at e1
        exact cr_max hc p s σ _ _ us Q I rv ⟨_, ns, rfl, SqL.of e1, hn, fun m h1 h2 => hq _ _ W (hr m h1 h2) k (Le.refl W) (.d (.int _))⟩
  · obtain ⟨v, rfl, h⟩ := rds1 hd
    obtain ⟨ns, e, hn, hr⟩ := hw
    cases h with
    | d h =>
      cases h with
      | lst e1 a o hs =>
        rw [ints_of hs e] at e1
        exact cr_min hc p s σ _ _ us Q I rv ⟨_, ns, rfl, SqL.of e1, hn, fun m h1 h2 => hq _ _ W (hr m h1 h2) k (Le.refl W) (.d (.int _))⟩
  · obtain ⟨v, rfl, h⟩ := rds1 hd
    have := h.int_of
    subst this
    exact cr_isqrt p s σ _ _ us Q I rv ⟨_, rfl, hw.1, hw.2.1, hq _ _ W hw.2.2 k (Le.refl W) (.d (.int _))⟩
  · exact hw.elim
/-- isinstance -/
theorem ty_of {K : Fg} {W : Wd} {v : V} {d : PyData} (h : R K W v d) : TyX K W.H v (.type (tyD d)) := by
  cases h with
  | non => exact .base .non
  | bl b => exact .base (.bl b)
  | int i => exact .base (.int i)
  | str x => exact .base (.str x)
  | lst e _ _ _ => exact .base (.lst e)
  | dic e => exact .base (.dK e)
  | tup e _ =>
    rcases e with (e | ⟨o, e⟩) | ⟨o, its, n, e, c, _⟩
    · exact .base (.tup e)
    · exact .fTuple e
    · exact .kTuple e c
end
end Pf

namespace Pf
open PySem PySem.Spec PyProof.Rows L2
/-! ### what is walked -/
/-- a list or a tuple, by what came -/
def iSeq (K : Fg) (te : TE) : TI := fun σ H R => te σ H fun x H1 => ∃ a, x = .ref a ∧ (((∃ xs, SqL K H1 a xs) ∧ R (Itl K a) H1) ∨ ((∃ xs, SqT K H1 a xs) ∧ R (Itt K a) H1))
section
variable {X : Cx} {tg : Expr}
theorem fp_one {pins : List (Addr × Obj)} {σ : L2.St} {H : Hp} {s : Shared} (J : Inv X pins σ H s) : ∀ b ∈ [s.heap.objs.size], FpOk X pins H b := fun b hb => by
  cases hb with
  | head => exact J.fpOk (Nat.le_refl _) (J.hok.fresh (Nat.le_refl _))
  | tail _ h => cases h
theorem pi_seq {l : Expr} {te : TE} (hl : PE X l te) : PI X tg l (iSeq X.K te) := by
  constructor
  intro pins s σ H R I h
  refine thn (hl.run pins s σ H _ I h) ?_
  rintro v z ⟨x, G, J, rx, a, rfl, ⟨⟨xs, hx⟩, q⟩ | ⟨⟨xs, hx⟩, q⟩⟩
  · have ev : v = Value.ref a := rx
    subst ev
    obtain ⟨its, _, pl, _⟩ := J.list hx
    exact wpAny_pyIter_list pl.isList ⟨_, _, _, _, G, rfl, J.kept (t' := z.toks) fun _ _ eo => Heap.get?_push_of_some _ eo, turn_list a _, ⟨_, Heap.get?_push_size _ rfl, rfl, rfl⟩, fp_one J, q⟩
  · have ev : v = Value.ref a := rx
    subst ev
    obtain ⟨its, _, pl, _⟩ := J.tuple hx
    exact wpAny_pyIter_tuple pl ⟨_, _, _, _, G, rfl, J.kept (t' := z.toks) fun _ _ eo => Heap.get?_push_of_some _ eo, turn_tuple a _, ⟨_, Heap.get?_push_size _ rfl, rfl, rfl⟩, fp_one J, q⟩
end
/-! enumerate of a tuple -/
theorem meets_enumerate_new1 {v : Value} {o : Obj} {H : Heap → Prop} (B : Begins v o H) (hc : checkBuiltinCall "enumerate.__new__" ⟨[.type "enumerate", v], []⟩ = pure ()) :
    Meets (Builtin.«enumerate.__new__» ⟨[.type "enumerate", v], []⟩) (fun _ R s => H s.heap ∧
      R (.ok (.ret (.ref (s.heap.push o).objs.size))) { s with heap := (s.heap.push o).push { cls := .type "enumerate", data := .fields #[.none, .bool false, .ref s.heap.objs.size, rawInt 0, .none, .none] } }) :=
  .of_wp fun prog w A R s h => by
    obtain ⟨hp, g, d, tk, os⟩ := s; obtain ⟨h1, h⟩ := h
    have hsub := sub_enumerate
    have q1 : ∀ {A' : Around} {E : Value → Shared → Prop} {Q : Value → Shared → Prop}, Q (.ref hp.objs.size) ⟨hp.push o, g, d, tk, os⟩ → wpAny (model prog w) A' (pyIter v) Q E ⟨hp, g, d, tk, os⟩ :=
      fun q => B.iter prog w _ _ ⟨hp, g, d, tk, os⟩ _ h1 q
    wp_walk using q1
    refine wpAny_stack_any fun st => wpAny_pure ?_
    split
    · rename_i c _ _ _ _ _
      cases (c == Value.type "enumerate")
      · wp_walk using q1
        exact ⟨_, rfl, h⟩
      · wp_walk using q1
        exact ⟨_, rfl, h⟩
    · wp_walk using q1
      exact ⟨_, rfl, h⟩
theorem call_enumerate_tuple {prog : Program} {w : World} {A : Around} {E : Value → Shared → Prop} {s : Shared} {l : Addr} {items : Array Value} {Q : Value → Shared → Prop} (hL : s.heap.IsTuple l items)
    (h : ∀ h', IsEnum h' (s.heap.objs.size + 1) s.heap.objs.size 0 .none → h'.IsTupleIter s.heap.objs.size l 0 → h'.objs.size = s.heap.objs.size + 2 →
      (∀ b o, s.heap.get? b = some o → h'.get? b = some o) → Q (.ref (s.heap.objs.size + 1)) { s with heap := h' }) :
    wpAny (model prog w) A (call (.type "enumerate") [.ref l]) Q E s := by
  refine callType_new F.called_enumerate (by decide) (F.typeCall_enumerate_1 _) (F.newCall_enumerate_1 _) (fun obj => F.args_object_init_2 obj _) F.entry_enumerate_new
    (meets_enumerate_new1 (begins_tuple l items) (F.newCall_enumerate_1 _)) ⟨hL, ?_⟩
  have hz : (s.heap.push { cls := .type "tuple_iterator", data := .fields #[.ref l, .int 0 0] }).objs.size = s.heap.objs.size + 1 := Heap.size_push ..
  show _ ∧ _
  rw [hz]
  have he : IsEnum ((s.heap.push { cls := .type "tuple_iterator", data := .fields #[.ref l, .int 0 0] }).push
      { cls := .type "enumerate", data := .fields #[.none, .bool false, .ref s.heap.objs.size, rawInt 0, .none, .none] }) (s.heap.objs.size + 1) s.heap.objs.size 0 .none := by
    have := Heap.get?_push_size (s.heap.push { cls := .type "tuple_iterator", data := .fields #[.ref l, .int 0 0] })
      (o := { cls := .type "enumerate", data := .fields #[.none, .bool false, .ref s.heap.objs.size, rawInt 0, .none, .none] }) rfl
    rw [hz] at this; exact this
  refine ⟨⟨_, he, rfl⟩, h _ he ⟨_, Heap.get?_push_of_some _ (Heap.get?_push_size _ rfl), rfl, rfl⟩ (by rw [Heap.size_push, hz]) fun b o x => Heap.get?_push_of_some _ (Heap.get?_push_of_some _ x)⟩
/-- the items of a walk, in a world: what the walk J yields is what the list tells -/
def Walks (K : Fg) (J : It) (W : Wd) (xs : List DV) : Prop := ∀ U : Wd, U.Ok → Stp W U →
  ∀ i : Nat, (i < xs.length → J.go i U.H ∧ ∀ x H', J.yld i U.H x H' → ∃ Z : Wd, Z.H = H' ∧ Z.Ok ∧ Le U Z ∧ ∃ d, xs[i]? = some d ∧ RD K Z x d) ∧ (xs.length ≤ i → J.stop i U.H)
def trI (K : Fg) (w : SDs → (List DV → Prop) → Prop) : TI := fun σ H Q => ∃ W τ R, W.H = H ∧ W.Ok ∧ Gd K W σ τ ∧ w τ R ∧ ∀ xs J U, R xs → U.Ok → Le W U → Walks K J U xs → Q J U.H
theorem Stp.trans {W U Z : Wd} (k : W.Ok) (q : U.Ok) (l : Stp W U) (m : Stp U Z) (ho : ∀ a, W.O a → ∃ o, U.H a = some o) : Stp W Z := by
  have back : ∀ a, U.H a = none → W.H a = none := fun a z => by
    cases e : W.H a with
    | none => rfl
    | some o =>
      by_cases h : W.O a
      · obtain ⟨u, hu⟩ := ho a h
        exact (some_ne hu z).elim
      · obtain ⟨u, hu⟩ := l.there k q e h
        exact (some_ne hu z).elim
  refine ⟨fun a o e n h => m.ext a o (l.ext a o e n h) (fun v => ?_) fun v => ?_, fun a h => m.a1 a (l.a1 a h), fun a h => ?_, fun a h => m.v1 a (l.v1 a h), fun a h => ?_, fun a h => ?_⟩
  · rcases l.v2 a v with z | z
    · exact n z
    · exact some_ne e z
  · rcases l.o2 a v with z | z
    · exact h z
    · exact some_ne e z
  · rcases m.a2 a h with z | z
    · exact l.a2 a z
    · exact .inr (back a z)
  · rcases m.v2 a h with z | z
    · exact l.v2 a z
    · exact .inr (back a z)
  · rcases m.o2 a h with z | z
    · exact l.o2 a z
    · exact .inr (back a z)
section
variable {K : Fg} {W U : Wd}
theorem walk_l {a : Addr} {vs : List V} {ds : List DV} (h : ∀ U : Wd, U.Ok → Stp W U → SqL K U.H a vs ∧ RDs K U vs ds) : Walks K (Itl K a) W ds := fun U q l i => by
  obtain ⟨h1, h2⟩ := h U q l
  refine ⟨fun hi => ⟨?_, fun x H' y => ⟨U, y.1.symm, q, Le.refl U, ?_⟩⟩, fun hi => ⟨vs, h1, by rw [h2.length]; exact hi⟩⟩
  · have hv : i < vs.length := by rw [h2.length]; exact hi
    exact ⟨vs, vs[i], h1, List.getElem?_eq_getElem hv⟩
  · have e := y.2 vs h1
    clear h1 hi y h q l
    induction h2 generalizing i with
    | nil => simp at e
    | cons r t ih =>
      cases i with
      | zero => simp at e; subst e; exact ⟨_, rfl, r⟩
      | succ i => exact ih i (by simpa using e)
theorem walk_t {a : Addr} {vs : List V} {ds : List DV} (h : ∀ U : Wd, U.Ok → Stp W U → SqT K U.H a vs ∧ RDs K U vs ds) : Walks K (Itt K a) W ds := fun U q l i => by
  obtain ⟨h1, h2⟩ := h U q l
  refine ⟨fun hi => ⟨?_, fun x H' y => ⟨U, y.1.symm, q, Le.refl U, ?_⟩⟩, fun hi => ⟨vs, h1, by rw [h2.length]; exact hi⟩⟩
  · have hv : i < vs.length := by rw [h2.length]; exact hi
    exact ⟨vs, vs[i], h1, List.getElem?_eq_getElem hv⟩
  · have e := y.2 vs h1
    clear h1 hi y h q l
    induction h2 generalizing i with
    | nil => simp at e
    | cons r t ih =>
      cases i with
      | zero => simp at e; subst e; exact ⟨_, rfl, r⟩
      | succ i => exact ih i (by simpa using e)
theorem Rs.ds : ∀ {vs : List V} {ds : List PyData}, Rs K W vs ds → RDs K W vs (ds.map .d)
  | _, _, .nil => .nil
  | _, _, .cons h t => .cons (.d h) (Rs.ds t)
theorem walk_seq {v : V} {d : DV} {xs : List DV} (k : W.Ok) (h : RD K W v d) (e : itemsD d = some xs) :
    ∃ a, v = .ref a ∧ (((∃ vs, SqL K W.H a vs) ∧ Walks K (Itl K a) W xs) ∨ ((∃ vs, SqT K W.H a vs) ∧ Walks K (Itt K a) W xs)) := by
  cases h with
  | vat h => cases e
  | scr h =>
    cases e
    refine ⟨_, rfl, .inl ⟨⟨_, scr_sq (.scr h)⟩, walk_l fun U q l => ⟨scr_sq (RD.stp l k (.scr h)), ?_⟩⟩⟩
    · rename_i ns
      clear h
      induction ns with
      | nil => exact .nil
      | cons n r ih => exact .cons (.d (.int n)) ih
  | d h =>
    cases h with
    | lst e1 n m hs =>
      cases e
      exact ⟨_, rfl, .inl ⟨⟨_, SqL.of e1⟩, walk_l fun U q l => ⟨SqL.of (l.ext _ _ e1 (fun v => n (k.va _ v).1) m), (hs.stp l k).ds⟩⟩⟩
    | tup e1 hs =>
      cases e
      exact ⟨_, rfl, .inr ⟨⟨_, e1⟩, walk_t fun U q l => ⟨rd_keep (l.keepN k) e1, (hs.stp l k).ds⟩⟩⟩
    | _ => cases e
theorem walk_rng {lo : Int} {n : Nat} : Walks K (Itr lo n) W (rngD lo n) := fun U q l i => by
  have hl : (rngD lo n).length = n := by unfold rngD; rw [List.length_map, List.length_range]
  rw [hl]
  refine ⟨fun hi => ⟨hi, fun x H' y => ⟨U, y.1.symm, q, Le.refl U, .d (.int (lo + i)), ?_, ?_⟩⟩, fun hi => hi⟩
  · unfold rngD
    rw [List.getElem?_map, List.getElem?_range hi]
    rfl
  · rw [y.2]
    exact .d (.int _)
theorem enmD_len : ∀ (n : Nat) (xs : List PyData), (enmD n xs).length = xs.length
  | _, [] => rfl
  | n, _ :: r => congrArg Nat.succ (enmD_len (n + 1) r)
theorem enmD_get : ∀ (xs : List PyData) (n i : Nat), (enmD n xs)[i]? = xs[i]?.map fun x => DV.d (.tuple [.int ((n + i : Nat) : Int), x])
  | [], _, _ => by simp [enmD]
  | x :: r, n, 0 => by simp [enmD]
  | x :: r, n, i + 1 => by
    have := enmD_get r (n + 1) i
    simp only [enmD, List.getElem?_cons_succ, this]
    rw [show n + 1 + i = n + (i + 1) from by omega]
theorem zipD_get : ∀ (xs ys : List PyData) (i : Nat) (x y : PyData), xs[i]? = some x → ys[i]? = some y → (zipD xs ys)[i]? = some (DV.d (.tuple [x, y]))
  | [], _, _, _, _, h, _ => by simp at h
  | _ :: _, [], _, _, _, _, h => by simp at h
  | a :: xs, b :: ys, 0, x, y, h, g => by
    simp at h g
    subst h g
    rfl
  | a :: xs, b :: ys, i + 1, x, y, h, g => by
    simp only [List.getElem?_cons_succ] at h g
    simp only [zipD, List.getElem?_cons_succ]
    exact zipD_get xs ys i x y h g
theorem zipD_len : ∀ (xs ys : List PyData), (zipD xs ys).length = min xs.length ys.length
  | [], _ => by simp [zipD]
  | _ :: _, [] => by simp [zipD]
  | a :: xs, b :: ys => by
    have := zipD_len xs ys
    simp only [zipD, List.length_cons, this]
    omega
/-- the tuple at a as it stands at each turn, each item in a new pair -/
def IteT (K : Fg) (a : Addr) : It :=
  ⟨fun i H => ∃ (xs : List V) (x : V), SqT K H a xs ∧ xs[i]? = some x, fun i H v H' => ∃ T x, v = .ref T ∧ H T = none ∧ H' = upd H T (.tup [.int (i : Nat), x]) ∧ ∀ xs, SqT K H a xs → xs[i]? = some x, fun i H => ∃ xs : List V, SqT K H a xs ∧ xs.length ≤ i⟩
theorem walk_enl {a : Addr} {vs : List V} {ds : List PyData} (h : ∀ U : Wd, U.Ok → Stp W U → SqL K U.H a vs ∧ Rs K U vs ds) : Walks K (Ite K a) W (enmD 0 ds) := fun U q l i => by
  obtain ⟨h1, h2⟩ := h U q l
  rw [enmD_len]
  refine ⟨fun hi => ⟨?_, fun x H' y => ?_⟩, fun hi => ⟨vs, h1, by rw [h2.length]; exact hi⟩⟩
  · have hv : i < vs.length := by rw [h2.length]; exact hi
    exact ⟨vs, vs[i], h1, List.getElem?_eq_getElem hv⟩
  · obtain ⟨T, v, rfl, n, rfl, e⟩ := y
    obtain ⟨d, hd, r⟩ := h2.getV (e vs h1)
    refine ⟨_, rfl, (lay q n).2, (lay q n).1, .d (.tuple [.int (i : Nat), d]), by rw [enmD_get, hd]; simp, .d (lay_tup q n (.cons (.int _) (.cons r .nil)))⟩
theorem walk_ent {a : Addr} {vs : List V} {ds : List PyData} (h : ∀ U : Wd, U.Ok → Stp W U → SqT K U.H a vs ∧ Rs K U vs ds) : Walks K (IteT K a) W (enmD 0 ds) := fun U q l i => by
  obtain ⟨h1, h2⟩ := h U q l
  rw [enmD_len]
  refine ⟨fun hi => ⟨?_, fun x H' y => ?_⟩, fun hi => ⟨vs, h1, by rw [h2.length]; exact hi⟩⟩
  · have hv : i < vs.length := by rw [h2.length]; exact hi
    exact ⟨vs, vs[i], h1, List.getElem?_eq_getElem hv⟩
  · obtain ⟨T, v, rfl, n, rfl, e⟩ := y
    obtain ⟨d, hd, r⟩ := h2.getV (e vs h1)
    refine ⟨_, rfl, (lay q n).2, (lay q n).1, .d (.tuple [.int (i : Nat), d]), by rw [enmD_get, hd]; simp, .d (lay_tup q n (.cons (.int _) (.cons r .nil)))⟩
theorem walk_zpl {a b : Addr} {vs us : List V} {ds es : List PyData} (h : ∀ U : Wd, U.Ok → Stp W U → (SqL K U.H a vs ∧ Rs K U vs ds) ∧ SqL K U.H b us ∧ Rs K U us es) : Walks K (Itz K a b) W (zipD ds es) := fun U q l i => by
  obtain ⟨⟨h1, h2⟩, h3, h4⟩ := h U q l
  have l1 := h2.length
  have l2 := h4.length
  rw [zipD_len]
  refine ⟨fun hi => ⟨?_, fun x H' y => ?_⟩, fun hi => ⟨vs, us, h1, h3, by omega⟩⟩
  · have hv : i < vs.length := by omega
    have hu : i < us.length := by omega
    exact ⟨vs, us, vs[i], us[i], h1, h3, List.getElem?_eq_getElem hv, List.getElem?_eq_getElem hu⟩
  · obtain ⟨T, v, u, rfl, n, rfl, e, e'⟩ := y
    obtain ⟨d, hd, r⟩ := h2.getV (e vs h1)
    obtain ⟨d', hd', r'⟩ := h4.getV (e' us h3)
    exact ⟨_, rfl, (lay q n).2, (lay q n).1, _, zipD_get _ _ _ _ _ hd hd', .d (lay_tup q n (.cons r (.cons r' .nil)))⟩
theorem walk_zpt {a b : Addr} {vs us : List V} {ds es : List PyData} (h : ∀ U : Wd, U.Ok → Stp W U → (SqT K U.H a vs ∧ Rs K U vs ds) ∧ SqT K U.H b us ∧ Rs K U us es) : Walks K (RZ.ItzT K a b) W (zipD ds es) := fun U q l i => by
  obtain ⟨⟨h1, h2⟩, h3, h4⟩ := h U q l
  have l1 := h2.length
  have l2 := h4.length
  rw [zipD_len]
  refine ⟨fun hi => ⟨?_, fun x H' y => ?_⟩, fun hi => ⟨vs, us, h1, h3, by omega⟩⟩
  · have hv : i < vs.length := by omega
    have hu : i < us.length := by omega
    exact ⟨vs, us, vs[i], us[i], h1, h3, List.getElem?_eq_getElem hv, List.getElem?_eq_getElem hu⟩
  · obtain ⟨T, v, u, rfl, n, rfl, e, e'⟩ := y
    obtain ⟨d, hd, r⟩ := h2.getV (e vs h1)
    obtain ⟨d', hd', r'⟩ := h4.getV (e' us h3)
    exact ⟨_, rfl, (lay q n).2, (lay q n).1, _, zipD_get _ _ _ _ _ hd hd', .d (lay_tup q n (.cons r (.cons r' .nil)))⟩
/-- a list's or a tuple's data and where they stand -/
theorem seq_walk {v : V} {d : DV} {xs : List PyData} (k : W.Ok) (h : RD K W v d) (e : seqOf d = some xs) :
    ∃ a vs, v = .ref a ∧ ((d = .d (.list xs) ∧ ∀ U : Wd, U.Ok → Stp W U → SqL K U.H a vs ∧ Rs K U vs xs) ∨ (d = .d (.tuple xs) ∧ ∀ U : Wd, U.Ok → Stp W U → SqT K U.H a vs ∧ Rs K U vs xs)) := by
  cases h with
  | vat h => cases e
  | scr h => cases e
  | d h =>
    cases h with
    | lst e1 n m hs =>
      cases e
      exact ⟨_, _, rfl, .inl ⟨rfl, fun U q l => ⟨SqL.of (l.ext _ _ e1 (fun v => n (k.va _ v).1) m), hs.stp l k⟩⟩⟩
    | tup e1 hs =>
      cases e
      exact ⟨_, _, rfl, .inr ⟨rfl, fun U q l => ⟨rd_keep (l.keepN k) e1, hs.stp l k⟩⟩⟩
    | _ => cases e
/-- steps that leave this frame's growing lists as they are -/
structure Sq (W U : Wd) : Prop where
  stp : Stp W U
  own : ∀ a xs, W.O a → W.H a = some (.lst xs) → U.H a = some (.lst xs) ∧ U.O a
theorem Le.sq (l : Le W U) (k : W.Ok) : Sq W U := ⟨l.stp, fun a xs h e => ⟨l.ext a _ e (k.ov h), by rw [l.o]; exact h⟩⟩
theorem Sq.there (l : Sq W U) (k : W.Ok) (a : Addr) (h : W.O a) : ∃ o, U.H a = some o := by
  obtain ⟨xs, e⟩ := k.ot a h
  exact ⟨_, (l.own a xs h e).1⟩
theorem Sq.trans {Z : Wd} (k : W.Ok) (q : U.Ok) (l : Sq W U) (m : Sq U Z) : Sq W Z := ⟨l.stp.trans k q m.stp (l.there k), fun a xs h e => by
  obtain ⟨h1, h2⟩ := l.own a xs h e
  exact m.own a xs h2 h1⟩
theorem Gd.sq (l : Sq W U) (k : W.Ok) {σ : L2.St} {τ : SDs} (h : Gd K W σ τ) : Gd K U σ τ :=
  ⟨h.len, fun i x e => by
    obtain ⟨v, h1, h2⟩ := h.get i x e
    refine ⟨v, h1, ?_⟩
    cases h2 with
    | val h2 => exact .val (h2.stp l.stp k)
    | own e1 o hs =>
      obtain ⟨e2, o2⟩ := l.own _ _ o e1
      exact .own e2 o2 (hs.stp l.stp k), h.uni⟩
/-- one of the growing lists grows -/
theorem grow {a : Addr} {xs ys : List V} (k : W.Ok) (h : W.O a) (e : W.H a = some (.lst xs)) : ({ W with H := upd W.H a (.lst ys) } : Wd).Ok ∧ Stp W { W with H := upd W.H a (.lst ys) } := by
  have ne : ∀ {b : Addr}, W.A b → b ≠ a := fun {b} hb z => by subst z; exact k.oa _ h hb
  refine ⟨⟨fun b hb => ?_, fun b hb => ?_, fun b hb => ?_, k.oa⟩, ⟨fun b o e' _ n => ?_, fun _ z => z, fun _ z => .inl z, fun _ z => z, fun _ z => .inl z, fun _ z => .inl z⟩⟩
  · obtain ⟨h1, c, hh, m, e1, r⟩ := k.va b hb
    exact ⟨h1, c, hh, m, by show upd W.H a _ b = _; rw [upd_ne (ne h1)]; exact e1, r⟩
  · obtain ⟨o, e1⟩ := k.at_ b hb
    exact ⟨o, by show upd W.H a _ b = _; rw [upd_ne (ne hb)]; exact e1⟩
  · by_cases z : b = a
    · subst z
      exact ⟨_, upd_same⟩
    · obtain ⟨o, e1⟩ := k.ot b hb
      exact ⟨o, by show upd W.H a _ b = _; rw [upd_ne z]; exact e1⟩
  · have z : b ≠ a := fun z => by subst z; exact n h
    show upd W.H a _ b = _
    rw [upd_ne z]
    exact e'
mutual
theorem R.less {O : Addr → Prop} (h : ∀ a, O a → W.O a) : ∀ {v : V} {d : PyData}, R K W v d → R K { W with O := O } v d
  | _, _, .non => .non
  | _, _, .bl b => .bl b
  | _, _, .int i => .int i
  | _, _, .str x => .str x
  | _, _, .lst e n m q => .lst e n (fun z => m (h _ z)) (Rs.less h q)
  | _, _, .tup e q => .tup e (Rs.less h q)
  | _, _, .dic e => .dic e
theorem Rs.less {O : Addr → Prop} (h : ∀ a, O a → W.O a) : ∀ {vs : List V} {ds : List PyData}, Rs K W vs ds → Rs K { W with O := O } vs ds
  | _, _, .nil => .nil
  | _, _, .cons q t => .cons (R.less h q) (Rs.less h t)
end
end
section
variable {X : Cx}
theorem turn_enumT {P : Program} {w : World} {K : Fg} {elts : List Expr} {kk : Nat} {tpos : Pos} (a e it : Addr) :
    Turn P w K (.Tuple elts kk tpos) (IteT K a) [e, it] e (fun i h => (∃ old, IsEnum h e it ((i : Nat) : Int) old) ∧ h.IsTupleIter it a i ∧ e ≠ it) where
  mem := by simp
  obj := fun i h st b hb => by
    obtain ⟨⟨old, he⟩, ⟨o, ho, hc, hd⟩, _⟩ := st
    have e' : b = e ∨ b = it := by simpa using hb
    rcases e' with z | z
    · rw [z]; exact ⟨_, he, fun v q => nomatch q⟩
    · rw [z]; exact ⟨o, ho, fun v q => by rw [hd] at q; cases q⟩
  keep := fun i h h' st k => let ⟨⟨old, he⟩, hi, hne⟩ := st; ⟨⟨old, k e (by simp) _ he⟩, hi.at fun o q => k it (by simp) o q, hne⟩
  item := by
    intro X hP hw hK hc i pins s σ H E I hf st hg
    subst hP hw hK
    obtain ⟨⟨old, he⟩, hit, hne⟩ := st
    obtain ⟨xs, x, hq, hx⟩ := hg
    obtain ⟨its, rv, p, hz⟩ := I.tuple hq
    obtain ⟨u, hu, ru⟩ := rv.get hx
    have hel : e < s.heap.objs.size := Heap.lt_size he
    have hil : it < s.heap.objs.size := by obtain ⟨_, q, _⟩ := hit; exact Heap.lt_size q
    have ai : a ≠ it := by
      intro z
      obtain ⟨o, h1, h2, _⟩ := p
      obtain ⟨o', h3, h4, _⟩ := hit
      rw [z, h3] at h1
      cases h1
      rw [h2] at h4
      exact absurd (Value.type.inj h4) (by decide)
    have ae : a ≠ e := by
      intro z
      obtain ⟨o, h1, h2, _⟩ := p
      rw [z] at h1
      have h3 := he
      unfold IsEnum at h3
      rw [h3] at h1
      cases h1
      exact absurd (Value.type.inj h2) (by decide)
    refine wpAny_pyNext_enum_itemD (Draws.tuple (A := X.A.in1) (I.ok.hd hc) it a ai its.toArray) he ⟨hit, p⟩ (n := its.toArray.size) (by
      rw [List.size_toArray]
      have := List.getElem?_eq_some_iff.mp hu
      exact this.1) hne (by
      intro z
      have e' : e = it ∨ e = a := by simpa using z
      rcases e' with z | z
      · exact hne z
      · exact ae z.symm) fun y h' tk hy ho hst hT hsz hk => ?_
    have ey : y = u := by
      have hy : its.toArray[i]? = some y := hy
      simp only [List.getElem?_toArray] at hy
      rw [hu] at hy
      exact (Option.some.inj hy).symm
    subst ey
    refine ⟨_, rfl, wpAny_letOwnedTupleGo_enum (s := { s with heap := h', toks := tk + 1 }) ho fun h'' he' sb => ?_⟩
    have hT2 : h''.get? s.heap.objs.size = some { cls := .type "tuple", data := .seq #[.int i tk, y] } := (sb.2 _ (Nat.ne_of_gt hel)).trans hT
    have new : ObjOk X.prog X.w (upd H s.heap.objs.size (.tup [.int (i : Nat), x])) h'' s.heap.objs.size (.tup [.int (i : Nat), x]) :=
      ⟨by show 2 ≤ sizeLine; decide, [.int i tk, y], .cons ⟨_, rfl⟩ (.cons ru .nil), ⟨_, hT2, rfl, _, rfl⟩⟩
    have I1 : Inv X pins σ (upd H s.heap.objs.size (.tup [.int (i : Nat), x])) { s with heap := h'', toks := tk + 1 } :=
      I.turnedNew (ch := [e, it]) (fun b ob hb q => (sb.2 b (fun z => hb (by simp [z]))).trans (hk b ob (fun z => hb (by simp [z])) (fun z => hb (by simp [z])) q)) hf (Nat.le_refl _) new
    refine ⟨.ref s.heap.objs.size, _, I1, rfl, ⟨_, x, rfl, I.hok.fresh (Nat.le_refl _), rfl, fun ys hy => by rw [I.tuple_inj hy hq]; exact hx⟩, ⟨⟨y, ?_⟩, hst.1.at fun o q => (sb.2 it (Ne.symm hne)).trans q, hne⟩, fun b hb => ?_⟩
    · have e1 : ((i + 1 : Nat) : Int) = (i : Int) + 1 := by omega
      rw [e1]; exact he'
    · have hb' : b < s.heap.objs.size := by
        have e' : b = e ∨ b = it := by simpa using hb
        rcases e' with z | z
        · rw [z]; exact hel
        · rw [z]; exact hil
      rw [upd_ne (Nat.ne_of_lt hb')]
      exact (hf b hb).1
  done := by
    intro X hP hw hK hc i pins s σ H E I hf st hg
    subst hP hw hK
    obtain ⟨⟨old, he⟩, hit, hne⟩ := st
    obtain ⟨xs, hq, hx⟩ := hg
    obtain ⟨its, rv, p, hz⟩ := I.tuple hq
    obtain ⟨f0, f1, f2, f3, f4, f5⟩ := hf it (by simp)
    have hl := rv.length
    have ai : a ≠ it := by
      intro z
      obtain ⟨o, h1, h2, _⟩ := p
      obtain ⟨o', h3, h4, _⟩ := hit
      rw [z, h3] at h1
      cases h1
      rw [h2] at h4
      exact absurd (Value.type.inj h4) (by decide)
    refine wpAny_pyNext_enum_endD (Draws.mk (n := i) (fp := [it, a]) (P := fun _ _ => False) (St := fun j h => j = i ∧ h.IsTupleIter it a i ∧ h.IsTuple a its.toArray) (fun _ _ st => let ⟨o, ho, _⟩ := st.2.1; ⟨o, ho⟩) (fun _ _ _ st hk => ⟨st.1, st.2.1.at fun o e => hk it (by simp) o e, st.2.2.at fun o e => hk a (by simp) o e⟩) (fun j s Q E hi st _ => absurd st.1 (Nat.ne_of_lt hi)) (fun s Q E st hE => wpAny_nextOf_tuple_end (I.ok.hd hc) st.2.1 st.2.2 (by simp; omega) hE)) he ⟨rfl, hit, p⟩ fun h' eb => ⟨rfl, I.turned (t' := s.toks) (fun b o hb q => eb b o hb q) f0 f1 f3 f4 f5⟩
  self := fun A i s Q E st h => let ⟨⟨_, he⟩, _⟩ := st; wpAny_pyIter_enum he h
def iEnumA (K : Fg) (ta : TA) : TI := fun σ H R => ta σ H fun vs H1 => ∃ a, vs = [.ref a] ∧ ((∃ xs, SqL K H1 a xs ∧ R (Ite K a) H1) ∨ (∃ xs, SqT K H1 a xs ∧ R (IteT K a) H1))
theorem pi_enumA {X : Cx} {e : Expr} {ta : TA} {p pos tpos : Pos} {elts : List Expr} {kk : Nat} (hg : Gl X "enumerate") (hm : X.mg "enumerate" = none) (ha : PA X [e] ta) (hs : starEach [e] X.env = [(false, eval e X.env)]) :
    PI X (.Tuple elts kk tpos) (.Call (.Name "enumerate" p) [e] [] pos) (iEnumA X.K ta) := by
  refine ⟨fun pins s σ H R I h => ?_⟩
  refine Call_ (ld_blt I hg hm boot_enumerate (PyProof.Rows.callWith_type1 (thn (ha.run pos pins s σ H _ I h) fun us s1 ⟨vs, H1, I1, r1, q1⟩ => ?_) hs rfl))
  obtain ⟨a, ex, q1⟩ := q1
  subst ex
  have fin : ∀ b, (b = s1.heap.objs.size + 1 ∨ b = s1.heap.objs.size) → FpOk X pins H1 b := fun b e' => by
    have hle : s1.heap.objs.size ≤ b := by
      rcases e' with z | z
      · rw [z]; exact Nat.le_add_right _ _
      · rw [z]; exact Nat.le_refl _
    exact I1.fpOk hle (I1.hok.fresh hle)
  cases r1 with
  | cons r rr =>
    cases rr
    cases r
    rcases q1 with ⟨xs, hq, q⟩ | ⟨xs, hq, q⟩
    · obtain ⟨its, rv, p', hz⟩ := I1.list hq
      refine call_enumerate_list p'.isList fun h' he hit hsz hk => wpAny_pyIter_enum he ?_
      have I2 : Inv X pins σ H1 { s1 with heap := h' } := I1.kept (t' := s1.toks) hk
      exact ⟨s1.heap.objs.size + 1, [s1.heap.objs.size + 1, s1.heap.objs.size], _, _, H1, rfl, I2, turn_enum a (s1.heap.objs.size + 1) s1.heap.objs.size, ⟨⟨.none, he⟩, hit, Nat.succ_ne_self _⟩, fun b hb => fin b (by simpa using hb), q⟩
    · obtain ⟨its, rv, p', hz⟩ := I1.tuple hq
      refine call_enumerate_tuple p' fun h' he hit hsz hk => wpAny_pyIter_enum he ?_
      have I2 : Inv X pins σ H1 { s1 with heap := h' } := I1.kept (t' := s1.toks) hk
      exact ⟨s1.heap.objs.size + 1, [s1.heap.objs.size + 1, s1.heap.objs.size], _, _, H1, rfl, I2, turn_enumT a (s1.heap.objs.size + 1) s1.heap.objs.size, ⟨⟨.none, he⟩, hit, Nat.succ_ne_self _⟩, fun b hb => fin b (by simpa using hb), q⟩
end
end Pf

namespace Pf
open PySem PySem.Spec PyProof.Rows L2
/-! ### from the text to the small language -/
structure CC where
  N : List Str
  sc : Scope
  fn : Str → Bool
  fs : List (Str × Nat)
  kb : List (Str × Nat × List Str × List Nat)
  ms : List (Str × Nat × Bi)
  bs : List Str
  ap : List Nat
  gs : List (Str × PyData) := []
  ds : List (Str × List (PyData × PyData)) := []
def ixOf : List Str → Str → Option Nat
  | [], _ => none
  | y :: r, x => if y = x then some 0 else (ixOf r x).map Nat.succ
theorem ixOf_get : ∀ {N : List Str} {x : Str} {i : Nat}, ixOf N x = some i → N[i]? = some x
  | [], _, _, h => by cases h
  | y :: r, x, i, h => by
    unfold ixOf at h
    split at h
    · rename_i e
      cases h
      simp [e]
    · obtain ⟨j, h1, h2⟩ := Option.map_eq_some_iff.mp h
      subst h2
      simpa using ixOf_get h1
def okName (x : Str) : Bool := !(x == ("__debug__" : Str)) && !(x == ("__classdict__" : Str))
def visK : Option NameKind → Bool
  | some .local => true
  | some .cell => true
  | some .free => true
  | _ => false
def cslot (cc : CC) (x : Str) : Option Nat := if (visK (cc.sc.names.lookup x) && okName x) = true then ixOf cc.N x else none
def isGl : Option NameKind → Bool
  | some .globalImplicit => true
  | _ => false
def cglob (cc : CC) (x : Str) : Bool := isGl (cc.sc.names.lookup x) && okName x
def locK (cc : CC) (x : Str) : Bool := match cc.sc.names.lookup x with
  | some .local => true
  | some .cell => cc.fn x
  | _ => false
def bopOf : Operator → Option BOp
  | .Add => some .add
  | .Sub => some .sub
  | .Mult => some .mul
  | .FloorDiv => some .div
  | .Mod => some .mod
  | .Pow => some .pow
  | .LShift => some .shl
  | _ => none
def copOf : CmpOp → Option COp
  | .Lt => some .lt
  | .LtE => some .le
  | .Gt => some .gt
  | .GtE => some .ge
  | .Eq => some .eq
  | .NotEq => some .ne
  | .In => some .inn
  | .NotIn => some .notin
  | .Is => some .iss
  | .IsNot => some .isnt
def biTab : List (Str × Nat × Bi) := [("len", 1, .len), ("abs", 1, .abs), ("int", 1, .int), ("sum", 1, .sum), ("all", 1, .all), ("any", 1, .any), ("max", 2, .max2), ("min", 2, .min2), ("divmod", 2, .divmod), ("tuple", 1, .tuple), ("list", 1, .list), ("repr", 1, .repr), ("max", 1, .max1), ("min", 1, .min1)]
def bFind (l : List (Str × Nat × Bi)) (x : Str) (n : Nat) : Option Bi := match l.find? fun p => p.1 == x && p.2.1 == n with
  | some p => some p.2.2
  | none => none
def tyTab : List (Str × String) := [("int", "int"), ("bool", "bool"), ("tuple", "tuple"), ("str", "str"), ("list", "list"), ("dict", "dict")]
def isStar : Expr → Bool
  | .Starred _ _ => true
  | _ => false
def plainIx : Expr → Bool
  | .Name _ _ => true
  | .Constant _ _ _ => true
  | .BinOp _ _ _ _ => true
  | .UnaryOp _ _ _ => true
  | .Call _ _ _ _ => true
  | .Subscript _ _ _ => true
  | .IfExp _ _ _ _ => true
  | .Tuple _ _ _ => true
  | _ => false
/-- tests that ask a value's truth -/
def plainT : Expr → Bool
  | .Name _ _ => true
  | .Call _ _ _ _ => true
  | .Subscript _ _ _ => true
  | .Constant _ _ _ => true
  | _ => false
def iterOk : Expr → Bool
  | .Name _ _ => true
  | .Call _ _ _ _ => true
  | .Subscript _ _ _ => true
  | .BinOp _ _ _ _ => true
  | .List _ _ => true
  | .Tuple _ _ _ => true
  | .IfExp _ _ _ _ => true
  | .ListComp _ _ _ _ => true
  | _ => false
def kwNames : List Keyword → Option (List Str)
  | [] => some []
  | ⟨some x, _, _⟩ :: r => (kwNames r).map (x :: ·)
  | _ => none
def ownOf (N : List Str) (scope : Scope) : List (Str × Nat) := scope.names.filterMap fun p => match p.2 with
  | .local => (ixOf N p.1).map fun i => (p.1, i)
  | .cell => (ixOf N p.1).map fun i => (p.1, i)
  | _ => none
def inCC (cc : CC) (scope : Scope) : CC := { cc with sc := relS scope cc.sc, fn := fun x => scope.names.lookup x == some .cell }
def tgName (cc : CC) : Expr → Option Nat
  | .Name x _ => if locK cc x = true then ixOf cc.N x else none
  | _ => none
def tgNames (cc : CC) : List Expr → Option (List Nat)
  | [] => some []
  | e :: r => match tgName cc e, tgNames cc r with
    | some i, some is => some (i :: is)
    | _, _ => none
mutual
def cTgN : Nat → CC → Expr → Option Tg
  | 0, _, _ => none
  | n + 1, cc, e => match e with
    | .Name x p => (tgName cc (.Name x p)).map .one
    | .Tuple es _ _ => match tgNames cc es with
      | some is => some (.many is)
      | none => (cTgL n cc es).map .nest
    | _ => none
def cTgL : Nat → CC → List Expr → Option Tgs
  | 0, _, _ => none
  | n + 1, cc, es => match es with
    | [] => some .nil
    | e :: r => match cTgN n cc e, cTgL n cc r with
      | some t, some ts => some (.cons t ts)
      | _, _ => none
end
def cTg (cc : CC) (e : Expr) : Option Tg := cTgN 12 cc e
def tgIn (g : Tg) (l : List Nat) : Bool := g.slots.all l.contains
/-- what is read before a method's name -/
def baseOk : Expr → Bool
  | .Name _ _ => true
  | .Call _ (_ :: _) _ _ => true
  | .Subscript _ _ _ => true
  | _ => false
def dsOf (cc : CC) : Expr → Option (List (PyData × PyData))
  | .Name x _ => if cglob cc x = true then cc.ds.lookup x else none
  | _ => none
/-- a walk that makes pairs wants a tuple of targets -/
def tgOk : RI → Expr → Bool
  | .enm _, .Tuple _ _ _ => true
  | .enm _, _ => false
  | .zip _ _, .Tuple _ _ _ => true
  | .zip _ _, _ => false
  | _, _ => true
mutual
def cE : Nat → CC → Expr → Option RE
  | 0, _, _ => none
  | n + 1, cc, e => match e with
    | .Constant c _ _ => match c with
      | .none => some (.con .none)
      | .bool b => some (.con (.bool b))
      | .int i => some (.con (.int i))
      | .str s => some (.con (.str s))
      | _ => none
    | .Name x _ => match cslot cc x with
      | some i => some (.var i)
      | none => if cglob cc x = true then (cc.gs.lookup x).map .con else none
    | .Tuple es _ _ => (cA n cc es).map .tup
    | .List es _ => (cA n cc es).map .lst
    | .Dict [] [] _ => some .dic
    | .BinOp a op b _ => match bopOf op, cE n cc a, cE n cc b with
      | some o, some x, some y => some (.bin o x y)
      | _, _, _ => none
    | .UnaryOp .USub a _ => (cE n cc a).map .neg
    | .UnaryOp .Not a _ => (cE n cc a).map .notV
    | .BoolOp op vs pos => match vs with
      | [] => none
      | [a] => cE n cc a
      | a :: b :: r => match op, cE n cc a, cE n cc (.BoolOp op (b :: r) pos) with
        | .And, some x, some y => some (.andV x y)
        | .Or, some x, some y => some (.orV x y)
        | _, _, _ => none
    | .Compare a [.Is] [.Constant .none _ _] _ => (cE n cc a).map .isN
    | .Compare a [.IsNot] [.Constant .none _ _] _ => (cE n cc a).map .notN
    | .Compare a [op] [b] _ => if behindInMarks op b = true then none else match copOf op, cE n cc a, cE n cc b with
      | some o, some x, some y => some (.cmp o x y)
      | _, _, _ => none
    | .IfExp c a b _ => match cT n cc c, cE n cc a, cE n cc b with
      | some t, some x, some y => some (.ite t x y)
      | _, _, _ => none
    | .Subscript a (.Slice lo hi none _) _ => match cE n cc a, cO n cc lo, cO n cc hi with
      | some x, some l, some h => some (.slc x l h)
      | _, _, _ => none
    | .Subscript a b _ => if plainIx b = true then match dsOf cc a with
      | some kvs => (cE n cc b).map (.look kvs)
      | none => match cE n cc a, cE n cc b with
        | some x, some y => some (.idx x y)
        | _, _ => none
      else none
    | .Call (.Attribute a m p1) [b] [] p2 => if (m == ("index" : Str) && !isStar b && p1.endLine == p2.line && baseOk a) = true then match cE n cc a, cE n cc b with
      | some x, some y => some (.ixf x y)
      | _, _ => none
      else none
    | .Call (.Attribute a m p1) [] [] p2 => if (m == ("bit_length" : Str) && p1.endLine == p2.line && baseOk a) = true then (cE n cc a).map .bits else none
    | .Call (.Name x _) args kws _ => if cglob cc x = true then match kws with
      | [] => match cc.fs.lookup x with
        | some k => (cA n cc args).map (.call k)
        | none => match bFind cc.ms x args.length with
          | some b => (cA n cc args).map (.bi b)
          | none => if cc.bs.contains x = true then match bFind biTab x args.length with
            | some b => (cA n cc args).map (.bi b)
            | none => match args with
              | [a, .Name T _] => if (x == ("isinstance" : Str) && cglob cc T && cc.bs.contains T) = true then match tyTab.lookup T, cE n cc a with
                | some t, some y => some (.isi y t)
                | _, _ => none
                else none
              | _ => none
            else none
      | _ :: _ => match cc.fs.lookup x, kwNames kws with
        | some k, some ns => match cc.kb.find? fun p => p.1 == x && p.2.1 == args.length && decide (p.2.2.1 = ns) with
          | some p => match cA n cc args, cK n cc kws with
            | some u, some z => if (p.2.2.2.all fun i => decide (i < args.length + ns.length)) = true then some (.callK k args.length ns.length p.2.2.2 u z) else none
            | _, _ => none
          | none => none
        | _, _ => none
      else none
    | .ListComp elt [⟨tg, iter, ifs, 0⟩] scope _ => if (blkC cc.N cc.sc scope (ownOf cc.N scope) && iterOk iter) = true then match cI n cc iter, cTg (inCC cc scope) tg, cTs n (inCC cc scope) ifs, cE n (inCC cc scope) elt with
      | some it, some g, some t, some x => if (tgOk it tg && tgIn g ((ownOf cc.N scope).map (·.2))) = true then some (.lc ((ownOf cc.N scope).map (·.2)) g it t x) else none
      | _, _, _, _ => none
      else none
    | _ => none
def cA : Nat → CC → List Expr → Option RA
  | 0, _, _ => none
  | n + 1, cc, es => match es with
    | [] => some .nil
    | e :: r => if isStar e = true then none else match cE n cc e, cA n cc r with
      | some x, some y => some (.cons x y)
      | _, _ => none
def cK : Nat → CC → List Keyword → Option RA
  | 0, _, _ => none
  | n + 1, cc, es => match es with
    | [] => some .nil
    | ⟨_, e, _⟩ :: r => match cE n cc e, cK n cc r with
      | some x, some y => some (.cons x y)
      | _, _ => none
def cO : Nat → CC → Option Expr → Option RO
  | 0, _, _ => none
  | n + 1, cc, e => match e with
    | none => some .none
    | some e => (cE n cc e).map .some
def cT : Nat → CC → Expr → Option RT
  | 0, _, _ => none
  | n + 1, cc, e => match e with
    | .UnaryOp .Not a _ => (cT n cc a).map .not
    | .BoolOp op vs pos => match vs with
      | [] => none
      | [a] => cT n cc a
      | a :: b :: r => match op, cT n cc a, cT n cc (.BoolOp op (b :: r) pos) with
        | .And, some x, some y => some (.and x y)
        | .Or, some x, some y => some (.or x y)
        | _, _, _ => none
    | .Compare a [.Is] [.Constant .none _ _] _ => (cE n cc a).map fun x => .bl (.isN x)
    | .Compare a [.IsNot] [.Constant .none _ _] _ => (cE n cc a).map fun x => .bl (.notN x)
    | .Compare a [op] [b] _ => if behindInMarks op b = true then none else match copOf op, cE n cc a, cE n cc b with
      | some o, some x, some y => some (.bl (.cmp o x y))
      | _, _, _ => none
    | e => if plainT e = true then (cE n cc e).map .val else none
def cTs : Nat → CC → List Expr → Option RT
  | 0, _, _ => none
  | n + 1, cc, es => match es with
    | [] => some .yes
    | [c] => cT n cc c
    | _ => none
def cI : Nat → CC → Expr → Option RI
  | 0, _, _ => none
  | n + 1, cc, e => match e with
    | .Call (.Name x p) [a] [] pos => if (x == ("range" : Str) && cglob cc x && cc.bs.contains x && !isStar a) = true then (cE n cc a).map .rng else if (x == ("enumerate" : Str) && cglob cc x && cc.bs.contains x && !isStar a) = true then (cE n cc a).map .enm else (cE n cc (.Call (.Name x p) [a] [] pos)).map .seq
    | .Call (.Name x p) [a, b] [] pos => if (x == ("range" : Str) && cglob cc x && cc.bs.contains x && !isStar a && !isStar b) = true then match cE n cc a, cE n cc b with
      | some y, some z => some (.rng2 y z)
      | _, _ => none
      else if (x == ("zip" : Str) && cglob cc x && cc.bs.contains x && !isStar a && !isStar b) = true then match cE n cc a, cE n cc b with
      | some y, some z => some (.zip y z)
      | _, _ => none
      else (cE n cc (.Call (.Name x p) [a, b] [] pos)).map .seq
    | e => (cE n cc e).map .seq
end
def isLoc : Option NameKind → Bool
  | some .local => true
  | _ => false
/-- what a pair of tuples does: 0 in order, 1 exchanged, 2 not known -/
def swp (cc : CC) (ts vs : List Expr) : Nat :=
  if (!(ts.length == 2 || ts.length == 3) || vs.length != ts.length) = true then 0
  else if (ts.all fun t => match t with | .Name x p => isLoc (cc.sc.names.lookup x) && p.line == ((ts.head?.map (·.pos.line)).getD 0) | _ => false) = true then
    (if (vs.all (foldedForSure 8)) = true then 0 else if (vs.all (constantsAlone 8)) = true then 2 else 1)
  else 0
def isLC : Expr → Bool
  | .ListComp _ _ _ _ => true
  | .SetComp _ _ _ _ => true
  | .DictComp _ _ _ _ _ => true
  | _ => false
end Pf

namespace Pf
open PySem PySem.Spec PyProof.Rows L2
/-! ### a def's promise over plain data -/
structure FnP (P : Program) (w : World) (K : Fg) (mg : Str → Option Value) (base : Heap) (lv : Nat) (f : Addr) (fd : FuncData) (ps : List Str) (sp : PSp) : Prop where
  len : ∀ ds Q, sp ds Q → ds.length = ps.length
  run : ∀ (A : Around) (outer : List Env) (s : Shared) (args : Args) (us : List Value) (vs : List V) (W : Wd) (ds : List DV) (Q : DV → Prop), Room lv A → A.guards = some [] → W.Ok → (∀ a, ¬ W.O a) →
    Env0 P w K mg base A outer s W.H → BindsTo s fd args (ps.zip us) → Vals vs us → RDs K W vs ds → sp ds Q →
    codeAny (model P w) A (.call (.ref f) args) (CR CX0 outer P w W.H s (fun v H' => ∃ U r, U.H = H' ∧ U.Ok ∧ Stp W U ∧ RD K U v r ∧ Q r) E0) s
theorem FnP.mono {P : Program} {w : World} {K : Fg} {mg : Str → Option Value} {base : Heap} {i j : Nat} {f : Addr} {fd : FuncData} {ps : List Str} {sp : PSp} (F : FnP P w K mg base i f fd ps sp) (h : i ≤ j) : FnP P w K mg base j f fd ps sp :=
  ⟨F.len, fun A o s ar us vs W ds Q r => F.run A o s ar us vs W ds Q (r.mono h)⟩
/-- how a caller's world looks to the callee, and back -/
def Wd.into (W : Wd) : Wd := ⟨W.H, fun a => W.A a ∨ W.O a, W.V, fun _ => False⟩
def Wd.back (W U : Wd) : Wd := ⟨U.H, fun a => U.A a ∧ ¬ W.O a, U.V, W.O⟩
section
variable {K : Fg} {W U : Wd}
theorem into_ok (k : W.Ok) : W.into.Ok := ⟨fun a v => ⟨.inl (k.va a v).1, (k.va a v).2⟩, fun a h => by
  rcases h with h | h
  · exact k.at_ a h
  · obtain ⟨xs, e⟩ := k.ot a h
    exact ⟨_, e⟩, fun _ h => h.elim, fun _ h => h.elim⟩
mutual
theorem R.into : ∀ {v : V} {d : PyData}, R K W v d → R K W.into v d
  | _, _, .non => .non
  | _, _, .bl b => .bl b
  | _, _, .int i => .int i
  | _, _, .str x => .str x
  | _, _, .lst e n m q => .lst e (fun z => z.elim n m) (fun z => z) (Rs.into q)
  | _, _, .tup e q => .tup e (Rs.into q)
  | _, _, .dic e => .dic e
theorem Rs.into : ∀ {vs : List V} {ds : List PyData}, Rs K W vs ds → Rs K W.into vs ds
  | _, _, .nil => .nil
  | _, _, .cons q t => .cons (R.into q) (Rs.into t)
end
theorem RD.into {v : V} {d : DV} (h : RD K W v d) : RD K W.into v d := by
  cases h with
  | d h => exact .d h.into
  | scr h => exact .scr h
  | vat h => exact .vat h
theorem RDs.into : ∀ {vs : List V} {ds : List DV}, RDs K W vs ds → RDs K W.into vs ds
  | _, _, .nil => .nil
  | _, _, .cons h t => .cons (RD.into h) (RDs.into t)
theorem back_le (k : W.Ok) (q : U.Ok) (l : Stp W.into U) : Le W (W.back U) ∧ (W.back U).Ok := by
  refine ⟨⟨fun a o e n => l.ext a o e n fun z => z, fun a h => ⟨l.a1 a (.inl h), fun z => k.oa a z h⟩, fun a h => ?_, l.v1, l.v2, rfl⟩, ⟨fun a h => ⟨⟨(q.va a h).1, fun z => ?_⟩, (q.va a h).2⟩, fun a h => q.at_ a h.1, fun a h => ?_, fun a h z => z.2 h⟩⟩
  · rcases l.a2 a h.1 with (z | z) | z
    · exact .inl z
    · exact (h.2 z).elim
    · exact .inr z
  · obtain ⟨xs, e⟩ := k.ot a z
    rcases l.v2 a h with v | v
    · exact k.ov z v
    · exact some_ne e v
  · obtain ⟨xs, e⟩ := k.ot a h
    exact ⟨xs, l.ext a _ e (k.ov h) fun z => z⟩
theorem into_o (l : Stp W.into U) {a : Addr} (h : W.O a) : U.A a := l.a1 a (.inr h)
mutual
theorem R.back (l : Stp W.into U) : ∀ {v : V} {d : PyData}, R K U v d → R K (W.back U) v d
  | _, _, .non => .non
  | _, _, .bl b => .bl b
  | _, _, .int i => .int i
  | _, _, .str x => .str x
  | _, _, .lst e n m q => .lst e (fun z => n z.1) (fun z => n (into_o l z)) (Rs.back l q)
  | _, _, .tup e q => .tup e (Rs.back l q)
  | _, _, .dic e => .dic e
theorem Rs.back (l : Stp W.into U) : ∀ {vs : List V} {ds : List PyData}, Rs K U vs ds → Rs K (W.back U) vs ds
  | _, _, .nil => .nil
  | _, _, .cons q t => .cons (R.back l q) (Rs.back l t)
end
theorem RD.back (l : Stp W.into U) {v : V} {d : DV} (h : RD K U v d) : RD K (W.back U) v d := by
  cases h with
  | d h => exact .d (h.back l)
  | scr h => exact .scr h
  | vat h => exact .vat h
end
/-! tables of the module -/
inductive TabI (K : Fg) : List DictEntry → List (PyData × PyData) → Prop
  | nil : TabI K [] []
  | cons {e : DictEntry} {es : List DictEntry} {i : Int} {t : Tok} {v : V} {d : PyData} {r : List (PyData × PyData)} : e.key = .int i t → e.hash = hashInt i → RelV v e.val → (∀ W : Wd, R K W v d) → TabI K es r → TabI K (e :: es) ((.int i, d) :: r)
inductive TabS (P : Params) (K : Fg) : List DictEntry → List (PyData × PyData) → Prop
  | nil : TabS P K [] []
  | cons {e : DictEntry} {es : List DictEntry} {x : Str} {t : Tok} {v : V} {d : PyData} {r : List (PyData × PyData)} : e.key = .str x t → e.hash = PyData.keyHash P x → RelV v e.val → (∀ W : Wd, R K W v d) → TabS P K es r → TabS P K (e :: es) ((.str x, d) :: r)
def KTab (P : Params) (K : Fg) (a : Addr) (kvs : List (PyData × PyData)) : Prop :=
  ∃ es n, K.lookup a = some ⟨.type "dict", none, .dict es n, #[]⟩ ∧ (TabI K es.toList kvs ∨ TabS P K es.toList kvs)
section
variable {K : Fg} {P : Params}
theorem TabI.keys {es : List DictEntry} {kvs : List (PyData × PyData)} (h : TabI K es kvs) : ∀ e ∈ es, ∃ i t, e.key = .int i t ∧ e.hash = hashInt i := by
  induction h with
  | nil => intro e he; cases he
  | cons h1 h2 _ _ _ ih =>
    intro e he
    rcases List.mem_cons.mp he with rfl | he
    · exact ⟨_, _, h1, h2⟩
    · exact ih e he
theorem TabS.keys {es : List DictEntry} {kvs : List (PyData × PyData)} (h : TabS P K es kvs) : ∀ e ∈ es, ∃ i t, e.key = .str i t ∧ e.hash = PyData.keyHash P i := by
  induction h with
  | nil => intro e he; cases he
  | cons h1 h2 _ _ _ ih =>
    intro e he
    rcases List.mem_cons.mp he with rfl | he
    · exact ⟨_, _, h1, h2⟩
    · exact ih e he
theorem TabI.find {es : List DictEntry} {kvs : List (PyData × PyData)} (h : TabI K es kvs) {j : Int} {Q : DV → Prop} (q : lookD kvs (.d (.int j)) Q) : ∃ v u d, findBy Value.isInt es.toArray j = some u ∧ RelV v u ∧ (∀ W : Wd, R K W v d) ∧ Q (.d d) := by
  unfold findBy
  rw [List.find?_toArray]
  induction h with
  | nil => exact q.elim
  | @cons e es i t v d r h1 h2 h3 h4 _ ih =>
    rw [List.find?_cons, h1]
    have e1 : Value.isInt j (.int i t) = decide (i = j) := by
      show (i == j) = _
      rw [Bool.eq_iff_iff]
      simp
    rw [e1]
    have q : (if i = j then Q (.d d) else lookD r (.d (.int j)) Q) := q
    by_cases z : i = j
    · rw [if_pos z] at q
      rw [decide_eq_true z]
      exact ⟨v, _, d, rfl, h3, h4, q⟩
    · rw [if_neg z] at q
      rw [decide_eq_false z]
      exact ih q
theorem TabS.find {es : List DictEntry} {kvs : List (PyData × PyData)} (h : TabS P K es kvs) {j : Str} {Q : DV → Prop} (q : lookD kvs (.d (.str j)) Q) : ∃ v u d, findBy Value.isStrOf es.toArray j = some u ∧ RelV v u ∧ (∀ W : Wd, R K W v d) ∧ Q (.d d) := by
  unfold findBy
  rw [List.find?_toArray]
  induction h with
  | nil => exact q.elim
  | @cons e es i t v d r h1 h2 h3 h4 _ ih =>
    rw [List.find?_cons, h1]
    have e1 : Value.isStrOf j (.str i t) = decide (i = j) := by
      show (i == j) = _
      rw [Bool.eq_iff_iff]
      simp
    rw [e1]
    have q : (if i = j then Q (.d d) else lookD r (.d (.str j)) Q) := q
    by_cases z : i = j
    · rw [if_pos z] at q
      rw [decide_eq_true z]
      exact ⟨v, _, d, rfl, h3, h4, q⟩
    · rw [if_neg z] at q
      rw [decide_eq_false z]
      exact ih q
end
section
variable {X : Cx}
def rIxTab (K : Fg) (P : Params) : R2 := fun x y H Q => ∃ p kvs dy R0, x = .ref p ∧ KTab P K p kvs ∧ (∃ W : Wd, W.H = H ∧ RD K W y dy) ∧ lookD kvs dy R0 ∧ ∀ d v, R0 (.d d) → (∀ W : Wd, R K W v d) → Q v H
theorem lookD_key {kvs : List (PyData × PyData)} {dy : DV} {Q : DV → Prop} (h : lookD kvs dy Q) : (∃ j, dy = .d (.int j)) ∨ ∃ j, dy = .d (.str j) := by
  unfold lookD at h
  split at h <;> first | exact .inl ⟨_, rfl⟩ | exact .inr ⟨_, rfl⟩ | exact h.elim
theorem TabI.noStr {K : Fg} {es : List DictEntry} {kvs : List (PyData × PyData)} (h : TabI K es kvs) {j : Str} {Q : DV → Prop} (q : lookD kvs (.d (.str j)) Q) : False := by
  cases h with
  | nil => exact q
  | cons => exact q
theorem TabS.noInt {K : Fg} {P : Params} {es : List DictEntry} {kvs : List (PyData × PyData)} (h : TabS P K es kvs) {j : Int} {Q : DV → Prop} (q : lookD kvs (.d (.int j)) Q) : False := by
  cases h with
  | nil => exact q
  | cons => exact q
theorem ix_tab : IxR X (rIxTab X.K X.w.params) := by
  intro value slice pins s σ H x y v u Q I rx ry h hs
  obtain ⟨p, kvs, dy, R0, rfl, ⟨es, n, hl, ht⟩, ⟨W, rfl, hy⟩, hk, q⟩ := h
  obtain rfl : v = Value.ref p := rx
  rcases lookD_key hk with ⟨j, rfl⟩ | ⟨j, rfl⟩
  · have ht : TabI X.K es.toList kvs := ht.elim id fun z => (z.noInt hk).elim
    obtain ⟨v, u0, d, hf, rv, hr, hQ⟩ := ht.find hk
    have ey : y = .int j := by
      cases hy with
      | d hy => cases hy; rfl
    subst ey
    obtain ⟨t, rfl⟩ := ry
    have hm : s.heap.MapOf (intKind X.prog X.w) p (fun k => findBy Value.isInt es k) :=
      ⟨_, es, n, I.kIn _ _ hl, ⟨rfl, rfl, rfl⟩, rfl, fun e he => by
        obtain ⟨i, t, e1, e2⟩ := ht.keys e (Array.mem_toList_iff.mpr he)
        exact ⟨i, by rw [e1]; exact intKind_is X.prog X.w i t, e2⟩, fun _ => rfl⟩
    exact tail_any hm.typeIs slot_dict_getitem.lookup (wpAny_getItem_of (intKind_is X.prog X.w j t) hm (by simpa using hf) ⟨v, _, I.tok _, rv, q d v hQ hr⟩) hs
  · have ht : TabS X.w.params X.K es.toList kvs := ht.elim (fun z => (z.noStr hk).elim) id
    obtain ⟨v, u0, d, hf, rv, hr, hQ⟩ := ht.find hk
    have ey : y = .str j := by
      cases hy with
      | d hy => cases hy; rfl
    subst ey
    obtain ⟨t, rfl⟩ := ry
    have hm : s.heap.MapOf (strKind X.prog X.w) p (fun k => findBy Value.isStrOf es k) :=
      ⟨_, es, n, I.kIn _ _ hl, ⟨rfl, rfl, rfl⟩, rfl, fun e he => by
        obtain ⟨i, t, e1, e2⟩ := ht.keys e (Array.mem_toList_iff.mpr he)
        exact ⟨i, by rw [e1]; exact strKind_is X.prog X.w i t, e2⟩, fun _ => rfl⟩
    exact tail_any hm.typeIs slot_dict_getitem.lookup (wpAny_getItem_of (strKind_is X.prog X.w j t) hm (by simpa using hf) ⟨v, _, I.tok _, rv, q d v hQ hr⟩) hs
/-- the callee runs -/
theorem run_P {lv : Nat} {f : Addr} {fd : FuncData} {ps : List Str} {sp : PSp} {pins : List (Addr × Obj)} {s : Shared} {σ : L2.St} {W : Wd} {args : Args} {us : List Value} {vs : List V} {ds : List DV} {R : DV → Prop} {Q : VK}
    (F : FnP X.prog X.w X.K X.mg X.base lv f fd ps sp) (hr : Room lv X.A) (hg : X.A.guards = some []) (I : Inv X pins σ W.H s) (hb : BindsTo s fd args (ps.zip us)) (rv : Vals vs us) (k : W.Ok) (hd : RDs X.K W vs ds) (hs : sp ds R)
    (hq : ∀ r v U, R r → U.Ok → Le W U → RD X.K U v r → Q v U.H) : codeAny (model X.prog X.w) X.A (.call (.ref f) args) (fun r s' => match r with | .ok (.ret u) => EP X pins σ Q u s' | _ => False) s := by
  refine codeAny_mono (F.run X.A X.stack s args us vs W.into ds R hr hg (into_ok k) (fun _ z => z) I.env0 hb rv hd.into hs) fun r z h => ?_
  cases r with
  | error e => exact h.elim
  | ok fl =>
    cases fl with
    | ret u =>
      obtain ⟨v, G, J, rv', U, r', e, q, l, hr', hR⟩ := I.after (show CE X.stack X.prog X.w W.H s _ u z from h)
      subst e
      obtain ⟨l1, l2⟩ := back_le k q l
      exact ⟨v, U.H, J, rv', (show Q v (W.back U).H from hq r' v (W.back U) hR l2 l1 (hr'.back l))⟩
    | next => exact False.elim h
    | brk => exact False.elim h
    | cont => exact False.elim h
/-! ### the context of a def's body -/
structure Fns (X : Cx) (Φ : Nat → PSp) (lv : Nat) (x : Str) (k : Nat) : Prop where
  ex : ∃ (f : Addr) (fd : FuncData) (ps : List Str), X.mg x = some (.ref f) ∧ PySem.W.keepIn X.K (.ref f) = true ∧ FnP X.prog X.w X.K X.mg X.base lv f fd ps (Φ k) ∧ Binds X.K fd ps []
structure Fnk (X : Cx) (Φ : Nat → PSp) (lv : Nat) (x : Str) (k n : Nat) (kn : List Str) (pm : List Nat) : Prop where
  ex : ∃ (f : Addr) (fd : FuncData) (ps : List Str), X.mg x = some (.ref f) ∧ PySem.W.keepIn X.K (.ref f) = true ∧ FnP X.prog X.w X.K X.mg X.base lv f fd ps (Φ k) ∧
    ∀ (s : Shared) (us ws : List Value), X.K.In s.heap → us.length = n → ws.length = kn.length → BindsTo s fd ⟨us, kn.zip ws⟩ (ps.zip (pm.filterMap fun i => (us ++ ws)[i]?))
structure Cok (cc : CC) (Φ : Nat → PSp) (lv : Nat) (X : Cx) : Prop where
  nd : X.N.Nodup
  n : X.N = cc.N
  sc : X.env.scope = cc.sc
  fn : X.fn = cc.fn
  calm : X.calm = true
  xe : X.xe = fun _ _ => False
  g : X.A.guards = some []
  r : Room lv X.A
  fs : ∀ x k, cc.fs.lookup x = some k → Fns X Φ lv x k
  kb : ∀ p, p ∈ cc.kb → ∀ k, cc.fs.lookup p.1 = some k → Fnk X Φ lv p.1 k p.2.1 p.2.2.1 p.2.2.2
  ms : ∀ p, p ∈ cc.ms → X.mg p.1 = some (biV p.2.2)
  bs : ∀ x, x ∈ cc.bs → X.mg x = none
  mok : ∀ p, p ∈ cc.ms → 0 < p.2.1 ∧ ∃ id, biV p.2.2 = .builtin id
  gs : ∀ x d, cc.gs.lookup x = some d → ∃ (v : V) (u : Value), X.mg x = some u ∧ RelV v u ∧ ∀ W : Wd, R X.K W v d
  ds : ∀ x kvs, cc.ds.lookup x = some kvs → ∃ a : Addr, X.mg x = some (.ref a) ∧ KTab X.w.params X.K a kvs
variable {cc : CC} {Φ : Nat → PSp} {lv : Nat}
theorem Cok.blk (c : Cok cc Φ lv X) (s : Shared) (H : Hp) (scope : Scope) (C : Addr) (cl : List (Str × Addr)) (fp : List Addr) : Cok (inCC cc scope) Φ lv (X.blk s H scope (compEnvC scope cl C X.env) fp) :=
  ⟨c.nd, c.n, by show relS scope X.env.scope = _; rw [c.sc]; rfl, rfl, c.calm, rfl, c.g, c.r, fun x k h => ⟨(c.fs x k h).ex⟩, fun p h k e => ⟨(c.kb p h k e).ex⟩, c.ms, c.bs, c.mok, c.gs, c.ds⟩
theorem okN {x : Str} (h : okName x = true) : (x == ("__debug__" : Str)) = false ∧ (x == ("__classdict__" : Str)) = false := by
  unfold okName at h
  rw [Bool.and_eq_true, Bool.not_eq_true', Bool.not_eq_true'] at h
  exact h
theorem cslot_ok (c : Cok cc Φ lv X) {x : Str} {i : Nat} (h : cslot cc x = some i) : X.N[i]? = some x ∧ Vis X.env.scope x ∧ okName x = true := by
  unfold cslot at h
  split at h
  · rename_i e
    rw [Bool.and_eq_true] at e
    refine ⟨by rw [c.n]; exact ixOf_get h, ?_, e.2⟩
    have e1 := e.1
    unfold Vis
    rw [c.sc]
    revert e1
    cases cc.sc.names.lookup x with
    | none => intro z; cases z
    | some k => cases k <;> intro z <;> first | exact .inl rfl | exact .inr (.inl rfl) | exact .inr (.inr rfl) | cases z
  · cases h
theorem cglob_ok (c : Cok cc Φ lv X) {x : Str} (h : cglob cc x = true) : Gl X x ∧ okName x = true := by
  unfold cglob at h
  rw [Bool.and_eq_true] at h
  refine ⟨?_, h.2⟩
  have e1 := h.1
  show X.env.scope.names.lookup x = _
  rw [c.sc]
  revert e1
  cases cc.sc.names.lookup x with
  | none => intro z; cases z
  | some k => cases k <;> intro z <;> first | rfl | cases z
theorem locK_ok (c : Cok cc Φ lv X) {x : Str} (h : locK cc x = true) : L2.Loc X.env.scope x ∧ (X.fn x = true ∨ X.env.scope.names.lookup x = some .local) := by
  unfold locK at h
  unfold L2.Loc
  rw [c.sc, c.fn]
  revert h
  cases cc.sc.names.lookup x with
  | none => intro z; cases z
  | some k => cases k <;> intro z <;> first | exact ⟨.inl rfl, .inr rfl⟩ | exact ⟨.inr rfl, .inl z⟩ | cases z
/-! ### lists of expressions -/
theorem star_cons {e : Expr} {es : List Expr} {env : Env} (h : isStar e = false) : starEach (e :: es) env = (false, eval e env) :: starEach es env := by
  cases e <;> first | rfl | cases h
def noStar (es : List Expr) : Bool := es.all fun e => !isStar e
theorem star_any {pos : Pos} {env : Env} : ∀ {es : List Expr}, noStar es = true → (backTo pos (starEach es env)).any (·.1) = false
  | [], _ => rfl
  | e :: r, h => by
    unfold noStar at h
    rw [List.all_cons, Bool.and_eq_true, Bool.not_eq_true'] at h
    rw [star_cons h.1]
    show (false || (backTo pos (starEach r env)).any (·.1)) = false
    rw [star_any h.2]
    rfl
theorem cA_star : ∀ {n : Nat} {es : List Expr} {ra : RA}, cA n cc es = some ra → noStar es = true
  | 0, _, _, h => by simp [cA] at h
  | n + 1, [], _, _ => rfl
  | n + 1, e :: r, ra, h => by
    rw [cA] at h
    split at h
    · cases h
    · rename_i hs
      split at h
      · rename_i x y h1 h2
        have := cA_star h2
        unfold noStar at this ⊢
        rw [List.all_cons, this, Bool.and_true]
        cases e <;> first | rfl | exact (hs rfl).elim
      · cases h
end
end Pf

namespace Pf
open PySem PySem.Spec PyProof.Rows L2
section
variable {X : Cx} {cc : CC} {Φ : Nat → PSp} {lv : Nat} {pos : Pos}
/-! ### one piece at a time -/
theorem e_var (c : Cok cc Φ lv X) {x : Str} {i : Nat} (h : cslot cc x = some i) : PE X (.Name x pos) (trE X.K (wE Φ (.var i))) := by
  obtain ⟨h1, h2, h3⟩ := cslot_ok c h
  obtain ⟨h4, h5⟩ := okN h3
  refine pE_imp (pe_var h1 h2 h4 h5) fun σ H Q q => ?_
  obtain ⟨W, τ, R, rfl, k, g, hw, hq⟩ := q
  simp only [wE] at hw
  split at hw
  · rename_i d e
    obtain ⟨v, e1, r⟩ := g.get i _ e
    cases r with
    | val r => exact ⟨v, e1, hq d v W hw k (Le.refl W) r⟩
  · exact hw.elim
theorem e_con {d : PyData} {v : V} {e : Expr} (h : PE X e (tC v)) (r : ∀ K W, R K W v d) : PE X e (trE X.K (wE Φ (.con d))) := pE_imp h fun σ H Q q => by
  obtain ⟨W, τ, R, rfl, k, g, hw, hq⟩ := q
  simp only [wE] at hw
  exact hq _ v W hw k (Le.refl W) (.d (r _ _))
theorem e_glo (c : Cok cc Φ lv X) {x : Str} {d : PyData} (hg : cglob cc x = true) (h : cc.gs.lookup x = some d) : PE X (.Name x pos) (trE X.K (wE Φ (.con d))) := by
  obtain ⟨g1, g2⟩ := cglob_ok c hg
  obtain ⟨v, u, hm, r, hr⟩ := c.gs x d h
  refine pE_imp (pe_glob g1 hm r (okN g2).1) fun σ H Q q => ?_
  obtain ⟨W, τ, R, rfl, k, g, hw, hq⟩ := q
  simp only [wE] at hw
  exact hq _ v W hw k (Le.refl W) (.d (hr _))
theorem e_tup {es : List Expr} {ra : RA} {n : Nat} (h : PA X es (trA X.K (wA Φ ra))) : PE X (.Tuple es n pos) (trE X.K (wE Φ (.tup ra))) := pE_imp (pe_tup h) fun σ H Q q => by
  obtain ⟨W, τ, R, rfl, k, g, hw, hq⟩ := q
  simp only [wE] at hw
  refine ⟨W, τ, _, rfl, k, g, hw, fun rs vs U hr k1 l1 rv => ?_⟩
  obtain ⟨ds, e, hl, hr⟩ := hr
  have hs := rv.datas e
  exact ⟨by rw [hs.length]; exact sz hl, fun p n => hq _ _ _ hr (lay k1 n).2 (l1.trans k k1 (lay k1 n).1) (.d (lay_tup k1 n hs))⟩
theorem e_lst {es : List Expr} {ra : RA} (h : PA X es (trA X.K (wA Φ ra))) : PE X (.List es pos) (trE X.K (wE Φ (.lst ra))) := pE_imp (pe_lst h) fun σ H Q q => by
  obtain ⟨W, τ, R, rfl, k, g, hw, hq⟩ := q
  simp only [wE] at hw
  refine ⟨W, τ, _, rfl, k, g, hw, fun rs vs U hr k1 l1 rv => ?_⟩
  obtain ⟨ds, e, hl, hr⟩ := hr
  have hs := rv.datas e
  exact ⟨by rw [hs.length]; exact sz hl, fun p n => hq _ _ _ hr (lay k1 n).2 (l1.trans k k1 (lay k1 n).1) (.d (lay_lst k1 n hs))⟩
theorem e_bin {a b : Expr} {x y : RE} {op : Operator} {o : BOp} (ho : bopOf op = some o) (ha : PE X a (trE X.K (wE Φ x))) (hb : PE X b (trE X.K (wE Φ y))) : PE X (.BinOp a op b pos) (trE X.K (wE Φ (.bin o x y))) := by
  have hop : OpR X (binaryOp op) (rW2 X.K (wBin o)) := by
    cases op <;> cases ho <;> first | exact op_addW | exact op_subW | exact op_mulWW | exact op_divW | exact op_modW | exact op_powW | exact op_shlWW
  refine pE_imp (pe_op hop ha hb) fun σ H Q q => bin_imp ?_
  simpa only [wE] using q
theorem un_imp {w : SDs → (DV → Prop) → Prop} {f : DV → (DV → Prop) → Prop} {K : Fg} {σ : L2.St} {H : Hp} {Q : VK} {r : V → Hp → VK → Prop} (hr : ∀ (W : Wd) d v R Q, W.Ok → RD K W v d → f d R → (∀ r v U, R r → U.Ok → Le W U → RD K U v r → Q v U.H) → r v W.H Q)
    (h : trE K (fun τ R => w τ fun x => f x R) σ H Q) : trE K w σ H fun v H1 => r v H1 Q := by
  obtain ⟨W, τ, R, rfl, k, g, hw, hq⟩ := h
  exact ⟨W, τ, _, rfl, k, g, hw, fun d v U hd k1 l1 rv => hr U d v R Q k1 rv hd fun r v Z h1 k2 l2 h2 => hq r v Z h1 k2 (l1.trans k k1 l2) h2⟩
theorem dint_of {K : Fg} {W : Wd} {v : V} {d : DV} {Q : Int → Prop} (h : RD K W v d) (q : dint d Q) : ∃ i, v = .int i ∧ Q i := by
  cases h with
  | d h => cases h <;> first | exact ⟨_, rfl, q⟩ | exact q.elim
  | _ => exact q.elim
theorem dbool_of {K : Fg} {W : Wd} {v : V} {d : DV} {Q : Bool → Prop} (h : RD K W v d) (q : dbool d Q) : ∃ i, v = .bl i ∧ Q i := by
  cases h with
  | d h => cases h <;> first | exact ⟨_, rfl, q⟩ | exact q.elim
  | _ => exact q.elim
theorem e_neg {a : Expr} {x : RE} (ha : PE X a (trE X.K (wE Φ x))) : PE X (.UnaryOp .USub a pos) (trE X.K (wE Φ (.neg x))) := pE_imp (pe_un un_neg ha) fun σ H Q q => by
  simp only [wE] at q
  refine un_imp (f := fun d R => dint d fun i => R (.d (.int (-i)))) (r := rU fun i => .int (-i)) (fun W d v R Q k r h hq => ?_) q
  obtain ⟨i, rfl, h⟩ := dint_of r h
  exact ⟨i, rfl, hq _ _ W h k (Le.refl W) (.d (.int _))⟩
theorem e_not {a : Expr} {x : RE} (ha : PE X a (trE X.K (wE Φ x))) : PE X (.UnaryOp .Not a pos) (trE X.K (wE Φ (.notV x))) := pE_imp (pe_not ha) fun σ H Q q => by
  simp only [wE] at q
  refine un_imp (f := fun d R => dbool d fun i => R (.d (.bool (!i)))) (r := fun v H Q => ∃ c, v = .bl c ∧ Q (.bl (!c)) H) (fun W d v R Q k r h hq => ?_) q
  obtain ⟨i, rfl, h⟩ := dbool_of r h
  exact ⟨i, rfl, hq _ _ W h k (Le.refl W) (.d (.bl _))⟩
theorem e_and {a b : Expr} {rest : List Expr} {x y : RE} (ha : PE X a (trE X.K (wE Φ x))) (hb : PE X (.BoolOp .And (b :: rest) pos) (trE X.K (wE Φ y))) : PE X (.BoolOp .And (a :: b :: rest) pos) (trE X.K (wE Φ (.andV x y))) := pE_imp (pe_and ha hb) fun σ H Q q => by
  obtain ⟨W, τ, R, rfl, k, g, hw, hq⟩ := q
  simp only [wE] at hw
  refine ⟨W, τ, _, rfl, k, g, hw, fun d v U hd k1 l1 rv => ?_⟩
  obtain ⟨i, rfl, h⟩ := dbool_of rv hd
  refine ⟨i, rfl, ?_⟩
  cases i with
  | true => exact iteT ⟨U, τ, R, rfl, k1, g.le l1 k, h, fun r v Z h1 k2 l2 h2 => hq r v Z h1 k2 (l1.trans k k1 l2) h2⟩
  | false => exact iteF (hq _ _ U h k1 l1 (.d (.bl _)))
theorem e_or {a b : Expr} {rest : List Expr} {x y : RE} (ha : PE X a (trE X.K (wE Φ x))) (hb : PE X (.BoolOp .Or (b :: rest) pos) (trE X.K (wE Φ y))) : PE X (.BoolOp .Or (a :: b :: rest) pos) (trE X.K (wE Φ (.orV x y))) := pE_imp (pe_or ha hb) fun σ H Q q => by
  obtain ⟨W, τ, R, rfl, k, g, hw, hq⟩ := q
  simp only [wE] at hw
  refine ⟨W, τ, _, rfl, k, g, hw, fun d v U hd k1 l1 rv => ?_⟩
  obtain ⟨i, rfl, h⟩ := dbool_of rv hd
  refine ⟨i, rfl, ?_⟩
  cases i with
  | true => exact iteT (hq _ _ U h k1 l1 (.d (.bl _)))
  | false => exact iteF ⟨U, τ, R, rfl, k1, g.le l1 k, h, fun r v Z h1 k2 l2 h2 => hq r v Z h1 k2 (l1.trans k k1 l2) h2⟩
theorem copW (c : Cok cc Φ lv X) {op : CmpOp} {o : COp} (ho : copOf op = some o) : OpR X (compareOp op) (rW2 X.K (wCmp o)) := by
  have hu := c.r.units
  have hu5 : X.A.units + 65 < cLine := by have := c.r.un; omega
  cases op <;> cases ho <;> first | exact op_ltW | exact op_leW | exact op_gtW | exact op_geW | exact op_eqW hu | exact op_neW hu | exact op_inW hu5 | exact op_niW hu5 | exact op_isW | exact op_isntW
theorem e_cmp (c : Cok cc Φ lv X) {a b : Expr} {x y : RE} {op : CmpOp} {o : COp} (ho : copOf op = some o) (hm : behindInMarks op b = false) (ha : PE X a (trE X.K (wE Φ x))) (hb : PE X b (trE X.K (wE Φ y))) : PE X (.Compare a [op] [b] pos) (trE X.K (wE Φ (.cmp o x y))) := by
  refine pE_imp (pe_cmpR (copW c ho) ha hb hm) fun σ H Q q => bin_imp ?_
  simpa only [wE] using q
theorem t_cmp (c : Cok cc Φ lv X) {a b : Expr} {x y : RE} {op : CmpOp} {o : COp} (ho : copOf op = some o) (hm : behindInMarks op b = false) (ha : PE X a (trE X.K (wE Φ x))) (hb : PE X b (trE X.K (wE Φ y))) : PT X (.Compare a [op] [b] pos) (trT X.K (wT Φ (.bl (.cmp o x y)))) := by
  refine pT_imp (pt_cmpR (copW c ho) ha hb hm) fun σ H Q q => ?_
  show tOp _ _ _ σ H _
  refine bin_imp ?_
  obtain ⟨W, τ, R, rfl, k, g, hw, hq⟩ := q
  simp only [wT, wE] at hw
  refine ⟨W, τ, _, rfl, k, g, hw, fun r v U h1 k1 l1 rv => ?_⟩
  obtain ⟨i, rfl, h⟩ := dbool_of rv h1
  exact ⟨i, rfl, hq i U h k1 l1⟩
def nonD : PyData → Bool
  | .none => true
  | _ => false
theorem non_of {K : Fg} {W : Wd} {v : V} {d : PyData} (h : R K W v d) : decide (v = .non) = nonD d := by
  cases h <;> rfl
theorem e_isN {a : Expr} {x : RE} {j : Nat} {p : Pos} (ha : PE X a (trE X.K (wE Φ x))) : PE X (.Compare a [.Is] [.Constant .none j p] pos) (trE X.K (wE Φ (.isN x))) := pE_imp (pe_cmp (pc_isN ha) rfl) fun σ H Q q => by
  obtain ⟨W, τ, R, rfl, k, g, hw, hq⟩ := q
  simp only [wE] at hw
  refine ⟨W, τ, _, rfl, k, g, hw, fun d v U hd k1 l1 rv => ?_⟩
  cases rv with
  | d h =>
    rw [non_of h]
    rename_i y
    cases y <;> exact hq _ _ U hd k1 l1 (.d (.bl _))
  | _ => exact hd.elim
theorem e_notN {a : Expr} {x : RE} {j : Nat} {p : Pos} (ha : PE X a (trE X.K (wE Φ x))) : PE X (.Compare a [.IsNot] [.Constant .none j p] pos) (trE X.K (wE Φ (.notN x))) := pE_imp (pe_cmp (pc_notN ha) rfl) fun σ H Q q => by
  obtain ⟨W, τ, R, rfl, k, g, hw, hq⟩ := q
  simp only [wE] at hw
  refine ⟨W, τ, _, rfl, k, g, hw, fun d v U hd k1 l1 rv => ?_⟩
  cases rv with
  | d h =>
    rw [non_of h]
    rename_i y
    cases y <;> exact hq _ _ U hd k1 l1 (.d (.bl _))
  | _ => exact hd.elim
theorem t_isN {a : Expr} {x : RE} {j : Nat} {p : Pos} (ha : PE X a (trE X.K (wE Φ x))) : PT X (.Compare a [.Is] [.Constant .none j p] pos) (trT X.K (wT Φ (.bl (.isN x)))) := pT_imp (pt_cmp (pc_isN ha) rfl) fun σ H Q q => by
  obtain ⟨W, τ, R, rfl, k, g, hw, hq⟩ := q
  simp only [wT, wE] at hw
  refine ⟨W, τ, _, rfl, k, g, hw, fun d v U hd k1 l1 rv => ?_⟩
  cases rv with
  | d h =>
    rw [non_of h]
    rename_i y
    cases y <;> exact ⟨_, rfl, hq _ U hd k1 l1⟩
  | _ => exact hd.elim
theorem t_notN {a : Expr} {x : RE} {j : Nat} {p : Pos} (ha : PE X a (trE X.K (wE Φ x))) : PT X (.Compare a [.IsNot] [.Constant .none j p] pos) (trT X.K (wT Φ (.bl (.notN x)))) := pT_imp (pt_cmp (pc_notN ha) rfl) fun σ H Q q => by
  obtain ⟨W, τ, R, rfl, k, g, hw, hq⟩ := q
  simp only [wT, wE] at hw
  refine ⟨W, τ, _, rfl, k, g, hw, fun d v U hd k1 l1 rv => ?_⟩
  cases rv with
  | d h =>
    rw [non_of h]
    rename_i y
    cases y <;> exact ⟨_, rfl, hq _ U hd k1 l1⟩
  | _ => exact hd.elim
theorem e_ite {t a b : Expr} {r : RT} {x y : RE} (ht : PT X t (trT X.K (wT Φ r))) (ha : PE X a (trE X.K (wE Φ x))) (hb : PE X b (trE X.K (wE Φ y))) : PE X (.IfExp t a b pos) (trE X.K (wE Φ (.ite r x y))) := pE_imp (pe_ifExp ht ha hb) fun σ H Q q => by
  obtain ⟨W, τ, R, rfl, k, g, hw, hq⟩ := q
  simp only [wE] at hw
  refine ⟨W, τ, _, rfl, k, g, hw, fun i U h k1 l1 => ?_⟩
  cases i with
  | true => exact iteT ⟨U, τ, R, rfl, k1, g.le l1 k, h, fun r v Z h1 k2 l2 h2 => hq r v Z h1 k2 (l1.trans k k1 l2) h2⟩
  | false => exact iteF ⟨U, τ, R, rfl, k1, g.le l1 k, h, fun r v Z h1 k2 l2 h2 => hq r v Z h1 k2 (l1.trans k k1 l2) h2⟩
theorem e_idx {a b : Expr} {x y : RE} (hb' : plainIx b = true) (ha : PE X a (trE X.K (wE Φ x))) (hb : PE X b (trE X.K (wE Φ y))) : PE X (.Subscript a b pos) (trE X.K (wE Φ (.idx x y))) := by
  have hs : PlainIx b := by intro o i; cases b <;> first | rfl | cases hb'
  refine pE_imp (pe_ix ixW ha hb hs) fun σ H Q q => bin_imp ?_
  simpa only [wE] using q
theorem e_look (c : Cok cc Φ lv X) {x : Str} {p : Pos} {b : Expr} {y : RE} {kvs : List (PyData × PyData)} (hb' : plainIx b = true) (hg : cglob cc x = true) (h : cc.ds.lookup x = some kvs) (hb : PE X b (trE X.K (wE Φ y))) : PE X (.Subscript (.Name x p) b pos) (trE X.K (wE Φ (.look kvs y))) := by
  have hs : PlainIx b := by intro o i; cases b <;> first | rfl | cases hb'
  obtain ⟨g1, g2⟩ := cglob_ok c hg
  obtain ⟨a, hm, ht⟩ := c.ds x kvs h
  refine pE_imp (pe_ix ix_tab (pe_glob (v := .ref a) g1 hm rfl (okN g2).1) hb hs) fun σ H Q q => ?_
  obtain ⟨W, τ, R0, rfl, k, g, hw, hq⟩ := q
  simp only [wE] at hw
  refine ⟨W, τ, _, rfl, k, g, hw, fun d v U hd k1 l1 rv => ?_⟩
  exact ⟨a, kvs, d, R0, rfl, ht, ⟨U, rfl, rv⟩, hd, fun d' v' h1 h2 => hq _ v' U h1 k1 l1 (.d (h2 U))⟩
theorem base_ok {o : Expr} (h : baseOk o = true) {x : Str} {env : Env} {w : Sem Value} : attributeBase o x env w = w := by
  unfold attributeBase
  cases o <;> first | rfl | (cases h; done) | skip
  rename_i f as ks p
  cases as with
  | nil => cases h
  | cons a r => cases f <;> rfl
theorem e_bits {a : Expr} {p1 : Pos} {x : RE} (hb : baseOk a = true) (hln : (p1.endLine == pos.line) = true) (ha : PE X a (trE X.K (wE Φ x))) : PE X (.Call (.Attribute a ("bit_length" : Str) p1) [] [] pos) (trE X.K (wE Φ (.bits x))) := by
  refine pE_imp (pe_bits ha (base_ok hb) hln) fun σ H Q q => ?_
  simp only [wE] at q
  refine un_imp (f := fun d R => dint d fun i => R (.d (.int (Builtin.Int.intBits i : Nat)))) (r := fun x H Q => ∃ i, x = .int i ∧ Q (.int (Builtin.Int.intBits i : Nat)) H) (fun W d v R Q k r h hq => ?_) q
  obtain ⟨i, rfl, h⟩ := dint_of r h
  exact ⟨i, rfl, hq _ _ W h k (Le.refl W) (.d (.int _))⟩
theorem e_ixf (c : Cok cc Φ lv X) {a b : Expr} {p1 : Pos} {x y : RE} (hb : baseOk a = true) (hs : isStar b = false) (hln : (p1.endLine == pos.line) = true) (ha : PE X a (trE X.K (wE Φ x))) (hb2 : PE X b (trE X.K (wE Φ y))) : PE X (.Call (.Attribute a ("index" : Str) p1) [b] [] pos) (trE X.K (wE Φ (.ixf x y))) := by
  have hp : PA X [b] (tCons (trE X.K (wE Φ y)) tNil) := pa_cons hb2 pa_nil (star_cons hs)
  have hu : X.A.units + 65 < cLine := by have := c.r.un; omega
  refine pE_imp (pe_bm PySem.F.plainAttrs_list PySem.F.slot_list_index PySem.F.type_list_index (mt_indexD hu) ha hp (base_ok hb) (by rw [star_cons hs]; rfl) hln (star_cons hs) rfl) fun σ H Q q => ?_
  obtain ⟨W, τ, R0, rfl, k, g, hw, hq⟩ := q
  simp only [wE] at hw
  refine ⟨W, τ, _, rfl, k, g, hw, fun d v U hd k1 l1 rv => ?_⟩
  obtain ⟨xs, rfl, hd⟩ := hd
  cases rv with
  | d rv =>
    cases rv with
    | lst e1 n m hs1 =>
      refine ⟨.inl ⟨rfl, _, SqL.of e1⟩, U, τ, _, rfl, k1, g.le l1 k, hd, fun d2 u Z hd2 k2 l2 ru => ?_⟩
      unfold ixfD at hd2
      cases ru with
      | d ru =>
        obtain ⟨s1, s2, j, z, hz, hzj, hno, hr⟩ := hd2
        have rl : R X.K Z (.ref _) (.list xs) := R.stp l2.stp k1 (.lst e1 n m hs1)
        exact ⟨_, u, _, xs, j, z, rfl, rfl, rl.dp (nodict s1), ru.dp (nodict s2), s1, s2, hz, hzj, hno, hq _ _ Z hr k2 (l1.trans k k1 l2) (.d (.int _))⟩
      | _ => exact hd2.elim
theorem e_slc {a : Expr} {lo hi : Option Expr} {x : RE} {l h : RO} {p2 : Pos} (ha : PE X a (trE X.K (wE Φ x))) (hl : PO X lo (trO X.K (wO Φ l))) (hh : PO X hi (trO X.K (wO Φ h))) : PE X (.Subscript a (.Slice lo hi none p2) pos) (trE X.K (wE Φ (.slc x l h))) := pE_imp (pe_slice slW ha hl hh) fun σ H Q q => by
  obtain ⟨W, τ, R, rfl, k, g, hw, hq⟩ := q
  simp only [wE] at hw
  refine ⟨W, τ, _, rfl, k, g, hw, fun d v U hd k1 l1 rv => ?_⟩
  refine ⟨U, τ, _, rfl, k1, g.le l1 k, hd, fun i Z hi k2 l2 => ?_⟩
  refine ⟨Z, τ, _, rfl, k2, (g.le l1 k).le l2 k1, hi, fun j Y hj k3 l3 => ?_⟩
  exact ⟨Y, d, R, rfl, k3, (rv.stp l2.stp k1).stp l3.stp k2, hj, fun r v Z h1 k4 l4 h2 => hq r v Z h1 k4 (l1.trans k k1 (l2.trans k1 k2 (l3.trans k2 k3 l4))) h2⟩
theorem o_none : PO X none (trO X.K (wO Φ .none)) := ⟨fun p s σ H Q I q => by
  obtain ⟨W, τ, R, rfl, k, g, hw, hq⟩ := q
  simp only [wO] at hw
  exact po_none.run p s σ _ Q I (hq _ W hw k (Le.refl W))⟩
theorem o_some {e : Expr} {x : RE} (h : PE X e (trE X.K (wE Φ x))) : PO X (some e) (trO X.K (wO Φ (.some x))) := ⟨fun p s σ H Q I q => by
  obtain ⟨W, τ, R, rfl, k, g, hw, hq⟩ := q
  simp only [wO] at hw
  refine (po_some h).run p s σ _ Q I ⟨W, τ, _, rfl, k, g, hw, fun d v U hd k1 l1 rv => ?_⟩
  obtain ⟨i, rfl, h⟩ := dint_of rv hd
  exact ⟨i, rfl, hq _ U h k1 l1⟩⟩
/-! ### argument lists -/
theorem a_nil : PA X [] (trA X.K (wA Φ .nil)) := pA_imp pa_nil fun σ H Q q => by
  obtain ⟨W, τ, R, rfl, k, g, hw, hq⟩ := q
  simp only [wA] at hw
  exact hq _ _ W hw k (Le.refl W) .nil
theorem cons_imp {K : Fg} {x : RE} {r : RA} {σ : L2.St} {H : Hp} {Q : List V → Hp → Prop} (q : trA K (wA Φ (.cons x r)) σ H Q) : tCons (trE K (wE Φ x)) (trA K (wA Φ r)) σ H Q := by
  obtain ⟨W, τ, R, rfl, k, g, hw, hq⟩ := q
  simp only [wA] at hw
  refine ⟨W, τ, _, rfl, k, g, hw, fun d v U hd k1 l1 rv => ?_⟩
  exact ⟨U, τ, _, rfl, k1, g.le l1 k, hd, fun ds vs Z hds k2 l2 rvs => hq _ _ Z hds k2 (l1.trans k k1 l2) (.cons (rv.stp l2.stp k1) rvs)⟩
theorem a_cons {e : Expr} {es : List Expr} {x : RE} {r : RA} (hs : isStar e = false) (he : PE X e (trE X.K (wE Φ x))) (hr : PA X es (trA X.K (wA Φ r))) : PA X (e :: es) (trA X.K (wA Φ (.cons x r))) :=
  pA_imp (pa_cons he hr (star_cons hs)) fun _ _ _ q => cons_imp q
theorem k_nil : PK X [] (trA X.K (wA Φ .nil)) := ⟨fun p pins s σ H Q I q => by
  obtain ⟨W, τ, R, rfl, k, g, hw, hq⟩ := q
  simp only [wA] at hw
  exact pk_nil.run p pins s σ _ Q I (hq _ _ W hw k (Le.refl W) .nil)⟩
theorem k_cons {e : Expr} {es : List Keyword} {x : RE} {r : RA} {nm : Option Str} {kp : Pos} (he : PE X e (trE X.K (wE Φ x))) (hr : PK X es (trA X.K (wA Φ r))) : PK X (⟨nm, e, kp⟩ :: es) (trA X.K (wA Φ (.cons x r))) :=
  ⟨fun p pins s σ H Q I q => (pk_cons he hr).run p pins s σ H Q I (cons_imp q)⟩
/-! ### tests -/
theorem t_yes : PTs X [] (trT X.K (wT Φ .yes)) := ⟨fun p s σ H Q I q => by
  obtain ⟨W, τ, R, rfl, k, g, hw, hq⟩ := q
  simp only [wT] at hw
  exact pts_nil.run p s σ _ Q I (hq _ W hw k (Le.refl W))⟩
theorem t_not {a : Expr} {x : RT} (ha : PT X a (trT X.K (wT Φ x))) : PT X (.UnaryOp .Not a pos) (trT X.K (wT Φ (.not x))) := pT_imp (pt_not ha) fun σ H Q q => by
  obtain ⟨W, τ, R, rfl, k, g, hw, hq⟩ := q
  simp only [wT] at hw
  exact ⟨W, τ, _, rfl, k, g, hw, fun i U h k1 l1 => hq _ U h k1 l1⟩
theorem w_and {a b : Expr} {rest : List Expr} {x y : RT} (ha : PT X a (trT X.K (wT Φ x))) (hb : PW X (.BoolOp .And (b :: rest) pos) (trT X.K (wT Φ y))) : PW X (.BoolOp .And (a :: b :: rest) pos) (trT X.K (wT Φ (.and x y))) := pW_imp (pw_and ha hb) fun σ H Q q => by
  obtain ⟨W, τ, R, rfl, k, g, hw, hq⟩ := q
  simp only [wT] at hw
  refine ⟨W, τ, _, rfl, k, g, hw, fun i U h k1 l1 => ?_⟩
  cases i with
  | true => exact iteT ⟨U, τ, R, rfl, k1, g.le l1 k, h, fun r Z h1 k2 l2 => hq r Z h1 k2 (l1.trans k k1 l2)⟩
  | false => exact iteF (hq _ U h k1 l1)
theorem w_or {a b : Expr} {rest : List Expr} {x y : RT} (ha : PT X a (trT X.K (wT Φ x))) (hb : PW X (.BoolOp .Or (b :: rest) pos) (trT X.K (wT Φ y))) : PW X (.BoolOp .Or (a :: b :: rest) pos) (trT X.K (wT Φ (.or x y))) := pW_imp (pw_or ha hb) fun σ H Q q => by
  obtain ⟨W, τ, R, rfl, k, g, hw, hq⟩ := q
  simp only [wT] at hw
  refine ⟨W, τ, _, rfl, k, g, hw, fun i U h k1 l1 => ?_⟩
  cases i with
  | true => exact iteT (hq _ U h k1 l1)
  | false => exact iteF ⟨U, τ, R, rfl, k1, g.le l1 k, h, fun r Z h1 k2 l2 => hq r Z h1 k2 (l1.trans k k1 l2)⟩
theorem isEmpty_R {K : Fg} {W : Wd} {vs : List V} {ds : List PyData} (h : Rs K W vs ds) : vs.isEmpty = ds.isEmpty := by
  cases h <;> rfl
theorem tru_of {K : Fg} {W : Wd} {v : V} {y : PyData} {b : Bool} (h : R K W v y) (e : truD y = some b) : TruV K v W.H b := by
  cases h with
  | non => cases e; rfl
  | bl b => cases e; rfl
  | int i => cases e; rfl
  | str x => cases e
  | lst e1 _ _ hs => cases e; exact .inl ⟨_, SqL.of e1, by rw [isEmpty_R hs]⟩
  | tup e1 hs => cases e; exact .inr (.inl ⟨_, e1, by rw [isEmpty_R hs]⟩)
  | dic _ => cases e
theorem t_val {e : Expr} {x : RE} (hp : plainT e = true) (he : PE X e (trE X.K (wE Φ x))) : PT X e (trT X.K (wT Φ (.val x))) := by
  have hs : ∀ whole, isTrue e X.env whole = (do let v ← whole; standAt e.pos; holding [v] (truthy v)) := by
    intro whole
    cases e <;> first | rfl | cases hp
  refine pT_imp (pt_truth he hs) fun σ H Q q => ?_
  obtain ⟨W, τ, R, rfl, k, g, hw, hq⟩ := q
  simp only [wT] at hw
  refine ⟨W, τ, _, rfl, k, g, hw, fun d v U hd k1 l1 rv => ?_⟩
  cases rv with
  | d h =>
    obtain ⟨b, e1, hb⟩ := hd
    exact ⟨b, tru_of h e1, hq b U hb k1 l1⟩
  | _ => exact hd.elim
end
end Pf

namespace Pf
open PySem PySem.Spec PyProof.Rows L2
section
variable {X : Cx} {cc : CC} {Φ : Nat → PSp} {lv : Nat} {pos p : Pos} {x : Str} {k : Nat}
/-! ### calls -/
theorem after_call {pins : List (Addr × Obj)} {σ : L2.St} {s : Shared} {Q : VK} {f : Value} {us : List Value} {kw : List (Str × Value)}
    (h : codeAny (model X.prog X.w) X.A (.call f ⟨us, kw⟩) (fun r s' => match r with | .ok (.ret u) => EP X pins σ Q u s' | _ => False) s) : wpAny (model X.prog X.w) X.A (call f us kw) (EP X pins σ Q) X.xe s := by
  refine wpAny_call (codeAny_mono h fun r z q => ?_)
  cases r with
  | error e => exact False.elim q
  | ok fl =>
    cases fl with
    | ret u => exact q
    | next => exact False.elim q
    | brk => exact False.elim q
    | cont => exact False.elim q
theorem e_call0 (c : Cok cc Φ lv X) (hg : cglob cc x = true) (F : Fns X Φ lv x k) : PE X (.Call (.Name x p) [] [] pos) (trE X.K (wE Φ (.call k .nil))) := by
  obtain ⟨g1, g2⟩ := cglob_ok c hg
  obtain ⟨f, fd, ps, hm, hk, F, hb⟩ := F.ex
  constructor
  rintro pins s σ H Q I ⟨W, τ, R, rfl, kk, g, hw, hq⟩
  simp only [wE, wA] at hw
  refine wpAny_Call_Name_kw (ld_glob I g1 hm ?_ (okN g2).1)
  refine PySem.W.callWith_K0 I.kIn hk (after_call ?_)
  have hl : ([] ++ [] : List Value).length = ps.length := by rw [← F.len _ _ hw]; rfl
  exact run_P F c.r c.g I (hb s [] I.kIn hl) (vs := []) .nil kk .nil hw hq
theorem e_call1 (c : Cok cc Φ lv X) (hg : cglob cc x = true) (F : Fns X Φ lv x k) {e : Expr} {es : List Expr} {ra : RA} (hs : noStar (e :: es) = true) (ha : PA X (e :: es) (trA X.K (wA Φ ra))) : PE X (.Call (.Name x p) (e :: es) [] pos) (trE X.K (wE Φ (.call k ra))) := by
  obtain ⟨g1, g2⟩ := cglob_ok c hg
  obtain ⟨f, fd, ps, hm, hk, F, hb⟩ := F.ex
  unfold noStar at hs
  rw [List.all_cons, Bool.and_eq_true, Bool.not_eq_true'] at hs
  constructor
  rintro pins s σ H Q I ⟨W, τ, R, rfl, kk, g, hw, hq⟩
  simp only [wE] at hw
  refine wpAny_Call_Name_kw (ld_glob I g1 hm ?_ (okN g2).1)
  refine PySem.W.callWith_K (h₀ := X.base) I.ok.mod.kin hk (thn (ha.run pos pins s σ _ (fun vs H1 => ∃ U ds, U.H = H1 ∧ U.Ok ∧ Le W U ∧ RDs X.K U vs ds ∧ Φ k ds R) I ⟨W, τ, _, rfl, kk, g, hw, fun ds vs U hd k1 l1 rv => ⟨U, ds, rfl, k1, l1, rv, hd⟩⟩) ?_) (star_cons hs.1) (star_any hs.2)
  rintro us z ⟨vs, H1, J, rv, U, ds, rfl, k1, l1, rd, hd⟩
  refine ⟨J.kIn, after_call ?_⟩
  have hl : (us ++ [] : List Value).length = ps.length := by rw [← F.len _ _ hd, ← rd.length, rv.length, List.append_nil]
  have hb' := hb z us J.kIn hl
  rw [List.append_nil] at hb'
  exact run_P F c.r c.g J hb' rv k1 rd hd fun r v Z h1 k2 l2 h2 => hq r v Z h1 k2 (l1.trans kk k1 l2) h2
theorem perm_vals {vs : List V} {us : List Value} (h : Vals vs us) : ∀ pm : List Nat, (∀ i ∈ pm, i < vs.length) → Vals (pm.filterMap fun i => vs[i]?) (pm.filterMap fun i => us[i]?)
  | [], _ => .nil
  | i :: r, hi => by
    have h1 : i < vs.length := hi i List.mem_cons_self
    obtain ⟨u, h2, h3⟩ := h.get (List.getElem?_eq_getElem h1)
    rw [List.filterMap_cons, List.filterMap_cons, h2, List.getElem?_eq_getElem h1]
    exact .cons h3 (perm_vals h r fun j hj => hi j (List.mem_cons_of_mem _ hj))
theorem RDs.get {K : Fg} {W : Wd} : ∀ {vs : List V} {ds : List DV} {i : Nat}, RDs K W vs ds → i < vs.length → ∃ v d, vs[i]? = some v ∧ ds[i]? = some d ∧ RD K W v d
  | _, _, _, .nil, h => by cases h
  | _, _, 0, .cons h t, _ => ⟨_, _, rfl, rfl, h⟩
  | _, _, i + 1, .cons _ t, h => by
    obtain ⟨v, d, h1, h2, h3⟩ := RDs.get (i := i) t (Nat.lt_of_succ_lt_succ h)
    exact ⟨v, d, by simpa using h1, by simpa using h2, h3⟩
theorem perm_rds {K : Fg} {W : Wd} {vs : List V} {us : List DV} (h : RDs K W vs us) : ∀ pm : List Nat, (∀ i ∈ pm, i < vs.length) → RDs K W (pm.filterMap fun i => vs[i]?) (perm pm us)
  | [], _ => .nil
  | i :: r, hi => by
    obtain ⟨v, d, h1, h2, h3⟩ := h.get (hi i List.mem_cons_self)
    unfold perm
    rw [List.filterMap_cons, List.filterMap_cons, h1, h2]
    exact .cons h3 (perm_rds h r fun j hj => hi j (List.mem_cons_of_mem _ hj))
theorem RDs.append {K : Fg} {W : Wd} : ∀ {vs ws : List V} {ds es : List DV}, RDs K W vs ds → RDs K W ws es → RDs K W (vs ++ ws) (ds ++ es)
  | _, _, _, _, .nil, h => h
  | _, _, _, _, .cons h t, q => .cons h (RDs.append t q)
/-! keywords -/
theorem kwn {env : Env} {pos : Pos} : ∀ {kws : List Keyword} {ns : List Str}, kwNames kws = some ns → (backToKw pos (keywordEach kws env)).all (·.1.isSome) = true ∧ (backToKw pos (keywordEach kws env)).filterMap (·.1) = ns ∧ (backToKw pos (keywordEach kws env)).any (·.1.isNone) = false ∧ ns.length = kws.length
  | [], _, h => by cases h; exact ⟨rfl, rfl, rfl, rfl⟩
  | ⟨some y, e, q⟩ :: r, ns, h => by
    obtain ⟨ms, h1, h2⟩ := Option.map_eq_some_iff.mp h
    subst h2
    obtain ⟨a, b, c, d⟩ := kwn (env := env) (pos := pos) h1
    refine ⟨?_, ?_, ?_, congrArg Nat.succ d⟩
    · show (true && (backToKw pos (keywordEach r env)).all (·.1.isSome)) = true
      rw [a]
      rfl
    · show y :: (backToKw pos (keywordEach r env)).filterMap (·.1) = _
      rw [b]
    · show (false || (backToKw pos (keywordEach r env)).any (·.1.isNone)) = false
      rw [c]
      rfl
  | ⟨none, e, q⟩ :: r, ns, h => by cases h
theorem e_callK (c : Cok cc Φ lv X) (hg : cglob cc x = true) {args : List Expr} {kws : List Keyword} {ns : List Str} {pm : List Nat} (F : Fnk X Φ lv x k args.length ns pm) (hn : kwNames kws = some ns) (hp : (pm.all fun i => decide (i < args.length + ns.length)) = true)
    {ra rk : RA} (hra : args = [] → ra = .nil) (hs : noStar args = true) (ha : PA X args (trA X.K (wA Φ ra))) (hk' : PK X kws (trA X.K (wA Φ rk))) : PE X (.Call (.Name x p) args kws pos) (trE X.K (wE Φ (.callK k args.length ns.length pm ra rk))) := by
  obtain ⟨g1, g2⟩ := cglob_ok c hg
  obtain ⟨f, fd, ps, hm, hk, F, hb⟩ := F.ex
  obtain ⟨n1, n2, n3, n4⟩ := kwn (env := X.env) (pos := pos) hn
  constructor
  rintro pins s σ H Q I ⟨W, τ, R, rfl, kk, g, hw, hq⟩
  simp only [wE] at hw
  refine wpAny_Call_Name_kw (ld_glob I g1 hm ?_ (okN g2).1)
  have fin : ∀ (us : List Value) (z : Shared), AP X pins σ (fun vs H1 => ∃ U ds, U.H = H1 ∧ U.Ok ∧ Le W U ∧ RDs X.K U vs ds ∧ ds.length = args.length ∧ wA Φ rk τ fun zs => zs.length = ns.length ∧ Φ k (perm pm (ds ++ zs)) R) us z →
      wpAny (model X.prog X.w) X.A (evalAll ((backToKw pos (keywordEach kws X.env)).map (·.2))) (fun ks s₂ => X.K.In s₂.heap ∧ wpAny (model X.prog X.w) X.A (call (.ref f) ([] ++ us) (((backToKw pos (keywordEach kws X.env)).filterMap (·.1)).zip ks)) (EP X pins σ Q) X.xe s₂) X.xe z := by
    rintro us z ⟨vs, H1, J, rv, U, ds, rfl, k1, l1, rd, hd1, hd2⟩
    refine thn (hk'.run pos pins z σ _ (fun zs H2 => ∃ Z es, Z.H = H2 ∧ Z.Ok ∧ Le U Z ∧ RDs X.K Z zs es ∧ es.length = ns.length ∧ Φ k (perm pm (ds ++ es)) R) J ⟨U, τ, _, rfl, k1, g.le l1 kk, hd2, fun es zs Z he k2 l2 rz => ⟨Z, es, rfl, k2, l2, rz, he.1, he.2⟩⟩) ?_
    rintro ws y ⟨zs, H2, J2, rz, Z, es, rfl, k2, l2, re, he1, he2⟩
    rw [n2]
    refine ⟨J2.kIn, ?_⟩
    show wpAny _ _ (call (.ref f) us (ns.zip ws)) _ _ _
    refine after_call ?_
    have rvz := Vals.append rv rz
    have rdz := RDs.append (rd.stp l2.stp k1) re
    have hpm : ∀ i ∈ pm, i < (vs ++ zs).length := fun i hi => by
      rw [List.all_eq_true] at hp
      have := of_decide_eq_true (hp i hi)
      rw [List.length_append, rd.length, re.length, hd1, he1]
      exact this
    exact run_P F c.r c.g J2 (hb y us ws J2.kIn (by rw [← rv.length, rd.length, hd1]) (by rw [← rz.length, re.length, he1])) (perm_vals rvz pm hpm) k2 (perm_rds rdz pm hpm) he2
      fun r v Y h1 k3 l3 h2 => hq r v Y h1 k3 (l1.trans kk k1 (l2.trans k1 k2 l3)) h2
  cases args with
  | nil =>
    have := hra rfl
    subst this
    simp only [wA] at hw
    exact PySem.W.callWith_KW0 (h₀ := X.base) I.ok.mod.kin hk n1 (fin [] s ⟨[], W.H, I, .nil, W, [], rfl, kk, Le.refl W, .nil, hw.1, hw.2⟩) (by rw [n3]; rfl)
  | cons e es =>
    unfold noStar at hs
    rw [List.all_cons, Bool.and_eq_true, Bool.not_eq_true'] at hs
    refine PySem.W.callWith_KW (h₀ := X.base) I.ok.mod.kin hk n1 (thn (ha.run pos pins s σ _ _ I ⟨W, τ, _, rfl, kk, g, hw, fun ds vs U hd k1 l1 rv => ⟨U, ds, rfl, k1, l1, rv, hd.1, hd.2⟩⟩) fin) ?_ (star_cons hs.1)
    rw [star_cons hs.1, n3]
    show ((false || (backTo pos (starEach es X.env)).any (·.1)) || false) = false
    rw [star_any hs.2]
    rfl
/-! built-ins by their names -/
theorem bFind_ok {l : List (Str × Nat × Bi)} {n : Nat} {b : Bi} (h : bFind l x n = some b) : (x, n, b) ∈ l := by
  unfold bFind at h
  split at h
  · rename_i q e
    have h1 := List.mem_of_find?_eq_some e
    have h2 := List.find?_some e
    rw [Bool.and_eq_true, beq_iff_eq, beq_iff_eq] at h2
    have h3 : q.2.2 = b := Option.some.inj h
    obtain ⟨a, m, d⟩ := q
    obtain ⟨h4, h5⟩ := h2
    have h4 : a = x := h4
    have h5 : m = n := h5
    have h3 : d = b := h3
    subst h3 h4 h5
    exact h1
  · cases h
theorem bi_imp {K : Fg} {b : Bi} {ra : RA} {σ : L2.St} {H : Hp} {Q : VK} (q : trE K (wE Φ (.bi b ra)) σ H Q) : tCB (rWs K (wBi b)) (trA K (wA Φ ra)) σ H Q := by
  obtain ⟨W, τ, R, rfl, kk, g, hw, hq⟩ := q
  simp only [wE] at hw
  exact ⟨W, τ, _, rfl, kk, g, hw, fun ds vs U hd k1 l1 rv => ⟨U, ds, R, rfl, k1, rv, hd, fun r v Z h1 k2 l2 h2 => hq r v Z h1 k2 (l1.trans kk k1 l2) h2⟩⟩
theorem biTab_ok {n : Nat} {b : Bi} (h : (x, n, b) ∈ biTab) : 0 < n ∧ x ≠ "__name__" ∧ bootBuiltins x = some (biV b) := by
  simp only [biTab, List.mem_cons, Prod.mk.injEq, List.not_mem_nil, or_false] at h
  rcases h with h | h | h | h | h | h | h | h | h | h | h | h | h | h <;> (obtain ⟨rfl, rfl, rfl⟩ := h; exact ⟨by decide, by decide, by decide +kernel⟩)
theorem e_bi (c : Cok cc Φ lv X) (hg : cglob cc x = true) (hb : cc.bs.contains x = true) {b : Bi} {e : Expr} {es : List Expr} {n : Nat} (hf : bFind biTab x n = some b) {ra : RA} (hs : noStar (e :: es) = true) (ha : PA X (e :: es) (trA X.K (wA Φ ra))) : PE X (.Call (.Name x p) (e :: es) [] pos) (trE X.K (wE Φ (.bi b ra))) := by
  obtain ⟨g1, g2⟩ := cglob_ok c hg
  obtain ⟨_, hn, hv⟩ := biTab_ok (bFind_ok hf)
  have hm : X.mg x = none := c.bs x (by simpa using hb)
  have hc := biW (X := X) c.calm c.g c.r.units b
  unfold noStar at hs
  rw [List.all_cons, Bool.and_eq_true, Bool.not_eq_true'] at hs
  cases b <;> first
    | exact pE_imp (pe_callB hc g1 hm hv ha hn (okN g2).1 (star_cons hs.1) (star_any hs.2)) fun _ _ _ q => bi_imp q
    | exact pE_imp (pe_callTy hc g1 hm hv ha hn (okN g2).1 (star_cons hs.1) (star_any hs.2)) fun _ _ _ q => bi_imp q
theorem e_ms (c : Cok cc Φ lv X) (hg : cglob cc x = true) {b : Bi} {e : Expr} {es : List Expr} {n : Nat} (hf : bFind cc.ms x n = some b) {ra : RA} (hs : noStar (e :: es) = true) (ha : PA X (e :: es) (trA X.K (wA Φ ra))) (ok : ∃ id, biV b = .builtin id) : PE X (.Call (.Name x p) (e :: es) [] pos) (trE X.K (wE Φ (.bi b ra))) := by
  obtain ⟨g1, g2⟩ := cglob_ok c hg
  have hm := c.ms _ (bFind_ok hf)
  have hc := biW (X := X) c.calm c.g c.r.units b
  obtain ⟨id, hid⟩ := ok
  rw [hid] at hc
  rw [show biV (x, n, b).2.2 = biV b from rfl, hid] at hm
  unfold noStar at hs
  rw [List.all_cons, Bool.and_eq_true, Bool.not_eq_true'] at hs
  exact pE_imp (pe_callBfun hc g1 hm ha (okN g2).1 (star_cons hs.1) (star_any hs.2)) fun _ _ _ q => bi_imp q
theorem tyTab_ok {T : Str} {t : String} (h : tyTab.lookup T = some t) : T ≠ "__name__" ∧ bootBuiltins T = some (.type t) := by
  have h := mem_of_lookup h
  simp only [tyTab, List.mem_cons, Prod.mk.injEq, List.not_mem_nil, or_false] at h
  rcases h with h | h | h | h | h | h <;> (obtain ⟨rfl, rfl⟩ := h; exact ⟨by decide, by decide +kernel⟩)
theorem e_isi (c : Cok cc Φ lv X) (hg : cglob cc ("isinstance" : Str) = true) (hb : cc.bs.contains ("isinstance" : Str) = true) {a : Expr} {y : RE} {T : Str} {t : String} {q : Pos} (hT : cglob cc T = true) (hbT : cc.bs.contains T = true) (ht : tyTab.lookup T = some t) (hs : isStar a = false) (ha : PE X a (trE X.K (wE Φ y))) :
    PE X (.Call (.Name ("isinstance" : Str) p) [a, .Name T q] [] pos) (trE X.K (wE Φ (.isi y t))) := by
  obtain ⟨g1, g2⟩ := cglob_ok c hg
  obtain ⟨g3, g4⟩ := cglob_ok c hT
  obtain ⟨t1, t2⟩ := tyTab_ok ht
  have hm : X.mg ("isinstance" : Str) = none := c.bs _ (by simpa using hb)
  have hm2 : X.mg T = none := c.bs _ (by simpa using hbT)
  have hp : PA X [a, .Name T q] (tCons (trE X.K (wE Φ y)) (tCons (tC (.ty t)) tNil)) := pa_cons ha (pa_cons (pe_bltn g3 hm2 t2 rfl t1 (okN g4).1) pa_nil) (star_cons hs)
  refine pE_imp (pe_callB call_isi g1 hm (by decide +kernel) hp (by decide) (by decide) (star_cons hs) rfl) fun σ H Q q => ?_
  obtain ⟨W, τ, R, rfl, kk, g, hw, hq⟩ := q
  simp only [wE] at hw
  refine ⟨W, τ, _, rfl, kk, g, hw, fun d v U hd k1 l1 rv => ?_⟩
  cases rv with
  | d h =>
    obtain ⟨b, e1, hb⟩ := hd
    exact ⟨v, .ty t, _, .type t, b, rfl, (by constructor), ty_of h, kit_ty e1, hq _ _ U hb k1 l1 (.d (.bl _))⟩
  | _ => exact hd.elim
end
end Pf

namespace Pf
open PySem PySem.Spec PyProof.Rows L2
section
variable {K : Fg} {W : Wd} {σ : L2.St} {τ : SDs}
/-! ### slots -/
theorem set_get {α : Type} {l : List α} {i j : Nat} {x y : α} (h : (l.set i x)[j]? = some y) : (i = j ∧ i < l.length ∧ y = x) ∨ (i ≠ j ∧ l[j]? = some y) := by
  by_cases e : i = j
  · subst e
    by_cases hl : i < l.length
    · rw [List.getElem?_set_self hl] at h
      exact .inl ⟨rfl, hl, (Option.some.inj h).symm⟩
    · rw [List.getElem?_eq_none (by rw [List.length_set]; omega)] at h
      cases h
  · rw [List.getElem?_set_ne e] at h
    exact .inr ⟨e, h⟩
theorem Gd.set (g : Gd K W σ τ) {v : V} {d : DV} (h : RD K W v d) (i : Nat) : Gd K W (σ.set i (some v)) (τ.set i (some (.val d))) := by
  refine ⟨by rw [List.length_set, List.length_set]; exact g.len, fun j x e => ?_, fun j m a xs ys e1 e2 e3 e4 => ?_⟩
  · rcases set_get e with ⟨rfl, hl, e⟩ | ⟨ne, e⟩
    · cases e
      exact ⟨v, by rw [List.getElem?_set_self (by rw [← g.len]; exact hl)], .val h⟩
    · obtain ⟨u, h1, h2⟩ := g.get j x e
      exact ⟨u, by rw [List.getElem?_set_ne ne]; exact h1, h2⟩
  · rcases set_get e1 with ⟨rfl, hl, e⟩ | ⟨ne, e⟩
    · cases e
    · rcases set_get e2 with ⟨rfl, hl, e'⟩ | ⟨ne', e'⟩
      · cases e'
      · rw [List.getElem?_set_ne ne] at e3
        rw [List.getElem?_set_ne ne'] at e4
        exact g.uni j m a xs ys e e' e3 e4
theorem Gd.unset (g : Gd K W σ τ) (i : Nat) : Gd K W (σ.set i none) (τ.set i none) := by
  refine ⟨by rw [List.length_set, List.length_set]; exact g.len, fun j x e => ?_, fun j m a xs ys e1 e2 e3 e4 => ?_⟩
  · rcases set_get e with ⟨rfl, hl, e⟩ | ⟨ne, e⟩
    · cases e
    · obtain ⟨u, h1, h2⟩ := g.get j x e
      exact ⟨u, by rw [List.getElem?_set_ne ne]; exact h1, h2⟩
  · rcases set_get e1 with ⟨rfl, hl, e⟩ | ⟨ne, e⟩
    · cases e
    · rcases set_get e2 with ⟨rfl, hl, e'⟩ | ⟨ne', e'⟩
      · cases e'
      · rw [List.getElem?_set_ne ne] at e3
        rw [List.getElem?_set_ne ne'] at e4
        exact g.uni j m a xs ys e e' e3 e4
theorem Gd.wipe (g : Gd K W σ τ) : ∀ vs : List Nat, Gd K W (wipe σ vs) (wipeD τ vs)
  | [] => g
  | i :: r => (g.wipe r).unset i
theorem wipe_get {vs : List Nat} {i : Nat} (h : i ∈ vs) (hl : i < σ.length) : (wipe σ vs)[i]? = some none := by
  induction vs with
  | nil => cases h
  | cons j r ih =>
    unfold wipe
    by_cases e : j = i
    · subst e
      rw [List.getElem?_set_self (by rw [wipe_length]; exact hl)]
    · rw [List.getElem?_set_ne e]
      rcases List.mem_cons.mp h with z | z
      · exact absurd z.symm e
      · exact ih z
theorem wipe_at {vs : List Nat} {i : Nat} : (wipe σ vs)[i]? = if i ∈ vs ∧ i < σ.length then some none else σ[i]? := by
  by_cases h : i ∈ vs
  · by_cases hl : i < σ.length
    · rw [if_pos ⟨h, hl⟩, wipe_get h hl]
    · rw [if_neg fun z => hl z.2, List.getElem?_eq_none (by rw [wipe_length]; omega), List.getElem?_eq_none (by omega)]
  · rw [if_neg fun z => h z.1, wipe_out h]
theorem wipe_same {ρ : L2.St} {vs : List Nat} (hl : ρ.length = σ.length) (h : ∀ i, i ∉ vs → ρ[i]? = σ[i]?) : wipe ρ vs = wipe σ vs := by
  apply List.ext_getElem?
  intro i
  rw [wipe_at, wipe_at, hl]
  split
  · rfl
  · rename_i n
    by_cases hv : i ∈ vs
    · rw [List.getElem?_eq_none (by rw [hl]; exact Nat.le_of_not_lt fun z => n ⟨hv, z⟩), List.getElem?_eq_none (Nat.le_of_not_lt fun z => n ⟨hv, z⟩)]
    · exact h i hv
/-! ### targets -/
def gBo (K : Fg) (n : Nat) (t : TGs) : TG := fun v σ H Q => gTup K n t v σ H Q ∨ gUnl K n t v σ H Q
theorem pg_bo {X : Cx} {pos : Pos} {es : List Expr} {k : Nat} {t : TGs} {n : Nat} (hc : X.calm = true) (h : PGs X es t) (hn : (assignEach es X.env).length = n) (hst : (assignEach es X.env).findIdx? (·.1) = none) : PG X (.Tuple es k pos) (gBo X.K n t) := by
  refine ⟨fun pins s σ H v u Q I r hw => ?_⟩
  rcases hw with hw | hw
  · exact (pg_tup hc h hn hst).run pins s σ H v u Q I r hw
  · exact (pg_unl hc h hn hst).run pins s σ H v u Q I r hw
def gNames : List Nat → TGs
  | [] => gNil
  | i :: r => gCons (gName i) (gNames r)
mutual
def gOf (K : Fg) : Tg → TG
  | .one i => gName i
  | .many is => gBo K is.length (gNames is)
  | .nest ts => gTup K ts.len (gOfs K ts)
def gOfs (K : Fg) : Tgs → TGs
  | .nil => gNil
  | .cons t ts => gCons (gOf K t) (gOfs K ts)
end
/-- slots but those of the target are as they were -/
def OffL (l : List Nat) (σ ρ : L2.St) : Prop := ρ.length = σ.length ∧ ∀ i, i ∉ l → ρ[i]? = σ[i]?
def OffT (tg : Tg) (σ ρ : L2.St) : Prop := OffL tg.slots σ ρ
theorem names_sem (k : W.Ok) : ∀ {is : List Nat} {vs : List V} {ds : List PyData} {σ : L2.St} {τ : SDs}, Gd K W σ τ → Rs K W vs ds → ds.length = is.length → ∀ (P : L2.St → Hp → Prop), (∀ ρ, Gd K W ρ (setAll τ is ds) → (ρ.length = σ.length ∧ ∀ i, i ∉ is → ρ[i]? = σ[i]?) → P ρ W.H) → gNames is vs σ W.H P
  | [], _, _, σ, τ, g, .nil, _, P, h => ⟨rfl, h σ g ⟨rfl, fun _ _ => rfl⟩⟩
  | [], _, _, _, _, _, .cons _ _, e, _, _ => by cases e
  | _ :: _, _, _, _, _, _, .nil, e, _, _ => by cases e
  | i :: r, _, _, σ, τ, g, .cons hv ht, e, P, h => ⟨_, _, rfl, names_sem k (g.set (.d hv) i) ht (Nat.succ.inj e) P fun ρ h1 h2 => h ρ h1 ⟨by rw [h2.1, List.length_set], fun j hj => by
      rw [h2.2 j fun z => hj (List.mem_cons_of_mem _ z), List.getElem?_set_ne fun z => hj (by rw [← z]; exact List.mem_cons_self)]⟩⟩
mutual
theorem tg_sem (k : W.Ok) {tg : Tg} {v : V} {d : DV} {Q : SDs → Prop} {σ : L2.St} {τ : SDs} (g : Gd K W σ τ) (r : RD K W v d) (h : wTg tg d τ Q) (P : L2.St → Hp → Prop) (hp : ∀ ρ τ', Gd K W ρ τ' → Q τ' → OffT tg σ ρ → P ρ W.H) : gOf K tg v σ W.H P := by
  match tg, h, hp with
  | .one i, h, hp =>
    simp only [wTg] at h
    exact hp _ _ (g.set r i) h ⟨List.length_set, fun j hj => List.getElem?_set_ne fun z => hj (by rw [← z]; simp [Tg.slots])⟩
  | .many is, h, hp =>
    cases r with
    | d r =>
      cases r with
      | tup e hs =>
        simp only [wTg] at h
        exact .inl ⟨_, _, rfl, e, by rw [hs.length]; exact h.1, names_sem k g hs h.1 P fun ρ h1 h2 => hp ρ _ h1 h.2 (by simpa [OffT, OffL, Tg.slots] using h2)⟩
      | lst e _ _ hs =>
        simp only [wTg] at h
        exact .inr ⟨_, _, rfl, SqL.of e, by rw [hs.length]; exact h.1, names_sem k g hs h.1 P fun ρ h1 h2 => hp ρ _ h1 h.2 (by simpa [OffT, OffL, Tg.slots] using h2)⟩
      | _ => simp only [wTg] at h
    | _ => simp only [wTg] at h
  | .nest ts, h, hp =>
    cases r with
    | d r =>
      cases r with
      | tup e hs =>
        simp only [wTg] at h
        exact ⟨_, _, rfl, e, by rw [hs.length]; exact h.1, tgs_sem k g hs h.2 P fun ρ τ' g' q' o => hp ρ τ' g' q' (by simpa [OffT, Tg.slots] using o)⟩
      | _ => simp only [wTg] at h
    | _ => simp only [wTg] at h
theorem tgs_sem (k : W.Ok) {ts : Tgs} {vs : List V} {ds : List PyData} {Q : SDs → Prop} {σ : L2.St} {τ : SDs} (g : Gd K W σ τ) (r : Rs K W vs ds) (h : wTgs ts ds τ Q) (P : L2.St → Hp → Prop) (hp : ∀ ρ τ', Gd K W ρ τ' → Q τ' → OffL ts.slots σ ρ → P ρ W.H) : gOfs K ts vs σ W.H P := by
  match ts, ds, h, hp with
  | .nil, [], h, hp =>
    cases r
    simp only [wTgs] at h
    exact ⟨rfl, hp σ τ g h ⟨rfl, fun _ _ => rfl⟩⟩
  | .nil, _ :: _, h, hp => simp only [wTgs] at h
  | .cons t ts, [], h, hp => simp only [wTgs] at h
  | .cons t ts, d :: ds, h, hp =>
    cases r with
    | cons hv ht =>
      simp only [wTgs] at h
      refine ⟨_, _, rfl, tg_sem k g (.d hv) h _ fun ρ τ' g' q' o => tgs_sem k g' ht q' P fun ρ2 τ2 g2 q2 o2 => hp ρ2 τ2 g2 q2 ⟨by rw [o2.1, o.1], fun i hi => ?_⟩⟩
      simp only [Tgs.slots, List.mem_append, not_or] at hi
      rw [o2.2 i hi.2, o.2 i hi.1]
end
end
section
variable {X : Cx} {cc : CC} {Φ : Nat → PSp} {lv : Nat} {pos : Pos}
theorem tgName_ok (c : Cok cc Φ lv X) {e : Expr} {i : Nat} (h : tgName cc e = some i) : PG X e (gName i) := by
  unfold tgName at h
  split at h
  · split at h
    · rename_i hl
      obtain ⟨h1, h2⟩ := locK_ok c hl
      exact pg_name c.nd (by rw [c.n]; exact ixOf_get h) h1 h2
    · cases h
  · cases h
theorem tgName_each {cc : CC} {e : Expr} {es : List Expr} {env : Env} {i : Nat} (h : tgName cc e = some i) : assignEach (e :: es) env = (false, assign e env) :: assignEach es env := by
  unfold tgName at h
  split at h
  · rfl
  · cases h
theorem tgNames_ok (c : Cok cc Φ lv X) : ∀ {es : List Expr} {is : List Nat}, tgNames cc es = some is → PGs X es (gNames is) ∧ (assignEach es X.env).length = is.length ∧ (assignEach es X.env).findIdx? (·.1) = none
  | [], is, h => by cases h; exact ⟨pgs_nil, rfl, rfl⟩
  | e :: r, is, h => by
    unfold tgNames at h
    split at h
    · rename_i i js h1 h2
      cases h
      obtain ⟨a, b, d⟩ := tgNames_ok c h2
      have he := tgName_each (es := r) (env := X.env) h1
      refine ⟨pgs_cons (tgName_ok c h1) a (by rw [he]; rfl), by rw [he]; exact congrArg Nat.succ b, ?_⟩
      rw [he, List.findIdx?_cons, d]
      rfl
    · cases h
theorem tgN_each {n : Nat} {cc : CC} {e : Expr} {es : List Expr} {env : Env} {t : Tg} (h : cTgN n cc e = some t) : assignEach (e :: es) env = (false, assign e env) :: assignEach es env := by
  cases n with
  | zero => simp [cTgN] at h
  | succ n =>
    simp only [cTgN] at h
    split at h
    · rfl
    · rfl
    · cases h
mutual
theorem tgN_ok (c : Cok cc Φ lv X) : ∀ {n : Nat} {e : Expr} {tg : Tg}, cTgN n cc e = some tg → PG X e (gOf X.K tg)
  | 0, _, _, h => by simp [cTgN] at h
  | n + 1, e, tg, h => by
    simp only [cTgN] at h
    split at h
    · obtain ⟨i, h1, h2⟩ := Option.map_eq_some_iff.mp h
      subst h2
      simp only [gOf]
      exact tgName_ok c h1
    · split at h
      · rename_i is h1
        cases h
        obtain ⟨a, b, d⟩ := tgNames_ok c h1
        simp only [gOf]
        exact pg_bo c.calm a b d
      · obtain ⟨ts, h1, h2⟩ := Option.map_eq_some_iff.mp h
        subst h2
        obtain ⟨a, b, d⟩ := tgL_ok c h1
        simp only [gOf]
        exact pg_tup c.calm a b d
    · cases h
theorem tgL_ok (c : Cok cc Φ lv X) : ∀ {n : Nat} {es : List Expr} {ts : Tgs}, cTgL n cc es = some ts → PGs X es (gOfs X.K ts) ∧ (assignEach es X.env).length = ts.len ∧ (assignEach es X.env).findIdx? (·.1) = none
  | 0, _, _, h => by simp [cTgL] at h
  | n + 1, [], ts, h => by
    simp only [cTgL] at h
    cases h
    exact ⟨pgs_nil, rfl, rfl⟩
  | n + 1, e :: r, ts, h => by
    simp only [cTgL] at h
    split at h
    · rename_i t us h1 h2
      cases h
      obtain ⟨a, b, d⟩ := tgL_ok c h2
      have he := tgN_each (es := r) (env := X.env) h1
      refine ⟨pgs_cons (tgN_ok c h1) a (by rw [he]; rfl), by rw [he]; exact congrArg Nat.succ b, ?_⟩
      rw [he, List.findIdx?_cons, d]
      rfl
    · cases h
end
theorem tg_ok (c : Cok cc Φ lv X) {e : Expr} {tg : Tg} (h : cTg cc e = some tg) : PG X e (gOf X.K tg) := tgN_ok c h
/-! ### walks by their text -/
theorem i_seq {tg e : Expr} {x : RE} (h : PE X e (trE X.K (wE Φ x))) : PI X tg e (trI X.K (wI Φ (.seq x))) := by
  refine ⟨fun pins s σ H R I q => (pi_seq h).run pins s σ H R I ?_⟩
  obtain ⟨W, τ, Q, rfl, k, g, hw, hq⟩ := q
  simp only [wI] at hw
  refine ⟨W, τ, _, rfl, k, g, hw, fun d v U hd k1 l1 rv => ?_⟩
  obtain ⟨xs, e1, hQ⟩ := hd
  obtain ⟨a, ea, hh⟩ := walk_seq k1 rv e1
  refine ⟨a, ea, ?_⟩
  rcases hh with ⟨h1, h2⟩ | ⟨h1, h2⟩
  · exact .inl ⟨h1, hq xs _ U hQ k1 l1 h2⟩
  · exact .inr ⟨h1, hq xs _ U hQ k1 l1 h2⟩
theorem i_rng (c : Cok cc Φ lv X) {tg a : Expr} {p : Pos} {x : RE} (hg : cglob cc ("range" : Str) = true) (hb : cc.bs.contains ("range" : Str) = true) (hs : isStar a = false) (h : PE X a (trE X.K (wE Φ x))) : PI X tg (.Call (.Name ("range" : Str) p) [a] [] pos) (trI X.K (wI Φ (.rng x))) := by
  obtain ⟨g1, g2⟩ := cglob_ok c hg
  refine ⟨fun pins s σ H R I q => (pi_range1 g1 (c.bs _ (by simpa using hb)) (pa_cons h pa_nil (star_cons hs)) (by rw [star_cons hs]; rfl)).run pins s σ H R I ?_⟩
  obtain ⟨W, τ, Q, rfl, k, g, hw, hq⟩ := q
  simp only [wI] at hw
  refine ⟨W, τ, _, rfl, k, g, hw, fun d v U hd k1 l1 rv => ?_⟩
  obtain ⟨n, rfl, h1, h2, hQ⟩ := dint_of rv hd
  exact ⟨n, rfl, h2, h1, hq _ _ U hQ k1 l1 walk_rng⟩
theorem i_rng2 (c : Cok cc Φ lv X) {tg a b : Expr} {p : Pos} {x y : RE} (hg : cglob cc ("range" : Str) = true) (hb : cc.bs.contains ("range" : Str) = true) (hs : isStar a = false) (hs2 : isStar b = false) (h : PE X a (trE X.K (wE Φ x))) (h2 : PE X b (trE X.K (wE Φ y))) :
    PI X tg (.Call (.Name ("range" : Str) p) [a, b] [] pos) (trI X.K (wI Φ (.rng2 x y))) := by
  obtain ⟨g1, g2⟩ := cglob_ok c hg
  refine ⟨fun pins s σ H R I q => (pi_range2 g1 (c.bs _ (by simpa using hb)) (pa_cons h (pa_cons h2 pa_nil (star_cons hs2)) (star_cons hs)) (by rw [star_cons hs, star_cons hs2]; rfl) (by rw [star_cons hs2]; rfl)).run pins s σ H R I ?_⟩
  obtain ⟨W, τ, Q, rfl, k, g, hw, hq⟩ := q
  simp only [wI] at hw
  refine ⟨W, τ, _, rfl, k, g, hw, fun d v U hd k1 l1 rv => ?_⟩
  refine ⟨U, τ, _, rfl, k1, g.le l1 k, hd, fun e u Z he k2 l2 ru => ?_⟩
  obtain ⟨m, rfl, he⟩ := dint_of rv he
  obtain ⟨n, rfl, h1, hQ⟩ := dint_of ru he
  exact ⟨m, n, rfl, h1, hq _ _ Z hQ k2 (l1.trans k k1 l2) walk_rng⟩
theorem i_enm (c : Cok cc Φ lv X) {es : List Expr} {k : Nat} {tp : Pos} {a : Expr} {p : Pos} {x : RE} (hg : cglob cc ("enumerate" : Str) = true) (hb : cc.bs.contains ("enumerate" : Str) = true) (hs : isStar a = false) (h : PE X a (trE X.K (wE Φ x))) : PI X (.Tuple es k tp) (.Call (.Name ("enumerate" : Str) p) [a] [] pos) (trI X.K (wI Φ (.enm x))) := by
  obtain ⟨g1, g2⟩ := cglob_ok c hg
  refine ⟨fun pins s σ H R I q => (pi_enumA g1 (c.bs _ (by simpa using hb)) (pa_cons h pa_nil (star_cons hs)) (by rw [star_cons hs]; rfl)).run pins s σ H R I ?_⟩
  obtain ⟨W, τ, Q, rfl, k, g, hw, hq⟩ := q
  simp only [wI] at hw
  refine ⟨W, τ, _, rfl, k, g, hw, fun d v U hd k1 l1 rv => ?_⟩
  obtain ⟨xs, e1, hQ⟩ := hd
  obtain ⟨a, vs, rfl, ⟨_, hh⟩ | ⟨_, hh⟩⟩ := seq_walk k1 rv e1
  · exact ⟨a, rfl, .inl ⟨vs, (hh U k1 (Stp.refl U)).1, hq _ _ U hQ k1 l1 (walk_enl hh)⟩⟩
  · exact ⟨a, rfl, .inr ⟨vs, (hh U k1 (Stp.refl U)).1, hq _ _ U hQ k1 l1 (walk_ent hh)⟩⟩
theorem i_zip (c : Cok cc Φ lv X) {es : List Expr} {k : Nat} {tp : Pos} {a b : Expr} {p : Pos} {x y : RE} (hg : cglob cc ("zip" : Str) = true) (hb : cc.bs.contains ("zip" : Str) = true) (hs : isStar a = false) (hs2 : isStar b = false) (h : PE X a (trE X.K (wE Φ x))) (h2 : PE X b (trE X.K (wE Φ y))) :
    PI X (.Tuple es k tp) (.Call (.Name ("zip" : Str) p) [a, b] [] pos) (trI X.K (wI Φ (.zip x y))) := by
  obtain ⟨g1, g2⟩ := cglob_ok c hg
  refine ⟨fun pins s σ H R I q => (RZ.pi_zipA g1 (c.bs _ (by simpa using hb)) (pa_cons h (pa_cons h2 pa_nil (star_cons hs2)) (star_cons hs)) (by rw [star_cons hs]) (by rw [star_cons hs2]; rfl)).run pins s σ H R I ?_⟩
  obtain ⟨W, τ, Q, rfl, k, g, hw, hq⟩ := q
  simp only [wI] at hw
  refine ⟨W, τ, _, rfl, k, g, hw, fun d v U hd k1 l1 rv => ?_⟩
  refine ⟨U, τ, _, rfl, k1, g.le l1 k, hd, fun e u Z he k2 l2 ru => ?_⟩
  have rv2 := rv.stp l2.stp k1
  split at he
  · rename_i xs ys
    obtain ⟨a, vs, rfl, ⟨_, h1⟩ | ⟨z, _⟩⟩ := seq_walk k2 rv2 (xs := xs) rfl
    · obtain ⟨b, us, rfl, ⟨_, h3⟩ | ⟨z, _⟩⟩ := seq_walk k2 ru (xs := ys) rfl
      · exact ⟨a, b, vs, us, rfl, .inl ⟨(h1 Z k2 (Stp.refl Z)).1, (h3 Z k2 (Stp.refl Z)).1, hq _ _ Z he k2 (l1.trans k k1 l2) (walk_zpl fun Y q l => ⟨h1 Y q l, h3 Y q l⟩)⟩⟩
      · cases z
    · cases z
  · rename_i xs ys
    obtain ⟨a, vs, rfl, ⟨z, _⟩ | ⟨_, h1⟩⟩ := seq_walk k2 rv2 (xs := xs) rfl
    · cases z
    · obtain ⟨b, us, rfl, ⟨z, _⟩ | ⟨_, h3⟩⟩ := seq_walk k2 ru (xs := ys) rfl
      · cases z
      · exact ⟨a, b, vs, us, rfl, .inr ⟨(h1 Z k2 (Stp.refl Z)).1, (h3 Z k2 (Stp.refl Z)).1, hq _ _ Z he k2 (l1.trans k k1 l2) (walk_zpt fun Y q l => ⟨h1 Y q l, h3 Y q l⟩)⟩⟩
  · exact he.elim
/-! ### comprehensions -/
/-- a world in which the new list at D grows -/
structure Grw (K : Fg) (U Z : Wd) (D : Addr) (acc : List PyData) : Prop where
  ok : Z.Ok
  sq : Sq U Z
  o : ∀ a, Z.O a ↔ (U.O a ∨ a = D)
  h : ∃ vs, Z.H D = some (.lst vs) ∧ Rs K Z vs acc
theorem grw_start {K : Fg} {U : Wd} (k : U.Ok) {D : Addr} (n : U.H D = none) : Grw K U { U with H := upd U.H D (.lst []), O := fun a => U.O a ∨ a = D } D [] := by
  have ne : ∀ {a : Addr} {u : HO}, U.H a = some u → upd U.H D (.lst []) a = some u := fun {a u} e => by rw [upd_ne (ne_of_none e n)]; exact e
  refine ⟨⟨fun a h => ?_, fun a h => ?_, fun a h => ?_, fun a h z => ?_⟩, ⟨⟨fun a u e _ _ => ne e, fun _ h => h, fun _ h => .inl h, fun _ h => h, fun _ h => .inl h, fun a h => ?_⟩, fun a xs h e => ⟨ne e, .inl h⟩⟩, fun a => Iff.rfl, ⟨[], upd_same, .nil⟩⟩
  · obtain ⟨h1, c, hh, m, e, r⟩ := k.va a h
    exact ⟨h1, c, hh, m, ne e, r⟩
  · obtain ⟨u, e⟩ := k.at_ a h
    exact ⟨u, ne e⟩
  · rcases h with h | h
    · obtain ⟨xs, e⟩ := k.ot a h
      exact ⟨xs, ne e⟩
    · exact ⟨[], by rw [h]; exact upd_same⟩
  · rcases h with h | h
    · exact k.oa a h z
    · obtain ⟨u, e⟩ := k.at_ a z
      rw [h] at e
      exact some_ne e n
  · rcases h with h | h
    · exact .inl h
    · exact .inr (by rw [h]; exact n)
theorem Grw.le {K : Fg} {U Z Y : Wd} {D : Addr} {acc : List PyData} (k : U.Ok) (g : Grw K U Z D acc) (l : Le Z Y) (y : Y.Ok) : Grw K U Y D acc := by
  obtain ⟨vs, e, r⟩ := g.h
  exact ⟨y, g.sq.trans k g.ok (l.sq g.ok), fun a => by rw [l.o]; exact g.o a, ⟨vs, l.ext _ _ e (g.ok.ov ((g.o D).mpr (.inr rfl))), r.stp l.stp g.ok⟩⟩
theorem Grw.put {K : Fg} {U Z : Wd} {D : Addr} {acc : List PyData} (k : U.Ok) (n : U.H D = none) (g : Grw K U Z D acc) {v : V} {d : PyData} (r : R K Z v d) :
    ∃ vs, Z.H D = some (.lst vs) ∧ vs.length = acc.length ∧ Grw K U { Z with H := upd Z.H D (.lst (vs ++ [v])) } D (acc ++ [d]) := by
  obtain ⟨vs, e, h⟩ := g.h
  obtain ⟨g1, g2⟩ := grow (ys := vs ++ [v]) g.ok ((g.o D).mpr (.inr rfl)) e
  refine ⟨vs, e, h.length, g1, ⟨?_, fun a xs ho ea => ?_⟩, g.o, ⟨_, upd_same, (h.stp g2 g.ok).append (.cons (r.stp g2 g.ok) .nil)⟩⟩
  · exact g.sq.stp.trans k g.ok g2 (g.sq.there k)
  · obtain ⟨e1, o1⟩ := g.sq.own a xs ho ea
    refine ⟨?_, o1⟩
    show upd Z.H D _ a = _
    rw [upd_ne (ne_of_none ea n)]
    exact e1
theorem Grw.done {K : Fg} {U Z : Wd} {D : Addr} {acc : List PyData} (k : U.Ok) (n : U.H D = none) (g : Grw K U Z D acc) : Le U { Z with O := U.O } ∧ ({ Z with O := U.O } : Wd).Ok ∧ R K { Z with O := U.O } (.ref D) (.list acc) := by
  have sub : ∀ a, U.O a → Z.O a := fun a h => (g.o a).mpr (.inl h)
  obtain ⟨vs, e, h⟩ := g.h
  refine ⟨⟨fun a o ea nv => ?_, g.sq.stp.a1, g.sq.stp.a2, g.sq.stp.v1, g.sq.stp.v2, rfl⟩, ⟨g.ok.va, g.ok.at_, fun a h => g.ok.ot a (sub a h), fun a h => g.ok.oa a (sub a h)⟩, .lst e (fun z => g.ok.oa D ((g.o D).mpr (.inr rfl)) z) (fun z => ?_) (h.less sub)⟩
  · by_cases ho : U.O a
    · obtain ⟨xs, ex⟩ := k.ot a ho
      rw [ex] at ea
      cases ea
      exact (g.sq.own a xs ho ex).1
    · exact g.sq.stp.ext a o ea nv ho
  · obtain ⟨xs, ex⟩ := k.ot D z
    exact some_ne ex n
theorem tgIn_off {tg : Tg} {vs : List Nat} (h : tgIn tg vs = true) {σ ρ : L2.St} (o : OffT tg σ ρ) : wipe ρ vs = wipe σ vs := by
  refine wipe_same o.1 fun i hi => o.2 i fun z => ?_
  unfold tgIn at h
  rw [List.all_eq_true] at h
  exact hi (by simpa using h i z)
theorem wipe_wipe {σ : L2.St} {vs : List Nat} : wipe (wipe σ vs) vs = wipe σ vs := wipe_same (wipe_length σ vs) fun i hi => wipe_out hi
def turnLc (Φ : Nat → PSp) (wp : List Nat) (g : Tg) (t : RT) (x : RE) (τ : SDs) : DV → (Option PyData → Prop) → Prop := fun y k => wTg g y (wipeD τ wp) fun τ2 => wT Φ t τ2 fun b => if b = true then wE Φ x τ2 fun r => match r with
      | .d z => k (some z)
      | _ => False
    else k none
theorem lc_imp {K : Fg} {vs : List Nat} {g : Tg} {it : RI} {t : RT} {x : RE} (hin : tgIn g vs = true) {σ : L2.St} {H : Hp} {Q : VK} (q : trE K (wE Φ (.lc vs g it t x)) σ H Q) : tLc (trI K (wI Φ it)) (gOf K g) (trT K (wT Φ t)) (trE K (wE Φ x)) vs σ H Q := by
  obtain ⟨W, τ, R, rfl, k, gd, hw, hq⟩ := q
  simp only [wE] at hw
  refine ⟨W, τ, _, rfl, k, gd, hw, fun xs J U hxs k1 l1 hJ => ?_⟩
  obtain ⟨hlen, hgo⟩ := hxs
  intro D hD
  have gd1 := gd.le l1 k
  have hgo : goLc (turnLc Φ vs g t x τ) (xs.drop 0) [] fun ys => R (.d (.list ys)) := hgo
  refine ⟨fun i m H' => m = xs.length - i ∧ i ≤ xs.length ∧ ∃ Z acc, Z.H = H' ∧ Grw K U Z D acc ∧ acc.length ≤ i ∧ goLc (turnLc Φ vs g t x τ) (xs.drop i) acc fun ys => R (.d (.list ys)), ⟨xs.length, rfl, Nat.zero_le _, _, [], rfl, grw_start k1 hD, Nat.le_refl _, hgo⟩, ?_⟩
  rintro i m H' ⟨rfl, hil, Z, acc, rfl, gz, hacc, hgo⟩
  have walk := hJ Z gz.ok gz.sq.stp i
  by_cases hlt : i < xs.length
  · refine .inr ⟨(walk.1 hlt).1, fun H2 => ∃ Y acc, Y.H = H2 ∧ Grw K U Y D acc ∧ acc.length ≤ i + 1 ∧ goLc (turnLc Φ vs g t x τ) (xs.drop (i + 1)) acc fun ys => R (.d (.list ys)), fun H2 h => ⟨xs.length - (i + 1), by omega, rfl, hlt, h⟩, fun y H2 yl => ?_⟩
    obtain ⟨Zw, rfl, kw, lw, d, hd, rd⟩ := (walk.1 hlt).2 y H2 yl
    have gw := gz.le k1 lw kw
    have hdr : xs.drop i = d :: xs.drop (i + 1) := by
      rw [List.drop_eq_getElem_cons hlt]
      rw [List.getElem?_eq_getElem hlt] at hd
      rw [Option.some.inj hd]
    rw [hdr] at hgo
    have hturn : turnLc Φ vs g t x τ d (fun o => goLc (turnLc Φ vs g t x τ) (xs.drop (i + 1)) (acc ++ o.toList) fun ys => R (.d (.list ys))) := hgo
    refine tg_sem kw ((gd1.sq gw.sq k1).wipe vs) rd hturn _ fun ρ τ2 gd2 ht2 off => ⟨(tgIn_off hin off).trans wipe_wipe, ?_⟩
    refine ⟨Zw, τ2, _, rfl, kw, gd2, ht2, fun b Y hb k2 l2 => ?_⟩
    have gy := gw.le k1 l2 k2
    cases b with
    | true =>
      refine iteT ⟨Y, τ2, _, rfl, k2, gd2.le l2 kw, hb, fun r v Y2 hr k3 l3 rv => ?_⟩
      cases rv with
      | d h =>
        obtain ⟨us, e, hl, g'⟩ := (gy.le k1 l3 k3).put k1 hD h
        exact ⟨us, e, by rw [hl]; exact szl (by omega), _, _, rfl, g', by rw [List.length_append, List.length_singleton]; omega, hr⟩
      | _ => exact hr.elim
    | false =>
      refine iteF ⟨Y, acc, rfl, gy, by omega, ?_⟩
      have hb : goLc (turnLc Φ vs g t x τ) (xs.drop (i + 1)) (acc ++ []) fun ys => R (.d (.list ys)) := hb
      rw [List.append_nil] at hb
      exact hb
  · refine .inl ⟨walk.2 (Nat.le_of_not_lt hlt), ?_⟩
    rw [List.drop_eq_nil_of_le (Nat.le_of_not_lt hlt)] at hgo
    obtain ⟨h1, h2, h3⟩ := gz.done k1 hD
    exact (show Q (.ref D) ({ Z with O := U.O } : Wd).H from hq _ (.ref D) { Z with O := U.O } hgo h2 (l1.trans k k1 h1) (.d h3))
theorem e_lc (c : Cok cc Φ lv X) {elt tg iter : Expr} {ifs : List Expr} {scope : Scope} {g : Tg} {it : RI} {t : RT} {x : RE} (hb : blkC cc.N cc.sc scope (ownOf cc.N scope) = true) (hi' : iterOk iter = true) (hin : tgIn g ((ownOf cc.N scope).map (·.2)) = true)
    (hi : PI X tg iter (trI X.K (wI Φ it))) (hg : cTg (inCC cc scope) tg = some g)
    (ht : ∀ Y : Cx, Cok (inCC cc scope) Φ lv Y → PTs Y ifs (trT Y.K (wT Φ t))) (he : ∀ Y : Cx, Cok (inCC cc scope) Φ lv Y → PE Y elt (trE Y.K (wE Φ x))) :
    PE X (.ListComp elt [⟨tg, iter, ifs, 0⟩] scope pos) (trE X.K (wE Φ (.lc ((ownOf cc.N scope).map (·.2)) g it t x))) := by
  have ok : BlkOk X.N X.env.scope scope (ownOf cc.N scope) := by rw [c.n, c.sc]; exact blkOk_by hb
  have hs : ∀ y, foldedSetIterable iter X.env y = pure y := by intro y; cases iter <;> first | rfl | cases hi'
  have base := pe_lc (pos := pos) (g := gOf X.K g) (tt := trT X.K (wT Φ t)) (te := trE X.K (wE Φ x)) c.calm c.nd hi ok (fun s H C cl fp => tg_ok (c.blk s H scope C cl fp) hg) (fun s H C cl fp => ht _ (c.blk s H scope C cl fp)) (fun s H C cl fp => he _ (c.blk s H scope C cl fp)) hs
  generalize hv : (ownOf cc.N scope).map (·.2) = vs at hin base ⊢
  refine pE_imp base fun σ H Q q => lc_imp hin q
end
end Pf

namespace Pf
open PySem PySem.Spec PyProof.Rows L2
/-- all of a text's pieces, to a depth -/
structure Snd (Φ : Nat → PSp) (lv n : Nat) : Prop where
  e : ∀ {cc : CC} {X : Cx} {e : Expr} {r : RE}, Cok cc Φ lv X → cE n cc e = some r → PE X e (trE X.K (wE Φ r))
  a : ∀ {cc : CC} {X : Cx} {e : List Expr} {r : RA}, Cok cc Φ lv X → cA n cc e = some r → PA X e (trA X.K (wA Φ r))
  k : ∀ {cc : CC} {X : Cx} {e : List Keyword} {r : RA}, Cok cc Φ lv X → cK n cc e = some r → PK X e (trA X.K (wA Φ r))
  o : ∀ {cc : CC} {X : Cx} {e : Option Expr} {r : RO}, Cok cc Φ lv X → cO n cc e = some r → PO X e (trO X.K (wO Φ r))
  t : ∀ {cc : CC} {X : Cx} {e : Expr} {r : RT}, Cok cc Φ lv X → cT n cc e = some r → PT X e (trT X.K (wT Φ r))
  w : ∀ {cc : CC} {X : Cx} {op : BoolOp} {vs : List Expr} {pos : Pos} {r : RT}, Cok cc Φ lv X → cT n cc (.BoolOp op vs pos) = some r → PW X (.BoolOp op vs pos) (trT X.K (wT Φ r))
  ts : ∀ {cc : CC} {X : Cx} {e : List Expr} {r : RT}, Cok cc Φ lv X → cTs n cc e = some r → PTs X e (trT X.K (wT Φ r))
  i : ∀ {cc : CC} {X : Cx} {e : Expr} {r : RI}, Cok cc Φ lv X → cI n cc e = some r → ∀ tg, tgOk r tg = true → PI X tg e (trI X.K (wI Φ r))
section
variable {Φ : Nat → PSp} {lv n : Nat}
theorem snd0 : Snd Φ lv 0 := by
  constructor
  · intro cc X e r c h; simp [cE] at h
  · intro cc X e r c h; simp [cA] at h
  · intro cc X e r c h; simp [cK] at h
  · intro cc X e r c h; simp [cO] at h
  · intro cc X e r c h; simp [cT] at h
  · intro cc X op vs pos r c h; simp [cT] at h
  · intro cc X e r c h; simp [cTs] at h
  · intro cc X e r c h; simp [cI] at h
theorem snd_a (S : Snd Φ lv n) {cc : CC} {X : Cx} {e : List Expr} {r : RA} (c : Cok cc Φ lv X) (h : cA (n + 1) cc e = some r) : PA X e (trA X.K (wA Φ r)) := by
  cases e with
  | nil => simp only [cA] at h; cases h; exact a_nil
  | cons e es =>
    simp only [cA] at h
    split at h
    · cases h
    · rename_i hs
      split at h
      · rename_i x y h1 h2
        cases h
        exact a_cons (by simpa using hs) (S.e c h1) (S.a c h2)
      · cases h
theorem snd_k (S : Snd Φ lv n) {cc : CC} {X : Cx} {e : List Keyword} {r : RA} (c : Cok cc Φ lv X) (h : cK (n + 1) cc e = some r) : PK X e (trA X.K (wA Φ r)) := by
  cases e with
  | nil => simp only [cK] at h; cases h; exact k_nil
  | cons e es =>
    obtain ⟨nm, e, kp⟩ := e
    simp only [cK] at h
    split at h
    · rename_i x y h1 h2
      cases h
      exact k_cons (S.e c h1) (S.k c h2)
    · cases h
theorem snd_o (S : Snd Φ lv n) {cc : CC} {X : Cx} {e : Option Expr} {r : RO} (c : Cok cc Φ lv X) (h : cO (n + 1) cc e = some r) : PO X e (trO X.K (wO Φ r)) := by
  cases e with
  | none => simp only [cO] at h; cases h; exact o_none
  | some e =>
    simp only [cO] at h
    obtain ⟨x, h1, h2⟩ := Option.map_eq_some_iff.mp h
    subst h2
    exact o_some (S.e c h1)
theorem snd_w (S : Snd Φ lv n) {cc : CC} {X : Cx} {op : BoolOp} {vs : List Expr} {pos : Pos} {r : RT} (c : Cok cc Φ lv X) (h : cT (n + 1) cc (.BoolOp op vs pos) = some r) : PW X (.BoolOp op vs pos) (trT X.K (wT Φ r)) := by
  simp only [cT] at h
  split at h
  · cases h
  · have := S.t c h
    cases op
    · exact pw_and1 this
    · exact pw_or1 this
  · split at h
    · rename_i x y h1 h2
      cases h
      exact w_and (S.t c h1) (S.w c h2)
    · rename_i x y h1 h2
      cases h
      exact w_or (S.t c h1) (S.w c h2)
    · cases h
theorem snd_t (S : Snd Φ lv n) {cc : CC} {X : Cx} {e : Expr} {r : RT} (c : Cok cc Φ lv X) (h : cT (n + 1) cc e = some r) : PT X e (trT X.K (wT Φ r)) := by
  have key : (if plainT e = true then (cE n cc e).map RT.val else none) = some r → PT X e (trT X.K (wT Φ r)) := fun h => by
    split at h
    · rename_i hp
      obtain ⟨x, h1, h2⟩ := Option.map_eq_some_iff.mp h
      subst h2
      exact t_val hp (S.e c h1)
    · cases h
  cases e with
  | BoolOp op vs pos => exact (snd_w S c h).pt
  | UnaryOp op a pos =>
    cases op with
    | Not =>
      simp only [cT] at h
      obtain ⟨x, h1, h2⟩ := Option.map_eq_some_iff.mp h
      subst h2
      exact t_not (S.t c h1)
    | _ => simp only [cT] at h; exact key h
  | Compare a ops bs pos =>
    unfold cT at h
    split at h <;> (first | (rename_i hh; cases hh; done) | skip)
    · rename_i hh; cases hh
      obtain ⟨x, h1, h2⟩ := Option.map_eq_some_iff.mp h
      subst h2
      exact t_isN (S.e c h1)
    · rename_i hh; cases hh
      obtain ⟨x, h1, h2⟩ := Option.map_eq_some_iff.mp h
      subst h2
      exact t_notN (S.e c h1)
    · rename_i hh; cases hh
      split at h
      · cases h
      · rename_i hm
        split at h
        · rename_i o x y h1 h2 h3
          cases h
          exact t_cmp c h1 (by simpa using hm) (S.e c h2) (S.e c h3)
        · cases h
    · exact key h
  | _ => simp only [cT] at h; exact key h
theorem snd_ts (S : Snd Φ lv n) {cc : CC} {X : Cx} {e : List Expr} {r : RT} (c : Cok cc Φ lv X) (h : cTs (n + 1) cc e = some r) : PTs X e (trT X.K (wT Φ r)) := by
  simp only [cTs] at h
  split at h
  · cases h; exact t_yes
  · exact pts_one (S.t c h)
  · cases h
theorem snd_i (S : Snd Φ lv n) {cc : CC} {X : Cx} {e : Expr} {r : RI} (c : Cok cc Φ lv X) (h : cI (n + 1) cc e = some r) (tg : Expr) (ok : tgOk r tg = true) : PI X tg e (trI X.K (wI Φ r)) := by
  unfold cI at h
  split at h
  · split at h
    · rename_i hh
      simp only [Bool.and_eq_true, beq_iff_eq, Bool.not_eq_true'] at hh
      obtain ⟨⟨⟨h1, h2⟩, h3⟩, h4⟩ := hh
      subst h1
      obtain ⟨x, e1, e2⟩ := Option.map_eq_some_iff.mp h
      subst e2
      exact i_rng c h2 h3 h4 (S.e c e1)
    · split at h
      · rename_i hh
        simp only [Bool.and_eq_true, beq_iff_eq, Bool.not_eq_true'] at hh
        obtain ⟨⟨⟨h1, h2⟩, h3⟩, h4⟩ := hh
        subst h1
        obtain ⟨x, e1, e2⟩ := Option.map_eq_some_iff.mp h
        subst e2
        cases tg <;> first | exact i_enm c h2 h3 h4 (S.e c e1) | cases ok
      · obtain ⟨x, e1, e2⟩ := Option.map_eq_some_iff.mp h
        subst e2
        exact i_seq (S.e c e1)
  · split at h
    · rename_i hh
      simp only [Bool.and_eq_true, beq_iff_eq, Bool.not_eq_true'] at hh
      obtain ⟨⟨⟨⟨h1, h2⟩, h3⟩, h4⟩, h5⟩ := hh
      subst h1
      split at h
      · rename_i x y e1 e2
        cases h
        exact i_rng2 c h2 h3 h4 h5 (S.e c e1) (S.e c e2)
      · cases h
    · split at h
      · rename_i hh
        simp only [Bool.and_eq_true, beq_iff_eq, Bool.not_eq_true'] at hh
        obtain ⟨⟨⟨⟨h1, h2⟩, h3⟩, h4⟩, h5⟩ := hh
        subst h1
        split at h
        · rename_i x y e1 e2
          cases h
          cases tg <;> first | exact i_zip c h2 h3 h4 h5 (S.e c e1) (S.e c e2) | cases ok
        · cases h
      · obtain ⟨x, e1, e2⟩ := Option.map_eq_some_iff.mp h
        subst e2
        exact i_seq (S.e c e1)
  · obtain ⟨x, e1, e2⟩ := Option.map_eq_some_iff.mp h
    subst e2
    exact i_seq (S.e c e1)
theorem cA_nil {cc : CC} {r : RA} (h : cA n cc [] = some r) : r = .nil := by
  cases n with
  | zero => simp [cA] at h
  | succ n => simp only [cA] at h; cases h; rfl
theorem cE_star {cc : CC} {e : Expr} {r : RE} (h : cE n cc e = some r) : isStar e = false := by
  cases n with
  | zero => simp [cE] at h
  | succ n => cases e <;> first | rfl | (simp [cE] at h)
theorem e_dic {X : Cx} {pos : Pos} : PE X (.Dict [] [] pos) (trE X.K (wE Φ .dic)) := pE_imp pe_dnewK fun σ H Q q => by
  obtain ⟨W, τ, R, rfl, k, g, hw, hq⟩ := q
  simp only [wE] at hw
  exact fun d hd => hq _ _ _ hw (lay k hd).2 (lay k hd).1 (.d (.dic upd_same))
theorem snd_e (S : Snd Φ lv n) {cc : CC} {X : Cx} {e : Expr} {r : RE} (c : Cok cc Φ lv X) (h : cE (n + 1) cc e = some r) : PE X e (trE X.K (wE Φ r)) := by
  unfold cE at h
  split at h
  · -- constants
    split at h
    · cases h; exact e_con pe_non fun _ _ => .non
    · cases h; exact e_con pe_bl fun _ _ => .bl _
    · cases h; exact e_con pe_int fun _ _ => .int _
    · cases h; exact e_con pe_str fun _ _ => .str _
    · cases h
  · split at h
    · rename_i i hi
      cases h
      exact e_var c hi
    · split at h
      · rename_i hg
        obtain ⟨d, h1, h2⟩ := Option.map_eq_some_iff.mp h
        subst h2
        exact e_glo c hg h1
      · cases h
  · obtain ⟨x, h1, h2⟩ := Option.map_eq_some_iff.mp h
    subst h2
    exact e_tup (S.a c h1)
  · obtain ⟨x, h1, h2⟩ := Option.map_eq_some_iff.mp h
    subst h2
    exact e_lst (S.a c h1)
  · cases h
    exact e_dic
  · split at h
    · rename_i o x y h1 h2 h3
      cases h
      exact e_bin h1 (S.e c h2) (S.e c h3)
    · cases h
  · obtain ⟨x, h1, h2⟩ := Option.map_eq_some_iff.mp h
    subst h2
    exact e_neg (S.e c h1)
  · obtain ⟨x, h1, h2⟩ := Option.map_eq_some_iff.mp h
    subst h2
    exact e_not (S.e c h1)
  · split at h
    · cases h
    · exact pe_one (S.e c h)
    · split at h
      · rename_i x y h1 h2
        cases h
        exact e_and (S.e c h1) (S.e c h2)
      · rename_i x y h1 h2
        cases h
        exact e_or (S.e c h1) (S.e c h2)
      · cases h
  · obtain ⟨x, h1, h2⟩ := Option.map_eq_some_iff.mp h
    subst h2
    exact e_isN (S.e c h1)
  · obtain ⟨x, h1, h2⟩ := Option.map_eq_some_iff.mp h
    subst h2
    exact e_notN (S.e c h1)
  · split at h
    · cases h
    · rename_i hm
      split at h
      · rename_i o x y h1 h2 h3
        cases h
        exact e_cmp c h1 (by simpa using hm) (S.e c h2) (S.e c h3)
      · cases h
  · split at h
    · rename_i t x y h1 h2 h3
      cases h
      exact e_ite (S.t c h1) (S.e c h2) (S.e c h3)
    · cases h
  · split at h
    · rename_i x l u h1 h2 h3
      cases h
      exact e_slc (S.e c h1) (S.o c h2) (S.o c h3)
    · cases h
  · split at h
    · rename_i hp
      split at h
      · rename_i kvs hd
        obtain ⟨y, h1, h2⟩ := Option.map_eq_some_iff.mp h
        subst h2
        rename_i a b q _ _
        cases a with
        | Name x p =>
          unfold dsOf at hd
          dsimp only at hd
          split at hd
          · rename_i hg
            exact e_look c hp hg hd (S.e c h1)
          · cases hd
        | _ => cases hd
      · split at h
        · rename_i x y h1 h2
          cases h
          exact e_idx hp (S.e c h1) (S.e c h2)
        · cases h
    · cases h
  · split at h
    · rename_i hh
      simp only [Bool.and_eq_true, beq_iff_eq, Bool.not_eq_true'] at hh
      obtain ⟨⟨⟨h1, h2⟩, h3⟩, h4⟩ := hh
      subst h1
      split at h
      · rename_i x y e1 e2
        cases h
        exact e_ixf c h4 h2 (by rw [beq_iff_eq]; exact h3) (S.e c e1) (S.e c e2)
      · cases h
    · cases h
  · split at h
    · rename_i hh
      simp only [Bool.and_eq_true, beq_iff_eq] at hh
      obtain ⟨⟨h1, h3⟩, h4⟩ := hh
      subst h1
      obtain ⟨x, e1, e2⟩ := Option.map_eq_some_iff.mp h
      subst e2
      exact e_bits h4 (by rw [beq_iff_eq]; exact h3) (S.e c e1)
    · cases h
  · rename_i x p args kws q
    split at h
    · rename_i hg
      split at h
      · split at h
        · rename_i k hk
          obtain ⟨ra, h1, h2⟩ := Option.map_eq_some_iff.mp h
          subst h2
          cases args with
          | nil =>
            have := cA_nil h1
            subst this
            exact e_call0 c hg (c.fs _ _ hk)
          | cons a as => exact e_call1 c hg (c.fs _ _ hk) (cA_star h1) (S.a c h1)
        · split at h
          · rename_i b hb
            obtain ⟨ra, h1, h2⟩ := Option.map_eq_some_iff.mp h
            subst h2
            obtain ⟨m1, m2⟩ := c.mok _ (bFind_ok hb)
            cases args with
            | nil => exact absurd m1 (Nat.lt_irrefl _)
            | cons a as => exact e_ms c hg hb (cA_star h1) (S.a c h1) m2
          · split at h
            · rename_i hbs
              split at h
              · rename_i b hb
                obtain ⟨ra, h1, h2⟩ := Option.map_eq_some_iff.mp h
                subst h2
                cases args with
                | nil => exact absurd (biTab_ok (bFind_ok hb)).1 (Nat.lt_irrefl _)
                | cons a as => exact e_bi c hg hbs hb (cA_star h1) (S.a c h1)
              · split at h
                · split at h
                  · rename_i hh
                    simp only [Bool.and_eq_true, beq_iff_eq] at hh
                    obtain ⟨⟨e1, e2⟩, e3⟩ := hh
                    subst e1
                    split at h
                    · rename_i t y h1 h2
                      cases h
                      exact e_isi c hg hbs e2 e3 h1 (cE_star h2) (S.e c h2)
                    · cases h
                  · cases h
                · cases h
            · cases h
      · split at h
        · rename_i k ns hk hn
          split at h
          · rename_i pr hp
            split at h
            · rename_i u z h1 h2
              split at h
              · rename_i hall
                cases h
                have hm := List.mem_of_find?_eq_some hp
                have he := List.find?_some hp
                simp only [Bool.and_eq_true, beq_iff_eq, decide_eq_true_eq] at he
                obtain ⟨⟨e1, e2⟩, e3⟩ := he
                have F := c.kb pr hm k (by rw [e1]; exact hk)
                rw [e1, e2, e3] at F
                exact e_callK c hg F hn hall (fun z => by subst z; exact cA_nil h1) (cA_star h1) (S.a c h1) (S.k c h2)
              · cases h
            · cases h
          · cases h
        · cases h
    · cases h
  · split at h
    · rename_i hb
      rw [Bool.and_eq_true] at hb
      split at h
      · rename_i it g t x h1 h2 h3 h4
        split at h
        · rename_i hin
          cases h
          rw [Bool.and_eq_true] at hin
          exact e_lc c hb.1 hb.2 hin.2 (S.i c h1 _ hin.1) h2 (fun Y d => S.ts d h3) fun Y d => S.e d h4
        · cases h
      · cases h
    · cases h
  · cases h
theorem snd : ∀ n : Nat, Snd Φ lv n
  | 0 => snd0
  | n + 1 => ⟨snd_e (snd n), snd_a (snd n), snd_k (snd n), snd_o (snd n), snd_t (snd n), snd_w (snd n), snd_ts (snd n), snd_i (snd n)⟩
end
end Pf

namespace Pf
open PySem PySem.Spec PyProof.Rows L2
/-! ### statements -/
mutual
def namesE : Nat → Expr → List Str
  | 0, _ => []
  | n + 1, e => match e with
    | .Name x _ => [x]
    | .Tuple es _ _ => namesA n es
    | .List es _ => namesA n es
    | .BinOp a _ b _ => namesE n a ++ namesE n b
    | .UnaryOp _ a _ => namesE n a
    | .BoolOp _ es _ => namesA n es
    | .Compare a _ bs _ => namesE n a ++ namesA n bs
    | .IfExp a b c _ => namesE n a ++ namesE n b ++ namesE n c
    | .Subscript a b _ => namesE n a ++ namesE n b
    | .Slice a b _ _ => (match a with | some e => namesE n e | none => []) ++ (match b with | some e => namesE n e | none => [])
    | .Call f args kws _ => namesE n f ++ namesA n args ++ namesK n kws
    | .ListComp a [⟨_, it, ifs, _⟩] _ _ => namesE n a ++ namesE n it ++ namesA n ifs
    | .Attribute a _ _ => namesE n a
    | _ => []
def namesA : Nat → List Expr → List Str
  | 0, _ => []
  | n + 1, es => match es with
    | [] => []
    | e :: r => namesE n e ++ namesA n r
def namesK : Nat → List Keyword → List Str
  | 0, _ => []
  | n + 1, es => match es with
    | [] => []
    | ⟨_, e, _⟩ :: r => namesE n e ++ namesK n r
end
/-- the growing lists that are read as a whole -/
def frzOf (cc : CC) (ns : List Str) (s : RS) : RS := if cc.ap.isEmpty = true then s else
  (cc.ap.filter fun i => ns.any fun x => decide (cslot cc x = some i)).foldr (fun i r => .frz i r) s
/-- the growing lists to which is appended -/
def RS.apps : RS → List Nat
  | .app i _ => [i]
  | .frz _ s => s.apps
  | .iff _ a b => a.apps ++ b.apps
  | .iffz _ _ a b => a.apps ++ b.apps
  | .whl _ b => b.apps
  | .for _ _ b => b.apps
  | .seq s u => s.apps ++ u.apps
  | _ => []
def iffOf (cc : CC) (ns : List Str) (t : RT) (x y : RS) : RS :=
  if ((cc.ap.filter fun i => ns.any fun x => decide (cslot cc x = some i)).any fun i => (x.apps ++ y.apps).contains i) = true then .iffz (cc.ap.filter fun i => ns.any fun x => decide (cslot cc x = some i)) t x y else frzOf cc ns (.iff t x y)
/-- a tuple's values, those that are lists to grow apart -/
def cXs (n : Nat) (cc : CC) : List Nat → List Expr → Option (List RX)
  | [], [] => some []
  | i :: is, .List es q :: r => if cc.ap.contains i = true then (match cA n cc es, cXs n cc is r with
      | some x, some y => some (.l x :: y)
      | _, _ => none)
      else match cE n cc (.List es q), cXs n cc is r with
      | some x, some y => some (.e x :: y)
      | _, _ => none
  | _ :: is, e :: r => if isStar e = true then none else match cE n cc e, cXs n cc is r with
      | some x, some y => some (.e x :: y)
      | _, _ => none
  | _, _ => none
def anyOwn (cc : CC) : List Nat → List Expr → Bool
  | i :: is, .List _ _ :: r => cc.ap.contains i || anyOwn cc is r
  | _ :: is, _ :: r => anyOwn cc is r
  | _, _ => false
mutual
def cS : Nat → CC → Stmt → Option RS
  | 0, _, _ => none
  | n + 1, cc, st => match st with
    | .Return (some (.List es q)) _ => if cc.ap.contains 1000 = true then (cA n cc es).map .retV else (cE n cc (.List es q)).map fun x => frzOf cc (namesA n es) (.ret x)
    | .Return (some e) _ => (cE n cc e).map fun x => frzOf cc (namesE n e) (.ret x)
    | .Return none _ => some .retN
    | .Assign [.Subscript (.Name v _) (.Constant (.int j) _ _) _] e _ => if (isLC e || decide (j < 0)) = true then none else match cslot cc v, cE n cc e with
      | some i, some x => some (.setV i j.toNat x)
      | _, _ => none
    | .Assign [.Tuple [.Subscript (.Name v _) (.Constant (.int j) _ _) _, .Name y p] _ _] (.Call f as ks q) _ => if decide (j < 0) = true then none else match cslot cc v, tgName cc (.Name y p), cE n cc (.Call f as ks q) with
      | some i, some m, some x => some (.setV2 i j.toNat m x)
      | _, _, _ => none
    | .Assign [.Name y p] (.List es q) _ => match tgName cc (.Name y p), cA n cc es with
      | some i, some ra => if cc.ap.contains i = true then some (frzOf cc (namesA n es) (.own i ra)) else (cE n cc (.List es q)).map fun x => frzOf cc (namesA n es) (.asg i x)
      | _, _ => none
    | .Assign [.Name y p] e _ => match tgName cc (.Name y p), cE n cc e with
      | some i, some x => some (frzOf cc (namesE n e) (.asg i x))
      | _, _ => none
    | .Assign [.Tuple ts k p] (.Tuple vs k2 p2) _ => match swp cc ts vs with
      | 0 => match cTg cc (.Tuple ts k p), cE n cc (.Tuple vs k2 p2) with
        | some g, some x => some (frzOf cc (namesA n vs) (.asgT g x))
        | _, _ => none
      | 1 => match tgNames cc ts with
        | some is => if decide is.Nodup = true then (if anyOwn cc is vs = true then (cXs n cc is vs).map fun xs => frzOf cc (namesA n vs) (.parX is xs)
          else (cA n cc vs).map fun ra => frzOf cc (namesA n vs) (.par is ra)) else none
        | none => none
      | _ => none
    | .Assign [.Tuple ts k p] e _ => match cTg cc (.Tuple ts k p), cE n cc e with
      | some g, some x => some (frzOf cc (namesE n e) (.asgT g x))
      | _, _ => none
    | .Expr (.Call (.Attribute (.Name x _) m p1) [e] [] p2) _ => if (m == ("append" : Str) && !isStar e && p1.endLine == p2.line) = true then match cslot cc x, cE n cc e with
      | some i, some y => some (frzOf cc (namesE n e) (.app i y))
      | _, _ => none
      else none
    | .Expr (.Call (.Name x p) args kws q) _ => (cE n cc (.Call (.Name x p) args kws q)).map fun y => frzOf cc (namesE n (.Call (.Name x p) args kws q)) (.exp y)
    | .Expr (.Constant (.str _) _ _) _ => some .skip
    | .AugAssign (.Name y p) .Add e _ => match tgName cc (.Name y p), cE n cc e with
      | some i, some x => some (frzOf cc (namesE n e) (.aug i x))
      | _, _ => none
    | .Pass _ => some .skip
    | .Break _ => some .brk
    | .Continue _ => some .cnt
    | .Raise _ _ _ => some .fail
    | .If c a b _ => match cT n cc c, cSs n cc a, cSs n cc b with
      | some t, some x, some y => some (iffOf cc (namesE n c) t x y)
      | _, _, _ => none
    | .While c b [] _ => match cT n cc c, cSs n cc b with
      | some t, some x => some (.whl t x)
      | _, _ => none
    | .For tg it b [] _ => if iterOk it = true then match cTg cc tg, cI n cc it, cSs n cc b with
      | some g, some i, some x => if tgOk i tg = true then some (frzOf cc (namesE n it) (.for g i x)) else none
      | _, _, _ => none
      else none
    | _ => none
def cSs : Nat → CC → List Stmt → Option RS
  | 0, _, _ => none
  | n + 1, cc, ss => match ss with
    | [] => some .skip
    | [s] => cS n cc s
    | s :: r => match cS n cc s, cSs n cc r with
      | some x, some y => some (.seq x y)
      | _, _ => none
end
structure Sts (W U : Wd) : Prop where
  stp : Stp W U
  th : ∀ a, W.O a → ∃ o, U.H a = some o
theorem Sts.refl {W : Wd} (k : W.Ok) : Sts W W := ⟨Stp.refl W, fun a h => by obtain ⟨xs, e⟩ := k.ot a h; exact ⟨_, e⟩⟩
theorem Le.sts {W U : Wd} (l : Le W U) (k : W.Ok) : Sts W U := ⟨l.stp, fun a h => (l.sq k).there k a h⟩
theorem Sts.trans {W U Z : Wd} (k : W.Ok) (q : U.Ok) (z : Z.Ok) (l : Sts W U) (m : Sts U Z) : Sts W Z := ⟨l.stp.trans k q m.stp l.th, fun a h => by
  obtain ⟨o, e⟩ := l.th a h
  by_cases hu : U.O a
  · exact m.th a hu
  · exact m.stp.there q z e hu⟩
structure Lk (K : Fg) (W : Wd) (D : Ends) (P : PD) : Prop where
  nx : ∀ U σ τ, U.Ok → Sts W U → Gd K U σ τ → P.nx τ → D.nx σ U.H
  rt : ∀ U v r, U.Ok → Sts W U → RD K U v r → P.rt r → D.rt v U.H
  bk : ∀ U σ τ, U.Ok → Sts W U → Gd K U σ τ → P.bk τ → D.bk σ U.H
  ct : ∀ U σ τ, U.Ok → Sts W U → Gd K U σ τ → P.ct τ → D.ct σ U.H
theorem Lk.on {K : Fg} {W U : Wd} {D : Ends} {P : PD} (h : Lk K W D P) (k : W.Ok) (q : U.Ok) (l : Sts W U) : Lk K U D P :=
  ⟨fun Z σ τ z m g p => h.nx Z σ τ z (l.trans k q z m) g p, fun Z v r z m g p => h.rt Z v r z (l.trans k q z m) g p, fun Z σ τ z m g p => h.bk Z σ τ z (l.trans k q z m) g p, fun Z σ τ z m g p => h.ct Z σ τ z (l.trans k q z m) g p⟩
def trS (K : Fg) (w : PD → SDs → Prop) : TS := fun D σ H => ∃ W τ P, W.H = H ∧ W.Ok ∧ Gd K W σ τ ∧ w P τ ∧ Lk K W D P
section
variable {X : Cx} {cc : CC} {Φ : Nat → PSp} {lv : Nat} {pos : Pos}
/-- an expression's meaning used by a statement -/
theorem use_e {K : Fg} {w : SDs → (DV → Prop) → Prop} {W : Wd} {σ : L2.St} {τ : SDs} {R : DV → Prop} {Q : VK} (k : W.Ok) (g : Gd K W σ τ) (h : w τ R) (hq : ∀ d v U, R d → U.Ok → Le W U → RD K U v d → Q v U.H) : trE K w σ W.H Q := ⟨W, τ, R, rfl, k, g, h, hq⟩
theorem s_ret {e : Expr} {x : RE} (h : PE X e (trE X.K (wE Φ x))) : PS X (.Return (some e) pos) (trS X.K (wS Φ (.ret x))) := pS_imp (ps_ret h) fun D σ H q => by
  obtain ⟨W, τ, P, rfl, k, g, hw, hl⟩ := q
  simp only [wS] at hw
  exact use_e k g hw fun d v U hd k1 l1 rv => hl.rt U v d k1 (l1.sts k) rv hd
theorem s_exp {f : Expr} {as : List Expr} {ks : List Keyword} {q : Pos} {x : RE} (h : PE X (.Call f as ks q) (trE X.K (wE Φ x))) : PS X (.Expr (.Call f as ks q) pos) (trS X.K (wS Φ (.exp x))) := pS_imp (ps_expr h rfl) fun D σ H q => by
  obtain ⟨W, τ, P, rfl, k, g, hw, hl⟩ := q
  simp only [wS] at hw
  exact use_e k g hw fun d v U hd k1 l1 rv => hl.nx U σ τ k1 (l1.sts k) (g.le l1 k) hd
theorem s_retN : PS X (.Return none pos) (trS X.K (wS Φ .retN)) := pS_imp ps_retN fun D σ H q => by
  obtain ⟨W, τ, P, rfl, k, g, hw, hl⟩ := q
  simp only [wS] at hw
  exact hl.rt W .non _ k (Sts.refl k) (.d .non) hw
theorem s_aug (c : Cok cc Φ lv X) {y : Str} {p : Pos} {e : Expr} {i : Nat} {x : RE} (hi : tgName cc (.Name y p) = some i) (h : PE X e (trE X.K (wE Φ x))) : PS X (.AugAssign (.Name y p) .Add e pos) (trS X.K (wS Φ (.aug i x))) := by
  unfold tgName at hi
  dsimp only at hi
  split at hi
  · rename_i hl
    obtain ⟨h1, h2⟩ := locK_ok c hl
    refine pS_imp (ps_aug c.nd (by rw [c.n]; exact ixOf_get hi) h1 h ip_add h2) fun D σ H q => ?_
    obtain ⟨W, τ, P, rfl, k, g, hw, hl⟩ := q
    simp only [wS] at hw
    split at hw
    · rename_i a e0
      obtain ⟨v, e1, r⟩ := g.get i _ e0
      cases r with
      | val r =>
        have := r.int_of
        subst this
        refine ⟨_, e1, use_e k g hw fun d u U hd k1 l1 rv => ?_⟩
        obtain ⟨b, rfl, hb⟩ := dint_of rv hd
        exact ⟨a, b, rfl, rfl, hl.nx U _ _ k1 (l1.sts k) ((g.le l1 k).set (.d (.int _)) i) hb⟩
    · exact hw.elim
  · cases hi
theorem s_skip {st : Stmt} (h : PS X st tNext) : PS X st (trS X.K (wS Φ .skip)) := pS_imp h fun D σ H q => by
  obtain ⟨W, τ, P, rfl, k, g, hw, hl⟩ := q
  simp only [wS] at hw
  exact hl.nx W σ τ k (Sts.refl k) g hw
theorem ss_nil : PSs X [] (trS X.K (wS Φ .skip)) := pSs_imp pss_nil fun D σ H q => by
  obtain ⟨W, τ, P, rfl, k, g, hw, hl⟩ := q
  simp only [wS] at hw
  exact hl.nx W σ τ k (Sts.refl k) g hw
theorem s_brk : PS X (.Break pos) (trS X.K (wS Φ .brk)) := pS_imp ps_break fun D σ H q => by
  obtain ⟨W, τ, P, rfl, k, g, hw, hl⟩ := q
  simp only [wS] at hw
  exact hl.bk W σ τ k (Sts.refl k) g hw
theorem s_cnt : PS X (.Continue pos) (trS X.K (wS Φ .cnt)) := pS_imp ps_continue fun D σ H q => by
  obtain ⟨W, τ, P, rfl, k, g, hw, hl⟩ := q
  simp only [wS] at hw
  exact hl.ct W σ τ k (Sts.refl k) g hw
theorem s_fail {st : Stmt} : PS X st (trS X.K (wS Φ .fail)) := pS_imp ps_never fun D σ H q => by
  obtain ⟨W, τ, P, rfl, k, g, hw, hl⟩ := q
  simp only [wS] at hw
theorem seq_imp {K : Fg} {s u : RS} {D : Ends} {σ : L2.St} {H : Hp} (q : trS K (wS Φ (.seq s u)) D σ H) : tSeq (trS K (wS Φ s)) (trS K (wS Φ u)) D σ H := by
  obtain ⟨W, τ, P, rfl, k, g, hw, hl⟩ := q
  simp only [wS] at hw
  exact ⟨W, τ, _, rfl, k, g, hw, ⟨fun U ρ τ' k1 l1 g1 h1 => ⟨U, τ', P, rfl, k1, g1, h1, hl.on k k1 l1⟩, hl.rt, hl.bk, hl.ct⟩⟩
theorem ss_cons {s : Stmt} {r : List Stmt} {x y : RS} (h : PS X s (trS X.K (wS Φ x))) (hr : PSs X r (trS X.K (wS Φ y))) : PSs X (s :: r) (trS X.K (wS Φ (.seq x y))) := pSs_imp (pss_cons h hr) fun _ _ _ q => seq_imp q
theorem s_iff {c : Expr} {a b : List Stmt} {t : RT} {x y : RS} (hc : PT X c (trT X.K (wT Φ t))) (ha : PSs X a (trS X.K (wS Φ x))) (hb : PSs X b (trS X.K (wS Φ y))) : PS X (.If c a b pos) (trS X.K (wS Φ (.iff t x y))) := pS_imp (ps_if hc ha hb) fun D σ H q => by
  obtain ⟨W, τ, P, rfl, k, g, hw, hl⟩ := q
  simp only [wS] at hw
  refine ⟨W, τ, _, rfl, k, g, hw, fun i U h k1 l1 => ?_⟩
  cases i with
  | true => exact iteT ⟨U, τ, P, rfl, k1, g.le l1 k, h, hl.on k k1 (l1.sts k)⟩
  | false => exact iteF ⟨U, τ, P, rfl, k1, g.le l1 k, h, hl.on k k1 (l1.sts k)⟩
theorem s_whl (c : Cok cc Φ lv X) {e : Expr} {b : List Stmt} {t : RT} {x : RS} (hc : PT X e (trT X.K (wT Φ t))) (hb : PSs X b (trS X.K (wS Φ x))) : PS X (.While e b [] pos) (trS X.K (wS Φ (.whl t x))) := by
  refine pS_imp (ps_while (by rw [c.xe]; exact PassesOwn.never) hc hb) fun D σ H q => ?_
  obtain ⟨W, τ, P, rfl, k, g, hw, hl⟩ := q
  simp only [wS] at hw
  obtain ⟨n, hw⟩ := hw
  refine ⟨fun m σ' H' => ∃ Z τ', Z.H = H' ∧ Z.Ok ∧ Sts W Z ∧ Gd X.K Z σ' τ' ∧ goWh (fun τ1 k => wT Φ t τ1 fun c => if c = true then wS Φ x { P with nx := k, ct := k, bk := P.nx } τ1 else P.nx τ1) m τ', ⟨n, W, τ, rfl, k, Sts.refl k, g, hw⟩, ?_⟩
  rintro m σ' H' ⟨Z, τ', rfl, kz, lz, gz, hz⟩
  cases m with
  | zero => exact False.elim hz
  | succ m =>
    refine ⟨Z, τ', _, rfl, kz, gz, hz, fun i U h k1 l1 => ?_⟩
    have lu := lz.trans k kz k1 (l1.sts kz)
    cases i with
    | true =>
      refine iteT ⟨fun σ2 H2 => ∃ Y τ2, Y.H = H2 ∧ Y.Ok ∧ Sts W Y ∧ Gd X.K Y σ2 τ2 ∧ goWh (fun τ1 k => wT Φ t τ1 fun c => if c = true then wS Φ x { P with nx := k, ct := k, bk := P.nx } τ1 else P.nx τ1) m τ2, fun σ2 H2 h2 => ⟨m, Nat.lt_succ_self m, h2⟩, ?_⟩
      exact ⟨U, τ', _, rfl, k1, gz.le l1 kz, h, ⟨fun Y ρ τ2 ky ly gy hy => ⟨Y, τ2, rfl, ky, lu.trans k k1 ky ly, gy, hy⟩, fun Y v r ky ly gy hy => hl.rt Y v r ky (lu.trans k k1 ky ly) gy hy, fun Y ρ τ2 ky ly gy hy => hl.nx Y ρ τ2 ky (lu.trans k k1 ky ly) gy hy, fun Y ρ τ2 ky ly gy hy => ⟨Y, τ2, rfl, ky, lu.trans k k1 ky ly, gy, hy⟩⟩⟩
    | false => exact iteF (hl.nx U σ' τ' k1 lu (gz.le l1 kz) h)
theorem s_for (c : Cok cc Φ lv X) {tg it : Expr} {b : List Stmt} {g : Tg} {i : RI} {x : RS} (hit : iterOk it = true) (hg : cTg cc tg = some g) (hi : PI X tg it (trI X.K (wI Φ i))) (hb : PSs X b (trS X.K (wS Φ x))) : PS X (.For tg it b [] pos) (trS X.K (wS Φ (.for g i x))) := by
  have hs : ∀ y, foldedSetIterable it X.env y = pure y := by intro y; cases it <;> first | rfl | cases hit
  refine pS_imp (ps_for (by rw [c.xe]; exact PassesOwn.never) c.calm hi (tg_ok c hg) hb hs) fun D σ H q => ?_
  obtain ⟨W, τ, P, rfl, k, gd, hw, hl⟩ := q
  simp only [wS] at hw
  refine ⟨W, τ, _, rfl, k, gd, hw, fun xs J U hxs k1 l1 hJ => ?_⟩
  have lu := l1.sts k
  have hxs : goFor (fun y τ1 k => wTg g y τ1 fun τ2 => wS Φ x { P with nx := k, ct := k, bk := P.nx } τ2) P.nx (xs.drop 0) τ := hxs
  refine ⟨fun j m σ' H' => m = xs.length - j ∧ j ≤ xs.length ∧ ∃ Z τ', Z.H = H' ∧ Z.Ok ∧ Sts U Z ∧ Gd X.K Z σ' τ' ∧ goFor (fun y τ1 k => wTg g y τ1 fun τ2 => wS Φ x { P with nx := k, ct := k, bk := P.nx } τ2) P.nx (xs.drop j) τ', ⟨xs.length, rfl, Nat.zero_le _, U, τ, rfl, k1, Sts.refl k1, gd.le l1 k, hxs⟩, ?_⟩
  rintro j m σ' H' ⟨rfl, hj, Z, τ', rfl, kz, lz, gz, hz⟩
  have walk := hJ Z kz lz.stp j
  have lwz := lu.trans k k1 kz lz
  by_cases hlt : j < xs.length
  · refine .inr ⟨(walk.1 hlt).1, fun σ2 H2 => ∃ Y τ2, Y.H = H2 ∧ Y.Ok ∧ Sts U Y ∧ Gd X.K Y σ2 τ2 ∧ goFor (fun y τ1 k => wTg g y τ1 fun τ2 => wS Φ x { P with nx := k, ct := k, bk := P.nx } τ2) P.nx (xs.drop (j + 1)) τ2, fun σ2 H2 h => ⟨xs.length - (j + 1), by omega, rfl, hlt, h⟩, fun y H2 yl => ?_⟩
    obtain ⟨Zw, rfl, kw, lw, d, hd, rd⟩ := (walk.1 hlt).2 y H2 yl
    have lzw := lz.trans k1 kz kw (lw.sts kz)
    have lwzw := lwz.trans k kz kw (lw.sts kz)
    have hdr : xs.drop j = d :: xs.drop (j + 1) := by
      rw [List.drop_eq_getElem_cons hlt]
      rw [List.getElem?_eq_getElem hlt] at hd
      rw [Option.some.inj hd]
    rw [hdr] at hz
    have hz : wTg g d τ' fun τ2 => wS Φ x { P with nx := goFor (fun y τ1 k => wTg g y τ1 fun τ2 => wS Φ x { P with nx := k, ct := k, bk := P.nx } τ2) P.nx (xs.drop (j + 1)), ct := goFor (fun y τ1 k => wTg g y τ1 fun τ2 => wS Φ x { P with nx := k, ct := k, bk := P.nx } τ2) P.nx (xs.drop (j + 1)), bk := P.nx } τ2 := hz
    refine tg_sem kw (gz.le lw kz) rd hz _ fun ρ τ2 g2 h2 _ => ?_
    exact ⟨Zw, τ2, _, rfl, kw, g2, h2, ⟨fun Y ρ τ2 ky ly gy hy => ⟨Y, τ2, rfl, ky, lzw.trans k1 kw ky ly, gy, hy⟩, fun Y v r ky ly gy hy => hl.rt Y v r ky (lwzw.trans k kw ky ly) gy hy, fun Y ρ τ2 ky ly gy hy => hl.nx Y ρ τ2 ky (lwzw.trans k kw ky ly) gy hy, fun Y ρ τ2 ky ly gy hy => ⟨Y, τ2, rfl, ky, lzw.trans k1 kw ky ly, gy, hy⟩⟩⟩
  · refine .inl ⟨walk.2 (Nat.le_of_not_lt hlt), ?_⟩
    rw [List.drop_eq_nil_of_le (Nat.le_of_not_lt hlt)] at hz
    exact hl.nx Z σ' τ' kz lwz gz hz
end
end Pf

namespace Pf
open PySem PySem.Spec PyProof.Rows L2
section
variable {X : Cx} {cc : CC} {Φ : Nat → PSp} {lv : Nat} {pos : Pos}
/-! ### stores -/
theorem asg_imp {K : Fg} {i : Nat} {x : RE} {D : Ends} {σ : L2.St} {H : Hp} (q : trS K (wS Φ (.asg i x)) D σ H) : tAsg (trE K (wE Φ x)) (gName i) D σ H := by
  obtain ⟨W, τ, P, rfl, k, g, hw, hl⟩ := q
  simp only [wS] at hw
  exact use_e k g hw fun d v U hd k1 l1 rv => hl.nx U _ _ k1 (l1.sts k) ((g.le l1 k).set rv i) hd
theorem tgName_inv {e : Expr} {i : Nat} (h : tgName cc e = some i) : ∃ x p, e = .Name x p ∧ locK cc x = true ∧ ixOf cc.N x = some i := by
  unfold tgName at h
  split at h
  · split at h
    · rename_i hl
      exact ⟨_, _, rfl, hl, h⟩
    · cases h
  · cases h
theorem plain_swaps {e : Expr} {t : Option Expr} {l : Nat} {env : Env} (h : isLC e = false) : swapsWith e t l env = pure false := by
  cases e <;> first | rfl | cases h
theorem s_asg (c : Cok cc Φ lv X) {y : Str} {p : Pos} {i : Nat} {e : Expr} {x : RE} (hl : isLC e = false) (ht : tgName cc (.Name y p) = some i) (h : PE X e (trE X.K (wE Φ x))) : PS X (.Assign [.Name y p] e pos) (trS X.K (wS Φ (.asg i x))) := by
  obtain ⟨y', p', e1, h1, h2⟩ := tgName_inv ht
  cases e1
  obtain ⟨h3, h4⟩ := locK_ok c h1
  exact pS_imp (ps_set c.nd (by rw [c.n]; exact ixOf_get h2) h3 h (plain_swaps hl) h4) fun _ _ _ q => asg_imp q
theorem swaps_lc {elt : Expr} {gs : List Comprehension} {scope : Scope} {pos p : Pos} {y : Str} {l : Nat} {env : Env} : swapsWith (.ListComp elt gs scope pos) (some (.Name y p)) l env =
    pure (env.blockKind == .function && env.kindOf y == some .local && p.line == pos.line && !(scope.names.any fun (n, k) => n == y && (k == .local || k == .cell))) := rfl
theorem s_asgLc (c : Cok cc Φ lv X) {y : Str} {p q : Pos} {i : Nat} {elt tg iter : Expr} {ifs : List Expr} {scope : Scope} {g : Tg} {it : RI} {t : RT} {x : RE} (htg : tgName cc (.Name y p) = some i) (hb : blkC cc.N cc.sc scope (ownOf cc.N scope) = true) (hi' : iterOk iter = true) (hin : tgIn g ((ownOf cc.N scope).map (·.2)) = true)
    (hi : PI X tg iter (trI X.K (wI Φ it))) (hg : cTg (inCC cc scope) tg = some g)
    (ht : ∀ Y : Cx, Cok (inCC cc scope) Φ lv Y → PTs Y ifs (trT Y.K (wT Φ t))) (he : ∀ Y : Cx, Cok (inCC cc scope) Φ lv Y → PE Y elt (trE Y.K (wE Φ x))) :
    PS X (.Assign [.Name y p] (.ListComp elt [⟨tg, iter, ifs, 0⟩] scope q) pos) (trS X.K (wS Φ (.asg i (.lc ((ownOf cc.N scope).map (·.2)) g it t x)))) := by
  obtain ⟨y', p', e1, h1, h2⟩ := tgName_inv htg
  cases e1
  obtain ⟨h3, h4⟩ := locK_ok c h1
  have hy : X.N[i]? = some y := by rw [c.n]; exact ixOf_get h2
  cases hsw : (X.env.blockKind == .function && X.env.kindOf y == some .local && p.line == q.line && !(scope.names.any fun (n, k) => n == y && (k == .local || k == .cell))) with
  | false => exact pS_imp (ps_set c.nd hy h3 (e_lc c hb hi' hin hi hg ht he) (by rw [swaps_lc, hsw]) h4) fun _ _ _ q => asg_imp q
  | true =>
    have hloc : X.env.scope.names.lookup y = some .local := by
      have := hsw
      simp only [Bool.and_eq_true, beq_iff_eq] at this
      exact this.1.1.2
    have ok : BlkOk X.N X.env.scope scope (ownOf cc.N scope) := by rw [c.n, c.sc]; exact blkOk_by hb
    have hs : ∀ y, foldedSetIterable iter X.env y = pure y := by intro y; cases iter <;> first | rfl | cases hi'
    have base := ps_setLc (pos := q) (spos := pos) (py := p) (g := gOf X.K g) (tt := trT X.K (wT Φ t)) (te := trE X.K (wE Φ x)) c.calm c.nd hy hloc (by rw [swaps_lc, hsw]) hi ok (fun s H C cl fp => tg_ok (c.blk s H scope C cl fp) hg) (fun s H C cl fp => ht _ (c.blk s H scope C cl fp)) (fun s H C cl fp => he _ (c.blk s H scope C cl fp)) hs
    refine pS_imp base fun D σ H q => ?_
    have q2 := asg_imp q
    exact lc_imp hin q2
theorem s_own (c : Cok cc Φ lv X) {y : Str} {p q : Pos} {i : Nat} {es : List Expr} {ra : RA} (ht : tgName cc (.Name y p) = some i) (h : PA X es (trA X.K (wA Φ ra))) : PS X (.Assign [.Name y p] (.List es q) pos) (trS X.K (wS Φ (.own i ra))) := by
  obtain ⟨y', p', e1, h1, h2⟩ := tgName_inv ht
  cases e1
  obtain ⟨h3, h4⟩ := locK_ok c h1
  refine pS_imp (ps_set c.nd (by rw [c.n]; exact ixOf_get h2) h3 (pe_lst h) rfl h4) fun D σ H q => ?_
  obtain ⟨W, τ, P, rfl, k, g, hw, hl⟩ := q
  simp only [wS] at hw
  refine ⟨W, τ, _, rfl, k, g, hw, fun rs vs U hr k1 l1 rv => ?_⟩
  obtain ⟨ds, e, hz, hn⟩ := hr
  have hs := rv.datas e
  refine ⟨by rw [hs.length]; exact sz hz, fun a n => ?_⟩
  have gu := g.le l1 k
  obtain ⟨m1, m2⟩ := lay (o := .lst vs) k1 n
  have na : ∀ b, (U.O b ∨ U.A b) → b ≠ a := fun b hb z => by
    subst z
    rcases hb with hb | hb
    · obtain ⟨xs, e⟩ := k1.ot b hb; exact some_ne e n
    · obtain ⟨xs, e⟩ := k1.at_ b hb; exact some_ne e n
  have kz : ({ U with H := upd U.H a (.lst vs), O := fun b => U.O b ∨ b = a } : Wd).Ok := ⟨m2.va, m2.at_, fun b hb => by
    rcases hb with hb | hb
    · exact m2.ot b hb
    · exact ⟨vs, by rw [hb]; exact upd_same⟩, fun b hb z => by
    rcases hb with hb | hb
    · exact m2.oa b hb z
    · exact na b (.inr z) hb⟩
  have lz : Sts U { U with H := upd U.H a (.lst vs), O := fun b => U.O b ∨ b = a } := ⟨⟨fun b o e n1 _ => m1.ext b o e n1, m1.a1, m1.a2, m1.v1, m1.v2, fun b hb => by
    rcases hb with hb | hb
    · exact .inl hb
    · exact .inr (by rw [hb]; exact n)⟩, fun b hb => by obtain ⟨xs, e⟩ := m2.ot b hb; exact ⟨_, e⟩⟩
  have sq : Sq U { U with H := upd U.H a (.lst vs), O := fun b => U.O b ∨ b = a } := ⟨lz.stp, fun b xs hb e => ⟨by show upd U.H a _ b = _; rw [upd_ne (na b (.inl hb))]; exact e, .inl hb⟩⟩
  have gz := gu.sq sq k1
  refine hl.nx { U with H := upd U.H a (.lst vs), O := fun b => U.O b ∨ b = a } _ _ kz ((l1.sts k).trans k k1 kz lz) ⟨by rw [List.length_set, List.length_set]; exact gz.len, fun j x e => ?_, fun j m b xs ys e1 e2 e3 e4 => ?_⟩ hn
  · rcases set_get e with ⟨rfl, hle, e⟩ | ⟨ne, e⟩
    · cases e
      exact ⟨.ref a, by rw [List.getElem?_set_self (by rw [← gz.len]; exact hle)], .own upd_same (.inr rfl) (hs.stp lz.stp k1)⟩
    · obtain ⟨u, h1, h2⟩ := gz.get j x e
      exact ⟨u, by rw [List.getElem?_set_ne ne]; exact h1, h2⟩
  · have old : ∀ {j : Nat} {xs : List PyData}, τ[j]? = some (some (.own xs)) → σ[j]? = some (some (.ref b)) → b ≠ a := fun {j xs} e1 e2 => by
      obtain ⟨u, h1, h2⟩ := gu.get j _ e1
      rw [e2] at h1
      cases h1
      cases h2 with
      | own e o _ => exact na b (.inl o)
    rcases set_get e1 with ⟨rfl, hle, e⟩ | ⟨ne, e⟩
    · rcases set_get e2 with ⟨rfl, hle', e'⟩ | ⟨ne', e'⟩
      · rfl
      · rw [List.getElem?_set_self (by rw [← gz.len]; exact hle)] at e3
        rw [List.getElem?_set_ne ne'] at e4
        cases e3
        exact absurd rfl (old e' e4)
    · rcases set_get e2 with ⟨rfl, hle', e'⟩ | ⟨ne', e'⟩
      · rw [List.getElem?_set_self (by rw [← gz.len]; exact hle')] at e4
        rw [List.getElem?_set_ne ne] at e3
        cases e4
        exact absurd rfl (old e e3)
      · rw [List.getElem?_set_ne ne] at e3
        rw [List.getElem?_set_ne ne'] at e4
        exact gz.uni j m b xs ys e e' e3 e4
theorem RSD.own_inv {K : Fg} {W : Wd} {v : V} {ds : List PyData} (h : RSD K W v (.own ds)) : ∃ a xs, v = .ref a ∧ W.H a = some (.lst xs) ∧ W.O a ∧ Rs K W xs ds := by
  cases h with
  | own e o r => exact ⟨_, _, rfl, e, o, r⟩
theorem s_app (c : Cok cc Φ lv X) {y : Str} {p p1 p2 : Pos} {i : Nat} {e : Expr} {x : RE} (hi : cslot cc y = some i) (hs : isStar e = false) (hln : (p1.endLine == p2.line) = true) (h : PE X e (trE X.K (wE Φ x))) : PS X (.Expr (.Call (.Attribute (.Name y p) ("append" : Str) p1) [e] [] p2) pos) (trS X.K (wS Φ (.app i x))) := by
  obtain ⟨h1, h2, h3⟩ := cslot_ok c hi
  obtain ⟨h4, h5⟩ := okN h3
  have hp : PA X [e] (tCons (trE X.K (wE Φ x)) tNil) := pa_cons h pa_nil (star_cons hs)
  refine pS_imp (ps_expr (pe_bm PySem.F.plainAttrs_list PySem.F.slot_list_append PySem.F.type_list_append mt_append (pe_var h1 h2 h4 h5) hp rfl (by rw [star_cons hs]; rfl) hln (star_cons hs) rfl) rfl) fun D σ H q => ?_
  obtain ⟨W, τ, P, rfl, k, g, hw, hl⟩ := q
  simp only [wS] at hw
  split at hw
  · rename_i ds e0
    obtain ⟨v, hv, hr⟩ := g.get i _ e0
    obtain ⟨a, xs, rfl, e1, o, hs1⟩ := hr.own_inv
    refine ⟨_, hv, .inl ⟨rfl, xs, SqL.of e1⟩, use_e k g hw fun d u U hd k1 l1 rv => ?_⟩
    cases d with
    | d pd =>
      have r : R X.K U u pd := by cases rv; assumption
      obtain ⟨hz, hn⟩ := hd
      have o1 : U.O a := by rw [l1.o]; exact o
      have e2 := l1.ext a _ e1 (k.ov o)
      have hs2 := hs1.stp l1.stp k
      obtain ⟨g1, g2⟩ := grow (ys := xs ++ [u]) k1 o1 e2
      refine ⟨a, xs, u, rfl, rfl, e2, by rw [hs1.length]; exact szl hz, ?_⟩
      have gu := g.le l1 k
      have lz : Sts U { U with H := upd U.H a (.lst (xs ++ [u])) } := ⟨g2, fun b hb => by obtain ⟨ys, e⟩ := g1.ot b hb; exact ⟨_, e⟩⟩
      refine hl.nx { U with H := upd U.H a (.lst (xs ++ [u])) } _ _ g1 ((l1.sts k).trans k k1 g1 lz) ⟨by rw [List.length_set]; exact gu.len, fun j x e => ?_, fun j m b ys zs e1 e2 e3 e4 => ?_⟩ hn
      · rcases set_get e with ⟨ej, hle, e'⟩ | ⟨ne, e⟩
        · subst ej
          cases e'
          exact ⟨.ref a, hv, .own upd_same o1 ((hs2.stp g2 k1).append (.cons (r.stp g2 k1) .nil))⟩
        · obtain ⟨w, w1, w2⟩ := gu.get j x e
          refine ⟨w, w1, ?_⟩
          cases x with
          | val dv =>
            cases w2 with
            | val w2 => exact .val (w2.stp g2 k1)
          | own ds' =>
            obtain ⟨b, ys, rfl, q1, q2, q3⟩ := w2.own_inv
            have nb : b ≠ a := fun z => by
              rw [z] at w1
              exact ne (gu.uni i j a ds ds' e0 e hv w1)
            exact .own (by show upd U.H a _ b = _; rw [upd_ne nb]; exact q1) q2 (q3.stp g2 k1)
      · have back : ∀ {j : Nat} {xs : List PyData}, (τ.set i (some (.own (ds ++ [pd])) : Option SD))[j]? = some (some (.own xs)) → ∃ xs', τ[j]? = some (some (.own xs')) := fun {j xs} e => by
          rcases set_get e with ⟨ej, hle, e⟩ | ⟨ne, e⟩
          · subst ej
            exact ⟨ds, e0⟩
          · exact ⟨xs, e⟩
        obtain ⟨y1, q1⟩ := back e1
        obtain ⟨y2, q2⟩ := back e2
        exact gu.uni j m b y1 y2 q1 q2 e3 e4
    | scr _ => exact hd.elim
    | vat => exact hd.elim
  · exact hw.elim
/-! ### tuples taken apart -/
theorem asgT_imp {K : Fg} {tg : Tg} {x : RE} {D : Ends} {σ : L2.St} {H : Hp} (q : trS K (wS Φ (.asgT tg x)) D σ H) : tAsg (trE K (wE Φ x)) (gOf K tg) D σ H := by
  obtain ⟨W, τ, P, rfl, k, g, hw, hl⟩ := q
  simp only [wS] at hw
  exact use_e k g hw fun d v U hd k1 l1 rv => tg_sem k1 (g.le l1 k) rv hd _ fun ρ τ' g' h' _ => hl.nx U ρ τ' k1 (l1.sts k) g' h'
theorem s_asgT (c : Cok cc Φ lv X) {ts : List Expr} {k : Nat} {p : Pos} {e : Expr} {tg : Tg} {x : RE} (hg : cTg cc (.Tuple ts k p) = some tg) (hw : swappedStores [.Tuple ts k p] e X.env = pure none) (h : PE X e (trE X.K (wE Φ x))) : PS X (.Assign [.Tuple ts k p] e pos) (trS X.K (wS Φ (.asgT tg x))) := by
  have hs : swapsWithSole [.Tuple ts k p] e pos.line X.env = pure false := by
    cases e <;> rfl
  exact pS_imp (ps_asg h (tg_ok c hg) hs hw rfl) fun _ _ _ q => asgT_imp q
theorem swp_none {ts : List Expr} {k : Nat} {p : Pos} {e : Expr} {env : Env} (h : ∀ vs k2 p2, e ≠ .Tuple vs k2 p2) : swappedStores [.Tuple ts k p] e env = pure none := by
  cases e <;> first | rfl | exact absurd rfl (h _ _ _)
end
end Pf

namespace Pf
open PySem PySem.Spec PyProof.Rows L2
def nm (env : Env) (line : Nat) : Expr → Option Str
  | .Name id pos => if env.kindOf id == some .local && pos.line == line then some id else none
  | _ => none
theorem isLoc_eq {k : Option NameKind} : isLoc k = (k == some .local) := by
  cases k with
  | none => rfl
  | some k => cases k <;> rfl
theorem nm_name {env : Env} {l : Nat} {x : Str} {q : Pos} : nm env l (.Name x q) = if (env.kindOf x == some .local && q.line == l) = true then some x else none := rfl
def star1 : Expr → Bool
  | .Starred .. => true
  | _ => false
theorem sw_form (ts vs : List Expr) (k k2 : Nat) (p p2 : Pos) (env : Env) : swappedStores [.Tuple ts k p] (.Tuple vs k2 p2) env =
   (if (!(ts.length == 2 || ts.length == 3) || vs.length != ts.length || env.blockKind != .function) = true then pure none
    else if (vs.any star1) = true then pure none
    else if ((ts.filterMap (nm env ((ts.head?.map (·.pos.line)).getD 0))).length != ts.length || (ts.filterMap (nm env ((ts.head?.map (·.pos.line)).getD 0))).eraseDups.length != (ts.filterMap (nm env ((ts.head?.map (·.pos.line)).getD 0))).length) = true then pure none
    else if vs.all (foldedForSure 8) = true then pure none
    else if vs.all (constantsAlone 8) = true then (do let y ← unsupported "assign.tuple-of-constant-expressions:order-of-the-stores"; (fun (_ : PUnit) => pure (some (ts.filterMap (nm env ((ts.head?.map (·.pos.line)).getD 0))))) y)
    else pure (some (ts.filterMap (nm env ((ts.head?.map (·.pos.line)).getD 0))))) := by
  rfl
theorem fm_all {α β : Type} (f : α → Option β) : ∀ l : List α, (l.filterMap f).length = l.length → l.all (fun x => (f x).isSome) = true
  | [], _ => rfl
  | a :: r, h => by
    have hr := List.length_filterMap_le f r
    rw [List.filterMap_cons] at h
    rw [List.all_cons]
    cases e : f a with
    | none =>
      rw [e] at h
      have h : (r.filterMap f).length = r.length + 1 := h
      omega
    | some b =>
      rw [e] at h
      have h : (r.filterMap f).length + 1 = r.length + 1 := h
      rw [fm_all f r (by omega)]
      rfl
section
variable {X : Cx} {cc : CC} {Φ : Nat → PSp} {lv : Nat} {pos : Pos}
theorem swp0 (c : Cok cc Φ lv X) {ts vs : List Expr} {k k2 : Nat} {p p2 : Pos} (h : swp cc ts vs = 0) : swappedStores [.Tuple ts k p] (.Tuple vs k2 p2) X.env = pure none := by
  rw [sw_form]
  split
  · rfl
  · rename_i n1
    split
    · rfl
    · split
      · rfl
      · rename_i n2
        split
        · rfl
        · rename_i n3
          exfalso
          unfold swp at h
          simp only [Bool.or_eq_true, not_or, Bool.not_eq_true] at n1
          rw [if_neg (by simp only [Bool.or_eq_true, not_or, Bool.not_eq_true]; exact ⟨n1.1.1, n1.1.2⟩)] at h
          simp only [Bool.or_eq_true, not_or, Bool.not_eq_true, bne_eq_false_iff_eq] at n2
          have ha := fm_all _ ts n2.1
          split at h
          · split at h <;> cases h
          · rename_i hh
            apply hh
            rw [List.all_eq_true] at ha ⊢
            intro t ht
            have := ha t ht
            cases t <;> first | (cases this; done) | skip
            rename_i x q
            have hk : X.env.kindOf x = cc.sc.names.lookup x := by show X.env.scope.names.lookup x = _; rw [c.sc]
            rw [nm_name, hk, ← isLoc_eq] at this
            show (isLoc (cc.sc.names.lookup x) && _) = true
            split at this
            · assumption
            · cases this
theorem swp1_base (c : Cok cc Φ lv X) {ts vs : List Expr} (h : swp cc ts vs = 1) : (ts.length = 2 ∨ ts.length = 3) ∧ vs.length = ts.length ∧ (∀ t ∈ ts, ∃ x q, t = .Name x q ∧ X.env.scope.names.lookup x = some .local ∧ nm X.env ((ts.head?.map (·.pos.line)).getD 0) t = some x) ∧ vs.all (foldedForSure 8) = false ∧ vs.all (constantsAlone 8) = false := by
  unfold swp at h
  split at h
  · cases h
  · rename_i n1
    simp only [Bool.or_eq_true, not_or, Bool.not_eq_true, Bool.not_eq_false', bne_eq_false_iff_eq] at n1
    split at h
    · rename_i ha
      split at h
      · cases h
      · rename_i h3
        split at h
        · cases h
        · rename_i h4
          refine ⟨?_, n1.2, fun t ht => ?_, by simpa using h3, by simpa using h4⟩
          · have := n1.1
            simp only [Bool.or_eq_true, beq_iff_eq] at this
            exact this
          · have := List.all_eq_true.mp ha t ht
            cases t <;> first | (cases this; done) | skip
            rename_i x q
            have hk : X.env.scope.names.lookup x = cc.sc.names.lookup x := by rw [c.sc]
            have this : (isLoc (cc.sc.names.lookup x) && q.line == (ts.head?.map (·.pos.line)).getD 0) = true := this
            refine ⟨x, q, rfl, ?_, ?_⟩
            · rw [hk]
              rw [isLoc_eq, Bool.and_eq_true, beq_iff_eq] at this
              exact this.1
            · have hk2 : X.env.kindOf x = cc.sc.names.lookup x := hk
              rw [nm_name, hk2, ← isLoc_eq]
              exact if_pos this
    · cases h
theorem fn_block (c : Cok cc Φ lv X) (I : X.Ok) : X.env.blockKind = .function := by
  unfold Env.blockKind
  rw [I.kind]
  rfl
theorem setVals2 {K : Fg} {U : Wd} {σ : L2.St} {τ : SDs} (g : Gd K U σ τ) {i j : Nat} {v u : V} {a b : DV} (h1 : RD K U v a) (h2 : RD K U u b) : Gd K U ((σ.set i (some v)).set j (some u)) (setVals τ [i, j] [a, b]) := (g.set h1 i).set h2 j
theorem no_star (h : noStar vs = true) : vs.any star1 = false := by
  rw [List.any_eq_false]
  intro e he
  have := List.all_eq_true.mp h e he
  cases e <;> first | (intro z; cases z; done) | (simp [isStar] at this)
theorem s_par2 (c : Cok cc Φ lv X) {x y : Str} {p1 p2 p3 p4 : Pos} {k k2 : Nat} {a b : Expr} {i j : Nat} {ra : RA} (h : swp cc [.Name x p1, .Name y p2] [a, b] = 1) (hi : tgName cc (.Name x p1) = some i) (hj : tgName cc (.Name y p2) = some j) (hne : i ≠ j) (hs : noStar [a, b] = true) (ha : PA X [a, b] (trA X.K (wA Φ ra))) :
    PS X (.Assign [.Tuple [.Name x p1, .Name y p2] k p3] (.Tuple [a, b] k2 p4) pos) (trS X.K (wS Φ (.par [i, j] ra))) := by
  obtain ⟨_, _, hn, h3, h4⟩ := swp1_base c h
  obtain ⟨x', q', e1, l1, n1⟩ := hn _ (List.mem_cons_self)
  cases e1
  obtain ⟨y', q', e1, l2, n2⟩ := hn _ (List.mem_cons_of_mem _ (List.mem_cons_self))
  cases e1
  obtain ⟨_, _, e1, _, ix⟩ := tgName_inv hi
  cases e1
  obtain ⟨_, _, e1, _, iy⟩ := tgName_inv hj
  cases e1
  have hxy : x ≠ y := fun z => by
    rw [z] at ix
    rw [ix] at iy
    exact hne (Option.some.inj iy)
  refine ⟨fun pins s σ H D I q => ?_⟩
  have hw : swappedStores [.Tuple [.Name x p1, .Name y p2] k p3] (.Tuple [a, b] k2 p4) X.env = pure (some [x, y]) := by
    rw [sw_form, if_neg (by rw [fn_block c I.ok]; simp), if_neg (by rw [no_star hs]; simp)]
    have hf : ([.Name x p1, .Name y p2] : List Expr).filterMap (nm X.env ((([.Name x p1, .Name y p2] : List Expr).head?.map (·.pos.line)).getD 0)) = [x, y] := by
      rw [List.filterMap_cons, n1, List.filterMap_cons, n2]
      rfl
    rw [hf, if_neg (by simp [List.eraseDups, List.eraseDupsBy, List.eraseDupsBy.loop, (beq_eq_false_iff_ne.mpr (Ne.symm hxy) : (y == x) = false)]), if_neg (by rw [h3]; simp), if_neg (by rw [h4]; simp)]
  refine (ps_par c.calm c.nd (by rw [c.n]; exact ixOf_get ix) (by rw [c.n]; exact ixOf_get iy) hne l1 l2 ha hw).run pins s σ H D I ?_
  obtain ⟨W, τ, P, rfl, kk, g, hw, hl⟩ := q
  simp only [wS] at hw
  refine ⟨W, τ, _, rfl, kk, g, hw, fun rs vs U hr k1 l1 rv => ?_⟩
  obtain ⟨hz, hn⟩ := hr
  match rs, hz, hn, rv with
  | [d1, d2], _, hn, rv =>
    obtain ⟨v, u, rfl, r1, r2⟩ := rds2 rv
    exact ⟨v, u, rfl, hl.nx U _ _ k1 (l1.sts kk) (setVals2 (g.le l1 kk) r1 r2) hn⟩
theorem s_par3 (c : Cok cc Φ lv X) {x y z : Str} {p1 p2 p5 p3 p4 : Pos} {k k2 : Nat} {a b e : Expr} {i j m : Nat} {ra : RA} (h : swp cc [.Name x p1, .Name y p2, .Name z p5] [a, b, e] = 1) (hi : tgName cc (.Name x p1) = some i) (hj : tgName cc (.Name y p2) = some j) (hm : tgName cc (.Name z p5) = some m)
    (hne : i ≠ j) (hne2 : i ≠ m) (hne3 : j ≠ m) (hs : noStar [a, b, e] = true) (ha : PA X [a, b, e] (trA X.K (wA Φ ra))) :
    PS X (.Assign [.Tuple [.Name x p1, .Name y p2, .Name z p5] k p3] (.Tuple [a, b, e] k2 p4) pos) (trS X.K (wS Φ (.par [i, j, m] ra))) := by
  obtain ⟨_, _, hn, h3, h4⟩ := swp1_base c h
  obtain ⟨x', q', e1, l1, n1⟩ := hn _ (List.mem_cons_self)
  cases e1
  obtain ⟨y', q', e1, l2, n2⟩ := hn _ (List.mem_cons_of_mem _ (List.mem_cons_self))
  cases e1
  obtain ⟨z', q', e1, l3, n3⟩ := hn _ (List.mem_cons_of_mem _ (List.mem_cons_of_mem _ (List.mem_cons_self)))
  cases e1
  obtain ⟨_, _, e1, _, ix⟩ := tgName_inv hi
  cases e1
  obtain ⟨_, _, e1, _, iy⟩ := tgName_inv hj
  cases e1
  obtain ⟨_, _, e1, _, iz⟩ := tgName_inv hm
  cases e1
  have hxy : x ≠ y := fun q => by
    rw [q] at ix
    rw [ix] at iy
    exact hne (Option.some.inj iy)
  have hxz : x ≠ z := fun q => by
    rw [q] at ix
    rw [ix] at iz
    exact hne2 (Option.some.inj iz)
  have hyz : y ≠ z := fun q => by
    rw [q] at iy
    rw [iy] at iz
    exact hne3 (Option.some.inj iz)
  refine ⟨fun pins s σ H D I q => ?_⟩
  have hw : swappedStores [.Tuple [.Name x p1, .Name y p2, .Name z p5] k p3] (.Tuple [a, b, e] k2 p4) X.env = pure (some [x, y, z]) := by
    rw [sw_form, if_neg (by rw [fn_block c I.ok]; simp), if_neg (by rw [no_star hs]; simp)]
    have hf : ([.Name x p1, .Name y p2, .Name z p5] : List Expr).filterMap (nm X.env ((([.Name x p1, .Name y p2, .Name z p5] : List Expr).head?.map (·.pos.line)).getD 0)) = [x, y, z] := by
      rw [List.filterMap_cons, n1, List.filterMap_cons, n2, List.filterMap_cons, n3]
      rfl
    rw [hf, if_neg (by simp [List.eraseDups, List.eraseDupsBy, List.eraseDupsBy.loop, (beq_eq_false_iff_ne.mpr (Ne.symm hxy) : (y == x) = false), (beq_eq_false_iff_ne.mpr (Ne.symm hxz) : (z == x) = false), (beq_eq_false_iff_ne.mpr (Ne.symm hyz) : (z == y) = false)]), if_neg (by rw [h3]; simp), if_neg (by rw [h4]; simp)]
  refine (L2.ps_par3 c.calm c.nd (by rw [c.n]; exact ixOf_get ix) (by rw [c.n]; exact ixOf_get iy) (by rw [c.n]; exact ixOf_get iz) hne hne2 hne3 l1 l2 l3 ha hw).run pins s σ H D I ?_
  obtain ⟨W, τ, P, rfl, kk, g, hw, hl⟩ := q
  simp only [wS] at hw
  refine ⟨W, τ, _, rfl, kk, g, hw, fun rs vs U hr k1 l1 rv => ?_⟩
  obtain ⟨hz, hn⟩ := hr
  match rs, hz, hn, rv with
  | [d1, d2, d3], _, hn, rv =>
    obtain ⟨v, u, t, rfl, r1, r2, r3⟩ := rds3 rv
    exact ⟨v, u, t, rfl, hl.nx U _ _ k1 (l1.sts kk) (((g.le l1 kk).set r1 i |>.set r2 j).set r3 m) hn⟩
/-! lists to grow, made in a tuple -/
theorem RSD.sq {K : Fg} {W U : Wd} (l : Sq W U) (k : W.Ok) {v : V} {d : SD} (h : RSD K W v d) : RSD K U v d := by
  cases h with
  | val h => exact .val (h.stp l.stp k)
  | own e o h =>
    obtain ⟨e2, o2⟩ := l.own _ _ o e
    exact .own e2 o2 (h.stp l.stp k)
inductive RSDs (K : Fg) (W : Wd) : List V → List SD → Prop
  | nil : RSDs K W [] []
  | cons {v : V} {vs : List V} {x : SD} {xs : List SD} : RSD K W v x → RSDs K W vs xs → RSDs K W (v :: vs) (x :: xs)
/-- the addresses of the lists to grow -/
def ownsA : List V → List SD → List Addr
  | .ref a :: vs, .own _ :: xs => a :: ownsA vs xs
  | _ :: vs, _ :: xs => ownsA vs xs
  | _, _ => []
theorem RSDs.sq {K : Fg} {W U : Wd} (l : Sq W U) (k : W.Ok) : ∀ {vs : List V} {xs : List SD}, RSDs K W vs xs → RSDs K U vs xs
  | _, _, .nil => .nil
  | _, _, .cons h t => .cons (h.sq l k) (RSDs.sq l k t)
theorem RSDs.length {K : Fg} {W : Wd} : ∀ {vs : List V} {xs : List SD}, RSDs K W vs xs → vs.length = xs.length
  | _, _, .nil => rfl
  | _, _, .cons _ t => congrArg Nat.succ t.length
def trX (K : Fg) (w : SDs → (List SD → Prop) → Prop) : TA := fun σ H Q => ∃ W τ R, W.H = H ∧ W.Ok ∧ Gd K W σ τ ∧ w τ R ∧ ∀ xs vs U, R xs → U.Ok → Sq W U → RSDs K U vs xs → (∀ a ∈ ownsA vs xs, W.H a = none) → (ownsA vs xs).Nodup → Q vs U.H
theorem own_step {K : Fg} {U : Wd} {vs : List V} {ds : List PyData} (k1 : U.Ok) {a : Addr} (n : U.H a = none) (hs : Rs K U vs ds) : ({ U with H := upd U.H a (.lst vs), O := fun b => U.O b ∨ b = a } : Wd).Ok ∧ Sq U { U with H := upd U.H a (.lst vs), O := fun b => U.O b ∨ b = a } ∧ RSD K { U with H := upd U.H a (.lst vs), O := fun b => U.O b ∨ b = a } (.ref a) (SD.own ds) := by
  obtain ⟨m1, m2⟩ := lay (o := .lst vs) k1 n
  have na : ∀ b, (U.O b ∨ U.A b) → b ≠ a := fun b hb z => by
    subst z
    rcases hb with hb | hb
    · obtain ⟨xs, e⟩ := k1.ot b hb; exact some_ne e n
    · obtain ⟨xs, e⟩ := k1.at_ b hb; exact some_ne e n
  have kz : ({ U with H := upd U.H a (.lst vs), O := fun b => U.O b ∨ b = a } : Wd).Ok := ⟨m2.va, m2.at_, fun b hb => by
    rcases hb with hb | hb
    · exact m2.ot b hb
    · exact ⟨vs, by rw [hb]; exact upd_same⟩, fun b hb z => by
    rcases hb with hb | hb
    · exact m2.oa b hb z
    · exact na b (.inr z) hb⟩
  have stp : Stp U { U with H := upd U.H a (.lst vs), O := fun b => U.O b ∨ b = a } := ⟨fun b o e n1 _ => m1.ext b o e n1, m1.a1, m1.a2, m1.v1, m1.v2, fun b hb => by
    rcases hb with hb | hb
    · exact .inl hb
    · exact .inr (by rw [hb]; exact n)⟩
  exact ⟨kz, ⟨stp, fun b xs hb e => ⟨by show upd U.H a _ b = _; rw [upd_ne (na b (.inl hb))]; exact e, .inl hb⟩⟩, .own upd_same (.inr rfl) (hs.stp stp k1)⟩
theorem x_nil : PA X [] (trX X.K (wXs Φ [])) := pA_imp pa_nil fun σ H Q q => by
  obtain ⟨W, τ, R, rfl, k, g, hw, hq⟩ := q
  simp only [wXs] at hw
  exact hq _ _ W hw k ⟨Stp.refl W, fun a xs h e => ⟨e, h⟩⟩ .nil (by simp [ownsA]) (by simp [ownsA])
theorem x_e {e : Expr} {es : List Expr} {x : RE} {r : List RX} (hs : isStar e = false) (he : PE X e (trE X.K (wE Φ x))) (hr : PA X es (trX X.K (wXs Φ r))) : PA X (e :: es) (trX X.K (wXs Φ (.e x :: r))) :=
  pA_imp (pa_cons he hr (star_cons hs)) fun σ H Q q => by
    obtain ⟨W, τ, R, rfl, k, g, hw, hq⟩ := q
    simp only [wXs] at hw
    refine ⟨W, τ, _, rfl, k, g, hw, fun d v U hd k1 l1 rv => ?_⟩
    refine ⟨U, τ, _, rfl, k1, g.le l1 k, hd, fun ys vs Z hy k2 l2 rs fr nd => ?_⟩
    have eo : ownsA (v :: vs) (.val d :: ys) = ownsA vs ys := by cases v <;> rfl
    refine hq _ _ Z hy k2 ((l1.sq k).trans k k1 l2) (.cons (.val (rv.stp l2.stp k1)) rs) (fun a ha => ?_) (by rw [eo]; exact nd)
    rw [eo] at ha
    have := fr a ha
    cases e1 : W.H a with
    | none => rfl
    | some o =>
      obtain ⟨u, hu⟩ := l1.there k k1 e1
      exact (some_ne hu this).elim
theorem x_l {q : Pos} {zs es : List Expr} {x : RA} {r : List RX} (hz : PA X zs (trA X.K (wA Φ x))) (hr : PA X es (trX X.K (wXs Φ r))) : PA X (.List zs q :: es) (trX X.K (wXs Φ (.l x :: r))) :=
  pA_imp (pa_cons (pe_lst hz) hr (star_cons rfl)) fun σ H Q q => by
    obtain ⟨W, τ, R, rfl, k, g, hw, hq⟩ := q
    simp only [wXs] at hw
    refine ⟨W, τ, _, rfl, k, g, hw, fun rs vs U hd k1 l1 rv => ?_⟩
    obtain ⟨ds, e, hl, hd⟩ := hd
    have hs := rv.datas e
    refine ⟨by rw [hs.length]; exact sz hl, fun p n => ?_⟩
    obtain ⟨kz, sq, ro⟩ := own_step k1 n hs
    refine ⟨{ U with H := upd U.H p (.lst vs), O := fun b => U.O b ∨ b = p }, τ, _, rfl, kz, (g.le l1 k).sq sq k1, hd, fun ys us Z hy k2 l2 rs fr nd => ?_⟩
    have back : ∀ a, U.H a = none → W.H a = none := fun a z => by
      cases e1 : W.H a with
      | none => rfl
      | some o =>
        obtain ⟨u, hu⟩ := l1.there k k1 e1
        exact (some_ne hu z).elim
    have off : ∀ a ∈ ownsA us ys, a ≠ p ∧ U.H a = none := fun a ha => by
      have := fr a ha
      have ne : a ≠ p := fun z => by
        rw [z] at this
        have e2 : upd U.H p (.lst vs) p = some (.lst vs) := upd_same
        exact some_ne e2 this
      refine ⟨ne, ?_⟩
      have e2 : upd U.H p (.lst vs) a = U.H a := upd_ne ne
      rw [← e2]
      exact this
    refine hq _ _ Z hy k2 (((l1.sq k).trans k k1 sq).trans k kz l2) (.cons (ro.sq l2 kz) rs) (fun a ha => ?_) ?_
    · rcases List.mem_cons.mp (show a ∈ p :: ownsA us ys from ha) with z | z
      · rw [z]
        exact back p n
      · exact back a (off a z).2
    · exact List.nodup_cons.mpr ⟨fun z => (off p z).1 rfl, nd⟩
theorem Gd.setS {K : Fg} {W : Wd} {σ : L2.St} {τ : SDs} (g : Gd K W σ τ) {v : V} {x : SD} (h : RSD K W v x) (i : Nat) (hu : ∀ zs, x = .own zs → ∀ j a ys, v = .ref a → τ[j]? = some (some (.own ys)) → σ[j]? = some (some (.ref a)) → j = i) : Gd K W (σ.set i (some v)) (τ.set i (some x)) := by
  refine ⟨by rw [List.length_set, List.length_set]; exact g.len, fun j y e => ?_, fun j m a xs ys e1 e2 e3 e4 => ?_⟩
  · rcases set_get e with ⟨rfl, hl, e⟩ | ⟨ne, e⟩
    · cases e
      exact ⟨v, by rw [List.getElem?_set_self (by rw [← g.len]; exact hl)], h⟩
    · obtain ⟨u, h1, h2⟩ := g.get j y e
      exact ⟨u, by rw [List.getElem?_set_ne ne]; exact h1, h2⟩
  · rcases set_get e1 with ⟨rfl, hl, e⟩ | ⟨ne, e⟩
    · rcases set_get e2 with ⟨rfl, hl', e'⟩ | ⟨ne', e'⟩
      · rfl
      · cases e
        rw [List.getElem?_set_self (by rw [← g.len]; exact hl)] at e3
        rw [List.getElem?_set_ne ne'] at e4
        cases e3
        exact (hu _ rfl m a ys rfl e' e4).symm
    · rcases set_get e2 with ⟨rfl, hl', e'⟩ | ⟨ne', e'⟩
      · cases e'
        rw [List.getElem?_set_self (by rw [← g.len]; exact hl')] at e4
        rw [List.getElem?_set_ne ne] at e3
        cases e4
        exact hu _ rfl j a xs rfl e e3
      · rw [List.getElem?_set_ne ne] at e3
        rw [List.getElem?_set_ne ne'] at e4
        exact g.uni j m a xs ys e e' e3 e4
theorem Gd.sets {K : Fg} {U : Wd} : ∀ {is : List Nat} {vs : List V} {xs : List SD} {σ : L2.St} {τ : SDs}, Gd K U σ τ → RSDs K U vs xs → xs.length = is.length → (ownsA vs xs).Nodup →
    (∀ a ∈ ownsA vs xs, ∀ (j : Nat) (ys : List PyData), τ[j]? = some (some (.own ys)) → σ[j]? ≠ some (some (.ref a))) → Gd K U (is.zip vs |>.foldl (fun ρ p => ρ.set p.1 (some p.2)) σ) (setSD τ is xs)
  | [], [], [], σ, τ, g, _, _, _, _ => g
  | [], _, _ :: _, _, _, _, _, e, _, _ => by cases e
  | _ :: _, _, [], _, _, _, _, e, _, _ => by cases e
  | i :: is, [], _ :: _, _, _, _, h, _, _, _ => by cases h
  | i :: is, v :: vs, x :: xs, σ, τ, g, .cons h t, e, nd, fr => by
    have g1 : Gd K U (σ.set i (some v)) (τ.set i (some x)) := g.setS h i fun zs ez j a ys ev e1 e2 => by
      subst ez ev
      exact absurd e2 (fr a List.mem_cons_self j ys e1)
    refine Gd.sets (is := is) (vs := vs) (xs := xs) (σ := σ.set i (some v)) (τ := τ.set i (some x)) g1 t (Nat.succ.inj e) ?_ fun a ha j ys e1 e2 => ?_
    · cases x with
      | val d => cases v <;> exact nd
      | own ds =>
        cases v with
        | ref a => exact (List.nodup_cons.mp nd).2
        | _ => exact nd
    · have hin : a ∈ ownsA (v :: vs) (x :: xs) := by
        cases x with
        | val d => cases v <;> exact ha
        | own ds =>
          cases v with
          | ref b => exact List.mem_cons_of_mem _ ha
          | _ => exact ha
      rcases set_get e1 with ⟨rfl, hl, e1⟩ | ⟨ne, e1⟩
      · cases e1
        rw [List.getElem?_set_self (by rw [← g.len]; exact hl)] at e2
        cases e2
        exact (List.nodup_cons.mp nd).1 ha
      · rw [List.getElem?_set_ne ne] at e2
        exact fr a hin j ys e1 e2
theorem s_parX (c : Cok cc Φ lv X) {ts vs : List Expr} {k k2 : Nat} {p3 p4 : Pos} {is : List Nat} {xs : List RX} (h : swp cc ts vs = 1) (hi : tgNames cc ts = some is) (hnd : is.Nodup) (hs : noStar vs = true) (ha : PA X vs (trX X.K (wXs Φ xs))) :
    PS X (.Assign [.Tuple ts k p3] (.Tuple vs k2 p4) pos) (trS X.K (wS Φ (.parX is xs))) := by
  obtain ⟨hl, hl2, hn, h3, h4⟩ := swp1_base c h
  have fin : ∀ {W : Wd} {τ : SDs} {P : PD} {D : Ends} {σ : L2.St} (kk : W.Ok) (g : Gd X.K W σ τ) (hl : Lk X.K W D P) {ys : List SD} {us : List V} {U : Wd}, ys.length = is.length → P.nx (setSD τ is ys) → U.Ok → Sq W U → RSDs X.K U us ys → (∀ a ∈ ownsA us ys, W.H a = none) → (ownsA us ys).Nodup → D.nx (is.zip us |>.foldl (fun ρ p => ρ.set p.1 (some p.2)) σ) U.H := by
    intro W τ P D σ kk g hl ys us U hz hp k1 sq rs fr nd
    refine hl.nx U _ _ k1 ⟨sq.stp, sq.there kk⟩ (Gd.sets (g.sq sq kk) rs hz nd fun a ha j zs e1 e2 => ?_) hp
    obtain ⟨w, w1, w2⟩ := g.get j _ e1
    rw [e2] at w1
    cases w1
    obtain ⟨b, xs', eb, q1, q2, q3⟩ := w2.own_inv
    cases eb
    exact some_ne q1 (fr a ha)
  rcases hl with hl | hl
  · match ts, vs, hl, hl2 with
    | [t1, t2], [a, b], _, _ =>
      obtain ⟨x, p1, rfl, l1, n1⟩ := hn _ List.mem_cons_self
      obtain ⟨y, p2, rfl, l2, n2⟩ := hn _ (List.mem_cons_of_mem _ List.mem_cons_self)
      simp only [tgNames] at hi
      cases e1 : tgName cc (.Name x p1) with
      | none => rw [e1] at hi; simp at hi
      | some i =>
        cases e2 : tgName cc (.Name y p2) with
        | none => rw [e1, e2] at hi; simp at hi
        | some j =>
          rw [e1, e2] at hi
          cases hi
          have hne : i ≠ j := by simpa using hnd
          obtain ⟨_, _, e3, _, ix⟩ := tgName_inv e1
          cases e3
          obtain ⟨_, _, e3, _, iy⟩ := tgName_inv e2
          cases e3
          have hxy : x ≠ y := fun z => by
            rw [z] at ix
            rw [ix] at iy
            exact hne (Option.some.inj iy)
          refine ⟨fun pins s σ H D I q => ?_⟩
          have hw : swappedStores [.Tuple [.Name x p1, .Name y p2] k p3] (.Tuple [a, b] k2 p4) X.env = pure (some [x, y]) := by
            rw [sw_form, if_neg (by rw [fn_block c I.ok]; simp), if_neg (by rw [no_star hs]; simp)]
            have hf : ([.Name x p1, .Name y p2] : List Expr).filterMap (nm X.env ((([.Name x p1, .Name y p2] : List Expr).head?.map (·.pos.line)).getD 0)) = [x, y] := by
              rw [List.filterMap_cons, n1, List.filterMap_cons, n2]
              rfl
            rw [hf, if_neg (by simp [List.eraseDups, List.eraseDupsBy, List.eraseDupsBy.loop, (beq_eq_false_iff_ne.mpr (Ne.symm hxy) : (y == x) = false)]), if_neg (by rw [h3]; simp), if_neg (by rw [h4]; simp)]
          refine (ps_par c.calm c.nd (by rw [c.n]; exact ixOf_get ix) (by rw [c.n]; exact ixOf_get iy) hne l1 l2 ha hw).run pins s σ H D I ?_
          obtain ⟨W, τ, P, rfl, kk, g, hw, hl⟩ := q
          simp only [wS] at hw
          refine ⟨W, τ, _, rfl, kk, g, hw, fun ys us U hy k1 sq rs fr nd => ?_⟩
          obtain ⟨hz, hp⟩ := hy
          have hlen := rs.length
          rw [hz] at hlen
          match us, hlen with
          | [v, u], _ => exact ⟨v, u, rfl, fin kk g hl hz hp k1 sq rs fr nd⟩
  · match ts, vs, hl, hl2 with
    | [t1, t2, t3], [a, b, d], _, _ =>
      obtain ⟨x, p1, rfl, l1, n1⟩ := hn _ List.mem_cons_self
      obtain ⟨y, p2, rfl, l2, n2⟩ := hn _ (List.mem_cons_of_mem _ List.mem_cons_self)
      obtain ⟨z, p5, rfl, l3, n3⟩ := hn _ (List.mem_cons_of_mem _ (List.mem_cons_of_mem _ List.mem_cons_self))
      simp only [tgNames] at hi
      cases e1 : tgName cc (.Name x p1) with
      | none => rw [e1] at hi; simp at hi
      | some i =>
        cases e2 : tgName cc (.Name y p2) with
        | none => rw [e1, e2] at hi; simp at hi
        | some j =>
          cases e4 : tgName cc (.Name z p5) with
          | none => rw [e1, e2, e4] at hi; simp at hi
          | some m =>
            rw [e1, e2, e4] at hi
            cases hi
            simp at hnd
            obtain ⟨⟨hne, hne2⟩, hne3⟩ := hnd
            obtain ⟨_, _, e3, _, ix⟩ := tgName_inv e1
            cases e3
            obtain ⟨_, _, e3, _, iy⟩ := tgName_inv e2
            cases e3
            obtain ⟨_, _, e3, _, iz⟩ := tgName_inv e4
            cases e3
            have hxy : x ≠ y := fun q => by
              rw [q] at ix
              rw [ix] at iy
              exact hne (Option.some.inj iy)
            have hxz : x ≠ z := fun q => by
              rw [q] at ix
              rw [ix] at iz
              exact hne2 (Option.some.inj iz)
            have hyz : y ≠ z := fun q => by
              rw [q] at iy
              rw [iy] at iz
              exact hne3 (Option.some.inj iz)
            refine ⟨fun pins s σ H D I q => ?_⟩
            have hw : swappedStores [.Tuple [.Name x p1, .Name y p2, .Name z p5] k p3] (.Tuple [a, b, d] k2 p4) X.env = pure (some [x, y, z]) := by
              rw [sw_form, if_neg (by rw [fn_block c I.ok]; simp), if_neg (by rw [no_star hs]; simp)]
              have hf : ([.Name x p1, .Name y p2, .Name z p5] : List Expr).filterMap (nm X.env ((([.Name x p1, .Name y p2, .Name z p5] : List Expr).head?.map (·.pos.line)).getD 0)) = [x, y, z] := by
                rw [List.filterMap_cons, n1, List.filterMap_cons, n2, List.filterMap_cons, n3]
                rfl
              rw [hf, if_neg (by simp [List.eraseDups, List.eraseDupsBy, List.eraseDupsBy.loop, (beq_eq_false_iff_ne.mpr (Ne.symm hxy) : (y == x) = false), (beq_eq_false_iff_ne.mpr (Ne.symm hxz) : (z == x) = false), (beq_eq_false_iff_ne.mpr (Ne.symm hyz) : (z == y) = false)]), if_neg (by rw [h3]; simp), if_neg (by rw [h4]; simp)]
            refine (L2.ps_par3 c.calm c.nd (by rw [c.n]; exact ixOf_get ix) (by rw [c.n]; exact ixOf_get iy) (by rw [c.n]; exact ixOf_get iz) hne hne2 hne3 l1 l2 l3 ha hw).run pins s σ H D I ?_
            obtain ⟨W, τ, P, rfl, kk, g, hw, hl⟩ := q
            simp only [wS] at hw
            refine ⟨W, τ, _, rfl, kk, g, hw, fun ys us U hy k1 sq rs fr nd => ?_⟩
            obtain ⟨hz, hp⟩ := hy
            have hlen := rs.length
            rw [hz] at hlen
            match us, hlen with
            | [v, u, t], _ => exact ⟨v, u, t, rfl, fin kk g hl hz hp k1 sq rs fr nd⟩
theorem cXs_ok (c : Cok cc Φ lv X) {n : Nat} : ∀ {is : List Nat} {vs : List Expr} {xs : List RX}, cXs n cc is vs = some xs → noStar vs = true ∧ PA X vs (trX X.K (wXs Φ xs))
  | [], [], xs, h => by simp only [cXs] at h; cases h; exact ⟨rfl, x_nil⟩
  | [], _ :: _, xs, h => by simp [cXs] at h
  | _ :: _, [], xs, h => by simp [cXs] at h
  | i :: is, v :: vs, xs, h => by
    cases v with
    | List es q =>
      simp only [cXs] at h
      split at h
      · split at h
        · rename_i x y h1 h2
          cases h
          obtain ⟨a, b⟩ := cXs_ok c h2
          exact ⟨by unfold noStar at a ⊢; rw [List.all_cons, a]; rfl, x_l ((snd n).a c h1) b⟩
        · cases h
      · split at h
        · rename_i x y h1 h2
          cases h
          obtain ⟨a, b⟩ := cXs_ok c h2
          exact ⟨by unfold noStar at a ⊢; rw [List.all_cons, a]; rfl, x_e rfl ((snd n).e c h1) b⟩
        · cases h
    | _ =>
      simp only [cXs] at h
      split at h
      · cases h
      · rename_i hs
        split at h
        · rename_i x y h1 h2
          cases h
          obtain ⟨a, b⟩ := cXs_ok c h2
          have hs := (Bool.not_eq_true _).mp hs
          exact ⟨by unfold noStar at a ⊢; rw [List.all_cons, a, hs]; rfl, x_e hs ((snd n).e c h1) b⟩
        · cases h
end
end Pf

namespace Pf
open PySem PySem.Spec PyProof.Rows L2
section
variable {X : Cx} {cc : CC} {Φ : Nat → PSp} {lv : Nat} {pos : Pos}
theorem frz_gd {K : Fg} {W : Wd} {σ : L2.St} {τ : SDs} {i : Nat} (k : W.Ok) (g : Gd K W σ τ) : ∃ U : Wd, U.H = W.H ∧ U.Ok ∧ Sts W U ∧ Gd K U σ (frzD τ i) ∧ U.A = W.A ∧ U.V = W.V ∧ ∀ a, U.O a → W.O a := by
  unfold frzD
  split
  · rename_i ds e0
    obtain ⟨v, hv, hr⟩ := g.get i _ e0
    obtain ⟨a, xs, rfl, e1, o, hs⟩ := hr.own_inv
    have sub : ∀ b, (W.O b ∧ b ≠ a) → W.O b := fun b h => h.1
    refine ⟨{ W with O := fun b => W.O b ∧ b ≠ a }, rfl, ⟨k.va, k.at_, fun b h => k.ot b h.1, fun b h => k.oa b h.1⟩, ⟨⟨fun b o e _ _ => e, fun _ h => h, fun _ h => .inl h, fun _ h => h, fun _ h => .inl h, fun b h => .inl h.1⟩, fun b h => by obtain ⟨ys, e⟩ := k.ot b h; exact ⟨_, e⟩⟩,
      ⟨by rw [List.length_set]; exact g.len, fun j x e => ?_, fun j m b ys zs e1 e2 e3 e4 => ?_⟩, rfl, rfl, sub⟩
    · rcases set_get e with ⟨ej, hle, e'⟩ | ⟨ne, e'⟩
      · subst ej
        cases e'
        exact ⟨.ref a, hv, .val (.d (.lst e1 (k.oa a o) (fun z => z.2 rfl) (hs.less sub)))⟩
      · obtain ⟨w, w1, w2⟩ := g.get j x e'
        refine ⟨w, w1, ?_⟩
        cases x with
        | val d =>
          cases w2 with
          | val w2 =>
            cases w2 with
            | d h => exact .val (.d (h.less sub))
            | scr h => exact .val (.scr h)
            | vat h => exact .val (.vat h)
        | own ds' =>
          obtain ⟨b, ys, rfl, q1, q2, q3⟩ := w2.own_inv
          exact .own q1 ⟨q2, fun z => by rw [z] at w1; exact ne (g.uni i j a ds ds' e0 e' hv w1)⟩ (q3.less sub)
    · rcases set_get e1 with ⟨ej, hle, e'⟩ | ⟨ne, e'⟩
      · cases e'
      · rcases set_get e2 with ⟨ej, hle, e''⟩ | ⟨ne', e''⟩
        · cases e''
        · exact g.uni j m b ys zs e' e'' e3 e4
  · exact ⟨W, rfl, k, Sts.refl k, g, rfl, rfl, fun _ h => h⟩
theorem frz_imp {K : Fg} {i : Nat} {s : RS} {D : Ends} {σ : L2.St} {H : Hp} (q : trS K (wS Φ (.frz i s)) D σ H) : trS K (wS Φ s) D σ H := by
  obtain ⟨W, τ, P, rfl, k, g, hw, hl⟩ := q
  simp only [wS] at hw
  obtain ⟨U, e, q, l, g', _⟩ := frz_gd (i := i) k g
  exact ⟨U, _, P, e, q, g', hw, hl.on k q l⟩
theorem s_frz {st : Stmt} {i : Nat} {s : RS} (h : PS X st (trS X.K (wS Φ s))) : PS X st (trS X.K (wS Φ (.frz i s))) := pS_imp h fun _ _ _ q => frz_imp q
theorem s_frzOf {st : Stmt} {ns : List Str} {s : RS} (h : PS X st (trS X.K (wS Φ s))) : PS X st (trS X.K (wS Φ (frzOf cc ns s))) := by
  unfold frzOf
  split
  · exact h
  · generalize cc.ap.filter _ = l
    induction l with
    | nil => exact h
    | cons i r ih => exact s_frz ih
theorem frzs_gd {K : Fg} {W : Wd} {σ : L2.St} : ∀ {is : List Nat} {τ : SDs} {U : Wd}, U.Ok → U.H = W.H → U.A = W.A → U.V = W.V → (∀ a, U.O a → W.O a) → Gd K U σ τ → ∃ Z : Wd, Z.H = W.H ∧ Z.Ok ∧ Z.A = W.A ∧ Z.V = W.V ∧ (∀ a, Z.O a → W.O a) ∧ Gd K Z σ (frzs τ is)
  | [], _, U, k, h, a, v, o, g => ⟨U, h, k, a, v, o, g⟩
  | i :: r, τ, U, k, h, a, v, o, g => by
    obtain ⟨Z, e, q, l, g', a', v', o'⟩ := frz_gd (i := i) k g
    exact frzs_gd (is := r) q (e.trans h) (a'.trans a) (v'.trans v) (fun b hb => o b (o' b hb)) g'
theorem s_iffz {cnd : Expr} {a b : List Stmt} {is : List Nat} {t : RT} {x y : RS} (hc : PT X cnd (trT X.K (wT Φ t))) (ha : PSs X a (trS X.K (wS Φ x))) (hb : PSs X b (trS X.K (wS Φ y))) : PS X (.If cnd a b pos) (trS X.K (wS Φ (.iffz is t x y))) := pS_imp (ps_if hc ha hb) fun D σ H q => by
  obtain ⟨W, τ, P, rfl, k, g, hw, hl⟩ := q
  simp only [wS] at hw
  obtain ⟨U, eh, ku, ea, ev, eo, gu⟩ := frzs_gd (W := W) (is := is) k rfl rfl rfl (fun _ h => h) g
  refine ⟨U, _, _, eh, ku, gu, hw, fun i Z h kz l => ?_⟩
  have le : Le W { Z with O := W.O } := ⟨fun b o e n => l.ext b o (by rw [eh]; exact e) (by rw [ev]; exact n), fun b h => l.a1 b (by rw [ea]; exact h), fun b h => by
    have := l.a2 b h
    rw [ea, eh] at this
    exact this, fun b h => l.v1 b (by rw [ev]; exact h), fun b h => by
    have := l.v2 b h
    rw [ev, eh] at this
    exact this, rfl⟩
  have kz' : ({ Z with O := W.O } : Wd).Ok := ⟨kz.va, kz.at_, fun b h => by
    obtain ⟨xs, e⟩ := k.ot b h
    exact ⟨xs, le.ext b _ e (k.ov h)⟩, fun b h z => by
    rcases le.a2 b z with z | z
    · exact k.oa b h z
    · obtain ⟨xs, e⟩ := k.ot b h
      exact some_ne e z⟩
  cases i with
  | true => exact iteT ⟨{ Z with O := W.O }, τ, P, rfl, kz', g.le le k, h, hl.on k kz' (le.sts k)⟩
  | false => exact iteF ⟨{ Z with O := W.O }, τ, P, rfl, kz', g.le le k, h, hl.on k kz' (le.sts k)⟩
theorem s_iffOf {cnd : Expr} {a b : List Stmt} {ns : List Str} {t : RT} {x y : RS} (hc : PT X cnd (trT X.K (wT Φ t))) (ha : PSs X a (trS X.K (wS Φ x))) (hb : PSs X b (trS X.K (wS Φ y))) : PS X (.If cnd a b pos) (trS X.K (wS Φ (iffOf cc ns t x y))) := by
  unfold iffOf
  split
  · exact s_iffz hc ha hb
  · exact s_frzOf (s_iff hc ha hb)
theorem s_retV {es : List Expr} {ra : RA} {p : Pos} (h : PA X es (trA X.K (wA Φ ra))) : PS X (.Return (some (.List es p)) pos) (trS X.K (wS Φ (.retV ra))) := pS_imp (ps_ret (pe_lst h)) fun D σ H q => by
  obtain ⟨W, τ, P, rfl, k, g, hw, hl⟩ := q
  simp only [wS] at hw
  refine ⟨W, τ, _, rfl, k, g, hw, fun rs vs U hr k1 l1 rv => ?_⟩
  split at hr
  · rename_i c h n
    obtain ⟨v1, v2, v3, rfl, r1, r2, r3⟩ := rds3 rv
    have e1 := r1.int_of
    have e2 := r2.int_of
    have e3 := r3.int_of
    subst e1 e2 e3
    obtain ⟨b1, b2, b3, b4, hrt⟩ := hr
    refine ⟨by show 3 ≤ sizeLine; decide, fun a n' => ?_⟩
    obtain ⟨m1, m2⟩ := lay (o := .lst [.int c, .int h, .int n]) k1 n'
    have kz : ({ U with H := upd U.H a (.lst [.int c, .int h, .int n]), A := fun b => U.A b ∨ b = a, V := fun b => U.V b ∨ b = a } : Wd).Ok := ⟨fun b hb => by
      rcases hb with hb | hb
      · exact ⟨.inl (m2.va b hb).1, (m2.va b hb).2⟩
      · rw [hb]
        exact ⟨.inr rfl, c, h, n, upd_same, b1, b2, b3, b4⟩, fun b hb => by
      rcases hb with hb | hb
      · exact m2.at_ b hb
      · rw [hb]
        exact ⟨_, upd_same⟩, m2.ot, fun b hb z => by
      rcases z with z | z
      · exact m2.oa b hb z
      · obtain ⟨xs, e⟩ := k1.ot b hb
        rw [z] at e
        exact some_ne e n'⟩
    have lz : Sts U { U with H := upd U.H a (.lst [.int c, .int h, .int n]), A := fun b => U.A b ∨ b = a, V := fun b => U.V b ∨ b = a } := ⟨⟨fun b o e n1 _ => m1.ext b o e n1, fun b hb => .inl hb, fun b hb => by
      rcases hb with hb | hb
      · exact .inl hb
      · exact .inr (by rw [hb]; exact n'), fun b hb => .inl hb, fun b hb => by
      rcases hb with hb | hb
      · exact .inl hb
      · exact .inr (by rw [hb]; exact n'), fun b hb => .inl hb⟩, fun b hb => by obtain ⟨ys, e⟩ := m2.ot b hb; exact ⟨_, e⟩⟩
    exact hl.rt { U with H := upd U.H a (.lst [.int c, .int h, .int n]), A := fun b => U.A b ∨ b = a, V := fun b => U.V b ∨ b = a } (.ref a) .vat kz ((l1.sts k).trans k k1 kz lz) (.vat (.inr rfl)) hrt
  · exact hr.elim
/-- a vat's place is set -/
theorem vat_set {K : Fg} {U : Wd} {a : Addr} {j : Nat} {z : Int} (k : U.Ok) (h : U.V a) (hj : j < 3) (hz : VatZ j z) : ∃ xs, U.H a = some (.lst xs) ∧ ixN xs.length (j : Int) = some j ∧ ({ U with H := upd U.H a (.lst (xs.set j (.int z))) } : Wd).Ok ∧ Sq U { U with H := upd U.H a (.lst (xs.set j (.int z))) } := by
  obtain ⟨h1, c, hh, n, e, b1, b2, b3, b4⟩ := k.va a h
  have ne : ∀ {b : Addr}, U.O b → b ≠ a := fun {b} ho q => by subst q; exact k.oa _ ho h1
  have other : ∀ {b : Addr} {o : HO}, b ≠ a → U.H b = some o → upd U.H a (.lst ([V.int c, .int hh, .int n].set j (.int z))) b = some o := fun {b o} q e => by rw [upd_ne q]; exact e
  have va : VatAt (upd U.H a (.lst ([V.int c, .int hh, .int n].set j (.int z)))) a := by
    have hj' : j = 0 ∨ j = 1 ∨ j = 2 := by omega
    rcases hj' with rfl | rfl | rfl
    · exact ⟨z, hh, n, upd_same, hz.1, b2, b3, b4⟩
    · exact ⟨c, z, n, upd_same, b1, hz.1, hz.2 rfl, b4⟩
    · exact ⟨c, hh, z, upd_same, b1, b2, b3, hz.1⟩
  refine ⟨_, e, ?_, ⟨fun b hb => ?_, fun b hb => ?_, fun b hb => ?_, k.oa⟩, ⟨⟨fun b o e' nv _ => other (fun q => by rw [q] at nv; exact nv h) e', fun _ q => q, fun _ q => .inl q, fun _ q => q, fun _ q => .inl q, fun _ q => .inl q⟩, fun b xs ho e' => ⟨other (ne ho) e', ho⟩⟩⟩
  · unfold ixN
    rw [if_pos (by omega), if_pos (by show (j : Int) < ((3 : Nat) : Int); omega)]
    simp
  · obtain ⟨h1', c', hh', n', e', r⟩ := k.va b hb
    refine ⟨h1', ?_⟩
    by_cases q : b = a
    · rw [q]
      exact va
    · exact ⟨c', hh', n', other q e', r⟩
  · by_cases q : b = a
    · rw [q]
      exact ⟨_, upd_same⟩
    · obtain ⟨o, e'⟩ := k.at_ b hb
      exact ⟨o, other q e'⟩
  · obtain ⟨xs, e'⟩ := k.ot b hb
    exact ⟨xs, other (ne hb) e'⟩
theorem s_setV (c : Cok cc Φ lv X) {v : Str} {p1 p2 p3 : Pos} {kk : Nat} {j : Int} {i : Nat} {e : Expr} {x : RE} (hi : cslot cc v = some i) (hl : isLC e = false) (hj0 : 0 ≤ j) (h : PE X e (trE X.K (wE Φ x))) :
    PS X (.Assign [.Subscript (.Name v p1) (.Constant (.int j) kk p2) p3] e pos) (trS X.K (wS Φ (.setV i j.toNat x))) := by
  obtain ⟨h1, h2, h3⟩ := cslot_ok c hi
  obtain ⟨h4, h5⟩ := okN h3
  have hs : swapsWithSole [.Subscript (.Name v p1) (.Constant (.int j) kk p2) p3] e pos.line X.env = pure false := by
    cases e <;> first | rfl | cases hl
  refine pS_imp (ps_asg h (pg_sub (pe_var h1 h2 h4 h5) pe_int set_list (by intro _; rfl)) hs (by cases e <;> rfl) rfl) fun D σ H q => ?_
  obtain ⟨W, τ, P, rfl, k, g, hw, hl⟩ := q
  simp only [wS] at hw
  obtain ⟨hj, hw⟩ := hw
  refine use_e k g hw fun d u U hd k1 l1 rv => ?_
  split at hd
  · rename_i z hτ
    obtain ⟨w, w1, w2⟩ := g.get i _ hτ
    cases w2 with
    | val w2 =>
      cases w2 with
      | vat hv =>
        have := rv.int_of
        subst this
        obtain ⟨xs, e1, e2, k2, sq⟩ := vat_set (K := X.K) k1 (l1.v1 _ hv) hj hd.1
        rw [Int.toNat_of_nonneg hj0] at e2
        exact ⟨_, w1, _, xs, j, j.toNat, rfl, rfl, e1, e2, hl.nx { U with H := upd U.H _ (.lst (xs.set j.toNat (.int z))) } σ τ k2 ((l1.sts k).trans k k1 k2 ⟨sq.stp, sq.there k1⟩) ((g.le l1 k).sq sq k1) hd.2⟩
  · exact hd.elim
theorem s_setV2 (c : Cok cc Φ lv X) {v y : Str} {p1 p2 p3 p4 p5 q : Pos} {kk kt : Nat} {j : Int} {i m : Nat} {f : Expr} {as : List Expr} {ks : List Keyword} {x : RE} (hi : cslot cc v = some i) (hm : tgName cc (.Name y p4) = some m) (hj0 : 0 ≤ j) (h : PE X (.Call f as ks q) (trE X.K (wE Φ x))) :
    PS X (.Assign [.Tuple [.Subscript (.Name v p1) (.Constant (.int j) kk p2) p3, .Name y p4] kt p5] (.Call f as ks q) pos) (trS X.K (wS Φ (.setV2 i j.toNat m x))) := by
  obtain ⟨h1, h2, h3⟩ := cslot_ok c hi
  obtain ⟨h4, h5⟩ := okN h3
  refine pS_imp (ps_asg h (pg_tup c.calm (pgs_cons (pg_sub (pe_var h1 h2 h4 h5) pe_int set_list (by intro _; rfl)) (pgs_cons (tgName_ok c hm) pgs_nil rfl) rfl) rfl rfl) rfl rfl rfl) fun D σ H q => ?_
  obtain ⟨W, τ, P, rfl, k, g, hw, hl⟩ := q
  simp only [wS] at hw
  obtain ⟨hj, hw⟩ := hw
  refine use_e k g hw fun d u U hd k1 l1 rv => ?_
  split at hd
  · rename_i z yd hτ
    obtain ⟨w, w1, w2⟩ := g.get i _ hτ
    cases w2 with
    | val w2 =>
      cases w2 with
      | vat hv =>
        cases rv with
        | d rv =>
          cases rv with
          | tup et hs =>
            cases hs with
            | cons r1 hs =>
              cases hs with
              | cons r2 hs =>
                cases hs
                cases r1
                obtain ⟨xs, e1, e2, k2, sq⟩ := vat_set (K := X.K) k1 (l1.v1 _ hv) hj hd.1
                rw [Int.toNat_of_nonneg hj0] at e2
                have g2 := (g.le l1 k).sq sq k1
                exact ⟨_, _, rfl, et, rfl, _, _, rfl, ⟨_, w1, _, xs, j, j.toNat, rfl, rfl, e1, e2, _, _, rfl, rfl, hl.nx { U with H := upd U.H _ (.lst (xs.set j.toNat (.int z))) } _ _ k2 ((l1.sts k).trans k k1 k2 ⟨sq.stp, sq.there k1⟩) (g2.set (.d (r2.stp sq.stp k1)) m) hd.2⟩⟩
  · exact hd.elim
/-! ### all statements -/
structure SndS (Φ : Nat → PSp) (lv n : Nat) : Prop where
  s : ∀ {cc : CC} {X : Cx} {e : Stmt} {r : RS}, Cok cc Φ lv X → cS n cc e = some r → PS X e (trS X.K (wS Φ r))
  ss : ∀ {cc : CC} {X : Cx} {e : List Stmt} {r : RS}, Cok cc Φ lv X → cSs n cc e = some r → PSs X e (trS X.K (wS Φ r))
theorem sndS0 : SndS Φ lv 0 := by
  constructor
  · intro cc X e r c h; simp [cS] at h
  · intro cc X e r c h; simp [cSs] at h
theorem sndS_ss {n : Nat} (S : SndS Φ lv n) {e : List Stmt} {r : RS} (c : Cok cc Φ lv X) (h : cSs (n + 1) cc e = some r) : PSs X e (trS X.K (wS Φ r)) := by
  simp only [cSs] at h
  split at h
  · cases h; exact ss_nil
  · exact pss_one (S.s c h)
  · split at h
    · rename_i x y h1 h2
      cases h
      exact ss_cons (S.s c h1) (S.ss c h2)
    · cases h
theorem notLC_of {n : Nat} {e : Expr} {x : RE} (h : cE n cc e = some x) : isLC e = false ∨ ∃ elt tg iter ifs scope q, e = .ListComp elt [⟨tg, iter, ifs, 0⟩] scope q := by
  cases n with
  | zero => simp [cE] at h
  | succ n =>
    cases e <;> first | exact .inl rfl | skip
    · rename_i elt gs scope q
      unfold cE at h
      split at h <;> first | (rename_i hh; cases hh; done) | skip
      · rename_i hh
        cases hh
        exact .inr ⟨_, _, _, _, _, _, rfl⟩
      · cases h
    · simp [cE] at h
    · simp [cE] at h
theorem s_asgE {n : Nat} (c : Cok cc Φ lv X) {y : Str} {p : Pos} {i : Nat} {e : Expr} {x : RE} (ht : tgName cc (.Name y p) = some i) (h : cE n cc e = some x) : PS X (.Assign [.Name y p] e pos) (trS X.K (wS Φ (.asg i x))) := by
  rcases notLC_of h with hl | ⟨elt, tg, iter, ifs, scope, q, rfl⟩
  · exact s_asg c hl ht ((snd n).e c h)
  · cases n with
    | zero => simp [cE] at h
    | succ n =>
      simp only [cE] at h
      split at h
      · rename_i hb
        rw [Bool.and_eq_true] at hb
        split at h
        · rename_i it g t x h1 h2 h3 h4
          split at h
          · rename_i hin
            cases h
            rw [Bool.and_eq_true] at hin
            exact s_asgLc c ht hb.1 hb.2 hin.2 ((snd n).i c h1 _ hin.1) h2 (fun Y d => (snd n).ts d h3) fun Y d => (snd n).e d h4
          · cases h
        · cases h
      · cases h
theorem sndS_s {n : Nat} (S : SndS Φ lv n) {e : Stmt} {r : RS} (c : Cok cc Φ lv X) (h : cS (n + 1) cc e = some r) : PS X e (trS X.K (wS Φ r)) := by
  unfold cS at h
  split at h
  · split at h
    · obtain ⟨x, h1, h2⟩ := Option.map_eq_some_iff.mp h
      subst h2
      exact s_retV ((snd n).a c h1)
    · obtain ⟨x, h1, h2⟩ := Option.map_eq_some_iff.mp h
      subst h2
      exact s_frzOf (s_ret ((snd n).e c h1))
  · obtain ⟨x, h1, h2⟩ := Option.map_eq_some_iff.mp h
    subst h2
    exact s_frzOf (s_ret ((snd n).e c h1))
  · cases h; exact s_retN
  · split at h
    · cases h
    · rename_i hh
      simp only [Bool.or_eq_true, not_or, Bool.not_eq_true, decide_eq_true_eq] at hh
      split at h
      · rename_i i x h1 h2
        cases h
        exact s_setV c h1 hh.1 (by omega) ((snd n).e c h2)
      · cases h
  · split at h
    · cases h
    · rename_i hh
      simp only [decide_eq_true_eq] at hh
      split at h
      · rename_i i m x h1 h2 h3
        cases h
        exact s_setV2 c h1 h2 (by omega) ((snd n).e c h3)
      · cases h
  · split at h
    · rename_i i ra h1 h2
      split at h
      · cases h
        exact s_frzOf (s_own c h1 ((snd n).a c h2))
      · obtain ⟨x, h3, h4⟩ := Option.map_eq_some_iff.mp h
        subst h4
        exact s_frzOf (s_asgE c h1 h3)
    · cases h
  · split at h
    · rename_i i x h1 h2
      cases h
      exact s_frzOf (s_asgE c h1 h2)
    · cases h
  · rename_i ts k p vs k2 p2 q
    split at h
    · rename_i hsw
      split at h
      · rename_i g x h1 h2
        cases h
        exact s_frzOf (s_asgT c h1 (swp0 c hsw) ((snd n).e c h2))
      · cases h
    · rename_i hsw
      split at h
      · rename_i is h1
        split at h
        · rename_i hnd
          have hnd := of_decide_eq_true hnd
          split at h
          · obtain ⟨xs, h2, h3⟩ := Option.map_eq_some_iff.mp h
            subst h3
            obtain ⟨a1, a2⟩ := cXs_ok c h2
            exact s_frzOf (s_parX c hsw h1 hnd a1 a2)
          obtain ⟨ra, h2, h3⟩ := Option.map_eq_some_iff.mp h
          subst h3
          refine s_frzOf ?_
          obtain ⟨hl, hl2, hnm, _, _⟩ := swp1_base c hsw
          have hs := cA_star h2
          have hp := (snd (Φ := Φ) (lv := lv) n).a c h2
          rcases hl with hl | hl
          · match ts, vs, hl, hl2 with
            | [t1, t2], [a, b], _, _ =>
              obtain ⟨x, q1, rfl, _, _⟩ := hnm _ List.mem_cons_self
              obtain ⟨y, q2, rfl, _, _⟩ := hnm _ (List.mem_cons_of_mem _ List.mem_cons_self)
              simp only [tgNames] at h1
              cases e1 : tgName cc (.Name x q1) with
              | none => rw [e1] at h1; simp at h1
              | some i =>
                cases e2 : tgName cc (.Name y q2) with
                | none => rw [e1, e2] at h1; simp at h1
                | some j =>
                  rw [e1, e2] at h1
                  cases h1
                  exact s_par2 c hsw e1 e2 (by simpa using hnd) hs hp
          · match ts, vs, hl, hl2 with
            | [t1, t2, t3], [a, b, d], _, _ =>
              obtain ⟨x, q1, rfl, _, _⟩ := hnm _ List.mem_cons_self
              obtain ⟨y, q2, rfl, _, _⟩ := hnm _ (List.mem_cons_of_mem _ List.mem_cons_self)
              obtain ⟨z, q3, rfl, _, _⟩ := hnm _ (List.mem_cons_of_mem _ (List.mem_cons_of_mem _ List.mem_cons_self))
              simp only [tgNames] at h1
              cases e1 : tgName cc (.Name x q1) with
              | none => rw [e1] at h1; simp at h1
              | some i =>
                cases e2 : tgName cc (.Name y q2) with
                | none => rw [e1, e2] at h1; simp at h1
                | some j =>
                  cases e3 : tgName cc (.Name z q3) with
                  | none => rw [e1, e2, e3] at h1; simp at h1
                  | some m =>
                    rw [e1, e2, e3] at h1
                    cases h1
                    simp at hnd
                    exact s_par3 c hsw e1 e2 e3 hnd.1.1 hnd.1.2 hnd.2 hs hp
        · cases h
      · cases h
    · cases h
  · rename_i ts k p e q hne
    split at h
    · rename_i g x h1 h2
      cases h
      exact s_frzOf (s_asgT c h1 (swp_none fun vs k2 p2 z => hne vs k2 p2 z) ((snd n).e c h2))
    · cases h
  · split at h
    · rename_i hh
      simp only [Bool.and_eq_true, beq_iff_eq, Bool.not_eq_true'] at hh
      obtain ⟨⟨h1, h2⟩, h3⟩ := hh
      subst h1
      split at h
      · rename_i i y h4 h5
        cases h
        exact s_frzOf (s_app c h4 h2 (by rw [beq_iff_eq]; exact h3) ((snd n).e c h5))
      · cases h
    · cases h
  · obtain ⟨x, h1, h2⟩ := Option.map_eq_some_iff.mp h
    subst h2
    exact s_frzOf (s_exp ((snd n).e c h1))
  · cases h; exact s_skip ps_doc
  · split at h
    · rename_i i x h1 h2
      cases h
      exact s_frzOf (s_aug c h1 ((snd n).e c h2))
    · cases h
  · cases h; exact s_skip ps_pass
  · cases h; exact s_brk
  · cases h; exact s_cnt
  · cases h; exact s_fail
  · split at h
    · rename_i t x y h1 h2 h3
      cases h
      exact s_iffOf ((snd n).t c h1) (S.ss c h2) (S.ss c h3)
    · cases h
  · split at h
    · rename_i t x h1 h2
      cases h
      exact s_whl c ((snd n).t c h1) (S.ss c h2)
    · cases h
  · split at h
    · rename_i hit
      split at h
      · rename_i g i x h1 h2 h3
        split at h
        · rename_i hto
          cases h
          exact s_frzOf (s_for c hit h1 ((snd n).i c h2 _ hto) (S.ss c h3))
        · cases h
      · cases h
    · cases h
  · cases h
theorem sndS : ∀ n : Nat, SndS Φ lv n
  | 0 => sndS0
  | n + 1 => ⟨fun c h => sndS_s (sndS n) c h, fun c h => sndS_ss (sndS n) c h⟩
end
end Pf

namespace Pf
open PySem PySem.Spec PyProof.Rows L2
/-! ### a def keeps its promise -/
def startD (N : List Str) (ds : List DV) : SDs := ds.map (fun d => some (.val d)) ++ List.replicate (N.length - ds.length) none
section
variable {P : Program} {w : World} {K : Fg} {mg : Str → Option Value} {base : Heap}
theorem start_gd {W : Wd} {N : List Str} {vs : List V} {ds : List DV} (h : RDs K W vs ds) : Gd K W (L2.start N vs) (startD N ds) := by
  unfold L2.start startD
  rw [h.length]
  refine ⟨by simp [h.length], fun i x e => ?_, fun i j a xs ys e1 _ _ _ => ?_⟩
  · by_cases hi : i < ds.length
    · rw [List.getElem?_append_left (by rw [List.length_map]; exact hi), List.getElem?_map, List.getElem?_eq_getElem hi] at e
      obtain ⟨v, d, h1, h2, h3⟩ := h.get (i := i) (by rw [h.length]; exact hi)
      rw [List.getElem?_eq_getElem hi] at h2
      cases h2
      cases e
      exact ⟨v, by rw [List.getElem?_append_left (by rw [List.length_map, h.length]; exact hi), List.getElem?_map, h1]; rfl, .val h3⟩
    · rw [List.getElem?_append_right (by rw [List.length_map]; omega), List.getElem?_replicate] at e
      split at e <;> cases e
  · exfalso
    by_cases hi : i < ds.length
    · rw [List.getElem?_append_left (by rw [List.length_map]; exact hi), List.getElem?_map, List.getElem?_eq_getElem hi] at e1
      cases e1
    · rw [List.getElem?_append_right (by rw [List.length_map]; omega), List.getElem?_replicate] at e1
      split at e1 <;> cases e1
/-- what the top has left, for a group of defs -/
structure Glo (P : Program) (w : World) (K : Fg) (mg : Str → Option Value) (base : Heap) (Φ : Nat → PSp) (lv : Nat) (cc : CC) : Prop where
  fs : ∀ x k, cc.fs.lookup x = some k → ∃ (f : Addr) (fd : FuncData) (ps : List Str), mg x = some (.ref f) ∧ PySem.W.keepIn K (.ref f) = true ∧ FnP P w K mg base lv f fd ps (Φ k) ∧ Binds K fd ps []
  kb : ∀ p, p ∈ cc.kb → ∀ k, cc.fs.lookup p.1 = some k → ∃ (f : Addr) (fd : FuncData) (ps : List Str), mg p.1 = some (.ref f) ∧ PySem.W.keepIn K (.ref f) = true ∧ FnP P w K mg base lv f fd ps (Φ k) ∧
    ∀ (s : Shared) (us ws : List Value), K.In s.heap → us.length = p.2.1 → ws.length = p.2.2.1.length → BindsTo s fd ⟨us, p.2.2.1.zip ws⟩ (ps.zip (p.2.2.2.filterMap fun i => (us ++ ws)[i]?))
  ms : ∀ p, p ∈ cc.ms → mg p.1 = some (biV p.2.2)
  bs : ∀ x, x ∈ cc.bs → mg x = none
  mok : ∀ p, p ∈ cc.ms → 0 < p.2.1 ∧ ∃ id, biV p.2.2 = .builtin id
  gs : ∀ x d, cc.gs.lookup x = some d → ∃ (v : V) (u : Value), mg x = some u ∧ RelV v u ∧ ∀ W : Wd, R K W v d
  ds : ∀ x kvs, cc.ds.lookup x = some kvs → ∃ a : Addr, mg x = some (.ref a) ∧ KTab w.params K a kvs
theorem fnp_of {Φ : Nat → PSp} {lv n : Nat} {cc : CC} {x qual : Str} {st : Stmt} {f : Addr} {fd : FuncData} {ps : List Str} {sp : PSp} {rs : RS} (F : Fun K x qual st f fd) (S : FnScope cc.N ps cc.sc) (hsc : defScope st = cc.sc) (hfn : cc.fn = fun _ => true) (G : Glo P w K mg base Φ lv cc)
    (hc : cSs n cc (defBody st) = some rs) (len : ∀ ds Q, sp ds Q → ds.length = ps.length)
    (sem : ∀ ds Q, sp ds Q → wS Φ rs { nx := fun _ => Q (.d .none), rt := Q } (startD cc.N ds)) : FnP P w K mg base (lv + 1) f fd ps sp := by
  obtain ⟨oc, od, kV, doc, pm, an, cdv, ct, osl, rfl, lk, hcd⟩ := F.ex
  refine ⟨len, fun A outer s args us vs W ds Q hr hg k hO e0 hb rv rd hs => ?_⟩
  rw [hsc] at lk hb
  have hl : us.length = ps.length := by rw [← rv.length, rd.length]; exact len _ _ hs
  have KX : K.In s.heap := e0.mod.kin.keeps fun b o e => (e0.bs b o e).1
  have lim : s.heap.NoLimit := e0.mod.nolimit.keeps fun b o e => (e0.bs b o e).1
  refine codeAny_call_function hr.depth (KX _ _ lk) rfl S.co S.gen rfl (PySem.W.codeRec_of KX hcd) (hb _ _ _ _ ?_)
  have cellOk : ∀ y ∈ ps.zip us, cc.sc.names.lookup y.1 = some .local ∨ (cc.sc.names.lookup y.1 = some .cell ∧ ((cellsFrom (s.heap.objs.size + 1) cc.sc.names []).lookup y.1).isSome = true) := by
    rintro ⟨y, u⟩ hy
    rcases S.par y (List.of_mem_zip hy).1 with q | q
    · exact .inl q
    · exact .inr ⟨q, PySem.W.cellsFrom_some _ _ _ (.inl q)⟩
  refine wpAny_newFunctionEnv_cells S.kind cellOk fun env he s1 ic => ?_
  subst he
  refine ⟨lim.keeps ic.toInCall.keep, codeAny_func ?_⟩
  have I := inv_start (CX := CX0) (E := E0) S hr.hd e0 (by rw [rd.length]; exact len _ _ hs) rv ic
  have hcok : Cok cc Φ lv (cxOf CX0 P w K mg base cc.N qual cc.sc f cdv A outer s W.H E0).nox := ⟨S.nd, rfl, rfl, by rw [hfn]; rfl, rfl, rfl, hg, hr.deeper _, fun y k h => ⟨G.fs y k h⟩, fun p hp k h => ⟨G.kb p hp k h⟩, G.ms, G.bs, G.mok, G.gs, G.ds⟩
  have hbody := ((sndS (Φ := Φ) (lv := lv) n).ss hcok hc).nox
  refine wpAny_mono (hbody.run [] s1 _ _ { nx := fun _ H' => ∃ U r, U.H = H' ∧ U.Ok ∧ Stp W U ∧ RD K U .non r ∧ Q r, rt := fun v H' => ∃ U r, U.H = H' ∧ U.Ok ∧ Stp W U ∧ RD K U v r ∧ Q r } I ⟨W, _, _, rfl, k, start_gd rd, sem ds Q hs, ⟨?_, ?_, ?_, ?_⟩⟩) (fun fl z hz => ?_) fun e z hz => hz
  · intro U σ τ q l _ h
    exact ⟨U, _, rfl, q, l.stp, .d .non, h⟩
  · intro U v r q l hv h
    exact ⟨U, r, rfl, q, l.stp, hv, h⟩
  · intro U σ τ _ _ _ h
    exact h
  · intro U σ τ _ _ _ h
    exact h
  · cases fl with
    | ret u =>
      obtain ⟨v, σ', G', J, rv', q⟩ := hz
      exact ⟨v, G', J.os, J.bare, J.base, J.hok, rv', q⟩
    | next =>
      obtain ⟨σ', G', J, q⟩ := hz
      exact ⟨.non, G', J.os, J.bare, J.base, J.hok, rfl, q⟩
    | brk =>
      obtain ⟨_, _, _, q⟩ := hz
      exact False.elim q
    | cont =>
      obtain ⟨_, _, _, q⟩ := hz
      exact False.elim q
end
/-! ### the law's call -/
section
variable {P : Program} {w : World} {K : Fg} {mg mb : Str → Option Value} {k : Nat} {fa a : Addr} {fd : FuncData} {x : Str} {sp : PSp} {s : Shared} {ns : List Int}
def LawEnd (s : Shared) (r : Result) (z : Shared) : Prop := r = .ok (.ret (.bool true)) ∧ OldK s.heap z.heap ∧ z.os = s.os ∧ AllBare z.gens
theorem law_core {its : List Value} (KX : K.In s.heap) (hns : s.heap.Ns mainGlobals mg) (hb : s.heap.Ns builtinsNs mb) (hbb : ∀ y : Str, y ≠ "__name__" → mb y = bootBuiltins y) (hlim : s.heap.NoLimit) (hg : s.gens = #[])
    (ha : s.heap.get? a = some { cls := .type "list", data := .seq its.toArray }) (hr : Room k callerA) (F : ∀ base : Heap, K.In base → base.Ns mainGlobals mg → FnP P w K mg base k fa fd [x] sp)
    (hbind : ∀ (z : Shared) (u : Value), BindsTo z fd ⟨[u], []⟩ [(x, u)]) (hsp : sp [.scr ns] fun r => r = .d (.bool true))
    {H : Hp} (hO : ∀ b, H b = none ∨ ∃ o xs, H b = some (.frz o (.lst xs))) (hS : RD K ⟨H, fun _ => False, fun _ => False, fun _ => False⟩ (.ref a) (.scr ns)) (ok : HOk P w H s.heap) (hA : ∀ b u, H b = some u → b = a) (hK : ∀ u, H a = some u → K.lookup a = none) :
    codeAny (model P w) callerA (.call (.ref fa) ⟨[.ref a], []⟩) (LawEnd s) s := by
  have up : ∀ {b : Addr} {o : Obj}, s.heap.get? b = some o → H b = none → (hidT s.heap H).get? b = some o := fun e n => hidT_get e n
  have free : ∀ {b : Addr} {o : Obj}, s.heap.get? b = some o → (∀ (vs : Array Value) n, o.data ≠ .seq vs n) → H b = none := fun {b o} e d => by
    cases q : H b with
    | none => rfl
    | some u =>
      have z := hA b u q
      rw [z, ha] at e
      cases e
      exact absurd rfl (d _ _)
  have ns' : ∀ {b : Addr} {m : Str → Option Value}, s.heap.Ns b m → (hidT s.heap H).Ns b m := fun {b m} ⟨o, es, ep, e, d, r⟩ => ⟨o, es, ep, up e (free e fun vs n z => by rw [d] at z; cases z), d, r⟩
  have Kb : K.In (hidT s.heap H) := fun b o e => up (KX b o e) (by
    cases q : H b with
    | none => rfl
    | some u =>
      have z := hA b u q
      subst z
      rw [hK u q] at e
      cases e)
  have M : Mod K mg (hidT s.heap H) := ⟨Kb, ns' hns, ⟨mb, ns' hb, hbb⟩, by
    obtain ⟨mc, h1, h2⟩ := hlim
    exact ⟨mc, ns' h1, h2⟩⟩
  have E0' : Env0 P w K mg (hidT s.heap H) callerA [] s H := ⟨rfl, M, fun b o e => of_hidT e, Nat.le_of_eq (hidT_size _ _), trivial, fun b z => absurd (show b ∈ ([] : List Addr) from z) (by simp), ok, .of_eq hg⟩
  have wok : (⟨H, fun _ => False, fun _ => False, fun _ => False⟩ : Wd).Ok := ⟨fun _ z => z.elim, fun _ z => z.elim, fun _ z => z.elim, fun _ z => z.elim⟩
  refine codeAny_mono ((F _ Kb (ns' hns)).run callerA [] s ⟨[.ref a], []⟩ [.ref a] [.ref a] ⟨H, fun _ => False, fun _ => False, fun _ => False⟩ [.scr ns] _ hr rfl wok (fun _ z => z) E0' (hbind s (.ref a)) (.cons rfl .nil) (.cons hS .nil) hsp) fun r z h => ?_
  cases r with
  | error e => exact False.elim h
  | ok fl =>
    cases fl with
    | next => exact False.elim h
    | brk => exact False.elim h
    | cont => exact False.elim h
    | ret u =>
      obtain ⟨v, G, hos, bare, un, ok', rv, U, r, e1, q, l, hr', hR⟩ := h
      subst e1
      subst hR
      cases hr' with
      | d hr' =>
        have := hr'.bool_of
        subst this
        have hu : u = Value.bool true := rv
        subst hu
        refine ⟨rfl, OldK.of_keep fun b o e => ?_, hos, bare⟩
        rcases hO b with z0 | ⟨ob, xs, z0⟩
        · exact un.keep b o e z0 (fun z1 => absurd (show b ∈ ([] : List Addr) from z1) (by simp)) (by simp)
        · have z2 := un.frzs b ob _ z0
          obtain ⟨q1, _⟩ := ok b _ z0
          obtain ⟨q2, _⟩ := ok' b _ z2
          rw [e] at q1
          cases q1
          exact q2
theorem law_P {its : List Value} (KX : K.In s.heap) (hns : s.heap.Ns mainGlobals mg) (hb : s.heap.Ns builtinsNs mb) (hbb : ∀ y : Str, y ≠ "__name__" → mb y = bootBuiltins y) (hlim : s.heap.NoLimit) (hg : s.gens = #[])
    (ha : s.heap.get? a = some { cls := .type "list", data := .seq its.toArray }) (hi : IntsAre its ns) (hl : ns.length ≤ sizeLine) (hr : Room k callerA) (F : ∀ base : Heap, K.In base → base.Ns mainGlobals mg → FnP P w K mg base k fa fd [x] sp)
    (hbind : ∀ (z : Shared) (u : Value), BindsTo z fd ⟨[u], []⟩ [(x, u)]) (hsp : sp [.scr ns] fun r => r = .d (.bool true)) : codeAny (model P w) callerA (.call (.ref fa) ⟨[.ref a], []⟩) (LawEnd s) s := by
  have rv := vals_ints hi
  cases hk : K.lookup a with
  | some o =>
    have e := KX a o hk
    rw [ha] at e
    cases e
    refine law_core (H := fun _ => none) KX hns hb hbb hlim hg ha hr F hbind hsp (fun _ => .inl rfl) (.scr (.inr ⟨_, its.toArray, _, hk, rfl, rfl, rfl, by rw [List.size_toArray, hi.length]; exact hl, by simpa using rv⟩)) (fun b u z => by cases z) (fun b u z => by cases z) fun u z => by cases z
  | none =>
    have key : ∀ b u, (if b = a then some (HO.frz { cls := .type "list", data := .seq its.toArray } (.lst (ns.map V.int))) else none) = some u → b = a ∧ u = HO.frz { cls := .type "list", data := .seq its.toArray } (.lst (ns.map V.int)) := fun b u z => by
      split at z
      · rename_i h
        exact ⟨h, (Option.some.inj z).symm⟩
      · cases z
    refine law_core (H := fun b => if b = a then some (HO.frz { cls := .type "list", data := .seq its.toArray } (.lst (ns.map V.int))) else none) KX hns hb hbb hlim hg ha hr F hbind hsp (fun b => ?_) (.scr (.inl ⟨_, if_pos rfl⟩)) (fun b u z => ?_) (fun b u z => (key b u z).1) fun _ _ => hk
    · by_cases h : b = a
      · exact .inr ⟨_, _, if_pos h⟩
      · exact .inl (if_neg h)
    · obtain ⟨h1, h2⟩ := key b u z
      subst h1 h2
      exact ⟨ha, by rw [List.length_map]; exact hl, its, _, rv, ha⟩
end
/-- the goal that the head leaves, from the law's promise over plain data -/
theorem walk_P {l : PySem.W.OpenLaw} {n k : Nat} {q : Program} {loose : List Str} {XP : (Str → Option Value) → Heap → Prop} {YP : World → Heap → Prop} {d : DefRec} {K : Params → Fg} {sp : PSp} {x : Str}
    (hn : l.most = some n) (hn2 : n ≤ sizeLine) (hdf : d.params.defaults = []) (hr : Room k callerA) (hY : ∀ (w : World) (h : Heap), YP w h → (K w.params).In h)
    (F : ∀ (w : World) (mg : Str → Option Value) (fa : Addr) (h : Heap), (K w.params).In h → h.Ns mainGlobals mg → mg d.name = some (.ref fa) →
      ∃ fd : FuncData, (∀ (s : Shared) (u : Value), BindsTo s fd ⟨[u], []⟩ [(x, u)]) ∧ ∀ base : Heap, (K w.params).In base → base.Ns mainGlobals mg → FnP l.prog w (K w.params) mg base k fa fd [x] sp)
    (hsp : ∀ ns : List Int, ns.length ≤ n → sp [.scr ns] fun r => r = .d (.bool true)) : PySem.W.WalkO q loose XP YP l.row.toRowW d [] (fun f vs => PySem.call f vs) := by
  refine Att.attach_call hn hdf fun w s₀ s₁ mg mb fa o pm cd doc a vs ns G Y ho hd hcd hmg hobj hints hlen hg => ?_
  obtain ⟨fd, hb, hF⟩ := F w mg fa _ (hY w _ Y) G.T.g hmg
  exact law_P (hY w _ Y) G.T.g G.T.b G.T.builtins G.T.nolimit hg hobj hints (Nat.le_trans hlen hn2) hr hF hb (hsp ns hlen)
end Pf

namespace Pf
open PySem PySem.Spec PyProof.Rows L2
/-! ### chains of promises -/
theorem fa {α : Type} {P : α → Prop} {a : α} {l : List α} (h : P a) (t : ∀ x ∈ l, P x) : ∀ x ∈ a :: l, P x := fun x hx => by
  rcases List.mem_cons.mp hx with e | e
  · rw [e]; exact h
  · exact t x e
theorem fn0 {α : Type} {P : α → Prop} : ∀ x ∈ ([] : List α), P x := fun x hx => by cases hx
section
variable {P : Program} {w : World} {K : Fg} {mg : Str → Option Value} {base : Heap} {Φ : Nat → PSp}
/-- a def that is known -/
structure FF (P : Program) (w : World) (K : Fg) (mg : Str → Option Value) (base : Heap) (Φ : Nat → PSp) (lv : Nat) (st : Stmt) (ps : List Str) (x : Str) (k : Nat) : Prop where
  ex : ∃ (f : Addr) (fd : FuncData), mg x = some (.ref f) ∧ Fun K x x st f fd ∧ FnP P w K mg base lv f fd ps (Φ k) ∧ Binds K fd ps []
theorem FF.up {lv m : Nat} {st : Stmt} {ps : List Str} {x : Str} {k : Nat} (h : FF P w K mg base Φ lv st ps x k) (hm : lv ≤ m) : FF P w K mg base Φ m st ps x k := by
  obtain ⟨f, fd, a, b, c, d⟩ := h.ex
  exact ⟨f, fd, a, b, c.mono hm, d⟩
structure FG (P : Program) (w : World) (K : Fg) (mg : Str → Option Value) (base : Heap) (Φ : Nat → PSp) (lv : Nat) (p : Str × Nat) : Prop where
  ex : ∃ (f : Addr) (fd : FuncData) (ps : List Str), mg p.1 = some (.ref f) ∧ PySem.W.keepIn K (.ref f) = true ∧ FnP P w K mg base lv f fd ps (Φ p.2) ∧ Binds K fd ps []
theorem FF.g {lv m : Nat} {st : Stmt} {ps : List Str} {x : Str} {k : Nat} (h : FF P w K mg base Φ lv st ps x k) (hm : lv ≤ m) : FG P w K mg base Φ m (x, k) := by
  obtain ⟨f, fd, a, b, c, d⟩ := h.ex
  exact ⟨f, fd, ps, a, b.kp, c.mono hm, d⟩
structure FK (P : Program) (w : World) (K : Fg) (mg : Str → Option Value) (base : Heap) (Φ : Nat → PSp) (lv : Nat) (fs : List (Str × Nat)) (p : Str × Nat × List Str × List Nat) : Prop where
  ex : ∀ k, fs.lookup p.1 = some k → ∃ (f : Addr) (fd : FuncData) (ps : List Str), mg p.1 = some (.ref f) ∧ PySem.W.keepIn K (.ref f) = true ∧ FnP P w K mg base lv f fd ps (Φ k) ∧
    ∀ (s : Shared) (us ws : List Value), K.In s.heap → us.length = p.2.1 → ws.length = p.2.2.1.length → BindsTo s fd ⟨us, p.2.2.1.zip ws⟩ (ps.zip (p.2.2.2.filterMap fun i => (us ++ ws)[i]?))
theorem FF.k {lv m n : Nat} {st : Stmt} {ps kn : List Str} {pm : List Nat} {x : Str} {k : Nat} {fs : List (Str × Nat)} (h : FF P w K mg base Φ lv st ps x k) (hm : lv ≤ m) (hk : fs.lookup x = some k)
    (hb : ∀ (kV doc pm' : Value) (an : Option Addr) (cdv ct : Value) (us ws : List Value), us.length = n → ws.length = kn.length → bindArgs (PySem.W.fnOf x x (defArgs st) (defBody st) (defScope st) .none kV doc pm' an cdv ct) ⟨us, kn.zip ws⟩ = pure (ps.zip (pm.filterMap fun i => (us ++ ws)[i]?))) :
    FK P w K mg base Φ m fs (x, n, kn, pm) := by
  obtain ⟨f, fd, a, b, c, d⟩ := h.ex
  refine ⟨fun k' hk' => ?_⟩
  have e : k' = k := Option.some.inj (hk'.symm.trans hk)
  subst e
  refine ⟨f, fd, ps, a, b.kp, c.mono hm, fun s us ws _ h1 h2 => ?_⟩
  obtain ⟨oc, od, kV, doc, pm', an, cdv, ct, osl, rfl, _, _⟩ := b.ex
  exact .of_eq (hb kV doc pm' an cdv ct us ws h1 h2)
theorem glo {lv : Nat} {cc : CC} (hf : ∀ p ∈ cc.fs, FG P w K mg base Φ lv p) (hk : ∀ p ∈ cc.kb, FK P w K mg base Φ lv cc.fs p) (hm : ∀ p ∈ cc.ms, mg p.1 = some (biV p.2.2) ∧ 0 < p.2.1 ∧ ∃ id, biV p.2.2 = .builtin id) (hb : ∀ x ∈ cc.bs, mg x = none) (hgs : ∀ p ∈ cc.gs, ∃ (v : V) (u : Value), mg p.1 = some u ∧ RelV v u ∧ ∀ W : Wd, R K W v p.2) (hds : ∀ p ∈ cc.ds, ∃ a : Addr, mg p.1 = some (.ref a) ∧ KTab w.params K a p.2) : Glo P w K mg base Φ lv cc :=
  ⟨fun x k h => (hf (x, k) (mem_of_lookup h)).ex, fun p hp k e => (hk p hp).ex k e, fun p hp => (hm p hp).1, hb, fun p hp => (hm p hp).2, fun x d h => hgs (x, d) (PySem.mem_of_lookup h), fun x d h => hds (x, d) (PySem.mem_of_lookup h)⟩
theorem ff_of {lv n : Nat} {cc : CC} {x : Str} {st : Stmt} {f : Addr} {fd : FuncData} {ps : List Str} {k : Nat} {rs : RS} (F : Fun K x x st f fd) (hg : mg x = some (.ref f)) (S : FnScope cc.N ps cc.sc) (hsc : defScope st = cc.sc) (hfn : cc.fn = fun _ => true) (G : Glo P w K mg base Φ lv cc)
    (hc : cSs n cc (defBody st) = some rs) (hb : ∀ (kV doc pm : Value) (an : Option Addr) (cdv ct : Value) (us : List Value), us.length = ps.length → bindArgs (PySem.W.fnOf x x (defArgs st) (defBody st) (defScope st) .none kV doc pm an cdv ct) ⟨us, []⟩ = pure (ps.zip us))
    (len : ∀ ds Q, Φ k ds Q → ds.length = ps.length) (sem : ∀ ds Q, Φ k ds Q → wS Φ rs { nx := fun _ => Q (.d .none), rt := Q } (startD cc.N ds)) : FF P w K mg base Φ (lv + 1) st ps x k :=
  ⟨f, fd, hg, F, fnp_of F S hsc hfn G hc len sem, F.binds hb⟩
end
end Pf

namespace Pf
open PySem PySem.Spec PyProof.Rows L2
/-! ### whole numbers -/
abbrev I (z : Int) : DV := .d (.int z)
abbrev B (b : Bool) : DV := .d (.bool b)
abbrev T2 (a b : Int) : DV := .d (.tuple [.int a, .int b])
abbrev T3 (a b c : Int) : DV := .d (.tuple [.int a, .int b, .int c])
def g2 (a b : Int) : Int := ((Nat.gcd a.natAbs b.natAbs : Nat) : Int)
def g3 (a b c : Int) : Int := ((Nat.gcd (Nat.gcd a.natAbs b.natAbs) c.natAbs : Nat) : Int)
/-- below a power of two in size -/
def Sz (k : Nat) (z : Int) : Prop := z.natAbs < 2 ^ k
theorem Sz.mono {j k : Nat} {z : Int} (h : Sz j z) (e : j ≤ k) : Sz k z := Nat.lt_of_lt_of_le h (Nat.pow_le_pow_right (by decide) e)
theorem Sz.mul {j k : Nat} {a b : Int} (h : Sz j a) (e : Sz k b) : Sz (j + k) (a * b) := by
  unfold Sz at *
  rw [Int.natAbs_mul, Nat.pow_add]
  exact Nat.mul_lt_mul_of_lt_of_le h (Nat.le_of_lt e) (Nat.two_pow_pos k)
theorem Sz.add {k : Nat} {a b : Int} (h : Sz k a) (e : Sz k b) : Sz (k + 1) (a + b) := by
  unfold Sz at *
  rw [Nat.pow_succ]
  have := Int.natAbs_add_le a b
  omega
theorem Sz.neg {k : Nat} {a : Int} (h : Sz k a) : Sz k (0 - a) := by
  unfold Sz at *
  omega
theorem Sz.sub {k : Nat} {a b : Int} (h : Sz k a) (e : Sz k b) : Sz (k + 1) (a - b) := by
  have := h.add e.neg
  have z : a + (0 - b) = a - b := by omega
  rw [z] at this
  exact this
theorem Sz.of {k : Nat} {a : Int} (h : -(2 ^ k : Int) < a) (e : a < (2 ^ k : Int)) : Sz k a := by
  unfold Sz
  have : ((2 ^ k : Nat) : Int) = (2 ^ k : Int) := by simp
  omega
theorem Sz.le {k : Nat} {a b : Int} (h : Sz k b) (e : a.natAbs ≤ b.natAbs) : Sz k a := Nat.lt_of_le_of_lt e h
theorem Sz.div {k : Nat} {a g : Int} (h : Sz k a) : Sz k (a / g) := h.le (Int.natAbs_ediv_le_natAbs a g)
theorem Sz.log {k : Nat} {a : Int} (h : Sz k a) (e : 0 < k) : a.natAbs.log2 < k := PySem.Flt.log2_lt_of e h
theorem cmul {j k : Nat} {a b : Int} (h : Sz j a) (e : Sz k b) (hj : 0 < j) (hk : 0 < k) (hs : j + k ≤ 1000000) : CMul a b ∨ CMulW a b := .inr (wide_mul h e hj hk hs)
theorem cdiv {k : Nat} {a b : Int} (h : 0 < b) (e : Sz k b) (hk : 0 < k) (hs : k ≤ 9000) : CDivW a b := wide_div h e hk hs
/-! greatest common divisors -/
theorem g2_nn (a b : Int) : 0 ≤ g2 a b := Int.natCast_nonneg _
theorem g2_pos {a b : Int} (h : b ≠ 0) : 0 < g2 a b := by
  unfold g2
  have := Nat.gcd_pos_of_pos_right a.natAbs (Int.natAbs_pos.mpr h)
  omega
theorem g3_pos {a b c : Int} (h : c ≠ 0) : 0 < g3 a b c := by
  unfold g3
  have := Nat.gcd_pos_of_pos_right (Nat.gcd a.natAbs b.natAbs) (Int.natAbs_pos.mpr h)
  omega
theorem g2_d2 (a b : Int) : g2 a b ∣ b := Int.natAbs_dvd_natAbs.mp (by unfold g2; exact Nat.gcd_dvd_right _ _)
theorem g3_d1 (a b c : Int) : g3 a b c ∣ a := Int.natAbs_dvd_natAbs.mp (by unfold g3; exact Nat.dvd_trans (Nat.gcd_dvd_left _ _) (Nat.gcd_dvd_left _ _))
theorem g3_d2 (a b c : Int) : g3 a b c ∣ b := Int.natAbs_dvd_natAbs.mp (by unfold g3; exact Nat.dvd_trans (Nat.gcd_dvd_left _ _) (Nat.gcd_dvd_right _ _))
theorem g3_d3 (a b c : Int) : g3 a b c ∣ c := Int.natAbs_dvd_natAbs.mp (by unfold g3; exact Nat.gcd_dvd_right _ _)
theorem g2_le {a b : Int} (h : b ≠ 0) : (g2 a b).natAbs ≤ b.natAbs := Nat.le_of_dvd (Int.natAbs_pos.mpr h) (Int.natAbs_dvd_natAbs.mpr (g2_d2 a b))
theorem g3_le {a b c : Int} (h : c ≠ 0) : (g3 a b c).natAbs ≤ c.natAbs := Nat.le_of_dvd (Int.natAbs_pos.mpr h) (Int.natAbs_dvd_natAbs.mpr (g3_d3 a b c))
theorem g3_mul {k a b c : Int} (h : 0 < k) : g3 (k * a) (k * b) (k * c) = k * g3 a b c := by
  unfold g3
  rw [Int.natAbs_mul, Int.natAbs_mul, Int.natAbs_mul, Nat.gcd_mul_left, Nat.gcd_mul_left, Int.natCast_mul, Int.natAbs_of_nonneg (Int.le_of_lt h)]
/-- a pair, a triple, reduced -/
def rd (a b : Int) : Int × Int := (a / g2 a b, b / g2 a b)
def rt (a b c : Int) : Int × Int × Int := (a / g3 a b c, b / g3 a b c, c / g3 a b c)
theorem rt_eq (a b c : Int) : a = g3 a b c * (rt a b c).1 ∧ b = g3 a b c * (rt a b c).2.1 ∧ c = g3 a b c * (rt a b c).2.2 := ⟨(Int.mul_ediv_cancel' (g3_d1 a b c)).symm, (Int.mul_ediv_cancel' (g3_d2 a b c)).symm, (Int.mul_ediv_cancel' (g3_d3 a b c)).symm⟩
theorem rt_cop {a b c : Int} (h : c ≠ 0) : g3 (rt a b c).1 (rt a b c).2.1 (rt a b c).2.2 = 1 := by
  have hp := g3_pos (a := a) (b := b) h
  obtain ⟨e1, e2, e3⟩ := rt_eq a b c
  have := g3_mul (a := (rt a b c).1) (b := (rt a b c).2.1) (c := (rt a b c).2.2) hp
  rw [← e1, ← e2, ← e3] at this
  have z : g3 a b c * g3 (rt a b c).1 (rt a b c).2.1 (rt a b c).2.2 = g3 a b c * 1 := by rw [← this, Int.mul_one]
  exact Int.eq_of_mul_eq_mul_left (Int.ne_of_gt hp) z
theorem rd_one {a b : Int} (h : g2 a b = 1) : rd a b = (a, b) := by
  unfold rd
  rw [h, Int.ediv_one, Int.ediv_one]
theorem pos_of_mul {g x : Int} (hg : 0 < g) (h : 0 < g * x) : 0 < x := by
  rcases Int.lt_trichotomy x 0 with z | z | z
  · have := Int.mul_neg_of_pos_of_neg hg z
    omega
  · rw [z] at h
    simp at h
  · exact z
theorem rt_pos {a b c : Int} (h : 0 < c) : 0 < (rt a b c).2.2 := pos_of_mul (g3_pos (a := a) (b := b) (Int.ne_of_gt h)) (by rw [← (rt_eq a b c).2.2]; exact h)
theorem rd_sz {a b : Int} {k : Nat} (h : Sz k a) (h' : Sz k b) : Sz k (rd a b).1 ∧ Sz k (rd a b).2 := ⟨h.div, h'.div⟩
theorem rt_sz {a b c : Int} {k : Nat} (h : Sz k a) (h' : Sz k b) (h'' : Sz k c) : Sz k (rt a b c).1 ∧ Sz k (rt a b c).2.1 ∧ Sz k (rt a b c).2.2 := ⟨h.div, h'.div, h''.div⟩
/-- the fraction of two numbers, the second one not 0 -/
def fr (a b : Int) : Int × Int := if 0 < b then rd a b else rd (0 - a) (0 - b)
theorem fr_pos' {a b : Int} (h : 0 < b) : fr a b = rd a b := if_pos h
/-! ### fractions as rational numbers -/
def F (q : Rat) : PyData := .tuple [.int q.num, .int (q.den : Int)]
theorem den_pos (q : Rat) : (0 : Int) < (q.den : Int) := by have := q.den_nz; omega
theorem denR_pos (q : Rat) : (0 : Rat) < ((q.den : Int) : Rat) := Rat.intCast_pos.mpr (den_pos q)
theorem numR (q : Rat) : (q.num : Rat) = q * ((q.den : Int) : Rat) := by
  have h := Rat.num_divInt_den q
  rw [Rat.divInt_eq_div] at h
  have hp := denR_pos q
  have := Rat.div_mul_cancel (a := (q.num : Rat)) (b := ((q.den : Int) : Rat)) (by grind)
  rw [h] at this
  exact this.symm
theorem divInt_of {a b : Int} {q : Rat} (hb : 0 < b) (h : (a : Rat) = q * (b : Rat)) : Rat.divInt a b = q := by
  rw [Rat.divInt_eq_div, h]
  exact Rat.mul_div_cancel (by have : (0 : Rat) < (b : Rat) := Rat.intCast_pos.mpr hb; grind)
theorem rd_divInt {a b : Int} (hb : 0 < b) : rd a b = ((Rat.divInt a b).num, ((Rat.divInt a b).den : Int)) := by
  unfold rd g2
  rw [Rat.num_divInt, Rat.den_divInt, if_neg (Int.ne_of_gt hb), Int.sign_eq_one_of_pos hb, Int.one_mul]
  have e : b.gcd a = Nat.gcd a.natAbs b.natAbs := by rw [Int.gcd_comm]; rfl
  rw [e]
  congr 1
  rw [Int.natCast_ediv]
  congr 1
  omega
theorem rd_rat {a b : Int} {q : Rat} (hb : 0 < b) (h : (a : Rat) = q * (b : Rat)) : rd a b = (q.num, (q.den : Int)) := by
  rw [rd_divInt hb, divInt_of hb h]
theorem F_rd {a b : Int} {q : Rat} (hb : 0 < b) (h : (a : Rat) = q * (b : Rat)) : (.tuple [.int (rd a b).1, .int (rd a b).2] : PyData) = F q := by
  rw [rd_rat hb h]
  rfl
theorem g2_rat (q : Rat) : g2 q.num (q.den : Int) = 1 := by
  unfold g2
  rw [Int.natAbs_natCast, q.reduced]
  rfl
theorem F_of {a b : Int} (hb : 0 < b) (h : g2 a b = 1) : (.tuple [.int a, .int b] : PyData) = F ((a : Rat) / (b : Rat)) := by
  have e := F_rd (a := a) (b := b) (q := (a : Rat) / (b : Rat)) hb (Rat.div_mul_cancel (by have : (0 : Rat) < (b : Rat) := Rat.intCast_pos.mpr hb; grind)).symm
  rw [rd_one h] at e
  exact e
theorem F_inj {x y : Rat} (h : F x = F y) : x = y := by
  unfold F at h
  simp only [PyData.tuple.injEq, List.cons.injEq, PyData.int.injEq, and_true] at h
  exact Rat.ext h.1 (by omega)
theorem F_eq {x y : Rat} : (F x = F y) = (x = y) := propext ⟨F_inj, fun h => by rw [h]⟩
/-! signs -/
theorem num_pos {q : Rat} : (0 < q.num) = (0 < q) := propext (by
  have h1 := Rat.num_nonneg (q := q)
  have h2 := Rat.num_eq_zero (q := q)
  constructor
  · intro h
    have a := h1.mp (by omega)
    have b : q ≠ 0 := fun z => by rw [h2.mpr z] at h; omega
    grind
  · intro h
    have a := h1.mpr (by grind)
    have b : q.num ≠ 0 := fun z => by rw [h2.mp z] at h; grind
    omega)
theorem num_neg {q : Rat} : (q.num < 0) = (q < 0) := propext (by
  have h1 := Rat.num_nonneg (q := q)
  constructor
  · intro h
    have a : ¬ 0 ≤ q := fun z => by have := h1.mpr z; omega
    grind
  · intro h
    have a : ¬ 0 ≤ q.num := fun z => by have := h1.mp z; grind
    omega)
theorem num_zero {q : Rat} : (q.num = 0) = (q = 0) := propext Rat.num_eq_zero
theorem lt_cross {x y : Rat} : (x.num * (y.den : Int) < y.num * (x.den : Int)) = (x < y) := propext (Rat.lt_iff x y).symm
/-! sizes -/
structure Zf (k : Nat) (q : Rat) : Prop where
  n : Sz k q.num
  d : Sz k (q.den : Int)
theorem Zf.mono {j k : Nat} {q : Rat} (h : Zf j q) (e : j ≤ k) : Zf k q := ⟨h.n.mono e, h.d.mono e⟩
theorem Zf.of {k : Nat} {a b : Int} {q : Rat} (hb : 0 < b) (h : (a : Rat) = q * (b : Rat)) (h1 : Sz k a) (h2 : Sz k b) : Zf k q := by
  have := rd_rat hb h
  have s := rd_sz h1 h2
  rw [this] at s
  exact ⟨s.1, s.2⟩
theorem mulR (x y : Rat) : (((x.num * y.num : Int)) : Rat) = (x * y) * (((x.den : Int) * (y.den : Int) : Int) : Rat) := by
  rw [Rat.intCast_mul, Rat.intCast_mul, numR x, numR y]
  grind
theorem addR (x y : Rat) : (((x.num * (y.den : Int) + y.num * (x.den : Int) : Int)) : Rat) = (x + y) * (((x.den : Int) * (y.den : Int) : Int) : Rat) := by
  rw [Rat.intCast_add, Rat.intCast_mul, Rat.intCast_mul, Rat.intCast_mul, numR x, numR y]
  grind
theorem subR (x y : Rat) : (((x.num * (y.den : Int) - y.num * (x.den : Int) : Int)) : Rat) = (x - y) * (((x.den : Int) * (y.den : Int) : Int) : Rat) := by
  rw [Rat.intCast_sub, Rat.intCast_mul, Rat.intCast_mul, Rat.intCast_mul, numR x, numR y]
  grind
theorem divR (x y : Rat) (h : y ≠ 0) : (((x.num * (y.den : Int) : Int)) : Rat) = (x / y) * (((x.den : Int) * y.num : Int) : Rat) := by
  rw [Rat.intCast_mul, Rat.intCast_mul, numR x, numR y]
  grind
theorem dd_pos (x y : Rat) : (0 : Int) < (x.den : Int) * (y.den : Int) := Int.mul_pos (den_pos x) (den_pos y)
theorem Zf.mul {j k : Nat} {x y : Rat} (h : Zf j x) (e : Zf k y) : Zf (j + k) (x * y) := Zf.of (dd_pos x y) (mulR x y) (h.n.mul e.n) (h.d.mul e.d)
theorem Zf.add {j k : Nat} {x y : Rat} (h : Zf j x) (e : Zf k y) : Zf (j + k + 1) (x + y) := Zf.of (dd_pos x y) (addR x y) ((h.n.mul e.d).add ((e.n.mul h.d).mono (by omega))) ((h.d.mul e.d).mono (by omega))
theorem Zf.sub {j k : Nat} {x y : Rat} (h : Zf j x) (e : Zf k y) : Zf (j + k + 1) (x - y) := Zf.of (dd_pos x y) (subR x y) ((h.n.mul e.d).sub ((e.n.mul h.d).mono (by omega))) ((h.d.mul e.d).mono (by omega))
theorem Zf.neg {k : Nat} {x : Rat} (h : Zf k x) : Zf k (-x) := ⟨by
  have := h.n
  rw [Rat.neg_num]
  unfold Sz at *
  omega, h.d⟩
theorem Zf.inv {k : Nat} {x : Rat} (h : Zf k x) (k0 : 0 < k) : Zf k x⁻¹ := by
  refine ⟨?_, ?_⟩
  · rw [Rat.num_inv]
    have := h.d
    unfold Sz at *
    rw [Int.natAbs_mul]
    have : x.num.sign.natAbs ≤ 1 := by
      rcases Int.lt_trichotomy x.num 0 with z | z | z
      · rw [Int.sign_eq_neg_one_of_neg z]; decide
      · rw [z]; decide
      · rw [Int.sign_eq_one_of_pos z]; decide
    have := Nat.mul_le_mul_right (x.den : Int).natAbs this
    omega
  · rw [Rat.den_inv]
    have := h.n
    unfold Sz at *
    split
    · have := Nat.one_lt_two_pow (n := k) (by omega)
      simp
      omega
    · simpa using this
theorem Zf.div {j k : Nat} {x y : Rat} (h : Zf j x) (e : Zf k y) (k0 : 0 < k) : Zf (j + k) (x / y) := by
  rw [Rat.div_def]
  exact h.mul (e.inv k0)
theorem Zf.int {k : Nat} {z : Int} (h : Sz k z) (k0 : 0 < k) : Zf k (z : Rat) := ⟨by rw [Rat.num_intCast]; exact h, by
  rw [Rat.den_intCast]
  unfold Sz
  have := Nat.one_lt_two_pow (n := k) (by omega)
  simpa using this⟩
/-! ### places and points by their two numbers -/
/-- the reduced triple of a point -/
def pt (x y : Rat) : Int × Int × Int := rt (x.num * (y.den : Int)) (y.num * (x.den : Int)) ((x.den : Int) * (y.den : Int))
def P3 (x y : Rat) : PyData := .tuple [.int (pt x y).1, .int (pt x y).2.1, .int (pt x y).2.2]
theorem pt_pos (x y : Rat) : 0 < (pt x y).2.2 := rt_pos (dd_pos x y)
theorem pt_cop (x y : Rat) : g3 (pt x y).1 (pt x y).2.1 (pt x y).2.2 = 1 := rt_cop (Int.ne_of_gt (dd_pos x y))
theorem cancL {g a b x d e : Rat} (hg : 0 < g) (h1 : x * d * e = g * a) (h3 : d * e = g * b) : a = x * b := by
  have h : g * a = g * (x * b) := by grind
  have n : g ≠ 0 := by grind
  have := congrArg (fun z => g⁻¹ * z) h
  simp only [← Rat.mul_assoc, Rat.inv_mul_cancel g n, Rat.one_mul] at this
  grind
theorem pt_x (x y : Rat) : (((pt x y).1 : Int) : Rat) = x * (((pt x y).2.2 : Int) : Rat) := by
  obtain ⟨e1, e2, e3⟩ := rt_eq (x.num * (y.den : Int)) (y.num * (x.den : Int)) ((x.den : Int) * (y.den : Int))
  have hg := g3_pos (a := x.num * (y.den : Int)) (b := y.num * (x.den : Int)) (Int.ne_of_gt (dd_pos x y))
  have hg' : (0 : Rat) < ((g3 (x.num * (y.den : Int)) (y.num * (x.den : Int)) ((x.den : Int) * (y.den : Int)) : Int) : Rat) := Rat.intCast_pos.mpr hg
  have e1' := congrArg (fun z : Int => (z : Rat)) e1
  have e3' := congrArg (fun z : Int => (z : Rat)) e3
  simp only [Rat.intCast_mul] at e1' e3'
  rw [numR x] at e1'
  exact cancL hg' e1' e3'
theorem pt_y (x y : Rat) : (((pt x y).2.1 : Int) : Rat) = y * (((pt x y).2.2 : Int) : Rat) := by
  obtain ⟨e1, e2, e3⟩ := rt_eq (x.num * (y.den : Int)) (y.num * (x.den : Int)) ((x.den : Int) * (y.den : Int))
  have hg := g3_pos (a := x.num * (y.den : Int)) (b := y.num * (x.den : Int)) (Int.ne_of_gt (dd_pos x y))
  have hg' : (0 : Rat) < ((g3 (x.num * (y.den : Int)) (y.num * (x.den : Int)) ((x.den : Int) * (y.den : Int)) : Int) : Rat) := Rat.intCast_pos.mpr hg
  have e1' := congrArg (fun z : Int => (z : Rat)) e2
  have e3' := congrArg (fun z : Int => (z : Rat)) e3
  simp only [Rat.intCast_mul] at e1' e3'
  rw [numR y] at e1'
  exact cancL hg' e1' ((Rat.mul_comm _ _).trans e3')
theorem castInj {a b : Int} (h : (a : Rat) = (b : Rat)) : a = b := by exact_mod_cast h
theorem pt_wR (x y : Rat) : (0 : Rat) < (((pt x y).2.2 : Int) : Rat) := Rat.intCast_pos.mpr (pt_pos x y)
theorem pt_x0 {x y : Rat} : (0 < (pt x y).1) = (0 < x) := propext (by
  have h1 := pt_x x y
  have h2 := pt_wR x y
  rw [← Rat.intCast_pos, h1]
  constructor
  · intro h
    exact (Rat.mul_pos_iff_of_pos_right h2).mp h
  · intro h
    exact Rat.mul_pos h h2)
theorem P3_inj {x y u v : Rat} (h : P3 x y = P3 u v) : x = u ∧ y = v := by
  unfold P3 at h
  simp only [PyData.tuple.injEq, List.cons.injEq, PyData.int.injEq, and_true] at h
  obtain ⟨h1, h2, h3⟩ := h
  have a1 := pt_x x y
  have a2 := pt_x u v
  have b1 := pt_y x y
  have b2 := pt_y u v
  have c := pt_wR x y
  rw [h1, h3] at a1
  rw [h2, h3] at b1
  rw [h3] at c
  rw [a2] at a1
  rw [b2] at b1
  generalize (((pt u v).2.2 : Int) : Rat) = w at *
  have key : ∀ p q : Rat, p * w = q * w → p = q := fun p q h => by
    have n : w ≠ 0 := by grind
    have := congrArg (fun z => z * w⁻¹) h
    simp only [Rat.mul_assoc, Rat.mul_inv_cancel w n, Rat.mul_one] at this
    exact this
  exact ⟨(key _ _ a1).symm, (key _ _ b1).symm⟩
/-! sizes -/
structure Zp (k : Nat) (x y : Rat) : Prop where
  a : Sz k (pt x y).1
  b : Sz k (pt x y).2.1
  c : Sz k (pt x y).2.2
theorem Zp.mono {j k : Nat} {x y : Rat} (h : Zp j x y) (e : j ≤ k) : Zp k x y := ⟨h.a.mono e, h.b.mono e, h.c.mono e⟩
theorem Zf.pt {j k : Nat} {x y : Rat} (h : Zf j x) (e : Zf k y) : Zp (j + k) x y := by
  have := rt_sz (h.n.mul e.d) ((e.n.mul h.d).mono (by omega)) (h.d.mul e.d)
  exact ⟨this.1, this.2.1, this.2.2⟩
theorem Zp.x {k : Nat} {x y : Rat} (h : Zp k x y) : Zf k x := Zf.of (pt_pos x y) (pt_x x y) h.a h.c
theorem Zp.y {k : Nat} {x y : Rat} (h : Zp k x y) : Zf k y := Zf.of (pt_pos x y) (pt_y x y) h.b h.c
/-! jets -/
def J (s b : Rat) : PyData := .tuple [F s, F b]
theorem J_inj {s b s' b' : Rat} (h : J s b = J s' b') : s = s' ∧ b = b' := by
  unfold J at h
  simp only [PyData.tuple.injEq, List.cons.injEq, and_true] at h
  exact ⟨F_inj h.1, F_inj h.2⟩
/-! ### evaluation, by form -/
section
variable {Q : DV → Prop} {i j : Int}
theorem ev_add : wBin .add (.d (.int i)) (.d (.int j)) Q = Q (.d (.int (i + j))) := rfl
theorem ev_sub : wBin .sub (.d (.int i)) (.d (.int j)) Q = Q (.d (.int (i - j))) := rfl
theorem ev_mul : wBin .mul (.d (.int i)) (.d (.int j)) Q = ((CMul i j ∨ CMulW i j) ∧ Q (.d (.int (i * j)))) := rfl
theorem ev_div : wBin .div (.d (.int i)) (.d (.int j)) Q = (CDivW i j ∧ Q (.d (.int (i / j)))) := rfl
theorem ev_mod : wBin .mod (.d (.int i)) (.d (.int j)) Q = (0 < j ∧ Q (.d (.int (i % j)))) := rfl
theorem ev_pow : wBin .pow (.d (.int i)) (.d (.int j)) Q = (CPow i j ∧ Q (.d (.int (i ^ j.toNat)))) := rfl
theorem ev_cat {xs ys : List PyData} : wBin .add (.d (.list xs)) (.d (.list ys)) Q = (xs.length + ys.length ≤ mx ∧ Q (.d (.list (xs ++ ys)))) := rfl
theorem ev_lt : wCmp .lt (.d (.int i)) (.d (.int j)) Q = Q (.d (.bool (decide (i < j)))) := rfl
theorem ev_le : wCmp .le (.d (.int i)) (.d (.int j)) Q = Q (.d (.bool (decide (i ≤ j)))) := rfl
theorem ev_gt : wCmp .gt (.d (.int i)) (.d (.int j)) Q = Q (.d (.bool (decide (j < i)))) := rfl
theorem ev_ge : wCmp .ge (.d (.int i)) (.d (.int j)) Q = Q (.d (.bool (decide (j ≤ i)))) := rfl
theorem ev_eq : wCmp .eq (.d (.int i)) (.d (.int j)) Q = Q (.d (.bool (decide (i = j)))) := rfl
theorem ev_ne : wCmp .ne (.d (.int i)) (.d (.int j)) Q = Q (.d (.bool (!decide (i = j)))) := rfl
theorem ev_eqs {x y : Str} : wCmp .eq (.d (.str x)) (.d (.str y)) Q = Q (.d (.bool (decide (x = y)))) := rfl
theorem ev_nes {x y : Str} : wCmp .ne (.d (.str x)) (.d (.str y)) Q = Q (.d (.bool (!decide (x = y)))) := rfl
/-! items by place -/
theorem at0 {α : Type} {x : α} {l : List α} : atI (x :: l) 0 = some x := atI_nat (j := 0) rfl
theorem at1 {α : Type} {x y : α} {l : List α} : atI (x :: y :: l) 1 = some y := atI_nat (j := 1) rfl
theorem at2 {α : Type} {x y z : α} {l : List α} : atI (x :: y :: z :: l) 2 = some z := atI_nat (j := 2) rfl
theorem ix_t {xs : List PyData} {v : PyData} (h : atI xs i = some v) : wIdx (.d (.tuple xs)) (.d (.int i)) Q = Q (.d v) := propext ⟨fun ⟨w, e, k⟩ => by rw [h] at e; cases e; exact k, fun k => ⟨_, h, k⟩⟩
theorem ix_l {xs : List PyData} {v : PyData} (h : atI xs i = some v) : wIdx (.d (.list xs)) (.d (.int i)) Q = Q (.d v) := propext ⟨fun ⟨w, e, k⟩ => by rw [h] at e; cases e; exact k, fun k => ⟨_, h, k⟩⟩
theorem ix_t0 {x : PyData} {l : List PyData} : wIdx (.d (.tuple (x :: l))) (.d (.int 0)) Q = Q (.d x) := ix_t at0
theorem ix_t1 {x y : PyData} {l : List PyData} : wIdx (.d (.tuple (x :: y :: l))) (.d (.int 1)) Q = Q (.d y) := ix_t at1
theorem ix_t2 {x y z : PyData} {l : List PyData} : wIdx (.d (.tuple (x :: y :: z :: l))) (.d (.int 2)) Q = Q (.d z) := ix_t at2
theorem ix_l0 {x : PyData} {l : List PyData} : wIdx (.d (.list (x :: l))) (.d (.int 0)) Q = Q (.d x) := ix_l at0
theorem ix_l1 {x y : PyData} {l : List PyData} : wIdx (.d (.list (x :: y :: l))) (.d (.int 1)) Q = Q (.d y) := ix_l at1
theorem ix_l2 {x y z : PyData} {l : List PyData} : wIdx (.d (.list (x :: y :: z :: l))) (.d (.int 2)) Q = Q (.d z) := ix_l at2
theorem ix_F0 {q : Rat} : wIdx (.d (F q)) (.d (.int 0)) Q = Q (.d (.int q.num)) := ix_t0
theorem ix_F1 {q : Rat} : wIdx (.d (F q)) (.d (.int 1)) Q = Q (.d (.int (q.den : Int))) := ix_t1
theorem ix_J0 {s b : Rat} : wIdx (.d (J s b)) (.d (.int 0)) Q = Q (.d (F s)) := ix_t0
theorem ix_J1 {s b : Rat} : wIdx (.d (J s b)) (.d (.int 1)) Q = Q (.d (F b)) := ix_t1
theorem ix_P0 {x y : Rat} : wIdx (.d (P3 x y)) (.d (.int 0)) Q = Q (.d (.int (pt x y).1)) := ix_t0
theorem ix_P1 {x y : Rat} : wIdx (.d (P3 x y)) (.d (.int 1)) Q = Q (.d (.int (pt x y).2.1)) := ix_t1
theorem ix_P2 {x y : Rat} : wIdx (.d (P3 x y)) (.d (.int 2)) Q = Q (.d (.int (pt x y).2.2)) := ix_t2
/-! targets -/
variable {τ : SDs} {R : SDs → Prop}
theorem tg_1 {a : Nat} {x : DV} : wTg (.one a) x τ R = R (τ.set a (some (.val x))) := rfl
theorem tg_2 {a b : Nat} {x y : PyData} : wTg (.many [a, b]) (.d (.tuple [x, y])) τ R = R ((τ.set a (some (.val (.d x)))).set b (some (.val (.d y)))) := propext ⟨fun h => h.2, fun h => ⟨rfl, h⟩⟩
theorem tg_3 {a b c : Nat} {x y z : PyData} : wTg (.many [a, b, c]) (.d (.tuple [x, y, z])) τ R = R (((τ.set a (some (.val (.d x)))).set b (some (.val (.d y)))).set c (some (.val (.d z)))) := propext ⟨fun h => h.2, fun h => ⟨rfl, h⟩⟩
theorem tg_4 {a b c e : Nat} {x y z u : PyData} : wTg (.many [a, b, c, e]) (.d (.tuple [x, y, z, u])) τ R = R ((((τ.set a (some (.val (.d x)))).set b (some (.val (.d y)))).set c (some (.val (.d z)))).set e (some (.val (.d u)))) := propext ⟨fun h => h.2, fun h => ⟨rfl, h⟩⟩
theorem tg_F {a b : Nat} {q : Rat} : wTg (.many [a, b]) (.d (F q)) τ R = R ((τ.set a (some (.val (.d (.int q.num))))).set b (some (.val (.d (.int (q.den : Int)))))) := tg_2
theorem tg_J {a b : Nat} {s t : Rat} : wTg (.many [a, b]) (.d (J s t)) τ R = R ((τ.set a (some (.val (.d (F s))))).set b (some (.val (.d (F t))))) := tg_2
theorem tg_P {a b c : Nat} {x y : Rat} : wTg (.many [a, b, c]) (.d (P3 x y)) τ R = R (((τ.set a (some (.val (.d (.int (pt x y).1))))).set b (some (.val (.d (.int (pt x y).2.1))))).set c (some (.val (.d (.int (pt x y).2.2))))) := tg_3
theorem fold_J {s b : Rat} : (PyData.tuple [F s, F b]) = J s b := rfl
/-! equal or not -/
theorem shapedF (x : Rat) : SeqAt.shaped (F x) = true := by
  simp [F, SeqAt.shaped, PyData.canLay0, PyData.canLayAll0, PyData.depth, PyData.depthAll]
theorem eqvF (x y : Rat) : PyData.eqv (F x) (F y) = decide (x = y) := by
  by_cases h : x = y
  · subst h
    simp [F, PyData.eqv, PyData.eqvAll]
  · rw [decide_eq_false h]
    have n : ¬ (x.num = y.num ∧ (x.den : Int) = (y.den : Int)) := fun z => h (Rat.ext z.1 (by omega))
    simp only [F, PyData.eqv, PyData.eqvAll, Bool.and_true]
    by_cases a : x.num = y.num
    · have b : ¬ (x.den : Int) = (y.den : Int) := fun z => n ⟨a, z⟩
      simp [a, b]
    · simp [a]
theorem eq_F {x y : Rat} : wCmp .eq (.d (F x)) (.d (F y)) Q = Q (.d (.bool (decide (x = y)))) := by
  have : wCmp .eq (.d (F x)) (.d (F y)) Q = (SeqAt.shaped (F x) = true ∧ SeqAt.shaped (F y) = true ∧ Q (.d (.bool (PyData.eqv (F x) (F y))))) := rfl
  rw [this, eqvF, shapedF, shapedF]
  simp
theorem ne_F {x y : Rat} : wCmp .ne (.d (F x)) (.d (F y)) Q = Q (.d (.bool (!decide (x = y)))) := by
  have : wCmp .ne (.d (F x)) (.d (F y)) Q = (SeqAt.shaped (F x) = true ∧ SeqAt.shaped (F y) = true ∧ Q (.d (.bool (!PyData.eqv (F x) (F y))))) := rfl
  rw [this, eqvF, shapedF, shapedF]
  simp
theorem eqvJ (s b t c : Rat) : PyData.eqv (J s b) (J t c) = decide (s = t ∧ b = c) := by
  have : PyData.eqv (J s b) (J t c) = (PyData.eqv (F s) (F t) && (PyData.eqv (F b) (F c) && true)) := by
    simp only [J, PyData.eqv, PyData.eqvAll]
  rw [this, eqvF, eqvF]
  simp
theorem shapedJ (s b : Rat) : SeqAt.shaped (J s b) = true := by
  simp [J, F, SeqAt.shaped, PyData.canLay0, PyData.canLayAll0, PyData.depth, PyData.depthAll]
theorem eq_J {s b t c : Rat} : wCmp .eq (.d (J s b)) (.d (J t c)) Q = Q (.d (.bool (decide (s = t ∧ b = c)))) := by
  have : wCmp .eq (.d (J s b)) (.d (J t c)) Q = (SeqAt.shaped (J s b) = true ∧ SeqAt.shaped (J t c) = true ∧ Q (.d (.bool (PyData.eqv (J s b) (J t c))))) := rfl
  rw [this, eqvJ, shapedJ, shapedJ]
  simp
theorem ne_J {s b t c : Rat} : wCmp .ne (.d (J s b)) (.d (J t c)) Q = Q (.d (.bool (!decide (s = t ∧ b = c)))) := by
  have : wCmp .ne (.d (J s b)) (.d (J t c)) Q = (SeqAt.shaped (J s b) = true ∧ SeqAt.shaped (J t c) = true ∧ Q (.d (.bool (!PyData.eqv (J s b) (J t c))))) := rfl
  rw [this, eqvJ, shapedJ, shapedJ]
  simp
theorem shapedP (x y : Rat) : SeqAt.shaped (P3 x y) = true := by
  simp [P3, SeqAt.shaped, PyData.canLay0, PyData.canLayAll0, PyData.depth, PyData.depthAll]
theorem eqvP (x y u v : Rat) : PyData.eqv (P3 x y) (P3 u v) = decide (x = u ∧ y = v) := by
  by_cases h : x = u ∧ y = v
  · obtain ⟨rfl, rfl⟩ := h
    simp [P3, PyData.eqv, PyData.eqvAll]
  · rw [decide_eq_false h]
    have n : ¬ ((pt x y).1 = (pt u v).1 ∧ (pt x y).2.1 = (pt u v).2.1 ∧ (pt x y).2.2 = (pt u v).2.2) := fun z => h (P3_inj (by unfold P3; rw [z.1, z.2.1, z.2.2]))
    simp only [P3, PyData.eqv, PyData.eqvAll, Bool.and_true]
    rw [Bool.eq_false_iff]
    intro hh
    simp only [Bool.and_eq_true, beq_iff_eq] at hh
    exact n hh
theorem eq_P {x y u v : Rat} : wCmp .eq (.d (P3 x y)) (.d (P3 u v)) Q = Q (.d (.bool (decide (x = u ∧ y = v)))) := by
  have : wCmp .eq (.d (P3 x y)) (.d (P3 u v)) Q = (SeqAt.shaped (P3 x y) = true ∧ SeqAt.shaped (P3 u v) = true ∧ Q (.d (.bool (PyData.eqv (P3 x y) (P3 u v))))) := rfl
  rw [this, eqvP, shapedP, shapedP]
  simp
theorem ne_P {x y u v : Rat} : wCmp .ne (.d (P3 x y)) (.d (P3 u v)) Q = Q (.d (.bool (!decide (x = u ∧ y = v)))) := by
  have : wCmp .ne (.d (P3 x y)) (.d (P3 u v)) Q = (SeqAt.shaped (P3 x y) = true ∧ SeqAt.shaped (P3 u v) = true ∧ Q (.d (.bool (!PyData.eqv (P3 x y) (P3 u v))))) := rfl
  rw [this, eqvP, shapedP, shapedP]
  simp
theorem db_ {b : Bool} {G : Bool → Prop} : dbool (.d (.bool b)) G = G b := rfl
theorem di_ {b : Int} {G : Int → Prop} : dint (.d (.int b)) G = G b := rfl
end
def isT : PyData → Bool
  | .tuple _ => true
  | _ => false
theorem isi_by {Q : DV → Prop} {y : PyData} {T : String} {b : Bool} (h : kitB (tyD y) T = some b) : wIsi (.d y) T Q = Q (.d (.bool b)) := propext ⟨fun ⟨c, e, k⟩ => by
  rw [h] at e
  cases e
  exact k, fun k => ⟨_, h, k⟩⟩
theorem isi_tuple {Q : DV → Prop} {y : PyData} : wIsi (.d y) "tuple" Q = Q (.d (.bool (isT y))) := by
  cases y <;> exact isi_by rfl
theorem ev_len {Q : DV → Prop} {x : DV} : wBi .len [x] Q = ∃ n, lenD x = some n ∧ Q (.d (.int n)) := by
  cases x <;> rfl
theorem mx_0 : (0 ≤ mx) = True := eq_true (by decide)
theorem mx_1 : (1 ≤ mx) = True := eq_true (by decide)
theorem mx_2 : (2 ≤ mx) = True := eq_true (by decide)
theorem mx_3 : (3 ≤ mx) = True := eq_true (by decide)
theorem mx_4 : (4 ≤ mx) = True := eq_true (by decide)
theorem mx_5 : (5 ≤ mx) = True := eq_true (by decide)
theorem mx_6 : (6 ≤ mx) = True := eq_true (by decide)
theorem mx_7 : (7 ≤ mx) = True := eq_true (by decide)
theorem mx_8 : (8 ≤ mx) = True := eq_true (by decide)
theorem mx_9 : (9 ≤ mx) = True := eq_true (by decide)
theorem mx_10 : (10 ≤ mx) = True := eq_true (by decide)
theorem mx_11 : (11 ≤ mx) = True := eq_true (by decide)
theorem mx_12 : (12 ≤ mx) = True := eq_true (by decide)
theorem mx_13 : (13 ≤ mx) = True := eq_true (by decide)
theorem mx_14 : (14 ≤ mx) = True := eq_true (by decide)
theorem mx_15 : (15 ≤ mx) = True := eq_true (by decide)
theorem mx_16 : (16 ≤ mx) = True := eq_true (by decide)
theorem mx_17 : (17 ≤ mx) = True := eq_true (by decide)
theorem mx_18 : (18 ≤ mx) = True := eq_true (by decide)
theorem mx_19 : (19 ≤ mx) = True := eq_true (by decide)
theorem mx_20 : (20 ≤ mx) = True := eq_true (by decide)
theorem mx_21 : (21 ≤ mx) = True := eq_true (by decide)
theorem mx_22 : (22 ≤ mx) = True := eq_true (by decide)
theorem mx_23 : (23 ≤ mx) = True := eq_true (by decide)
theorem mx_24 : (24 ≤ mx) = True := eq_true (by decide)
theorem ev_reprb {Q : DV → Prop} {b : Bool} : wBi .repr [.d (.bool b)] Q = Q (.d (.str (PyData.bool b).shown)) := rfl
def rs_is_whole : RS := (.ret (.andV (.isi (.var 0) "int") (.notV (.isi (.var 0) "bool"))))
def rs_is_fraction : RS := (.seq (.iff (.or (.not (.val (.isi (.var 0) "tuple"))) (.bl (.cmp .ne (.bi .len (.cons (.var 0) .nil)) (.con (.int 2))))) (.ret (.con (.bool false))) .skip) (.seq (.asgT (.many [1, 2]) (.var 0)) (.seq (.iff (.or (.not (.val (.call 10 (.cons (.var 1) .nil)))) (.not (.val (.call 10 (.cons (.var 2) .nil))))) (.ret (.con (.bool false))) .skip) (.ret (.andV (.cmp .gt (.var 2) (.con (.int 0))) (.cmp .eq (.bi .gcd2 (.cons (.var 1) (.cons (.var 2) .nil))) (.con (.int 1))))))))
def rs_check_fraction : RS := (.iff (.not (.val (.call 11 (.cons (.var 0) .nil)))) .fail .skip)
def rs_square_root : RS := (.seq (.asg 1 (.bi .isqrt (.cons (.idx (.var 0) (.con (.int 0))) .nil))) (.seq (.asg 2 (.bi .isqrt (.cons (.idx (.var 0) (.con (.int 1))) .nil))) (.seq (.iff (.and (.bl (.cmp .eq (.bin .mul (.var 1) (.var 1)) (.idx (.var 0) (.con (.int 0))))) (.bl (.cmp .eq (.bin .mul (.var 2) (.var 2)) (.idx (.var 0) (.con (.int 1)))))) (.ret (.tup (.cons (.var 1) (.cons (.var 2) .nil)))) .skip) (.ret (.con .none)))))
def rs_sign : RS := (.seq (.iff (.bl (.cmp .gt (.var 0) (.con (.int 0)))) (.ret (.con (.int 1))) .skip) (.ret (.ite (.bl (.cmp .lt (.var 0) (.con (.int 0)))) (.neg (.con (.int 1))) (.con (.int 0)))))
def rs_reduced : RS := (.seq (.asg 2 (.bi .gcd2 (.cons (.var 0) (.cons (.var 1) .nil)))) (.ret (.tup (.cons (.bin .div (.var 0) (.var 2)) (.cons (.bin .div (.var 1) (.var 2)) .nil)))))
def rs_times : RS := (.ret (.call 33 (.cons (.bin .mul (.idx (.var 0) (.con (.int 0))) (.idx (.var 1) (.con (.int 0)))) (.cons (.bin .mul (.idx (.var 0) (.con (.int 1))) (.idx (.var 1) (.con (.int 1)))) .nil))))
def rs_plus : RS := (.ret (.call 33 (.cons (.bin .add (.bin .mul (.idx (.var 0) (.con (.int 0))) (.idx (.var 1) (.con (.int 1)))) (.bin .mul (.idx (.var 1) (.con (.int 0))) (.idx (.var 0) (.con (.int 1))))) (.cons (.bin .mul (.idx (.var 0) (.con (.int 1))) (.idx (.var 1) (.con (.int 1)))) .nil))))
def rs_surd_of : RS := (.seq (.exp (.call 13 (.cons (.var 0) .nil))) (.seq (.exp (.call 13 (.cons (.var 1) .nil))) (.seq (.exp (.call 13 (.cons (.var 2) .nil))) (.seq (.iff (.bl (.cmp .lt (.idx (.var 2) (.con (.int 0))) (.con (.int 0)))) .fail .skip) (.seq (.asg 3 (.call 45 (.cons (.var 2) .nil))) (.seq (.iff (.bl (.notN (.var 3))) (.ret (.tup (.cons (.call 48 (.cons (.var 0) (.cons (.call 51 (.cons (.var 1) (.cons (.var 3) .nil))) .nil))) (.cons (.con (.int 0)) (.cons (.tup (.cons (.con (.int 0)) (.cons (.con (.int 1)) .nil))) .nil))))) .skip) (.ret (.tup (.cons (.var 0) (.cons (.call 50 (.cons (.idx (.var 1) (.con (.int 0))) .nil)) (.cons (.call 51 (.cons (.call 51 (.cons (.var 1) (.cons (.var 1) .nil))) (.cons (.var 2) .nil))) .nil)))))))))))
def rs_is_surd : RS := (.seq (.iff (.or (.not (.val (.isi (.var 0) "tuple"))) (.bl (.cmp .ne (.bi .len (.cons (.var 0) .nil)) (.con (.int 3))))) (.ret (.con (.bool false))) .skip) (.seq (.asgT (.many [1, 2, 3]) (.var 0)) (.seq (.iff (.or (.not (.val (.call 11 (.cons (.var 1) .nil)))) (.or (.not (.val (.call 10 (.cons (.var 2) .nil)))) (.not (.val (.call 11 (.cons (.var 3) .nil)))))) (.ret (.con (.bool false))) .skip) (.seq (.iff (.bl (.cmp .eq (.var 2) (.con (.int 0)))) (.ret (.cmp .eq (.var 3) (.tup (.cons (.con (.int 0)) (.cons (.con (.int 1)) .nil))))) .skip) (.seq (.iff (.and (.bl (.cmp .ne (.var 2) (.con (.int 1)))) (.bl (.cmp .ne (.var 2) (.neg (.con (.int 1)))))) (.ret (.con (.bool false))) .skip) (.ret (.andV (.cmp .gt (.idx (.var 3) (.con (.int 0))) (.con (.int 0))) (.isN (.call 45 (.cons (.var 3) .nil))))))))))
def rs_check_surd : RS := (.iff (.not (.val (.call 46 (.cons (.var 0) .nil)))) .fail .skip)
def rs_minus : RS := (.ret (.call 33 (.cons (.bin .sub (.bin .mul (.idx (.var 0) (.con (.int 0))) (.idx (.var 1) (.con (.int 1)))) (.bin .mul (.idx (.var 1) (.con (.int 0))) (.idx (.var 0) (.con (.int 1))))) (.cons (.bin .mul (.idx (.var 0) (.con (.int 1))) (.idx (.var 1) (.con (.int 1)))) .nil))))
def rs_sign_with_root : RS := (.seq (.asg 3 (.call 50 (.cons (.idx (.var 0) (.con (.int 0))) .nil))) (.seq (.asg 4 (.bin .mul (.call 50 (.cons (.idx (.var 1) (.con (.int 0))) .nil)) (.call 50 (.cons (.idx (.var 2) (.con (.int 0))) .nil)))) (.seq (.iff (.bl (.cmp .eq (.var 3) (.con (.int 0)))) (.ret (.var 4)) .skip) (.seq (.iff (.bl (.cmp .ge (.bin .mul (.var 3) (.var 4)) (.con (.int 0)))) (.ret (.var 3)) .skip) (.seq (.asg 5 (.call 51 (.cons (.call 51 (.cons (.var 1) (.cons (.var 1) .nil))) (.cons (.var 2) .nil)))) (.ret (.bin .mul (.var 3) (.call 50 (.cons (.idx (.call 65 (.cons (.call 51 (.cons (.var 0) (.cons (.var 0) .nil))) (.cons (.var 5) .nil))) (.con (.int 0))) .nil)))))))))
def rs_compare : RS := (.seq (.exp (.call 47 (.cons (.var 0) .nil))) (.seq (.exp (.call 47 (.cons (.var 1) .nil))) (.seq (.asgT (.many [2, 3, 4]) (.var 0)) (.seq (.asgT (.many [5, 6, 7]) (.var 1)) (.seq (.asg 8 (.call 65 (.cons (.var 2) (.cons (.var 5) .nil)))) (.seq (.asg 9 (.call 66 (.cons (.var 8) (.cons (.tup (.cons (.var 3) (.cons (.con (.int 1)) .nil))) (.cons (.var 4) .nil))))) (.seq (.iff (.bl (.cmp .ne (.var 9) (.var 6))) (.ret (.call 50 (.cons (.bin .sub (.var 9) (.var 6)) .nil))) .skip) (.seq (.asg 10 (.call 65 (.cons (.call 48 (.cons (.call 51 (.cons (.var 8) (.cons (.var 8) .nil))) (.cons (.var 4) .nil))) (.cons (.var 7) .nil)))) (.ret (.bin .mul (.var 6) (.call 66 (.cons (.var 10) (.cons (.call 51 (.cons (.tup (.cons (.bin .mul (.con (.int 2)) (.var 3)) (.cons (.con (.int 1)) .nil))) (.cons (.var 8) .nil))) (.cons (.var 4) .nil))))))))))))))
def rs_is_point : RS := (.seq (.iff (.or (.not (.val (.isi (.var 0) "tuple"))) (.bl (.cmp .ne (.bi .len (.cons (.var 0) .nil)) (.con (.int 3))))) (.ret (.con (.bool false))) .skip) (.seq (.asgT (.many [1, 2, 3]) (.var 0)) (.seq (.iff (.or (.not (.val (.call 10 (.cons (.var 1) .nil)))) (.or (.not (.val (.call 10 (.cons (.var 2) .nil)))) (.not (.val (.call 10 (.cons (.var 3) .nil)))))) (.ret (.con (.bool false))) .skip) (.ret (.andV (.cmp .gt (.var 3) (.con (.int 0))) (.cmp .eq (.bi .gcd3 (.cons (.var 1) (.cons (.var 2) (.cons (.var 3) .nil)))) (.con (.int 1))))))))
def rs_is_jet : RS := (.seq (.iff (.or (.not (.val (.isi (.var 0) "tuple"))) (.bl (.cmp .ne (.bi .len (.cons (.var 0) .nil)) (.con (.int 2))))) (.ret (.con (.bool false))) .skip) (.seq (.asgT (.many [1, 2]) (.var 0)) (.ret (.andV (.call 11 (.cons (.var 1) .nil)) (.andV (.call 11 (.cons (.var 2) .nil)) (.cmp .gt (.idx (.var 2) (.con (.int 0))) (.con (.int 0))))))))
def rs_value_at : RS := (.seq (.asgT (.many [2, 3, 4]) (.var 0)) (.ret (.call 48 (.cons (.var 2) (.cons (.call 51 (.cons (.var 1) (.cons (.call 48 (.cons (.var 3) (.cons (.call 51 (.cons (.var 4) (.cons (.var 1) .nil))) .nil))) .nil))) .nil)))))
def rs_negative : RS := (.ret (.tup (.cons (.neg (.idx (.var 0) (.con (.int 0)))) (.cons (.idx (.var 0) (.con (.int 1))) .nil))))
def rs_quotient : RS := (.seq (.par [2, 3] (.cons (.bin .mul (.idx (.var 0) (.con (.int 0))) (.idx (.var 1) (.con (.int 1)))) (.cons (.bin .mul (.idx (.var 0) (.con (.int 1))) (.idx (.var 1) (.con (.int 0)))) .nil))) (.ret (.ite (.bl (.cmp .gt (.var 3) (.con (.int 0)))) (.call 33 (.cons (.var 2) (.cons (.var 3) .nil))) (.call 33 (.cons (.neg (.var 2)) (.cons (.neg (.var 3)) .nil))))))
def rs_as_surd : RS := (.ret (.tup (.cons (.var 0) (.cons (.con (.int 0)) (.cons (.con (.tuple [(.int 0), (.int 1)])) .nil)))))
def rs_zeros : RS := (.seq (.asgT (.many [1, 2, 3]) (.var 0)) (.seq (.iff (.bl (.cmp .eq (.var 3) (.con (.tuple [(.int 0), (.int 1)])))) (.ret (.ite (.bl (.cmp .eq (.var 2) (.con (.tuple [(.int 0), (.int 1)])))) (.lst .nil) (.lst (.cons (.call 94 (.cons (.call 82 (.cons (.call 76 (.cons (.var 1) .nil)) (.cons (.var 2) .nil))) .nil)) .nil)))) .skip) (.seq (.asg 4 (.call 65 (.cons (.call 51 (.cons (.var 2) (.cons (.var 2) .nil))) (.cons (.call 51 (.cons (.tup (.cons (.con (.int 4)) (.cons (.con (.int 1)) .nil))) (.cons (.call 51 (.cons (.var 3) (.cons (.var 1) .nil))) .nil))) .nil)))) (.seq (.iff (.bl (.cmp .lt (.idx (.var 4) (.con (.int 0))) (.con (.int 0)))) (.ret (.lst .nil)) .skip) (.seq (.asg 5 (.call 82 (.cons (.call 76 (.cons (.var 2) .nil)) (.cons (.call 51 (.cons (.tup (.cons (.con (.int 2)) (.cons (.con (.int 1)) .nil))) (.cons (.var 3) .nil))) .nil)))) (.seq (.iff (.bl (.cmp .eq (.var 4) (.con (.tuple [(.int 0), (.int 1)])))) (.ret (.lst (.cons (.call 94 (.cons (.var 5) .nil)) .nil))) .skip) (.seq (.asg 6 (.call 82 (.cons (.tup (.cons (.call 50 (.cons (.idx (.var 3) (.con (.int 0))) .nil)) (.cons (.con (.int 1)) .nil))) (.cons (.call 51 (.cons (.tup (.cons (.con (.int 2)) (.cons (.con (.int 1)) .nil))) (.cons (.var 3) .nil))) .nil)))) (.ret (.lst (.cons (.call 52 (.cons (.var 5) (.cons (.call 76 (.cons (.var 6) .nil)) (.cons (.var 4) .nil)))) (.cons (.call 52 (.cons (.var 5) (.cons (.var 6) (.cons (.var 4) .nil)))) .nil)))))))))))
def rs_surd_sign : RS := (.seq (.asgT (.many [1, 2, 3]) (.var 0)) (.ret (.call 66 (.cons (.var 1) (.cons (.tup (.cons (.var 2) (.cons (.con (.int 1)) .nil))) (.cons (.var 3) .nil))))))
def rs_Lright : RS := (.seq (.asg 1 (.call 238 (.cons (.var 0) .nil))) (.seq (.asg 2 (.idx (.call 230 (.cons (.idx (.var 1) (.con (.int 0))) .nil)) (.con (.int 0)))) (.seq (.asg 3 (.call 1 (.cons (.var 0) (.cons (.lst (.cons (.call 236 (.cons (.var 0) (.cons (.var 1) .nil))) (.cons (.var 2) (.cons (.call 59 (.cons (.var 2) (.cons (.call 2 (.cons (.var 0) .nil)) .nil))) (.cons (.call 223 (.cons (.var 2) (.cons (.call 2 (.cons (.var 0) .nil)) .nil))) .nil))))) .nil)))) (.seq (.asg 4 (.call 244 (.cons (.var 1) (.cons (.var 3) (.cons (.bin .sub (.con (.int 1)) (.bin .mul (.con (.int 2)) (.call 0 (.cons (.var 0) (.cons (.con (.int 2)) .nil))))) .nil))))) (.seq (.par [5, 6] (.cons (.lst (.cons (.call 263 (.cons (.var 1) (.cons (.var 4) .nil))) (.cons (.callK 263 0 2 [0, 1] .nil (.cons (.var 4) (.cons (.var 1) .nil))) .nil))) (.cons (.bin .mul (.call 93 (.cons (.var 3) (.cons (.var 2) .nil))) (.idx (.var 1) (.con (.int 1)))) .nil))) (.seq (.iff (.bl (.cmp .eq (.idx (.var 4) (.con (.int 1))) (.idx (.var 1) (.con (.int 1))))) (.seq (.asg 7 (.call 267 (.cons (.var 1) (.cons (.var 4) .nil)))) (.ret (.andV (.cmp .eq (.bi .repr (.cons (.var 5) .nil)) (.con (.str (Str.ofString "[None, None]")))) (.andV (.cmp .eq (.bi .repr (.cons (.var 7) .nil)) (.bi .repr (.cons (.cmp .eq (.var 6) (.con (.int 0))) .nil))) (.orV (.cmp .ne (.var 6) (.con (.int 0))) (.cmp .eq (.var 1) (.var 4))))))) .skip) (.seq (.iff (.bl (.cmp .gt (.var 6) (.con (.int 0)))) (.seq (.asg 8 (.call 224 (.cons (.tup (.cons (.con (.int 1)) (.cons (.con (.int 2)) .nil))) (.cons (.call 223 (.cons (.var 2) (.cons (.var 3) .nil))) .nil)))) (.seq (.iff (.or (.bl (.cmp .ne (.bi .repr (.cons (.call 272 (.cons (.var 1) (.cons (.var 8) .nil))) .nil)) (.bi .repr (.cons (.call 272 (.cons (.var 4) (.cons (.var 8) .nil))) .nil)))) (.bl (.isN (.call 272 (.cons (.var 1) (.cons (.var 8) .nil)))))) (.ret (.con (.bool false))) .skip) (.ret (.andV (.cmp .eq (.bi .repr (.cons (.var 5) .nil)) (.con (.str (Str.ofString "[None, None]")))) (.cmp .iss (.call 267 (.cons (.var 1) (.cons (.var 4) .nil))) (.con (.bool true))))))) .skip) (.seq (.iff (.bl (.cmp .lt (.var 6) (.con (.int 0)))) (.ret (.andV (.cmp .eq (.bi .repr (.cons (.var 5) .nil)) (.con (.str (Str.ofString "[(), ()]")))) (.cmp .iss (.call 267 (.cons (.var 1) (.cons (.var 4) .nil))) (.con (.bool false))))) .skip) (.seq (.asg 9 (.call 230 (.cons (.idx (.var 1) (.con (.int 0))) .nil))) (.seq (.asg 10 (.tup (.cons (.tup (.cons (.tup (.cons (.idx (.var 9) (.con (.int 0))) (.cons (.con (.int 0)) (.cons (.tup (.cons (.con (.int 0)) (.cons (.con (.int 1)) .nil))) .nil)))) (.cons (.tup (.cons (.idx (.var 9) (.con (.int 1))) (.cons (.con (.int 0)) (.cons (.tup (.cons (.con (.int 0)) (.cons (.con (.int 1)) .nil))) .nil)))) .nil))) .nil))) (.seq (.iff (.bl (.cmp .ne (.bi .repr (.cons (.var 5) .nil)) (.bi .repr (.cons (.lst (.cons (.var 10) (.cons (.var 10) .nil))) .nil)))) (.ret (.con (.bool false))) .skip) (.ret (.andV (.cmp .eq (.call 264 (.cons (.var 1) (.cons (.var 4) (.cons (.con (.int 0)) .nil)))) (.con (.str (Str.ofString "both")))) (.cmp .iss (.call 267 (.cons (.var 4) (.cons (.var 1) .nil))) (.con (.bool true))))))))))))))))
def rs_Mlaw : RS := (.ret (.bi .all (.cons (.lc [1] (.one 1) (.rng (.call 235 (.cons (.var 0) (.cons (.con (.int 2)) (.cons (.con (.int 5)) .nil))))) .yes (.call 36 (.cons (.call 196 (.cons (.var 0) (.cons (.var 1) .nil))) .nil))) .nil)))
/-! ### what the helpers promise -/
def sp_Ldraw : PSp := fun ds Q => ∃ m, ds = [.vat, I m] ∧ 0 < m ∧ m < 1073741824 ∧ ∀ r, 0 ≤ r → r < m → Q (I r)
def sp_Lright : PSp := fun ds Q => ds = [.vat] ∧ Q (B true)
def sp_law : PSp := fun ds Q => ∃ ns, ds = [.scr ns] ∧ Q (B true)
theorem law_true (ns : List Int) (_h : ns.length ≤ 63) : sp_law [.scr ns] fun r => r = .d (.bool true) := ⟨ns, rfl, rfl⟩
/-! as equations -/
section
variable {Q : DV → Prop} {x y : Rat}
end
section
variable {Φ : Nat → PSp}
theorem atI_mem {α : Type} {xs : List α} {i : Int} (h0 : 0 ≤ i) (h1 : i < (xs.length : Int)) : ∃ x, atI xs i = some x ∧ x ∈ xs := by
  have hl : i.toNat < xs.length := by omega
  refine ⟨xs[i.toNat], ?_, List.getElem_mem hl⟩
  have := atI_nat (xs := xs) (j := i.toNat) (v := xs[i.toNat]) (List.getElem?_eq_getElem hl)
  rw [Int.toNat_of_nonneg h0] at this
  exact this
theorem g2_step {a b : Int} (h : 0 < b) (ha : 0 ≤ a) : g2 b (a % b) = g2 a b := by
  unfold g2
  congr 1
  have : (a % b).natAbs = a.natAbs % b.natAbs := by
    have := Int.natAbs_emod_of_nonneg (b := b) ha
    exact this
  rw [this, Nat.gcd_comm b.natAbs, ← Nat.gcd_rec, Nat.gcd_comm]
end
section
variable {Φ : Nat → PSp}
theorem g2_abs (a b : Int) : g2 (g2 0 a) b = g2 a b := by
  unfold g2
  simp
theorem g3_abs (a b c : Int) : g2 (g2 a b) c = g3 a b c := by
  unfold g2 g3
  simp
end
theorem cm3 {a b : Int} (h : Sz 3000 a) (e : Sz 3000 b) : CMul a b ∨ CMulW a b := cmul h e (by decide) (by decide) (by decide)
theorem ratNe {b : Int} (h : b ≠ 0) : (b : Rat) ≠ 0 := by exact_mod_cast h
theorem ratD {a b : Int} (h : b ≠ 0) : (a : Rat) = ((a : Rat) / (b : Rat)) * (b : Rat) := (Rat.div_mul_cancel (ratNe h)).symm
theorem F_fr {a b : Int} (h : b ≠ 0) : (.tuple [.int (fr a b).1, .int (fr a b).2] : PyData) = F ((a : Rat) / (b : Rat)) := by
  unfold fr
  split
  · rename_i hp
    exact F_rd hp (ratD h)
  · refine F_rd (by omega) ?_
    rw [Int.zero_sub, Int.zero_sub, Rat.intCast_neg, Rat.intCast_neg]
    have := ratD (a := a) h
    grind
section
variable {Φ : Nat → PSp}
theorem div_pos {a b : Rat} (h : 0 < a) (e : 0 < b) : 0 < a / b := by
  rw [Rat.div_def]
  exact Rat.mul_pos h (Rat.inv_pos.mpr e)
theorem ddne (x y : Rat) : (x.den : Int) * (y.den : Int) ≠ 0 := Int.ne_of_gt (dd_pos x y)
theorem divE' {a b : Int} {q : Rat} (hb : b ≠ 0) (h : (a : Rat) = q * (b : Rat)) : (a : Rat) / (b : Rat) = q := by
  rw [h]
  exact Rat.mul_div_cancel (ratNe hb)
theorem divE {a b : Int} {q : Rat} (hb : 0 < b) (h : (a : Rat) = q * (b : Rat)) : (a : Rat) / (b : Rat) = q := divE' (by omega) h
theorem dn_ne (x : Rat) {y : Rat} (h : y ≠ 0) : (x.den : Int) * y.num ≠ 0 := by
  have h1 := den_pos x
  have h2 : y.num ≠ 0 := fun z => h (Rat.num_eq_zero.mp z)
  exact Int.mul_ne_zero (by omega) h2
theorem F_neg {x : Rat} : (PyData.tuple [.int (0 - x.num), .int (x.den : Int)]) = F (-x) := by unfold F; rw [Rat.neg_num, Rat.neg_den, Int.zero_sub]
theorem F_neg' {x : Rat} : (PyData.tuple [.int (-x.num), .int (x.den : Int)]) = F (-x) := by unfold F; rw [Rat.neg_num, Rat.neg_den]
end
/-! ### jets' numbers -/
def hgt (s b d : Rat) : Rat := s * d - b * (d * d)
def slp (s b d : Rat) : Rat := s - 2 * (b * d)
def hed (s b : Rat) : Rat := (1 + s * s) / (4 * b)
theorem zl0 : Zf 4 0 := ⟨by unfold Sz; decide, by unfold Sz; decide⟩
theorem zl1 : Zf 4 1 := ⟨by unfold Sz; decide, by unfold Sz; decide⟩
theorem zl2 : Zf 4 2 := ⟨by unfold Sz; decide, by unfold Sz; decide⟩
theorem zl3 : Zf 4 3 := ⟨by unfold Sz; decide, by unfold Sz; decide⟩
theorem zl4 : Zf 4 4 := ⟨by unfold Sz; decide, by unfold Sz; decide⟩
theorem zl5 : Zf 4 5 := ⟨by unfold Sz; decide, by unfold Sz; decide⟩
theorem zl7 : Zf 4 7 := ⟨by unfold Sz; decide, by unfold Sz; decide⟩
theorem zf_hgt {i j k : Nat} {s b d : Rat} (h1 : Zf i s) (h2 : Zf j b) (h3 : Zf k d) : Zf (i + k + (j + (k + k)) + 1) (hgt s b d) := (h1.mul h3).sub (h2.mul (h3.mul h3))
theorem zf_slp {i j k : Nat} {s b d : Rat} (h1 : Zf i s) (h2 : Zf j b) (h3 : Zf k d) : Zf (i + (4 + (j + k)) + 1) (slp s b d) := h1.sub (zl2.mul (h2.mul h3))
theorem zf_hed {i j : Nat} {s b : Rat} (h1 : Zf i s) (h2 : Zf j b) : Zf (4 + (i + i) + 1 + (4 + j)) (hed s b) := (zl1.add (h1.mul h1)).div (zl4.mul h2) (by omega)
theorem qF {Q : DV → Prop} {x y : Rat} (e : x = y) (h : Q (.d (F x))) : Q (.d (F y)) := e ▸ h
theorem J_eq {s b s' b' : Rat} : (J s b = J s' b') = (s = s' ∧ b = b') := propext ⟨J_inj, fun h => by rw [h.1, h.2]⟩
theorem P3_eq {s b s' b' : Rat} : (P3 s b = P3 s' b') = (s = s' ∧ b = b') := propext ⟨P3_inj, fun h => by rw [h.1, h.2]⟩
theorem T_eq {a b c a' b' c' : Rat} : (PyData.tuple [F a, F b, F c] = PyData.tuple [F a', F b', F c']) = (a = a' ∧ b = b' ∧ c = c') := by
  simp only [PyData.tuple.injEq, List.cons.injEq, and_true, F_eq]
theorem lit_0 : (PyData.tuple [.int 0, .int 1]) = F 0 := rfl
theorem lit_2 : (PyData.tuple [.int 2, .int 1]) = F 2 := rfl
theorem lit_4 : (PyData.tuple [.int 4, .int 1]) = F 4 := rfl
theorem lit_of {a b : Int} (hb : 0 < b) (h : g2 a b = 1) : (PyData.tuple [.int a, .int b]) = F ((a : Rat) / (b : Rat)) := F_of hb h
theorem lit_12 : (PyData.tuple [.int 1, .int 2]) = F (1 / 2) := by rw [lit_of (by decide) (by decide)]; rfl
theorem lit_m2 : (PyData.tuple [.int (-2), .int 1]) = F (-2) := rfl
/-! is it one -/
def isW : PyData → Bool
  | .int _ => true
  | _ => false
def isF : PyData → Bool
  | .tuple [.int a, .int b] => decide (0 < b) && decide (g2 a b = 1)
  | _ => false
def isP : PyData → Bool
  | .tuple [.int a, .int b, .int c] => decide (0 < c) && decide (g3 a b c = 1)
  | _ => false
def isPl : PyData → Bool
  | .tuple [.int a, .int b, .int c] => decide (0 < c) && decide (g3 a b c = 1) && decide (0 < a)
  | _ => false
def topPos : PyData → Bool
  | .tuple (.int n :: _) => decide (0 < n)
  | _ => false
def isJ : PyData → Bool
  | .tuple [s, b] => isF s && (isF b && topPos b)
  | _ => false
theorem isF_F (q : Rat) : isF (F q) = true := by
  unfold F isF
  simp [q.den_pos, g2_rat q]
theorem isP_P (x y : Rat) : isP (P3 x y) = true := by
  unfold P3 isP
  simp [pt_pos x y, pt_cop x y]
theorem isPl_P (x y : Rat) : isPl (P3 x y) = decide (0 < x) := by
  unfold P3 isPl
  simp [pt_pos x y, pt_cop x y, pt_x0]
theorem topPos_F (q : Rat) : topPos (F q) = decide (0 < q) := by
  unfold F topPos
  simp [num_pos]
theorem isJ_J (s b : Rat) : isJ (J s b) = decide (0 < b) := by
  show (isF (F s) && (isF (F b) && topPos (F b))) = _
  rw [isF_F, isF_F, topPos_F]
  simp
theorem isF_ex {x : PyData} (h : isF x = true) : ∃ q, x = F q := by
  unfold isF at h
  split at h
  · simp only [Bool.and_eq_true, decide_eq_true_eq] at h
    exact ⟨_, F_of h.1 h.2⟩
  · cases h
local macro_rules | `(tactic| walk_at "szc") => `(tactic| first
  | assumption
  | exact zl0 | exact zl1 | exact zl2 | exact zl3 | exact zl4 | exact zl5 | exact zl7
  | exact Zf.add (by walk_at "szc") (by walk_at "szc")
  | exact Zf.sub (by walk_at "szc") (by walk_at "szc")
  | exact Zf.mul (by walk_at "szc") (by walk_at "szc")
  | exact Zf.neg (by walk_at "szc")
  | exact Zf.div (by walk_at "szc") (by walk_at "szc") (by decide)
  | exact zf_hgt (by walk_at "szc") (by walk_at "szc") (by walk_at "szc")
  | exact zf_slp (by walk_at "szc") (by walk_at "szc") (by walk_at "szc")
  | exact zf_hed (by walk_at "szc") (by walk_at "szc"))
local macro_rules | `(tactic| walk_at "sz") => `(tactic| first
  | exact Zf.mono (by walk_at "szc") (by decide)
  | exact Zp.mono (Zf.pt (by walk_at "szc") (by walk_at "szc")) (by decide))
local macro_rules | `(tactic| walk_at "fin") => `(tactic| first
  | assumption
  | (refine And.intro ?_ ?_ <;> walk_at "fin")
  | walk_at "sz"
  | (refine qF ?_ (by assumption); grind [hgt, slp, hed])
  | skip)
def sp_is_whole : PSp := fun ds Q => ∃ x, ds = [.d x] ∧ Q (.d (.bool (isW x)))
theorem ap_is_whole {Q : DV → Prop} {x : PyData} : sp_is_whole [DV.d x] Q = (Q (DV.d (.bool (isW x)))) := propext ⟨fun ⟨_, e, r⟩ => by
  simp only [List.cons.injEq, DV.d.injEq, and_true, true_and, F_eq, J_eq, P3_eq, T_eq, PyData.int.injEq, PyData.str.injEq, PyData.list.injEq, PyData.tuple.injEq] at e
  obtain rfl := e
  exact r, fun r => ⟨_, rfl, r⟩⟩
def sp_is_fraction : PSp := fun ds Q => ∃ x, ds = [.d x] ∧ Q (.d (.bool (isF x)))
theorem ap_is_fraction {Q : DV → Prop} {x : PyData} : sp_is_fraction [DV.d x] Q = (Q (DV.d (.bool (isF x)))) := propext ⟨fun ⟨_, e, r⟩ => by
  simp only [List.cons.injEq, DV.d.injEq, and_true, true_and, F_eq, J_eq, P3_eq, T_eq, PyData.int.injEq, PyData.str.injEq, PyData.list.injEq, PyData.tuple.injEq] at e
  obtain rfl := e
  exact r, fun r => ⟨_, rfl, r⟩⟩
def sp_is_point : PSp := fun ds Q => ∃ x, ds = [.d x] ∧ Q (.d (.bool (isP x)))
theorem ap_is_point {Q : DV → Prop} {x : PyData} : sp_is_point [DV.d x] Q = (Q (DV.d (.bool (isP x)))) := propext ⟨fun ⟨_, e, r⟩ => by
  simp only [List.cons.injEq, DV.d.injEq, and_true, true_and, F_eq, J_eq, P3_eq, T_eq, PyData.int.injEq, PyData.str.injEq, PyData.list.injEq, PyData.tuple.injEq] at e
  obtain rfl := e
  exact r, fun r => ⟨_, rfl, r⟩⟩
def sp_is_jet : PSp := fun ds Q => ∃ x, ds = [.d x] ∧ Q (.d (.bool (isJ x)))
theorem ap_is_jet {Q : DV → Prop} {x : PyData} : sp_is_jet [DV.d x] Q = (Q (DV.d (.bool (isJ x)))) := propext ⟨fun ⟨_, e, r⟩ => by
  simp only [List.cons.injEq, DV.d.injEq, and_true, true_and, F_eq, J_eq, P3_eq, T_eq, PyData.int.injEq, PyData.str.injEq, PyData.list.injEq, PyData.tuple.injEq] at e
  obtain rfl := e
  exact r, fun r => ⟨_, rfl, r⟩⟩
def sp_check_fraction : PSp := fun ds Q => ∃ x, ds = [.d x] ∧ isF x = true ∧ Q (.d (.none))
theorem ap_check_fraction {Q : DV → Prop} {x : PyData} : sp_check_fraction [DV.d x] Q = (isF x = true ∧ Q (DV.d (.none))) := propext ⟨fun ⟨_, e, r⟩ => by
  simp only [List.cons.injEq, DV.d.injEq, and_true, true_and, F_eq, J_eq, P3_eq, T_eq, PyData.int.injEq, PyData.str.injEq, PyData.list.injEq, PyData.tuple.injEq] at e
  obtain rfl := e
  exact r, fun r => ⟨_, rfl, r⟩⟩
def sp_plus : PSp := fun ds Q => ∃ x y, ds = [.d (F x), .d (F y)] ∧ Zf 3000 x ∧ Zf 3000 y ∧ Q (.d (F (x + y)))
theorem ap_plus {Q : DV → Prop} {x : Rat} {y : Rat} : sp_plus [DV.d (F x), DV.d (F y)] Q = (Zf 3000 x ∧ Zf 3000 y ∧ Q (DV.d (F (x + y)))) := propext ⟨fun ⟨_, _, e, r⟩ => by
  simp only [List.cons.injEq, DV.d.injEq, and_true, true_and, F_eq, J_eq, P3_eq, T_eq, PyData.int.injEq, PyData.str.injEq, PyData.list.injEq, PyData.tuple.injEq] at e
  obtain ⟨rfl, rfl⟩ := e
  exact r, fun r => ⟨_, _, rfl, r⟩⟩
def sp_pminus : PSp := fun ds Q => ∃ x y, ds = [.d (F x), .d (F y)] ∧ Zf 3000 x ∧ Zf 3000 y ∧ Q (.d (F (x - y)))
theorem ap_pminus {Q : DV → Prop} {x : Rat} {y : Rat} : sp_pminus [DV.d (F x), DV.d (F y)] Q = (Zf 3000 x ∧ Zf 3000 y ∧ Q (DV.d (F (x - y)))) := propext ⟨fun ⟨_, _, e, r⟩ => by
  simp only [List.cons.injEq, DV.d.injEq, and_true, true_and, F_eq, J_eq, P3_eq, T_eq, PyData.int.injEq, PyData.str.injEq, PyData.list.injEq, PyData.tuple.injEq] at e
  obtain ⟨rfl, rfl⟩ := e
  exact r, fun r => ⟨_, _, rfl, r⟩⟩
def sp_times : PSp := fun ds Q => ∃ x y, ds = [.d (F x), .d (F y)] ∧ Zf 3000 x ∧ Zf 3000 y ∧ Q (.d (F (x * y)))
theorem ap_times {Q : DV → Prop} {x : Rat} {y : Rat} : sp_times [DV.d (F x), DV.d (F y)] Q = (Zf 3000 x ∧ Zf 3000 y ∧ Q (DV.d (F (x * y)))) := propext ⟨fun ⟨_, _, e, r⟩ => by
  simp only [List.cons.injEq, DV.d.injEq, and_true, true_and, F_eq, J_eq, P3_eq, T_eq, PyData.int.injEq, PyData.str.injEq, PyData.list.injEq, PyData.tuple.injEq] at e
  obtain ⟨rfl, rfl⟩ := e
  exact r, fun r => ⟨_, _, rfl, r⟩⟩
def sp_quotient : PSp := fun ds Q => ∃ x y, ds = [.d (F x), .d (F y)] ∧ y ≠ 0 ∧ Zf 3000 x ∧ Zf 3000 y ∧ Q (.d (F (x / y)))
theorem ap_quotient {Q : DV → Prop} {x : Rat} {y : Rat} : sp_quotient [DV.d (F x), DV.d (F y)] Q = (y ≠ 0 ∧ Zf 3000 x ∧ Zf 3000 y ∧ Q (DV.d (F (x / y)))) := propext ⟨fun ⟨_, _, e, r⟩ => by
  simp only [List.cons.injEq, DV.d.injEq, and_true, true_and, F_eq, J_eq, P3_eq, T_eq, PyData.int.injEq, PyData.str.injEq, PyData.list.injEq, PyData.tuple.injEq] at e
  obtain ⟨rfl, rfl⟩ := e
  exact r, fun r => ⟨_, _, rfl, r⟩⟩
def sp_negative : PSp := fun ds Q => ∃ x, ds = [.d (F x)] ∧ Q (.d (F (-x)))
theorem ap_negative {Q : DV → Prop} {x : Rat} : sp_negative [DV.d (F x)] Q = (Q (DV.d (F (-x)))) := propext ⟨fun ⟨_, e, r⟩ => by
  simp only [List.cons.injEq, DV.d.injEq, and_true, true_and, F_eq, J_eq, P3_eq, T_eq, PyData.int.injEq, PyData.str.injEq, PyData.list.injEq, PyData.tuple.injEq] at e
  obtain rfl := e
  exact r, fun r => ⟨_, rfl, r⟩⟩
def sp_value_at : PSp := fun ds Q => ∃ a b c x, ds = [.d (.tuple [F a, F b, F c]), .d (F x)] ∧ Zf 1500 a ∧ Zf 900 b ∧ Zf 700 c ∧ Zf 690 x ∧ Q (.d (F (a + x * (b + c * x))))
theorem ap_value_at {Q : DV → Prop} {a : Rat} {b : Rat} {c : Rat} {x : Rat} : sp_value_at [DV.d (.tuple [F a, F b, F c]), DV.d (F x)] Q = (Zf 1500 a ∧ Zf 900 b ∧ Zf 700 c ∧ Zf 690 x ∧ Q (DV.d (F (a + x * (b + c * x))))) := propext ⟨fun ⟨_, _, _, _, e, r⟩ => by
  simp only [List.cons.injEq, DV.d.injEq, and_true, true_and, F_eq, J_eq, P3_eq, T_eq, PyData.int.injEq, PyData.str.injEq, PyData.list.injEq, PyData.tuple.injEq] at e
  obtain ⟨⟨rfl, rfl, rfl⟩, rfl⟩ := e
  exact r, fun r => ⟨_, _, _, _, rfl, r⟩⟩
def sp_reduced : PSp := fun ds Q => ∃ a b, ds = [.d (.int a), .d (.int b)] ∧ 0 < b ∧ Sz 8000 b ∧ Q (.d (.tuple [.int (rd a b).1, .int (rd a b).2]))
theorem ap_reduced {Q : DV → Prop} {a b : Int} : sp_reduced [DV.d (.int a), DV.d (.int b)] Q = (0 < b ∧ Sz 8000 b ∧ Q (.d (.tuple [.int (rd a b).1, .int (rd a b).2]))) := propext ⟨fun ⟨_, _, e, r⟩ => by
  simp only [List.cons.injEq, DV.d.injEq, and_true, PyData.int.injEq] at e
  obtain ⟨rfl, rfl⟩ := e
  exact r, fun r => ⟨_, _, rfl, r⟩⟩
section
variable {Φ : Nat → PSp}
theorem sem_reduced : ∀ ds Q, sp_reduced ds Q → wS Φ rs_reduced { nx := fun _ => Q (.d .none), rt := Q } (startD ["a", "b", "c"] ds) := by
  rintro ds Q ⟨a, b, rfl, h1, h2, hq⟩
  show wS Φ rs_reduced _ [some (.val (I a)), some (.val (I b)), none]
  simp only [rs_reduced, wS, wE, wA, wT, wI, wO, wTg, wIdx, wSlc, wBin, wCmp, wBi, wIsi, tyD, dbool, dint, setVals, setAll, datas, itemsD, truD, List.getElem?_cons_zero, List.getElem?_cons_succ, List.set_cons_zero, List.set_cons_succ, Option.map_some, Option.map_none]
  have hp : 0 < g2 a b := g2_pos (Int.ne_of_gt h1)
  have hs : Sz 8000 (g2 a b) := h2.le (g2_le (Int.ne_of_gt h1))
  exact ⟨cdiv hp hs (by decide) (by decide), cdiv hp hs (by decide) (by decide), _, rfl, by simp [mx], hq⟩
end
section
variable {Φ : Nat → PSp}
theorem sem_is_whole : ∀ ds Q, sp_is_whole ds Q → wS Φ rs_is_whole { nx := fun _ => Q (.d .none), rt := Q } (startD ["x0"] ds) := by
  rintro ds Q ⟨x, rfl, hq⟩
  show wS Φ rs_is_whole _ [some (.val (.d x))]
  cases x
  all_goals
    simp only [rs_is_whole, wS, wE, wA, wT, wI, wO, wTg, wIdx, wSlc, wBin, wCmp, wBi, wIsi, tyD, dbool, dint, setVals, setAll, datas, itemsD, truD, List.getElem?_cons_zero, List.getElem?_cons_succ, List.set_cons_zero, List.set_cons_succ, Option.map_some, Option.map_none, kitB]
    first
      | exact ⟨_, rfl, ⟨_, rfl, hq⟩⟩
      | exact ⟨_, rfl, hq⟩
theorem isF_len {xs : List PyData} (h : xs.length ≠ 2) : isF (.tuple xs) = false := by
  unfold isF
  split
  · rename_i he
    cases he
    exact absurd rfl h
  · rfl
theorem isP_len {xs : List PyData} (h : xs.length ≠ 3) : isP (.tuple xs) = false := by
  unfold isP
  split
  · rename_i he
    cases he
    exact absurd rfl h
  · rfl
theorem isJ_len {xs : List PyData} (h : xs.length ≠ 2) : isJ (.tuple xs) = false := by
  unfold isJ
  split
  · rename_i he
    cases he
    exact absurd rfl h
  · rfl
theorem sem_is_fraction (e_is_whole : Φ 10 = sp_is_whole) : ∀ ds Q, sp_is_fraction ds Q → wS Φ rs_is_fraction { nx := fun _ => Q (.d .none), rt := Q } (startD ["x0", "x1", "x2"] ds) := by
  rintro ds Q ⟨x, rfl, hq⟩
  show wS Φ rs_is_fraction _ [some (.val (.d x)), none, none]
  cases x with
  | tuple xs =>
    rcases xs with _ | ⟨u, _ | ⟨l, _ | ⟨m, r⟩⟩⟩
    · simp only [rs_is_fraction, wS, wE, wA, wT, wI, wO, wTg, wIdx, wSlc, wBin, wCmp, wBi, wIsi, tyD, dbool, dint, setVals, setAll, datas, itemsD, truD, List.getElem?_cons_zero, List.getElem?_cons_succ, List.set_cons_zero, List.set_cons_succ, Option.map_some, Option.map_none, kitB, e_is_whole, ap_is_whole]
      refine ⟨_, rfl, _, rfl, _, rfl, ?_⟩
      rw [if_pos (by simp)]
      rw [isF_len (by simp)] at hq
      exact hq
    · simp only [rs_is_fraction, wS, wE, wA, wT, wI, wO, wTg, wIdx, wSlc, wBin, wCmp, wBi, wIsi, tyD, dbool, dint, setVals, setAll, datas, itemsD, truD, List.getElem?_cons_zero, List.getElem?_cons_succ, List.set_cons_zero, List.set_cons_succ, Option.map_some, Option.map_none, kitB, e_is_whole, ap_is_whole]
      refine ⟨_, rfl, _, rfl, _, rfl, ?_⟩
      rw [if_pos (by simp)]
      rw [isF_len (by simp)] at hq
      exact hq
    · simp only [rs_is_fraction, wS, wE, wA, wT, wI, wO, wTg, wIdx, wSlc, wBin, wCmp, wBi, wIsi, tyD, dbool, dint, setVals, setAll, datas, itemsD, truD, List.getElem?_cons_zero, List.getElem?_cons_succ, List.set_cons_zero, List.set_cons_succ, Option.map_some, Option.map_none, kitB, e_is_whole, ap_is_whole]
      refine ⟨_, rfl, _, rfl, _, rfl, rfl, ?_⟩
      cases u with
      | int z =>
        refine ⟨_, rfl, ?_⟩
        cases l with
        | int w =>
          refine ⟨_, rfl, ?_⟩
          simp only [isW, isF] at hq ⊢
          simp only [Bool.not_true, Bool.false_eq_true, if_false, wS, wE, wA, wT, wI, wO, wTg, wIdx, wSlc, wBin, wCmp, wBi, wIsi, tyD, dbool, dint, setVals, setAll, datas, itemsD, truD, List.getElem?_cons_zero, List.getElem?_cons_succ, List.set_cons_zero, List.set_cons_succ, Option.map_some, Option.map_none]
          by_cases h : 0 < w
          · simp only [h, decide_true, if_true, wS, wE, wA, wT, wI, wO, wTg, wIdx, wSlc, wBin, wCmp, wBi, wIsi, tyD, dbool, dint, setVals, setAll, datas, itemsD, truD, List.getElem?_cons_zero, List.getElem?_cons_succ, List.set_cons_zero, List.set_cons_succ, Option.map_some, Option.map_none, Bool.true_and] at hq ⊢
            exact hq
          · simp only [h, decide_false, if_false, wS, wE, wA, wT, wI, wO, wTg, wIdx, wSlc, wBin, wCmp, wBi, wIsi, tyD, dbool, dint, setVals, setAll, datas, itemsD, truD, List.getElem?_cons_zero, List.getElem?_cons_succ, List.set_cons_zero, List.set_cons_succ, Option.map_some, Option.map_none, Bool.false_and, Bool.false_eq_true] at hq ⊢
            exact hq
        | _ => exact ⟨_, rfl, hq⟩
      | _ => exact ⟨_, rfl, hq⟩
    · simp only [rs_is_fraction, wS, wE, wA, wT, wI, wO, wTg, wIdx, wSlc, wBin, wCmp, wBi, wIsi, tyD, dbool, dint, setVals, setAll, datas, itemsD, truD, List.getElem?_cons_zero, List.getElem?_cons_succ, List.set_cons_zero, List.set_cons_succ, Option.map_some, Option.map_none, kitB, e_is_whole, ap_is_whole]
      refine ⟨_, rfl, _, rfl, _, rfl, ?_⟩
      have : (!decide (((List.length (u :: l :: m :: r) : Nat) : Int) = 2)) = true := by
        simp only [List.length_cons, Bool.not_eq_true', decide_eq_false_iff_not]
        omega
      rw [if_pos this]
      rw [isF_len (by simp)] at hq
      exact hq
  | _ =>
    simp only [rs_is_fraction, wS, wE, wA, wT, wI, wO, wTg, wIdx, wSlc, wBin, wCmp, wBi, wIsi, tyD, dbool, dint, setVals, setAll, datas, itemsD, truD, List.getElem?_cons_zero, List.getElem?_cons_succ, List.set_cons_zero, List.set_cons_succ, Option.map_some, Option.map_none, kitB, e_is_whole, ap_is_whole]
    exact ⟨_, rfl, _, rfl, hq⟩
theorem sem_is_jet (e_is_fraction : Φ 11 = sp_is_fraction) : ∀ ds Q, sp_is_jet ds Q → wS Φ rs_is_jet { nx := fun _ => Q (.d .none), rt := Q } (startD ["x0", "x1", "x2"] ds) := by
  rintro ds Q ⟨x, rfl, hq⟩
  show wS Φ rs_is_jet _ [some (.val (.d x)), none, none]
  cases x with
  | tuple xs =>
    rcases xs with _ | ⟨u, _ | ⟨l, _ | ⟨m, r⟩⟩⟩
    · simp only [rs_is_jet, wS, wE, wA, wT, wI, wO, wTg, wIdx, wSlc, wBin, wCmp, wBi, wIsi, tyD, dbool, dint, setVals, setAll, datas, itemsD, truD, List.getElem?_cons_zero, List.getElem?_cons_succ, List.set_cons_zero, List.set_cons_succ, Option.map_some, Option.map_none, kitB, e_is_fraction, ap_is_fraction]
      refine ⟨_, rfl, _, rfl, _, rfl, ?_⟩
      rw [if_pos (by simp)]
      rw [isJ_len (by simp)] at hq
      exact hq
    · simp only [rs_is_jet, wS, wE, wA, wT, wI, wO, wTg, wIdx, wSlc, wBin, wCmp, wBi, wIsi, tyD, dbool, dint, setVals, setAll, datas, itemsD, truD, List.getElem?_cons_zero, List.getElem?_cons_succ, List.set_cons_zero, List.set_cons_succ, Option.map_some, Option.map_none, kitB, e_is_fraction, ap_is_fraction]
      refine ⟨_, rfl, _, rfl, _, rfl, ?_⟩
      rw [if_pos (by simp)]
      rw [isJ_len (by simp)] at hq
      exact hq
    · simp only [rs_is_jet, wS, wE, wA, wT, wI, wO, ev_add, ev_sub, ev_mul, ev_div, ev_mod, ev_pow, ev_cat, ev_lt, ev_le, ev_gt, ev_ge, ev_eq, ev_ne, ev_eqs, ev_nes, ix_F0, ix_F1, ix_J0, ix_J1, ix_P0, ix_P1, ix_P2, ix_t0, ix_t1, ix_t2, ix_l0, ix_l1, ix_l2, tg_1, tg_F, tg_J, tg_P, tg_2, tg_3, tg_4, fold_J, eq_F, ne_F, eq_J, ne_J, eq_P, ne_P, db_, di_, setVals, setAll, datas, itemsD, truD, List.getElem?_cons_zero, List.getElem?_cons_succ, List.set_cons_zero, List.set_cons_succ, Option.map_some, Option.map_none, Option.some.injEq, exists_eq_left', decide_eq_true_eq, Bool.not_true, Bool.not_false, Bool.false_eq_true, if_false, if_true, true_and, and_true, decide_true, decide_false, List.length_cons, List.length_nil, mx_0, mx_1, mx_2, mx_3, mx_4, mx_5, mx_6, mx_7, mx_8, mx_9, mx_10, mx_11, mx_12, mx_13, mx_14, mx_15, mx_16, mx_17, mx_18, mx_19, mx_20, mx_21, mx_22, mx_23, mx_24, Nat.reduceAdd, Nat.reduceLeDiff, Nat.zero_add, Bool.not_eq_true', decide_eq_false_iff_not, reduceIte, ev_reprb, isi_tuple, isT, ev_len, lenD, e_is_fraction, ap_is_fraction, Int.cast_ofNat_Int]
      rw [if_neg (by decide), if_neg (by decide)]
      have hJ : isJ (.tuple [u, l]) = (isF u && (isF l && topPos l)) := rfl
      rw [hJ] at hq
      by_cases h1 : isF u = true
      · rw [if_pos h1]
        rw [h1, Bool.true_and] at hq
        by_cases h2 : isF l = true
        · rw [if_pos h2]
          rw [h2, Bool.true_and] at hq
          obtain ⟨q, rfl⟩ := isF_ex h2
          rw [topPos_F] at hq
          rw [ix_F0]
          simp only [ev_gt, num_pos]
          exact hq
        · rw [if_neg h2]
          rw [Bool.not_eq_true] at h2
          rw [h2, Bool.false_and] at hq
          exact hq
      · rw [if_neg h1]
        rw [Bool.not_eq_true] at h1
        rw [h1, Bool.false_and] at hq
        exact hq
    · simp only [rs_is_jet, wS, wE, wA, wT, wI, wO, wTg, wIdx, wSlc, wBin, wCmp, wBi, wIsi, tyD, dbool, dint, setVals, setAll, datas, itemsD, truD, List.getElem?_cons_zero, List.getElem?_cons_succ, List.set_cons_zero, List.set_cons_succ, Option.map_some, Option.map_none, kitB, e_is_fraction, ap_is_fraction]
      refine ⟨_, rfl, _, rfl, _, rfl, ?_⟩
      have : (!decide (((List.length (u :: l :: m :: r) : Nat) : Int) = 2)) = true := by
        simp only [List.length_cons, Bool.not_eq_true', decide_eq_false_iff_not]
        omega
      rw [if_pos this]
      rw [isJ_len (by simp)] at hq
      exact hq
  | _ =>
    simp only [rs_is_jet, wS, wE, wA, wT, wI, wO, wTg, wIdx, wSlc, wBin, wCmp, wBi, wIsi, tyD, dbool, dint, setVals, setAll, datas, itemsD, truD, List.getElem?_cons_zero, List.getElem?_cons_succ, List.set_cons_zero, List.set_cons_succ, Option.map_some, Option.map_none, kitB, e_is_fraction, ap_is_fraction]
    exact ⟨_, rfl, _, rfl, hq⟩
theorem sem_is_point (e_is_whole : Φ 10 = sp_is_whole) : ∀ ds Q, sp_is_point ds Q → wS Φ rs_is_point { nx := fun _ => Q (.d .none), rt := Q } (startD ["x0", "x1", "x2", "x3"] ds) := by
  rintro ds Q ⟨x, rfl, hq⟩
  show wS Φ rs_is_point _ [some (.val (.d x)), none, none, none]
  cases x with
  | tuple xs =>
    rcases xs with _ | ⟨u, _ | ⟨l, _ | ⟨m, _ | ⟨n, r⟩⟩⟩⟩
    · simp only [rs_is_point, wS, wE, wA, wT, wI, wO, wTg, wIdx, wSlc, wBin, wCmp, wBi, wIsi, tyD, dbool, dint, setVals, setAll, datas, itemsD, truD, List.getElem?_cons_zero, List.getElem?_cons_succ, List.set_cons_zero, List.set_cons_succ, Option.map_some, Option.map_none, kitB, e_is_whole, ap_is_whole]
      refine ⟨_, rfl, _, rfl, _, rfl, ?_⟩
      rw [if_pos (by simp)]
      rw [isP_len (by simp)] at hq
      exact hq
    · simp only [rs_is_point, wS, wE, wA, wT, wI, wO, wTg, wIdx, wSlc, wBin, wCmp, wBi, wIsi, tyD, dbool, dint, setVals, setAll, datas, itemsD, truD, List.getElem?_cons_zero, List.getElem?_cons_succ, List.set_cons_zero, List.set_cons_succ, Option.map_some, Option.map_none, kitB, e_is_whole, ap_is_whole]
      refine ⟨_, rfl, _, rfl, _, rfl, ?_⟩
      rw [if_pos (by simp)]
      rw [isP_len (by simp)] at hq
      exact hq
    · simp only [rs_is_point, wS, wE, wA, wT, wI, wO, wTg, wIdx, wSlc, wBin, wCmp, wBi, wIsi, tyD, dbool, dint, setVals, setAll, datas, itemsD, truD, List.getElem?_cons_zero, List.getElem?_cons_succ, List.set_cons_zero, List.set_cons_succ, Option.map_some, Option.map_none, kitB, e_is_whole, ap_is_whole]
      refine ⟨_, rfl, _, rfl, _, rfl, ?_⟩
      rw [if_pos (by simp)]
      rw [isP_len (by simp)] at hq
      exact hq
    · simp only [rs_is_point, wS, wE, wA, wT, wI, wO, wTg, wIdx, wSlc, wBin, wCmp, wBi, wIsi, tyD, dbool, dint, setVals, setAll, datas, itemsD, truD, List.getElem?_cons_zero, List.getElem?_cons_succ, List.set_cons_zero, List.set_cons_succ, Option.map_some, Option.map_none, kitB, e_is_whole, ap_is_whole]
      refine ⟨_, rfl, _, rfl, _, rfl, rfl, ?_⟩
      cases u with
      | int z =>
        refine ⟨_, rfl, ?_⟩
        cases l with
        | int w =>
          refine ⟨_, rfl, ?_⟩
          cases m with
          | int v =>
            refine ⟨_, rfl, ?_⟩
            simp only [isW, isP] at hq ⊢
            simp only [Bool.not_true, Bool.false_eq_true, if_false, wS, wE, wA, wT, wI, wO, wTg, wIdx, wSlc, wBin, wCmp, wBi, wIsi, tyD, dbool, dint, setVals, setAll, datas, itemsD, truD, List.getElem?_cons_zero, List.getElem?_cons_succ, List.set_cons_zero, List.set_cons_succ, Option.map_some, Option.map_none]
            by_cases h : 0 < v
            · simp only [h, decide_true, if_true, wS, wE, wA, wT, wI, wO, wTg, wIdx, wSlc, wBin, wCmp, wBi, wIsi, tyD, dbool, dint, setVals, setAll, datas, itemsD, truD, List.getElem?_cons_zero, List.getElem?_cons_succ, List.set_cons_zero, List.set_cons_succ, Option.map_some, Option.map_none, Bool.true_and] at hq ⊢
              exact hq
            · simp only [h, decide_false, if_false, wS, wE, wA, wT, wI, wO, wTg, wIdx, wSlc, wBin, wCmp, wBi, wIsi, tyD, dbool, dint, setVals, setAll, datas, itemsD, truD, List.getElem?_cons_zero, List.getElem?_cons_succ, List.set_cons_zero, List.set_cons_succ, Option.map_some, Option.map_none, Bool.false_and, Bool.false_eq_true] at hq ⊢
              exact hq
          | _ => exact ⟨_, rfl, hq⟩
        | _ => exact ⟨_, rfl, hq⟩
      | _ => exact ⟨_, rfl, hq⟩
    · simp only [rs_is_point, wS, wE, wA, wT, wI, wO, wTg, wIdx, wSlc, wBin, wCmp, wBi, wIsi, tyD, dbool, dint, setVals, setAll, datas, itemsD, truD, List.getElem?_cons_zero, List.getElem?_cons_succ, List.set_cons_zero, List.set_cons_succ, Option.map_some, Option.map_none, kitB, e_is_whole, ap_is_whole]
      refine ⟨_, rfl, _, rfl, _, rfl, ?_⟩
      have : (!decide (((List.length (u :: l :: m :: n :: r) : Nat) : Int) = 3)) = true := by
        simp only [List.length_cons, Bool.not_eq_true', decide_eq_false_iff_not]
        omega
      rw [if_pos this]
      rw [isP_len (by simp)] at hq
      exact hq
  | _ =>
    simp only [rs_is_point, wS, wE, wA, wT, wI, wO, wTg, wIdx, wSlc, wBin, wCmp, wBi, wIsi, tyD, dbool, dint, setVals, setAll, datas, itemsD, truD, List.getElem?_cons_zero, List.getElem?_cons_succ, List.set_cons_zero, List.set_cons_succ, Option.map_some, Option.map_none, kitB, e_is_whole, ap_is_whole]
    exact ⟨_, rfl, _, rfl, hq⟩
theorem sem_check_fraction (e_is_fraction : Φ 11 = sp_is_fraction) : ∀ ds Q, sp_check_fraction ds Q → wS Φ rs_check_fraction { nx := fun _ => Q (.d .none), rt := Q } (startD ["x0"] ds) := by
  rintro ds Q ⟨x, rfl, h1, hq⟩
  show wS Φ rs_check_fraction _ [some (.val (.d x))]
  simp only [rs_check_fraction, wS, wE, wA, wT, wI, wO, ev_add, ev_sub, ev_mul, ev_div, ev_mod, ev_pow, ev_cat, ev_lt, ev_le, ev_gt, ev_ge, ev_eq, ev_ne, ev_eqs, ev_nes, ix_F0, ix_F1, ix_J0, ix_J1, ix_P0, ix_P1, ix_P2, ix_t0, ix_t1, ix_t2, ix_l0, ix_l1, ix_l2, tg_1, tg_F, tg_J, tg_P, tg_2, tg_3, tg_4, fold_J, eq_F, ne_F, eq_J, ne_J, eq_P, ne_P, db_, di_, setVals, setAll, datas, itemsD, truD, List.getElem?_cons_zero, List.getElem?_cons_succ, List.set_cons_zero, List.set_cons_succ, Option.map_some, Option.map_none, Option.some.injEq, exists_eq_left', decide_eq_true_eq, Bool.not_true, Bool.not_false, Bool.false_eq_true, if_false, if_true, true_and, and_true, decide_true, decide_false, List.length_cons, List.length_nil, mx_0, mx_1, mx_2, mx_3, mx_4, mx_5, mx_6, mx_7, mx_8, mx_9, mx_10, mx_11, mx_12, mx_13, mx_14, mx_15, mx_16, mx_17, mx_18, mx_19, mx_20, mx_21, mx_22, mx_23, mx_24, Nat.reduceAdd, Nat.reduceLeDiff, Nat.zero_add, Bool.not_eq_true', decide_eq_false_iff_not, reduceIte, ev_reprb, e_is_fraction, ap_is_fraction]
  rw [if_neg (by rw [h1]; decide)]
  exact hq
theorem sem_plus (e_reduced : Φ 33 = sp_reduced) : ∀ ds Q, sp_plus ds Q → wS Φ rs_plus { nx := fun _ => Q (.d .none), rt := Q } (startD ["x0", "x1"] ds) := by
  rintro ds Q ⟨x, y, rfl, h1, h2, hq⟩
  show wS Φ rs_plus _ [some (.val (.d (F x))), some (.val (.d (F y)))]
  simp only [rs_plus, wS, wE, wA, wT, wI, wO, ev_add, ev_sub, ev_mul, ev_div, ev_mod, ev_pow, ev_cat, ev_lt, ev_le, ev_gt, ev_ge, ev_eq, ev_ne, ev_eqs, ev_nes, ix_F0, ix_F1, ix_J0, ix_J1, ix_P0, ix_P1, ix_P2, ix_t0, ix_t1, ix_t2, ix_l0, ix_l1, ix_l2, tg_1, tg_F, tg_J, tg_P, tg_2, tg_3, tg_4, fold_J, eq_F, ne_F, eq_J, ne_J, eq_P, ne_P, db_, di_, setVals, setAll, datas, itemsD, truD, List.getElem?_cons_zero, List.getElem?_cons_succ, List.set_cons_zero, List.set_cons_succ, Option.map_some, Option.map_none, Option.some.injEq, exists_eq_left', decide_eq_true_eq, Bool.not_true, Bool.not_false, Bool.false_eq_true, if_false, if_true, true_and, and_true, decide_true, decide_false, List.length_cons, List.length_nil, mx_0, mx_1, mx_2, mx_3, mx_4, mx_5, mx_6, mx_7, mx_8, mx_9, mx_10, mx_11, mx_12, mx_13, mx_14, mx_15, mx_16, mx_17, mx_18, mx_19, mx_20, mx_21, mx_22, mx_23, mx_24, Nat.reduceAdd, Nat.reduceLeDiff, Nat.zero_add, Bool.not_eq_true', decide_eq_false_iff_not, reduceIte, ev_reprb, e_reduced, ap_reduced]
  rw [← F_rd (dd_pos x y) (addR x y)] at hq
  exact ⟨cm3 h1.n h2.d, cm3 h2.n h1.d, cm3 h1.d h2.d, dd_pos x y, (h1.d.mul h2.d).mono (by decide), hq⟩
theorem sem_pminus (e_reduced : Φ 33 = sp_reduced) : ∀ ds Q, sp_pminus ds Q → wS Φ rs_minus { nx := fun _ => Q (.d .none), rt := Q } (startD ["x0", "x1"] ds) := by
  rintro ds Q ⟨x, y, rfl, h1, h2, hq⟩
  show wS Φ rs_minus _ [some (.val (.d (F x))), some (.val (.d (F y)))]
  simp only [rs_minus, wS, wE, wA, wT, wI, wO, ev_add, ev_sub, ev_mul, ev_div, ev_mod, ev_pow, ev_cat, ev_lt, ev_le, ev_gt, ev_ge, ev_eq, ev_ne, ev_eqs, ev_nes, ix_F0, ix_F1, ix_J0, ix_J1, ix_P0, ix_P1, ix_P2, ix_t0, ix_t1, ix_t2, ix_l0, ix_l1, ix_l2, tg_1, tg_F, tg_J, tg_P, tg_2, tg_3, tg_4, fold_J, eq_F, ne_F, eq_J, ne_J, eq_P, ne_P, db_, di_, setVals, setAll, datas, itemsD, truD, List.getElem?_cons_zero, List.getElem?_cons_succ, List.set_cons_zero, List.set_cons_succ, Option.map_some, Option.map_none, Option.some.injEq, exists_eq_left', decide_eq_true_eq, Bool.not_true, Bool.not_false, Bool.false_eq_true, if_false, if_true, true_and, and_true, decide_true, decide_false, List.length_cons, List.length_nil, mx_0, mx_1, mx_2, mx_3, mx_4, mx_5, mx_6, mx_7, mx_8, mx_9, mx_10, mx_11, mx_12, mx_13, mx_14, mx_15, mx_16, mx_17, mx_18, mx_19, mx_20, mx_21, mx_22, mx_23, mx_24, Nat.reduceAdd, Nat.reduceLeDiff, Nat.zero_add, Bool.not_eq_true', decide_eq_false_iff_not, reduceIte, ev_reprb, e_reduced, ap_reduced]
  rw [← F_rd (dd_pos x y) (subR x y)] at hq
  exact ⟨cm3 h1.n h2.d, cm3 h2.n h1.d, cm3 h1.d h2.d, dd_pos x y, (h1.d.mul h2.d).mono (by decide), hq⟩
theorem sem_times (e_reduced : Φ 33 = sp_reduced) : ∀ ds Q, sp_times ds Q → wS Φ rs_times { nx := fun _ => Q (.d .none), rt := Q } (startD ["x0", "x1"] ds) := by
  rintro ds Q ⟨x, y, rfl, h1, h2, hq⟩
  show wS Φ rs_times _ [some (.val (.d (F x))), some (.val (.d (F y)))]
  simp only [rs_times, wS, wE, wA, wT, wI, wO, ev_add, ev_sub, ev_mul, ev_div, ev_mod, ev_pow, ev_cat, ev_lt, ev_le, ev_gt, ev_ge, ev_eq, ev_ne, ev_eqs, ev_nes, ix_F0, ix_F1, ix_J0, ix_J1, ix_P0, ix_P1, ix_P2, ix_t0, ix_t1, ix_t2, ix_l0, ix_l1, ix_l2, tg_1, tg_F, tg_J, tg_P, tg_2, tg_3, tg_4, fold_J, eq_F, ne_F, eq_J, ne_J, eq_P, ne_P, db_, di_, setVals, setAll, datas, itemsD, truD, List.getElem?_cons_zero, List.getElem?_cons_succ, List.set_cons_zero, List.set_cons_succ, Option.map_some, Option.map_none, Option.some.injEq, exists_eq_left', decide_eq_true_eq, Bool.not_true, Bool.not_false, Bool.false_eq_true, if_false, if_true, true_and, and_true, decide_true, decide_false, List.length_cons, List.length_nil, mx_0, mx_1, mx_2, mx_3, mx_4, mx_5, mx_6, mx_7, mx_8, mx_9, mx_10, mx_11, mx_12, mx_13, mx_14, mx_15, mx_16, mx_17, mx_18, mx_19, mx_20, mx_21, mx_22, mx_23, mx_24, Nat.reduceAdd, Nat.reduceLeDiff, Nat.zero_add, Bool.not_eq_true', decide_eq_false_iff_not, reduceIte, ev_reprb, e_reduced, ap_reduced]
  rw [← F_rd (dd_pos x y) (mulR x y)] at hq
  exact ⟨cm3 h1.n h2.n, cm3 h1.d h2.d, dd_pos x y, (h1.d.mul h2.d).mono (by decide), hq⟩
theorem sem_quotient (e_reduced : Φ 33 = sp_reduced) : ∀ ds Q, sp_quotient ds Q → wS Φ rs_quotient { nx := fun _ => Q (.d .none), rt := Q } (startD ["x0", "x1", "x2", "x3"] ds) := by
  rintro ds Q ⟨x, y, rfl, h1, h2, h3, hq⟩
  show wS Φ rs_quotient _ [some (.val (.d (F x))), some (.val (.d (F y))), none, none]
  simp only [rs_quotient, wS, wE, wA, wT, wI, wO, ev_add, ev_sub, ev_mul, ev_div, ev_mod, ev_pow, ev_cat, ev_lt, ev_le, ev_gt, ev_ge, ev_eq, ev_ne, ev_eqs, ev_nes, ix_F0, ix_F1, ix_J0, ix_J1, ix_P0, ix_P1, ix_P2, ix_t0, ix_t1, ix_t2, ix_l0, ix_l1, ix_l2, tg_1, tg_F, tg_J, tg_P, tg_2, tg_3, tg_4, fold_J, eq_F, ne_F, eq_J, ne_J, eq_P, ne_P, db_, di_, setVals, setAll, datas, itemsD, truD, List.getElem?_cons_zero, List.getElem?_cons_succ, List.set_cons_zero, List.set_cons_succ, Option.map_some, Option.map_none, Option.some.injEq, exists_eq_left', decide_eq_true_eq, Bool.not_true, Bool.not_false, Bool.false_eq_true, if_false, if_true, true_and, and_true, decide_true, decide_false, List.length_cons, List.length_nil, mx_0, mx_1, mx_2, mx_3, mx_4, mx_5, mx_6, mx_7, mx_8, mx_9, mx_10, mx_11, mx_12, mx_13, mx_14, mx_15, mx_16, mx_17, mx_18, mx_19, mx_20, mx_21, mx_22, mx_23, mx_24, Nat.reduceAdd, Nat.reduceLeDiff, Nat.zero_add, Bool.not_eq_true', decide_eq_false_iff_not, reduceIte, ev_reprb, e_reduced, ap_reduced]
  refine ⟨cm3 h2.n h3.d, cm3 h2.d h3.n, ?_⟩
  by_cases h : 0 < (x.den : Int) * y.num
  · rw [if_pos h]
    rw [← F_rd h (divR x y h1)] at hq
    exact ⟨h, (h2.d.mul h3.n).mono (by decide), hq⟩
  · rw [if_neg h]
    have hn := dn_ne x h1
    have h' : 0 < -((x.den : Int) * y.num) := by omega
    have e : ((-(x.num * (y.den : Int)) : Int) : Rat) = x / y * ((-((x.den : Int) * y.num) : Int) : Rat) := by
      rw [Rat.intCast_neg, Rat.intCast_neg, divR x y h1]
      grind
    rw [← F_rd h' e] at hq
    refine ⟨h', ?_, hq⟩
    have := (h2.d.mul h3.n).mono (k := 8000) (by decide)
    unfold Sz at this ⊢
    rw [Int.natAbs_neg]
    exact this
theorem sem_negative : ∀ ds Q, sp_negative ds Q → wS Φ rs_negative { nx := fun _ => Q (.d .none), rt := Q } (startD ["x0"] ds) := by
  rintro ds Q ⟨x, rfl, hq⟩
  show wS Φ rs_negative _ [some (.val (.d (F x)))]
  simp only [rs_negative, wS, wE, wA, wT, wI, wO, ev_add, ev_sub, ev_mul, ev_div, ev_mod, ev_pow, ev_cat, ev_lt, ev_le, ev_gt, ev_ge, ev_eq, ev_ne, ev_eqs, ev_nes, ix_F0, ix_F1, ix_J0, ix_J1, ix_P0, ix_P1, ix_P2, ix_t0, ix_t1, ix_t2, ix_l0, ix_l1, ix_l2, tg_1, tg_F, tg_J, tg_P, tg_2, tg_3, tg_4, fold_J, eq_F, ne_F, eq_J, ne_J, eq_P, ne_P, db_, di_, setVals, setAll, datas, itemsD, truD, List.getElem?_cons_zero, List.getElem?_cons_succ, List.set_cons_zero, List.set_cons_succ, Option.map_some, Option.map_none, Option.some.injEq, exists_eq_left', decide_eq_true_eq, Bool.not_true, Bool.not_false, Bool.false_eq_true, if_false, if_true, true_and, and_true, decide_true, decide_false, List.length_cons, List.length_nil, mx_0, mx_1, mx_2, mx_3, mx_4, mx_5, mx_6, mx_7, mx_8, mx_9, mx_10, mx_11, mx_12, mx_13, mx_14, mx_15, mx_16, mx_17, mx_18, mx_19, mx_20, mx_21, mx_22, mx_23, mx_24, Nat.reduceAdd, Nat.reduceLeDiff, Nat.zero_add, Bool.not_eq_true', decide_eq_false_iff_not, reduceIte, ev_reprb, F_neg']
  exact hq
theorem sem_value_at (e_plus : Φ 48 = sp_plus) (e_times : Φ 51 = sp_times) : ∀ ds Q, sp_value_at ds Q → wS Φ rs_value_at { nx := fun _ => Q (.d .none), rt := Q } (startD ["x0", "x1", "x2", "x3", "x4"] ds) := by
  rintro ds Q ⟨a, b, c, x, rfl, h1, h2, h3, h4, hq⟩
  show wS Φ rs_value_at _ [some (.val (.d (.tuple [F a, F b, F c]))), some (.val (.d (F x))), none, none, none]
  simp only [rs_value_at, wS, wE, wA, wT, wI, wO, ev_add, ev_sub, ev_mul, ev_div, ev_mod, ev_pow, ev_cat, ev_lt, ev_le, ev_gt, ev_ge, ev_eq, ev_ne, ev_eqs, ev_nes, ix_F0, ix_F1, ix_J0, ix_J1, ix_P0, ix_P1, ix_P2, ix_t0, ix_t1, ix_t2, ix_l0, ix_l1, ix_l2, tg_1, tg_F, tg_J, tg_P, tg_2, tg_3, tg_4, fold_J, eq_F, ne_F, eq_J, ne_J, eq_P, ne_P, db_, di_, setVals, setAll, datas, itemsD, truD, List.getElem?_cons_zero, List.getElem?_cons_succ, List.set_cons_zero, List.set_cons_succ, Option.map_some, Option.map_none, Option.some.injEq, exists_eq_left', decide_eq_true_eq, Bool.not_true, Bool.not_false, Bool.false_eq_true, if_false, if_true, true_and, and_true, decide_true, decide_false, List.length_cons, List.length_nil, mx_0, mx_1, mx_2, mx_3, mx_4, mx_5, mx_6, mx_7, mx_8, mx_9, mx_10, mx_11, mx_12, mx_13, mx_14, mx_15, mx_16, mx_17, mx_18, mx_19, mx_20, mx_21, mx_22, mx_23, mx_24, Nat.reduceAdd, Nat.reduceLeDiff, Nat.zero_add, Bool.not_eq_true', decide_eq_false_iff_not, reduceIte, ev_reprb, e_plus, e_times, ap_plus, ap_times]
  walk_at "fin"
end
/-! ### what a repr asks -/
def Shw (n k : Nat) (d : PyData) : Prop := d.showable = true ∧ d.hasDict = false ∧ d.depth ≤ k ∧ d.shown.length ≤ n
theorem shownAll_map : ∀ xs : List PyData, PyData.shownAll xs = xs.map PyData.shown
  | [] => by simp only [PyData.shownAll, List.map]
  | x :: xs => by simp only [PyData.shownAll, List.map, shownAll_map xs]
theorem showableAll_of : ∀ xs : List PyData, (∀ x ∈ xs, x.showable = true) → PyData.showableAll xs = true
  | [], _ => by simp only [PyData.showableAll]
  | x :: xs, h => by
    simp only [PyData.showableAll, h x (List.mem_cons_self ..), showableAll_of xs fun y hy => h y (List.mem_cons_of_mem _ hy), Bool.and_self]
theorem hasDictAll_of : ∀ xs : List PyData, (∀ x ∈ xs, x.hasDict = false) → PyData.hasDictAll xs = false
  | [], _ => by simp only [PyData.hasDictAll]
  | x :: xs, h => by
    simp only [PyData.hasDictAll, h x (List.mem_cons_self ..), hasDictAll_of xs fun y hy => h y (List.mem_cons_of_mem _ hy), Bool.or_self]
theorem depthAll_of {k : Nat} : ∀ xs : List PyData, (∀ x ∈ xs, x.depth ≤ k) → PyData.depthAll xs ≤ k
  | [], _ => by simp only [PyData.depthAll]; omega
  | x :: xs, h => by
    have h1 := h x (List.mem_cons_self ..)
    have h2 := depthAll_of xs fun y hy => h y (List.mem_cons_of_mem _ hy)
    simp only [PyData.depthAll]
    omega
theorem piled_of {n : Nat} : ∀ xs : List PyData, (∀ x ∈ xs, x.shown.length ≤ n) → piled (xs.map PyData.shown) ≤ xs.length * (n + 2)
  | [], _ => by simp [piled]
  | x :: xs, h => by
    have h1 := h x (List.mem_cons_self ..)
    have h2 := piled_of xs fun y hy => h y (List.mem_cons_of_mem _ hy)
    rw [List.map_cons, piled_cons, List.length_cons, Nat.succ_mul]
    omega
theorem listText_le : ∀ ts : List Str, (listText ts).length ≤ 2 + piled ts
  | [] => by decide
  | t :: r => by
    have h := textFrom_length_pos r 1 (("[" : Str) ++ (if (0 : Nat) > 0 then ", " else "" : String) ++ t) (Nat.succ_pos 0)
    have e : ((("[" : Str) ++ (if (0 : Nat) > 0 then ", " else "" : String) ++ t)).length = 1 + t.length := by
      simp only [strLen_append]
      rfl
    have hX : (listText (t :: r)).length = (textFrom 1 (("[" : Str) ++ (if (0 : Nat) > 0 then ", " else "" : String) ++ t) r).length + 1 := by
      show (textFrom 0 "[" (t :: r) ++ "]").length = _
      rw [strLen_append]
      rfl
    rw [hX, h, e, piled_cons]
    omega
theorem tupleText_le (ts : List Str) : (tupleText ts).length ≤ 3 + piled ts := by
  unfold tupleText
  simp only [strLen_append]
  have e1 : ((("(" : String) : Str)).length = 1 := rfl
  have e3 : (((if ts.length == 1 then ",)" else ")" : String) : Str)).length ≤ 2 := by split <;> decide
  rw [e1]
  by_cases h : ts = []
  · subst h
    have : (Str.join ", " []).length = 0 := rfl
    simp [piled] at e3 ⊢
    omega
  · have := join_length_add ts h
    omega
theorem shw_list {n k : Nat} {xs : List PyData} (h : ∀ x ∈ xs, Shw n k x) : Shw (2 + xs.length * (n + 2)) (k + 1) (.list xs) := by
  refine ⟨?_, ?_, ?_, ?_⟩
  · simp only [PyData.showable]
    exact showableAll_of xs fun x hx => (h x hx).1
  · simp only [PyData.hasDict]
    exact hasDictAll_of xs fun x hx => (h x hx).2.1
  · simp only [PyData.depth]
    have := depthAll_of xs fun x hx => (h x hx).2.2.1
    omega
  · simp only [PyData.shown, shownAll_map]
    have := piled_of xs fun x hx => (h x hx).2.2.2
    have := listText_le (xs.map PyData.shown)
    omega
theorem shw_tuple {n k : Nat} {xs : List PyData} (h : ∀ x ∈ xs, Shw n k x) : Shw (3 + xs.length * (n + 2)) (k + 1) (.tuple xs) := by
  refine ⟨?_, ?_, ?_, ?_⟩
  · simp only [PyData.showable]
    exact showableAll_of xs fun x hx => (h x hx).1
  · simp only [PyData.hasDict]
    exact hasDictAll_of xs fun x hx => (h x hx).2.1
  · simp only [PyData.depth]
    have := depthAll_of xs fun x hx => (h x hx).2.2.1
    omega
  · simp only [PyData.shown, shownAll_map]
    have := piled_of xs fun x hx => (h x hx).2.2.2
    have := tupleText_le (xs.map PyData.shown)
    omega
theorem shw_int {z : Int} (h : Sz 1920 z) : Shw 1921 0 (.int z) := by
  have hl := h.log (by decide)
  refine ⟨?_, ?_, ?_, ?_⟩
  · simp only [PyData.showable]
    exact decide_eq_true hl
  · simp only [PyData.hasDict]
  · simp only [PyData.depth]; omega
  · simp only [PyData.shown]
    have := int_text_length_le (by decide) hl
    rw [PySem.ofString_length]
    omega
theorem shw_bool (b : Bool) : Shw 5 0 (.bool b) := by
  refine ⟨?_, ?_, ?_, ?_⟩
  · simp only [PyData.showable]
  · simp only [PyData.hasDict]
  · simp only [PyData.depth]; omega
  · simp only [PyData.shown]
    cases b <;> decide
theorem shw_none : Shw 4 0 .none := by
  refine ⟨?_, ?_, ?_, ?_⟩
  · simp only [PyData.showable]
  · simp only [PyData.hasDict]
  · simp only [PyData.depth]; omega
  · simp only [PyData.shown]
    decide
theorem Shw.mono {n k n' k' : Nat} {d : PyData} (h : Shw n k d) (e : n ≤ n') (e' : k ≤ k') : Shw n' k' d := ⟨h.1, h.2.1, Nat.le_trans h.2.2.1 e', Nat.le_trans h.2.2.2 e⟩
/-- a value that is small to tell -/
def Tl (d : PyData) : Prop := Shw 16000 2 d
theorem tl_bool (b : Bool) : Tl (.bool b) := (shw_bool b).mono (by decide) (by decide)
theorem tl_none : Tl .none := shw_none.mono (by decide) (by decide)
theorem shwF {q : Rat} (h : Zf 1920 q) : Shw 4000 1 (F q) := by
  refine Shw.mono (shw_tuple (n := 1921) (k := 0) (xs := [.int q.num, .int (q.den : Int)]) ?_) (by simp) (by decide)
  intro x hx
  simp only [List.mem_cons, List.not_mem_nil, or_false] at hx
  rcases hx with rfl | rfl
  · exact shw_int h.n
  · exact shw_int h.d
theorem tlF {q : Rat} (h : Zf 1920 q) : Tl (F q) := (shwF h).mono (by decide) (by decide)
theorem tlJ {s b : Rat} (h : Zf 1920 s) (h' : Zf 1920 b) : Tl (J s b) := by
  refine Shw.mono (shw_tuple (n := 4000) (k := 1) (xs := [F s, F b]) ?_) (by simp) (by decide)
  intro x hx
  simp only [List.mem_cons, List.not_mem_nil, or_false] at hx
  rcases hx with rfl | rfl
  · exact shwF h
  · exact shwF h'
theorem tlP {x y : Rat} (h : Zp 1920 x y) : Tl (P3 x y) := by
  refine Shw.mono (shw_tuple (n := 1921) (k := 0) (xs := [.int (pt x y).1, .int (pt x y).2.1, .int (pt x y).2.2]) ?_) (by simp) (by decide)
  intro z hz
  simp only [List.mem_cons, List.not_mem_nil, or_false] at hz
  rcases hz with rfl | rfl | rfl
  · exact shw_int h.a
  · exact shw_int h.b
  · exact shw_int h.c
theorem al0 {P : PyData → Prop} : ∀ x ∈ ([] : List PyData), P x := fun x hx => by cases hx
theorem al1 {P : PyData → Prop} {a : PyData} {l : List PyData} (h : P a) (t : ∀ x ∈ l, P x) : ∀ x ∈ a :: l, P x := fun x hx => by
  rcases List.mem_cons.mp hx with e | e
  · rw [e]; exact h
  · exact t x e
/-- a list of such -/
def Tll (d : PyData) : Prop := ∃ xs, d = .list xs ∧ xs.length ≤ 40 ∧ ∀ x ∈ xs, Tl x
theorem tll {xs : List PyData} (h : xs.length ≤ 40) (e : ∀ x ∈ xs, Tl x) : Tll (.list xs) := ⟨xs, rfl, h, e⟩
theorem shw_tll {d : PyData} (h : Tll d) : Shw 650000 3 d := by
  obtain ⟨xs, rfl, hl, hx⟩ := h
  refine (shw_list hx).mono ?_ (by decide)
  have : xs.length * (16000 + 2) ≤ 40 * (16000 + 2) := Nat.mul_le_mul_right _ hl
  omega
theorem rp1 {xs : List PyData} {Q : DV → Prop} (hl : xs.length ≤ 40) (h : ∀ x ∈ xs, Tl x) (hp : Q (.d (.str (PyData.list xs).shown))) : wBi .repr [.d (.list xs)] Q := by
  have := shw_tll ⟨xs, rfl, hl, h⟩
  exact ⟨this.1, this.2.1, Nat.le_trans this.2.2.1 (by decide), Nat.le_trans this.2.2.2 (by decide), hp⟩
theorem rp2 {xs : List PyData} {Q : DV → Prop} (hl : xs.length ≤ 20) (h : ∀ x ∈ xs, Tll x) (hp : Q (.d (.str (PyData.list xs).shown))) : wBi .repr [.d (.list xs)] Q := by
  have := shw_list fun x hx => shw_tll (h x hx)
  refine ⟨this.1, this.2.1, Nat.le_trans this.2.2.1 (by decide), Nat.le_trans this.2.2.2 ?_, hp⟩
  have : xs.length * (650000 + 2) ≤ 20 * (650000 + 2) := Nat.mul_le_mul_right _ hl
  unfold sizeLine
  omega
local macro_rules | `(tactic| walk_at "tl") => `(tactic| first
  | assumption
  | exact tl_none
  | exact tl_bool _
  | exact tlF (by walk_at "sz")
  | exact tlJ (by walk_at "sz") (by walk_at "sz")
  | exact tlP (by walk_at "sz")
  | exact tll (by decide) (by walk_at "tls")
  | exact tll (by simp) (by walk_at "tls"))
local macro_rules | `(tactic| walk_at "tls") => `(tactic| first
  | exact al0
  | exact al1 (by walk_at "tl") (by walk_at "tls"))
local macro_rules | `(tactic| walk_at "rp") => `(tactic| first
  | refine rp1 (by simp) (by walk_at "tls") ?_
  | refine rp2 (by simp) (by walk_at "tls") ?_)
local macro_rules | `(tactic| walk_at "ob1") => `(tactic| first
  | assumption
  | walk_at "sz"
  | omega
  | (simp; done)
  | grind [hgt, slp, hed])
local macro_rules | `(tactic| walk_at "obs") => `(tactic| repeat (refine And.intro (by walk_at "ob1") ?_))
local macro_rules | `(tactic| walk_at "eqs") => `(tactic| rw [if_neg (by intro hh; exact hh (by grind [hgt, slp, hed]))])
section
variable {Φ : Nat → PSp}
end
theorem pm_01 {a b : DV} : perm [0, 1] [a, b] = [a, b] := rfl
theorem ap_Ldraw {Q : DV → Prop} {m : Int} : sp_Ldraw [DV.vat, DV.d (.int m)] Q = (0 < m ∧ m < 1073741824 ∧ ∀ r, 0 ≤ r → r < m → Q (I r)) := propext ⟨fun ⟨_, e, r⟩ => by
  simp only [List.cons.injEq, DV.d.injEq, and_true, true_and, PyData.int.injEq] at e
  subst e
  exact r, fun r => ⟨_, rfl, r⟩⟩
section
variable {Φ : Nat → PSp}
end
/-! ### equal data -/
def Lay (k : Nat) (d : PyData) : Prop := d.canLay0 = true ∧ d.depth ≤ k
theorem Lay.mono {j k : Nat} {d : PyData} (h : Lay j d) (e : j ≤ k) : Lay k d := ⟨h.1, Nat.le_trans h.2 e⟩
theorem layF (q : Rat) : Lay 4 (F q) := by
  constructor
  · simp [F, PyData.canLay0, PyData.canLayAll0]
  · simp [F, PyData.depth, PyData.depthAll]
theorem layJ (s b : Rat) : Lay 4 (J s b) := by
  constructor
  · simp [J, F, PyData.canLay0, PyData.canLayAll0]
  · simp [J, F, PyData.depth, PyData.depthAll]
theorem layP (x y : Rat) : Lay 4 (P3 x y) := by
  constructor
  · simp [P3, PyData.canLay0, PyData.canLayAll0]
  · simp [P3, PyData.depth, PyData.depthAll]
theorem lay_int (b : Int) : Lay 4 (.int b) := by
  constructor <;> simp [PyData.canLay0, PyData.depth]
theorem canLayAll_of : ∀ xs : List PyData, (∀ x ∈ xs, x.canLay0 = true) → PyData.canLayAll0 xs = true
  | [], _ => by simp only [PyData.canLayAll0]
  | x :: xs, h => by
    simp only [PyData.canLayAll0, h x (List.mem_cons_self ..), canLayAll_of xs fun y hy => h y (List.mem_cons_of_mem _ hy), Bool.and_self]
theorem lay_tuple {k : Nat} {xs : List PyData} (h : ∀ x ∈ xs, Lay k x) : Lay (k + 1) (.tuple xs) := by
  constructor
  · simp only [PyData.canLay0]
    exact canLayAll_of xs fun x hx => (h x hx).1
  · simp only [PyData.depth]
    have := depthAll_of xs fun x hx => (h x hx).2
    omega
theorem lay_shaped {d : PyData} (h : Lay 60 d) : SeqAt.shaped d = true := by
  unfold SeqAt.shaped
  rw [h.1, Bool.true_and, decide_eq_true_eq]
  exact Nat.le_trans h.2 (by decide)
mutual
theorem eqv_rf : ∀ d : PyData, d.canLay0 = true → PyData.eqv d d = true
  | .none, _ => by simp [PyData.eqv]
  | .bool _, _ => by simp [PyData.eqv]
  | .int _, _ => by simp [PyData.eqv]
  | .str _, _ => by simp [PyData.eqv]
  | .list xs, h => by
    simp only [PyData.canLay0] at h
    simp only [PyData.eqv]
    exact eqv_rfA xs h
  | .tuple xs, h => by
    simp only [PyData.canLay0] at h
    simp only [PyData.eqv]
    exact eqv_rfA xs h
  | .dict _, h => by simp [PyData.canLay0] at h
theorem eqv_rfA : ∀ d : List PyData, PyData.canLayAll0 d = true → PyData.eqvAll d d = true
  | [], _ => by simp [PyData.eqvAll]
  | x :: xs, h => by
    simp only [PyData.canLayAll0, Bool.and_eq_true] at h
    simp only [PyData.eqvAll, eqv_rf x h.1, eqv_rfA xs h.2, Bool.and_self]
end
def flatIS : PyData → Bool
  | .int _ => true
  | .str _ => true
  | _ => false
theorem eq_gen {Q : DV → Prop} {x y : PyData} (h : flatIS x = false) : wCmp .eq (.d x) (.d y) Q = (SeqAt.shaped x = true ∧ SeqAt.shaped y = true ∧ Q (.d (.bool (PyData.eqv x y)))) := by
  cases x <;> first | rfl | cases h
/-! ### jets through places -/
def bt (x y u v : Rat) : Rat := (y / x - v / u) / (u - x)
def sl (x y u v : Rat) : Rat := y / x + bt x y u v * x
section
variable {Φ : Nat → PSp}
end
/-! ### signs -/
def sgI (n : Int) : Int := if 0 < n then 1 else if n < 0 then -1 else 0
def sgQ (q : Rat) : Int := if 0 < q then 1 else if q < 0 then -1 else 0
theorem sgI_num (q : Rat) : sgI q.num = sgQ q := by
  unfold sgI sgQ
  simp only [num_pos, num_neg]
theorem sg_pos {q : Rat} (h : 0 < q) : sgQ q = 1 := if_pos h
theorem sg_neg {q : Rat} (h : q < 0) : sgQ q = -1 := by
  unfold sgQ
  rw [if_neg (by grind), if_pos h]
theorem sg_zero : sgQ 0 = 0 := by
  unfold sgQ
  rw [if_neg (by grind), if_neg (by grind)]
theorem tri (q : Rat) : q < 0 ∨ q = 0 ∨ 0 < q := by
  by_cases h : q < 0
  · exact .inl h
  · by_cases h' : 0 < q
    · exact .inr (.inr h')
    · exact .inr (.inl (by grind))
theorem pos_neg {x y : Rat} (h : 0 < x) (h' : y < 0) : x * y < 0 := by
  have := Rat.mul_pos h (show 0 < -y by grind)
  grind
theorem neg_pos {x y : Rat} (h : x < 0) (h' : 0 < y) : x * y < 0 := by
  have := Rat.mul_pos (show 0 < -x by grind) h'
  grind
theorem neg_neg {x y : Rat} (h : x < 0) (h' : y < 0) : 0 < x * y := by
  have := Rat.mul_pos (show 0 < -x by grind) (show 0 < -y by grind)
  grind
theorem sg_mul (x y : Rat) : sgQ (x * y) = sgQ x * sgQ y := by
  rcases tri x with hx | rfl | hx
  · rcases tri y with hy | rfl | hy
    · rw [sg_neg hx, sg_neg hy, sg_pos (neg_neg hx hy)]; decide
    · rw [Rat.mul_zero, sg_zero]; simp
    · rw [sg_neg hx, sg_pos hy, sg_neg (neg_pos hx hy)]; decide
  · rw [Rat.zero_mul, sg_zero]; simp
  · rcases tri y with hy | rfl | hy
    · rw [sg_pos hx, sg_neg hy, sg_neg (pos_neg hx hy)]; decide
    · rw [Rat.mul_zero, sg_zero]; simp
    · rw [sg_pos hx, sg_pos hy, sg_pos (Rat.mul_pos hx hy)]; decide
/-! ### two jets -/
def sp_sign : PSp := fun ds Q => ∃ n, ds = [.d (.int n)] ∧ Q (.d (.int (sgI n)))
theorem ap_sign {Q : DV → Prop} {n : Int} : sp_sign [DV.d (.int n)] Q = (Q (DV.d (.int (sgI n)))) := propext ⟨fun ⟨_, e, r⟩ => by
  simp only [List.cons.injEq, DV.d.injEq, and_true, true_and, F_eq, J_eq, P3_eq, T_eq, PyData.int.injEq, PyData.str.injEq, PyData.list.injEq, PyData.tuple.injEq] at e
  obtain rfl := e
  exact r, fun r => ⟨_, rfl, r⟩⟩
section
variable {Φ : Nat → PSp}
theorem sem_sign : ∀ ds Q, sp_sign ds Q → wS Φ rs_sign { nx := fun _ => Q (.d .none), rt := Q } (startD ["x0"] ds) := by
  rintro ds Q ⟨n, rfl, hq⟩
  show wS Φ rs_sign _ [some (.val (.d (.int n)))]
  simp only [rs_sign, wS, wE, wA, wT, wI, wO, ev_add, ev_sub, ev_mul, ev_div, ev_mod, ev_pow, ev_cat, ev_lt, ev_le, ev_gt, ev_ge, ev_eq, ev_ne, ev_eqs, ev_nes, ix_F0, ix_F1, ix_J0, ix_J1, ix_P0, ix_P1, ix_P2, ix_t0, ix_t1, ix_t2, ix_l0, ix_l1, ix_l2, tg_1, tg_F, tg_J, tg_P, tg_2, tg_3, tg_4, fold_J, eq_F, ne_F, eq_J, ne_J, eq_P, ne_P, db_, di_, setVals, setAll, datas, itemsD, truD, List.getElem?_cons_zero, List.getElem?_cons_succ, List.set_cons_zero, List.set_cons_succ, Option.map_some, Option.map_none, Option.some.injEq, exists_eq_left', decide_eq_true_eq, Bool.not_true, Bool.not_false, Bool.false_eq_true, if_false, if_true, true_and, and_true, decide_true, decide_false, List.length_cons, List.length_nil, mx_0, mx_1, mx_2, mx_3, mx_4, mx_5, mx_6, mx_7, mx_8, mx_9, mx_10, mx_11, mx_12, mx_13, mx_14, mx_15, mx_16, mx_17, mx_18, mx_19, mx_20, mx_21, mx_22, mx_23, mx_24, Nat.reduceAdd, Nat.reduceLeDiff, Nat.zero_add, Bool.not_eq_true', decide_eq_false_iff_not, reduceIte, ev_reprb]
  unfold sgI at hq
  split
  · rename_i h
    rw [if_pos h] at hq
    exact hq
  · rename_i h
    rw [if_neg h] at hq
    split
    · rename_i h'
      rw [if_pos h'] at hq
      exact hq
    · rename_i h'
      rw [if_neg h'] at hq
      exact hq
end
/-! ### words -/
theorem we_over_over : PyData.eqv (.str (Str.ofString "over")) (.str (Str.ofString "over")) = true := by decide +kernel
theorem wn_over_under : (Str.ofString "over" = Str.ofString "under") = False := eq_false (by decide +kernel)
theorem we_over_under : PyData.eqv (.str (Str.ofString "over")) (.str (Str.ofString "under")) = false := by decide +kernel
theorem wn_over_roof : (Str.ofString "over" = Str.ofString "roof") = False := eq_false (by decide +kernel)
theorem we_over_roof : PyData.eqv (.str (Str.ofString "over")) (.str (Str.ofString "roof")) = false := by decide +kernel
theorem wn_over_low : (Str.ofString "over" = Str.ofString "low") = False := eq_false (by decide +kernel)
theorem we_over_low : PyData.eqv (.str (Str.ofString "over")) (.str (Str.ofString "low")) = false := by decide +kernel
theorem wn_over_dives : (Str.ofString "over" = Str.ofString "dives") = False := eq_false (by decide +kernel)
theorem we_over_dives : PyData.eqv (.str (Str.ofString "over")) (.str (Str.ofString "dives")) = false := by decide +kernel
theorem wn_over_climbs : (Str.ofString "over" = Str.ofString "climbs") = False := eq_false (by decide +kernel)
theorem we_over_climbs : PyData.eqv (.str (Str.ofString "over")) (.str (Str.ofString "climbs")) = false := by decide +kernel
theorem wn_over_quick : (Str.ofString "over" = Str.ofString "quick") = False := eq_false (by decide +kernel)
theorem we_over_quick : PyData.eqv (.str (Str.ofString "over")) (.str (Str.ofString "quick")) = false := by decide +kernel
theorem wn_over_slow : (Str.ofString "over" = Str.ofString "slow") = False := eq_false (by decide +kernel)
theorem we_over_slow : PyData.eqv (.str (Str.ofString "over")) (.str (Str.ofString "slow")) = false := by decide +kernel
theorem wn_under_over : (Str.ofString "under" = Str.ofString "over") = False := eq_false (by decide +kernel)
theorem we_under_over : PyData.eqv (.str (Str.ofString "under")) (.str (Str.ofString "over")) = false := by decide +kernel
theorem we_under_under : PyData.eqv (.str (Str.ofString "under")) (.str (Str.ofString "under")) = true := by decide +kernel
theorem wn_under_roof : (Str.ofString "under" = Str.ofString "roof") = False := eq_false (by decide +kernel)
theorem we_under_roof : PyData.eqv (.str (Str.ofString "under")) (.str (Str.ofString "roof")) = false := by decide +kernel
theorem wn_under_low : (Str.ofString "under" = Str.ofString "low") = False := eq_false (by decide +kernel)
theorem we_under_low : PyData.eqv (.str (Str.ofString "under")) (.str (Str.ofString "low")) = false := by decide +kernel
theorem wn_under_dives : (Str.ofString "under" = Str.ofString "dives") = False := eq_false (by decide +kernel)
theorem we_under_dives : PyData.eqv (.str (Str.ofString "under")) (.str (Str.ofString "dives")) = false := by decide +kernel
theorem wn_under_climbs : (Str.ofString "under" = Str.ofString "climbs") = False := eq_false (by decide +kernel)
theorem we_under_climbs : PyData.eqv (.str (Str.ofString "under")) (.str (Str.ofString "climbs")) = false := by decide +kernel
theorem wn_under_quick : (Str.ofString "under" = Str.ofString "quick") = False := eq_false (by decide +kernel)
theorem we_under_quick : PyData.eqv (.str (Str.ofString "under")) (.str (Str.ofString "quick")) = false := by decide +kernel
theorem wn_under_slow : (Str.ofString "under" = Str.ofString "slow") = False := eq_false (by decide +kernel)
theorem we_under_slow : PyData.eqv (.str (Str.ofString "under")) (.str (Str.ofString "slow")) = false := by decide +kernel
theorem wn_roof_over : (Str.ofString "roof" = Str.ofString "over") = False := eq_false (by decide +kernel)
theorem we_roof_over : PyData.eqv (.str (Str.ofString "roof")) (.str (Str.ofString "over")) = false := by decide +kernel
theorem wn_roof_under : (Str.ofString "roof" = Str.ofString "under") = False := eq_false (by decide +kernel)
theorem we_roof_under : PyData.eqv (.str (Str.ofString "roof")) (.str (Str.ofString "under")) = false := by decide +kernel
theorem we_roof_roof : PyData.eqv (.str (Str.ofString "roof")) (.str (Str.ofString "roof")) = true := by decide +kernel
theorem wn_roof_low : (Str.ofString "roof" = Str.ofString "low") = False := eq_false (by decide +kernel)
theorem we_roof_low : PyData.eqv (.str (Str.ofString "roof")) (.str (Str.ofString "low")) = false := by decide +kernel
theorem wn_roof_dives : (Str.ofString "roof" = Str.ofString "dives") = False := eq_false (by decide +kernel)
theorem we_roof_dives : PyData.eqv (.str (Str.ofString "roof")) (.str (Str.ofString "dives")) = false := by decide +kernel
theorem wn_roof_climbs : (Str.ofString "roof" = Str.ofString "climbs") = False := eq_false (by decide +kernel)
theorem we_roof_climbs : PyData.eqv (.str (Str.ofString "roof")) (.str (Str.ofString "climbs")) = false := by decide +kernel
theorem wn_roof_quick : (Str.ofString "roof" = Str.ofString "quick") = False := eq_false (by decide +kernel)
theorem we_roof_quick : PyData.eqv (.str (Str.ofString "roof")) (.str (Str.ofString "quick")) = false := by decide +kernel
theorem wn_roof_slow : (Str.ofString "roof" = Str.ofString "slow") = False := eq_false (by decide +kernel)
theorem we_roof_slow : PyData.eqv (.str (Str.ofString "roof")) (.str (Str.ofString "slow")) = false := by decide +kernel
theorem wn_low_over : (Str.ofString "low" = Str.ofString "over") = False := eq_false (by decide +kernel)
theorem we_low_over : PyData.eqv (.str (Str.ofString "low")) (.str (Str.ofString "over")) = false := by decide +kernel
theorem wn_low_under : (Str.ofString "low" = Str.ofString "under") = False := eq_false (by decide +kernel)
theorem we_low_under : PyData.eqv (.str (Str.ofString "low")) (.str (Str.ofString "under")) = false := by decide +kernel
theorem wn_low_roof : (Str.ofString "low" = Str.ofString "roof") = False := eq_false (by decide +kernel)
theorem we_low_roof : PyData.eqv (.str (Str.ofString "low")) (.str (Str.ofString "roof")) = false := by decide +kernel
theorem we_low_low : PyData.eqv (.str (Str.ofString "low")) (.str (Str.ofString "low")) = true := by decide +kernel
theorem wn_low_dives : (Str.ofString "low" = Str.ofString "dives") = False := eq_false (by decide +kernel)
theorem we_low_dives : PyData.eqv (.str (Str.ofString "low")) (.str (Str.ofString "dives")) = false := by decide +kernel
theorem wn_low_climbs : (Str.ofString "low" = Str.ofString "climbs") = False := eq_false (by decide +kernel)
theorem we_low_climbs : PyData.eqv (.str (Str.ofString "low")) (.str (Str.ofString "climbs")) = false := by decide +kernel
theorem wn_low_quick : (Str.ofString "low" = Str.ofString "quick") = False := eq_false (by decide +kernel)
theorem we_low_quick : PyData.eqv (.str (Str.ofString "low")) (.str (Str.ofString "quick")) = false := by decide +kernel
theorem wn_low_slow : (Str.ofString "low" = Str.ofString "slow") = False := eq_false (by decide +kernel)
theorem we_low_slow : PyData.eqv (.str (Str.ofString "low")) (.str (Str.ofString "slow")) = false := by decide +kernel
theorem wn_dives_over : (Str.ofString "dives" = Str.ofString "over") = False := eq_false (by decide +kernel)
theorem we_dives_over : PyData.eqv (.str (Str.ofString "dives")) (.str (Str.ofString "over")) = false := by decide +kernel
theorem wn_dives_under : (Str.ofString "dives" = Str.ofString "under") = False := eq_false (by decide +kernel)
theorem we_dives_under : PyData.eqv (.str (Str.ofString "dives")) (.str (Str.ofString "under")) = false := by decide +kernel
theorem wn_dives_roof : (Str.ofString "dives" = Str.ofString "roof") = False := eq_false (by decide +kernel)
theorem we_dives_roof : PyData.eqv (.str (Str.ofString "dives")) (.str (Str.ofString "roof")) = false := by decide +kernel
theorem wn_dives_low : (Str.ofString "dives" = Str.ofString "low") = False := eq_false (by decide +kernel)
theorem we_dives_low : PyData.eqv (.str (Str.ofString "dives")) (.str (Str.ofString "low")) = false := by decide +kernel
theorem we_dives_dives : PyData.eqv (.str (Str.ofString "dives")) (.str (Str.ofString "dives")) = true := by decide +kernel
theorem wn_dives_climbs : (Str.ofString "dives" = Str.ofString "climbs") = False := eq_false (by decide +kernel)
theorem we_dives_climbs : PyData.eqv (.str (Str.ofString "dives")) (.str (Str.ofString "climbs")) = false := by decide +kernel
theorem wn_dives_quick : (Str.ofString "dives" = Str.ofString "quick") = False := eq_false (by decide +kernel)
theorem we_dives_quick : PyData.eqv (.str (Str.ofString "dives")) (.str (Str.ofString "quick")) = false := by decide +kernel
theorem wn_dives_slow : (Str.ofString "dives" = Str.ofString "slow") = False := eq_false (by decide +kernel)
theorem we_dives_slow : PyData.eqv (.str (Str.ofString "dives")) (.str (Str.ofString "slow")) = false := by decide +kernel
theorem wn_climbs_over : (Str.ofString "climbs" = Str.ofString "over") = False := eq_false (by decide +kernel)
theorem we_climbs_over : PyData.eqv (.str (Str.ofString "climbs")) (.str (Str.ofString "over")) = false := by decide +kernel
theorem wn_climbs_under : (Str.ofString "climbs" = Str.ofString "under") = False := eq_false (by decide +kernel)
theorem we_climbs_under : PyData.eqv (.str (Str.ofString "climbs")) (.str (Str.ofString "under")) = false := by decide +kernel
theorem wn_climbs_roof : (Str.ofString "climbs" = Str.ofString "roof") = False := eq_false (by decide +kernel)
theorem we_climbs_roof : PyData.eqv (.str (Str.ofString "climbs")) (.str (Str.ofString "roof")) = false := by decide +kernel
theorem wn_climbs_low : (Str.ofString "climbs" = Str.ofString "low") = False := eq_false (by decide +kernel)
theorem we_climbs_low : PyData.eqv (.str (Str.ofString "climbs")) (.str (Str.ofString "low")) = false := by decide +kernel
theorem wn_climbs_dives : (Str.ofString "climbs" = Str.ofString "dives") = False := eq_false (by decide +kernel)
theorem we_climbs_dives : PyData.eqv (.str (Str.ofString "climbs")) (.str (Str.ofString "dives")) = false := by decide +kernel
theorem we_climbs_climbs : PyData.eqv (.str (Str.ofString "climbs")) (.str (Str.ofString "climbs")) = true := by decide +kernel
theorem wn_climbs_quick : (Str.ofString "climbs" = Str.ofString "quick") = False := eq_false (by decide +kernel)
theorem we_climbs_quick : PyData.eqv (.str (Str.ofString "climbs")) (.str (Str.ofString "quick")) = false := by decide +kernel
theorem wn_climbs_slow : (Str.ofString "climbs" = Str.ofString "slow") = False := eq_false (by decide +kernel)
theorem we_climbs_slow : PyData.eqv (.str (Str.ofString "climbs")) (.str (Str.ofString "slow")) = false := by decide +kernel
theorem wn_quick_over : (Str.ofString "quick" = Str.ofString "over") = False := eq_false (by decide +kernel)
theorem we_quick_over : PyData.eqv (.str (Str.ofString "quick")) (.str (Str.ofString "over")) = false := by decide +kernel
theorem wn_quick_under : (Str.ofString "quick" = Str.ofString "under") = False := eq_false (by decide +kernel)
theorem we_quick_under : PyData.eqv (.str (Str.ofString "quick")) (.str (Str.ofString "under")) = false := by decide +kernel
theorem wn_quick_roof : (Str.ofString "quick" = Str.ofString "roof") = False := eq_false (by decide +kernel)
theorem we_quick_roof : PyData.eqv (.str (Str.ofString "quick")) (.str (Str.ofString "roof")) = false := by decide +kernel
theorem wn_quick_low : (Str.ofString "quick" = Str.ofString "low") = False := eq_false (by decide +kernel)
theorem we_quick_low : PyData.eqv (.str (Str.ofString "quick")) (.str (Str.ofString "low")) = false := by decide +kernel
theorem wn_quick_dives : (Str.ofString "quick" = Str.ofString "dives") = False := eq_false (by decide +kernel)
theorem we_quick_dives : PyData.eqv (.str (Str.ofString "quick")) (.str (Str.ofString "dives")) = false := by decide +kernel
theorem wn_quick_climbs : (Str.ofString "quick" = Str.ofString "climbs") = False := eq_false (by decide +kernel)
theorem we_quick_climbs : PyData.eqv (.str (Str.ofString "quick")) (.str (Str.ofString "climbs")) = false := by decide +kernel
theorem we_quick_quick : PyData.eqv (.str (Str.ofString "quick")) (.str (Str.ofString "quick")) = true := by decide +kernel
theorem wn_quick_slow : (Str.ofString "quick" = Str.ofString "slow") = False := eq_false (by decide +kernel)
theorem we_quick_slow : PyData.eqv (.str (Str.ofString "quick")) (.str (Str.ofString "slow")) = false := by decide +kernel
theorem wn_slow_over : (Str.ofString "slow" = Str.ofString "over") = False := eq_false (by decide +kernel)
theorem we_slow_over : PyData.eqv (.str (Str.ofString "slow")) (.str (Str.ofString "over")) = false := by decide +kernel
theorem wn_slow_under : (Str.ofString "slow" = Str.ofString "under") = False := eq_false (by decide +kernel)
theorem we_slow_under : PyData.eqv (.str (Str.ofString "slow")) (.str (Str.ofString "under")) = false := by decide +kernel
theorem wn_slow_roof : (Str.ofString "slow" = Str.ofString "roof") = False := eq_false (by decide +kernel)
theorem we_slow_roof : PyData.eqv (.str (Str.ofString "slow")) (.str (Str.ofString "roof")) = false := by decide +kernel
theorem wn_slow_low : (Str.ofString "slow" = Str.ofString "low") = False := eq_false (by decide +kernel)
theorem we_slow_low : PyData.eqv (.str (Str.ofString "slow")) (.str (Str.ofString "low")) = false := by decide +kernel
theorem wn_slow_dives : (Str.ofString "slow" = Str.ofString "dives") = False := eq_false (by decide +kernel)
theorem we_slow_dives : PyData.eqv (.str (Str.ofString "slow")) (.str (Str.ofString "dives")) = false := by decide +kernel
theorem wn_slow_climbs : (Str.ofString "slow" = Str.ofString "climbs") = False := eq_false (by decide +kernel)
theorem we_slow_climbs : PyData.eqv (.str (Str.ofString "slow")) (.str (Str.ofString "climbs")) = false := by decide +kernel
theorem wn_slow_quick : (Str.ofString "slow" = Str.ofString "quick") = False := eq_false (by decide +kernel)
theorem we_slow_quick : PyData.eqv (.str (Str.ofString "slow")) (.str (Str.ofString "quick")) = false := by decide +kernel
theorem we_slow_slow : PyData.eqv (.str (Str.ofString "slow")) (.str (Str.ofString "slow")) = true := by decide +kernel
theorem we_upright_upright : PyData.eqv (.str (Str.ofString "upright")) (.str (Str.ofString "upright")) = true := by decide +kernel
theorem wn_upright_upper : (Str.ofString "upright" = Str.ofString "upper") = False := eq_false (by decide +kernel)
theorem we_upright_upper : PyData.eqv (.str (Str.ofString "upright")) (.str (Str.ofString "upper")) = false := by decide +kernel
theorem wn_upright_lower : (Str.ofString "upright" = Str.ofString "lower") = False := eq_false (by decide +kernel)
theorem we_upright_lower : PyData.eqv (.str (Str.ofString "upright")) (.str (Str.ofString "lower")) = false := by decide +kernel
theorem wn_upper_upright : (Str.ofString "upper" = Str.ofString "upright") = False := eq_false (by decide +kernel)
theorem we_upper_upright : PyData.eqv (.str (Str.ofString "upper")) (.str (Str.ofString "upright")) = false := by decide +kernel
theorem we_upper_upper : PyData.eqv (.str (Str.ofString "upper")) (.str (Str.ofString "upper")) = true := by decide +kernel
theorem wn_upper_lower : (Str.ofString "upper" = Str.ofString "lower") = False := eq_false (by decide +kernel)
theorem we_upper_lower : PyData.eqv (.str (Str.ofString "upper")) (.str (Str.ofString "lower")) = false := by decide +kernel
theorem wn_lower_upright : (Str.ofString "lower" = Str.ofString "upright") = False := eq_false (by decide +kernel)
theorem we_lower_upright : PyData.eqv (.str (Str.ofString "lower")) (.str (Str.ofString "upright")) = false := by decide +kernel
theorem wn_lower_upper : (Str.ofString "lower" = Str.ofString "upper") = False := eq_false (by decide +kernel)
theorem we_lower_upper : PyData.eqv (.str (Str.ofString "lower")) (.str (Str.ofString "upper")) = false := by decide +kernel
theorem we_lower_lower : PyData.eqv (.str (Str.ofString "lower")) (.str (Str.ofString "lower")) = true := by decide +kernel
theorem we_least_least : PyData.eqv (.str (Str.ofString "least")) (.str (Str.ofString "least")) = true := by decide +kernel
theorem wn_least_most : (Str.ofString "least" = Str.ofString "most") = False := eq_false (by decide +kernel)
theorem we_least_most : PyData.eqv (.str (Str.ofString "least")) (.str (Str.ofString "most")) = false := by decide +kernel
theorem wn_least_all : (Str.ofString "least" = Str.ofString "all") = False := eq_false (by decide +kernel)
theorem we_least_all : PyData.eqv (.str (Str.ofString "least")) (.str (Str.ofString "all")) = false := by decide +kernel
theorem wn_least_none : (Str.ofString "least" = Str.ofString "none") = False := eq_false (by decide +kernel)
theorem we_least_none : PyData.eqv (.str (Str.ofString "least")) (.str (Str.ofString "none")) = false := by decide +kernel
theorem wn_most_least : (Str.ofString "most" = Str.ofString "least") = False := eq_false (by decide +kernel)
theorem we_most_least : PyData.eqv (.str (Str.ofString "most")) (.str (Str.ofString "least")) = false := by decide +kernel
theorem we_most_most : PyData.eqv (.str (Str.ofString "most")) (.str (Str.ofString "most")) = true := by decide +kernel
theorem wn_most_all : (Str.ofString "most" = Str.ofString "all") = False := eq_false (by decide +kernel)
theorem we_most_all : PyData.eqv (.str (Str.ofString "most")) (.str (Str.ofString "all")) = false := by decide +kernel
theorem wn_most_none : (Str.ofString "most" = Str.ofString "none") = False := eq_false (by decide +kernel)
theorem we_most_none : PyData.eqv (.str (Str.ofString "most")) (.str (Str.ofString "none")) = false := by decide +kernel
theorem wn_all_least : (Str.ofString "all" = Str.ofString "least") = False := eq_false (by decide +kernel)
theorem we_all_least : PyData.eqv (.str (Str.ofString "all")) (.str (Str.ofString "least")) = false := by decide +kernel
theorem wn_all_most : (Str.ofString "all" = Str.ofString "most") = False := eq_false (by decide +kernel)
theorem we_all_most : PyData.eqv (.str (Str.ofString "all")) (.str (Str.ofString "most")) = false := by decide +kernel
theorem we_all_all : PyData.eqv (.str (Str.ofString "all")) (.str (Str.ofString "all")) = true := by decide +kernel
theorem wn_all_none : (Str.ofString "all" = Str.ofString "none") = False := eq_false (by decide +kernel)
theorem we_all_none : PyData.eqv (.str (Str.ofString "all")) (.str (Str.ofString "none")) = false := by decide +kernel
theorem wn_none_least : (Str.ofString "none" = Str.ofString "least") = False := eq_false (by decide +kernel)
theorem we_none_least : PyData.eqv (.str (Str.ofString "none")) (.str (Str.ofString "least")) = false := by decide +kernel
theorem wn_none_most : (Str.ofString "none" = Str.ofString "most") = False := eq_false (by decide +kernel)
theorem we_none_most : PyData.eqv (.str (Str.ofString "none")) (.str (Str.ofString "most")) = false := by decide +kernel
theorem wn_none_all : (Str.ofString "none" = Str.ofString "all") = False := eq_false (by decide +kernel)
theorem we_none_all : PyData.eqv (.str (Str.ofString "none")) (.str (Str.ofString "all")) = false := by decide +kernel
theorem we_none_none : PyData.eqv (.str (Str.ofString "none")) (.str (Str.ofString "none")) = true := by decide +kernel
theorem ev_inn {Q : DV → Prop} {x : Str} {ys : List PyData} : wCmp .inn (.d (.str x)) (.d (.tuple ys)) Q = (flatD (.str x) = true ∧ ys.all flatD = true ∧ Q (.d (.bool (ys.any fun z => PyData.eqv z (.str x))))) := propext ⟨fun ⟨_, e, h⟩ => by
  cases e
  exact h, fun h => ⟨_, rfl, h⟩⟩
theorem ev_innl {Q : DV → Prop} {x : Str} {ys : List PyData} : wCmp .inn (.d (.str x)) (.d (.list ys)) Q = (flatD (.str x) = true ∧ ys.all flatD = true ∧ Q (.d (.bool (ys.any fun z => PyData.eqv z (.str x))))) := propext ⟨fun ⟨_, e, h⟩ => by
  cases e
  exact h, fun h => ⟨_, rfl, h⟩⟩
theorem ev_nin {Q : DV → Prop} {x : Str} {ys : List PyData} : wCmp .notin (.d (.str x)) (.d (.tuple ys)) Q = (flatD (.str x) = true ∧ ys.all flatD = true ∧ Q (.d (.bool (!ys.any fun z => PyData.eqv z (.str x))))) := propext ⟨fun ⟨_, e, h⟩ => by
  cases e
  exact h, fun h => ⟨_, rfl, h⟩⟩
theorem ev_inni {Q : DV → Prop} {x : Int} {ys : List PyData} : wCmp .inn (.d (.int x)) (.d (.tuple ys)) Q = (flatD (.int x) = true ∧ ys.all flatD = true ∧ Q (.d (.bool (ys.any fun z => PyData.eqv z (.int x))))) := propext ⟨fun ⟨_, e, h⟩ => by
  cases e
  exact h, fun h => ⟨_, rfl, h⟩⟩
theorem ev_nini {Q : DV → Prop} {x : Int} {ys : List PyData} : wCmp .notin (.d (.int x)) (.d (.tuple ys)) Q = (flatD (.int x) = true ∧ ys.all flatD = true ∧ Q (.d (.bool (!ys.any fun z => PyData.eqv z (.int x))))) := propext ⟨fun ⟨_, e, h⟩ => by
  cases e
  exact h, fun h => ⟨_, rfl, h⟩⟩
theorem flat_s {x : Str} : flatD (.str x) = true := rfl
theorem flat_i {x : Int} : flatD (.int x) = true := rfl
theorem eqv_int {a b : Int} : PyData.eqv (.int a) (.int b) = decide (a = b) := by
  simp only [PyData.eqv]
  exact Bool.beq_eq_decide_eq a b
theorem ev_is {Q : DV → Prop} {a b : Bool} : wCmp .iss (.d (.bool a)) (.d (.bool b)) Q = Q (.d (.bool (decide (a = b)))) := rfl
theorem ev_isnt {Q : DV → Prop} {a b : Bool} : wCmp .isnt (.d (.bool a)) (.d (.bool b)) Q = Q (.d (.bool (!decide (a = b)))) := rfl
/-! ### asks -/
inductive Ask where
  | over (x y : Rat)
  | under (x y : Rat)
  | roof (x y u v : Rat)
  | low (B : Rat)
  | dives (X M : Rat)
  | climbs (X M : Rat)
  | quick (B : Rat)
  | slow (B : Rat)
def Ask.dat : Ask → PyData
  | .over x y => .tuple [.str (Str.ofString "over"), P3 x y]
  | .under x y => .tuple [.str (Str.ofString "under"), P3 x y]
  | .roof x y u v => .tuple [.str (Str.ofString "roof"), P3 x y, P3 u v]
  | .low B => .tuple [.str (Str.ofString "low"), F B]
  | .dives X M => .tuple [.str (Str.ofString "dives"), F X, F M]
  | .climbs X M => .tuple [.str (Str.ofString "climbs"), F X, F M]
  | .quick B => .tuple [.str (Str.ofString "quick"), F B]
  | .slow B => .tuple [.str (Str.ofString "slow"), F B]
/-- the rise and the start of a straight way -/
def mm (x y u v : Rat) : Rat := (v - y) / (u - x)
def kk (x y u v : Rat) : Rat := y - mm x y u v * x
def Ask.ok : Ask → Prop
  | .over x y => 0 < x ∧ Zf 300 x ∧ Zf 700 y
  | .under x y => 0 < x ∧ Zf 300 x ∧ Zf 700 y
  | .roof x y u v => 0 < x ∧ x < u ∧ Zf 300 x ∧ Zf 700 y ∧ Zf 300 u ∧ Zf 700 v ∧ Zf 250 (mm x y u v) ∧ Zf 500 (kk x y u v)
  | .low B => 0 < B ∧ Zf 300 B
  | .dives X M => 0 ≤ X ∧ Zf 300 X ∧ Zf 300 M
  | .climbs X M => 0 ≤ X ∧ Zf 300 X ∧ Zf 300 M
  | .quick B => 0 < B ∧ Zf 300 B
  | .slow B => 0 < B ∧ Zf 300 B
def isAb (x : PyData) : Bool := isF x && topPos x
section
variable {Φ : Nat → PSp}
end
/-! ### the law's asks -/
def Ask.word : Ask → PyData
  | .over _ _ => .str (Str.ofString "over")
  | .under _ _ => .str (Str.ofString "under")
  | .roof _ _ _ _ => .str (Str.ofString "roof")
  | .low _ => .str (Str.ofString "low")
  | .dives _ _ => .str (Str.ofString "dives")
  | .climbs _ _ => .str (Str.ofString "climbs")
  | .quick _ => .str (Str.ofString "quick")
  | .slow _ => .str (Str.ofString "slow")
def wordsL : List PyData := [.str (Str.ofString "over"), .str (Str.ofString "under"), .str (Str.ofString "roof"), .str (Str.ofString "low"), .str (Str.ofString "dives"), .str (Str.ofString "climbs"), .str (Str.ofString "quick"), .str (Str.ofString "slow")]
def Ask.sm : Ask → Prop
  | .over x y => 0 < x ∧ Zf 31 x ∧ Zf 31 y
  | .under x y => 0 < x ∧ Zf 31 x ∧ Zf 31 y
  | .roof x y u v => 0 < x ∧ x < u ∧ Zf 31 x ∧ Zf 31 y ∧ Zf 63 u ∧ Zf 31 v
  | .low B => 0 < B ∧ Zf 31 B
  | .dives X M => 0 ≤ X ∧ Zf 31 X ∧ Zf 31 M
  | .climbs X M => 0 ≤ X ∧ Zf 31 X ∧ Zf 31 M
  | .quick B => 0 < B ∧ Zf 31 B
  | .slow B => 0 < B ∧ Zf 31 B
theorem zf_mm {x y u v : Rat} (zx : Zf 31 x) (zy : Zf 31 y) (zu : Zf 63 u) (zv : Zf 31 v) : Zf 158 (mm x y u v) := (Zf.div (Zf.sub zv zy) (Zf.sub zu zx) (by decide)).mono (by decide)
theorem zf_kk {x y u v : Rat} (zx : Zf 31 x) (zy : Zf 31 y) (zu : Zf 63 u) (zv : Zf 31 v) : Zf 221 (kk x y u v) := (Zf.sub zy (Zf.mul (zf_mm zx zy zu zv) zx)).mono (by decide)
theorem Ask.sm.ok {a : Ask} (h : a.sm) : a.ok := by
  cases a
  · exact ⟨h.1, h.2.1.mono (by decide), h.2.2.mono (by decide)⟩
  · exact ⟨h.1, h.2.1.mono (by decide), h.2.2.mono (by decide)⟩
  · obtain ⟨h0, h1, zx, zy, zu, zv⟩ := h
    exact ⟨h0, h1, zx.mono (by decide), zy.mono (by decide), zu.mono (by decide), zv.mono (by decide), (zf_mm zx zy zu zv).mono (by decide), (zf_kk zx zy zu zv).mono (by decide)⟩
  · exact ⟨h.1, h.2.mono (by decide)⟩
  · exact ⟨h.1, h.2.1.mono (by decide), h.2.2.mono (by decide)⟩
  · exact ⟨h.1, h.2.1.mono (by decide), h.2.2.mono (by decide)⟩
  · exact ⟨h.1, h.2.mono (by decide)⟩
  · exact ⟨h.1, h.2.mono (by decide)⟩
def Ask.lw : Ask → Str
  | .over _ _ => Str.ofString "most"
  | .climbs _ _ => Str.ofString "most"
  | .quick _ => Str.ofString "most"
  | _ => Str.ofString "least"
/-! the greatest of a bent line over a stretch -/
section
variable {Φ : Nat → PSp}
end
/-! ### rows of asks -/
def R3 (p q r : Rat) : PyData := .tuple [F p, F q, F r]
def Ask.lp : Ask → Rat → Rat
  | .over x _, _ => -x
  | .under x _, _ => -x
  | .roof _ _ _ _, d => -d
  | .low _, d => -d
  | .dives _ _, _ => -1
  | .climbs _ _, _ => -1
  | .quick _, _ => 0
  | .slow _, _ => 0
def Ask.lq : Ask → Rat → Rat
  | .over x _, _ => x * x
  | .under x _, _ => x * x
  | .roof _ _ _ _, d => d * d
  | .low _, d => d * d
  | .dives X _, _ => 2 * X
  | .climbs X _, _ => 2 * X
  | .quick _, _ => 1
  | .slow _, _ => 1
def Ask.lr : Ask → Rat → Rat
  | .over _ y, _ => y
  | .under _ y, _ => y
  | .roof x y u v, d => kk x y u v + mm x y u v * d
  | .low B, _ => B
  | .dives _ M, _ => M
  | .climbs _ M, _ => M
  | .quick B, _ => -B
  | .slow B, _ => -B
def Ask.ng : Ask → Bool
  | .over _ _ => true
  | .climbs _ _ => true
  | .quick _ => true
  | _ => false
def Ask.rp (a : Ask) (d : Rat) : Rat := if a.ng = true then -(a.lp d) else a.lp d
def Ask.rq (a : Ask) (d : Rat) : Rat := if a.ng = true then -(a.lq d) else a.lq d
def Ask.rr (a : Ask) (d : Rat) : Rat := if a.ng = true then -(a.lr d) else a.lr d
def Ask.row (a : Ask) (d : Rat) : PyData := R3 (a.rp d) (a.rq d) (a.rr d)
/-- an ask of small numbers -/
def Ask.sl : Ask → Prop
  | .over x y => Zf 31 x ∧ Zf 200 y
  | .under x y => Zf 31 x ∧ Zf 200 y
  | .roof x y u v => Zf 31 x ∧ Zf 63 u ∧ Zf 158 (mm x y u v) ∧ Zf 221 (kk x y u v)
  | .low B => Zf 140 B
  | .dives X M => Zf 31 X ∧ Zf 140 M
  | .climbs X M => Zf 31 X ∧ Zf 140 M
  | .quick B => Zf 70 B
  | .slow B => Zf 70 B
section
variable {Φ : Nat → PSp}
end
/-! ### roofs done -/
def gt (m s b e : Rat) : Rat := hgt s b e - m * e
section
variable {Φ : Nat → PSp}
end
/-! ### asks grown and sheared -/
def Ask.lo : Ask → Bool
  | .low _ => true
  | _ => false
section
variable {Φ : Nat → PSp}
end
/-! ### rows of asks -/
theorem lc_map {α : Type} {turn : DV → (Option PyData → Prop) → Prop} (f : α → PyData) (g : α → DV) : ∀ (es : List α) (acc : List PyData) (K : List PyData → Prop), (∀ e ∈ es, ∀ k, k (some (f e)) → turn (g e) k) → K (acc ++ es.map f) → goLc turn (es.map g) acc K
  | [], acc, K, _, hk => by simpa [goLc] using hk
  | e :: es, acc, K, ht, hk => by
    refine ht e (by simp) _ ?_
    exact lc_map f g es _ K (fun e' he' => ht e' (by simp [he'])) (by simpa [List.append_assoc] using hk)
section
variable {Φ : Nat → PSp}
end
/-! ### between two jets -/
theorem nd {p q : Prop} [Decidable p] [Decidable q] (h : ¬p ↔ q) : (!decide p) = decide q := by
  by_cases c : p
  · have : ¬ q := fun z => h.mpr z c
    simp [c, this]
  · have := h.mp c
    simp [c, this]
def Ask.one : Ask → Prop
  | .roof _ _ _ _ => False
  | .low _ => False
  | _ => True
theorem lc_opt {α : Type} {turn : DV → (Option PyData → Prop) → Prop} (f : α → Option PyData) (g : α → DV) : ∀ (es : List α) (acc : List PyData) (K : List PyData → Prop), (∀ e ∈ es, ∀ k, k (f e) → turn (g e) k) → K (acc ++ es.flatMap (fun e => (f e).toList)) → goLc turn (es.map g) acc K
  | [], acc, K, _, hk => by simpa [goLc] using hk
  | e :: es, acc, K, ht, hk => by
    refine ht e (by simp) _ ?_
    exact lc_opt f g es _ K (fun e' he' => ht e' (by simp [he'])) (by simpa [List.append_assoc] using hk)
/-! ### squares -/
theorem nat_sq {A B X Y : Nat} (hY : 0 < Y) (h : A * (Y * Y) = B * (X * X)) (c : Nat.gcd A B = 1) : ∃ x y, A = x * x ∧ B = y * y := by
  have hg : 0 < Nat.gcd X Y := Nat.gcd_pos_of_pos_right X hY
  have hc := Nat.coprime_div_gcd_div_gcd hg
  obtain ⟨x, hx⟩ := Nat.gcd_dvd_left X Y
  obtain ⟨y, hy⟩ := Nat.gcd_dvd_right X Y
  generalize Nat.gcd X Y = g at hg hc hx hy
  have ex : X / g = x := by rw [hx]; exact Nat.mul_div_cancel_left x hg
  have ey : Y / g = y := by rw [hy]; exact Nat.mul_div_cancel_left y hg
  rw [ex, ey] at hc
  have e : A * (y * y) = B * (x * x) := by
    have h2 : g * g * (A * (y * y)) = g * g * (B * (x * x)) := by
      rw [hx, hy] at h
      have a1 : A * (g * y * (g * y)) = g * g * (A * (y * y)) := by ac_rfl
      have a2 : B * (g * x * (g * x)) = g * g * (B * (x * x)) := by ac_rfl
      omega
    exact Nat.eq_of_mul_eq_mul_left (Nat.mul_pos hg hg) h2
  have hs : Nat.Coprime (x * x) (y * y) := Nat.Coprime.mul_right (Nat.Coprime.mul_left hc hc) (Nat.Coprime.mul_left hc hc)
  have d1 : y * y ∣ B := Nat.Coprime.dvd_of_dvd_mul_right hs.symm ⟨A, by rw [← e, Nat.mul_comm]⟩
  have d2 : B ∣ y * y := Nat.Coprime.dvd_of_dvd_mul_left (Nat.Coprime.symm c) ⟨x * x, e⟩
  have d3 : x * x ∣ A := Nat.Coprime.dvd_of_dvd_mul_right hs ⟨B, by rw [e, Nat.mul_comm]⟩
  have d4 : A ∣ x * x := Nat.Coprime.dvd_of_dvd_mul_left c ⟨y * y, e.symm⟩
  exact ⟨x, y, Nat.dvd_antisymm d4 d3, Nat.dvd_antisymm d2 d1⟩
def isq (n : Int) : Int := ((Float64.isqrt n.toNat : Nat) : Int)
theorem isq_nn (n : Int) : 0 ≤ isq n := Int.natCast_nonneg _
theorem isq_spec {n : Int} (h : 0 ≤ n) : isq n * isq n ≤ n ∧ n < (isq n + 1) * (isq n + 1) := by
  have := Float64.isqrt_spec n.toNat
  unfold isq
  have e : ((n.toNat : Nat) : Int) = n := Int.toNat_of_nonneg h
  constructor
  · have := Int.ofNat_le.mpr this.1
    rw [e] at this
    simpa using this
  · have := Int.ofNat_lt.mpr this.2
    rw [e] at this
    simpa using this
theorem isq_uniq {n r : Int} (hr : 0 ≤ r) (h1 : r * r ≤ n) (h2 : n < (r + 1) * (r + 1)) : isq n = r := by
  have hn : 0 ≤ n := Int.le_trans (Int.mul_nonneg hr hr) h1
  obtain ⟨s1, s2⟩ := isq_spec hn
  have hi := isq_nn n
  rcases Int.lt_trichotomy (isq n) r with h | h | h
  · have := Int.mul_le_mul (show isq n + 1 ≤ r by omega) (show isq n + 1 ≤ r by omega) (by omega) hr
    omega
  · exact h
  · have := Int.mul_le_mul (show r + 1 ≤ isq n by omega) (show r + 1 ≤ isq n by omega) (by omega) hi
    omega
theorem isq_sq {r : Int} (h : 0 ≤ r) : isq (r * r) = r := isq_uniq h (Int.le_refl _) (by
  have : (r + 1) * (r + 1) = r * r + 2 * r + 1 := by grind
  omega)
theorem isq_le {n : Int} (h : 0 ≤ n) : isq n ≤ n := by
  obtain ⟨s1, s2⟩ := isq_spec h
  have hi := isq_nn n
  rcases Int.lt_or_le (isq n) 1 with z | z
  · omega
  · have := Int.mul_le_mul_of_nonneg_left z hi
    omega
theorem isq_sz {k : Nat} {n : Int} (h : 0 ≤ n) (s : Sz k n) : Sz k (isq n) := s.le (by have := isq_le h; have := isq_nn n; omega)
/-- both numbers are squares -/
def sqr (s t : Int) : Bool := decide (isq s * isq s = s) && decide (isq t * isq t = t)
theorem sqr_true {s t : Int} : sqr s t = true ↔ isq s * isq s = s ∧ isq t * isq t = t := by
  unfold sqr
  simp
theorem sqr_iff {a b : Int} (ha : 0 ≤ a) (hb : 0 < b) (c : g2 a b = 1) : sqr a b = true ↔ ∃ x y : Int, 0 < y ∧ a * (y * y) = b * (x * x) := by
  rw [sqr_true]
  constructor
  · rintro ⟨h1, h2⟩
    refine ⟨isq a, isq b, ?_, ?_⟩
    · rcases Int.lt_or_le 0 (isq b) with z | z
      · exact z
      · have z : isq b = 0 := by have := isq_nn b; omega
        rw [z] at h2
        omega
    · rw [h1, h2, Int.mul_comm]
  · rintro ⟨x, y, hy, e⟩
    have en : a.natAbs * (y.natAbs * y.natAbs) = b.natAbs * (x.natAbs * x.natAbs) := by
      have := congrArg Int.natAbs e
      simpa only [Int.natAbs_mul] using this
    have cn : Nat.gcd a.natAbs b.natAbs = 1 := by
      unfold g2 at c
      omega
    obtain ⟨u, v, eu, ev⟩ := nat_sq (by omega) en cn
    have ea : a = (u : Int) * (u : Int) := by
      have : (a.natAbs : Int) = ((u * u : Nat) : Int) := by rw [eu]
      rw [Int.natCast_mul] at this
      omega
    have eb : b = (v : Int) * (v : Int) := by
      have : (b.natAbs : Int) = ((v * v : Nat) : Int) := by rw [ev]
      rw [Int.natCast_mul] at this
      omega
    rw [ea, eb, isq_sq (Int.natCast_nonneg u), isq_sq (Int.natCast_nonneg v)]
    exact ⟨rfl, rfl⟩
/-! ### surds over rational numbers -/
def SU (p : Rat) (e : Int) (q : Rat) : PyData := .tuple [F p, .int e, F q]
theorem SU_eq {p q p' q' : Rat} {e e' : Int} : (SU p e q = SU p' e' q') = (p = p' ∧ e = e' ∧ q = q') := by
  unfold SU
  simp only [PyData.tuple.injEq, List.cons.injEq, PyData.int.injEq, F_eq, and_true]
def rsq (q : Rat) : Option Rat := if isq q.num * isq q.num = q.num ∧ isq (q.den : Int) * isq (q.den : Int) = (q.den : Int) then some ((isq q.num : Rat) / (isq (q.den : Int) : Rat)) else none
theorem isq_den_pos {q : Rat} (h : isq (q.den : Int) * isq (q.den : Int) = (q.den : Int)) : 0 < isq (q.den : Int) := by
  rcases Int.lt_or_le 0 (isq (q.den : Int)) with z | z
  · exact z
  · have z : isq (q.den : Int) = 0 := by have := isq_nn (q.den : Int); omega
    rw [z] at h
    have := den_pos q
    omega
theorem rsq_some {q r : Rat} (h : rsq q = some r) : 0 ≤ r ∧ r * r = q := by
  unfold rsq at h
  split at h
  · rename_i c
    obtain ⟨c1, c2⟩ := c
    cases h
    have d0 := isq_den_pos c2
    have dR : (0 : Rat) < (isq (q.den : Int) : Rat) := Rat.intCast_pos.mpr d0
    have nR : (0 : Rat) ≤ (isq q.num : Rat) := by exact_mod_cast isq_nn q.num
    have e1 : ((isq q.num : Int) : Rat) * (isq q.num : Rat) = (q.num : Rat) := by rw [← Rat.intCast_mul, c1]
    have e2 : ((isq (q.den : Int) : Int) : Rat) * (isq (q.den : Int) : Rat) = ((q.den : Int) : Rat) := by rw [← Rat.intCast_mul, c2]
    have nq := numR q
    have dp := denR_pos q
    generalize (isq q.num : Rat) = a at *
    generalize (isq (q.den : Int) : Rat) = b at *
    generalize (q.num : Rat) = n at *
    generalize ((q.den : Int) : Rat) = d at *
    refine ⟨?_, ?_⟩
    · rw [Rat.div_def]
      exact Rat.mul_nonneg nR (Rat.le_of_lt (Rat.inv_pos.mpr dR))
    · have : b ≠ 0 := by grind
      grind
  · cases h
theorem rsq_none {q : Rat} (h0 : 0 ≤ q) (h : rsq q = none) (r : Rat) : r * r ≠ q := by
  intro e
  unfold rsq at h
  split at h
  · cases h
  · rename_i c
    apply c
    rw [← sqr_true, sqr_iff (Rat.num_nonneg.mpr h0) (den_pos q) (g2_rat q)]
    refine ⟨r.num, (r.den : Int), den_pos r, ?_⟩
    apply castInj
    rw [Rat.intCast_mul, Rat.intCast_mul, Rat.intCast_mul, Rat.intCast_mul, numR q, numR r, ← e]
    grind
theorem rsq_sq {r : Rat} (h : 0 ≤ r) : rsq (r * r) = some r := by
  cases e : rsq (r * r) with
  | none => exact absurd rfl (rsq_none (Rat.mul_nonneg h h) e r)
  | some t =>
    obtain ⟨t0, ht⟩ := rsq_some e
    congr 1
    have : (t - r) * (t + r) = 0 := by grind
    rcases Rat.mul_eq_zero.mp this with z | z <;> grind
theorem rsq_zero : rsq 0 = some 0 := by
  have := rsq_sq (r := 0) (by grind)
  rwa [show (0 : Rat) * 0 = 0 by grind] at this
def rsD (q : Rat) : PyData := match rsq q with
  | some r => F r
  | none => .none
theorem rsq_zf {k : Nat} {q r : Rat} (h : rsq q = some r) (h0 : 0 ≤ q) (z : Zf k q) : Zf k r := by
  unfold rsq at h
  split at h
  · rename_i c
    cases h
    exact Zf.of (isq_den_pos c.2) (ratD (by have := isq_den_pos c.2; omega)) (isq_sz (Rat.num_nonneg.mpr h0) z.n) (isq_sz (Int.le_of_lt (den_pos q)) z.d)
  · cases h
/-- the sign of p + f roots of q -/
def sgR (p f q : Rat) : Int := if sgQ p = 0 then sgQ f * sgQ q else if 0 ≤ sgQ p * (sgQ f * sgQ q) then sgQ p else sgQ p * sgQ (p * p - f * f * q)
/-- the surd of p and f roots of q -/
def so (p f q : Rat) : Rat × Int × Rat := match rsq q with
  | some r => (p + f * r, 0, 0)
  | none => (p, sgQ f, f * f * q)
def SUt (t : Rat × Int × Rat) : PyData := SU t.1 t.2.1 t.2.2
def sdOk (p : Rat) (e : Int) (q : Rat) : Prop := (e = 0 ∧ q = 0) ∨ ((e = 1 ∨ e = -1) ∧ 0 < q ∧ rsq q = none)
theorem so_ok {p f q : Rat} (h : 0 ≤ q) : sdOk (so p f q).1 (so p f q).2.1 (so p f q).2.2 := by
  unfold so
  split
  · exact .inl ⟨rfl, rfl⟩
  · rename_i e
    have q0 : 0 < q := by
      have : q ≠ 0 := fun z => by rw [z, rsq_zero] at e; cases e
      grind
    rcases tri f with hf | rfl | hf
    · refine .inr ⟨.inr (sg_neg hf), Rat.mul_pos (neg_neg hf hf) q0, ?_⟩
      cases e2 : rsq (f * f * q) with
      | none => rfl
      | some r =>
        exfalso
        have := (rsq_some e2).2
        refine rsq_none h e (r / f) ?_
        have : f ≠ 0 := by grind
        grind
    · refine .inl ⟨sg_zero, ?_⟩
      show (0 : Rat) * 0 * q = 0
      grind
    · refine .inr ⟨.inl (sg_pos hf), Rat.mul_pos (Rat.mul_pos hf hf) q0, ?_⟩
      cases e2 : rsq (f * f * q) with
      | none => rfl
      | some r =>
        exfalso
        have := (rsq_some e2).2
        refine rsq_none h e (r / f) ?_
        have : f ≠ 0 := by grind
        grind
/-- the surds at which c + g x + a x x is 0 -/
def zsT (c g a : Rat) : List (Rat × Int × Rat) :=
  if a = 0 then (if g = 0 then [] else [(-c / g, 0, 0)])
  else if g * g - 4 * (a * c) < 0 then []
  else if g * g - 4 * (a * c) = 0 then [(-g / (2 * a), 0, 0)]
  else [so (-g / (2 * a)) (-((sgQ a : Rat) / (2 * a))) (g * g - 4 * (a * c)), so (-g / (2 * a)) ((sgQ a : Rat) / (2 * a)) (g * g - 4 * (a * c))]
def sgT (t : Rat × Int × Rat) : Int := sgR t.1 (t.2.1 : Rat) t.2.2
def zsD (l : List (Rat × Int × Rat)) : PyData := .list (l.map SUt)
theorem tupI (e : Int) : (PyData.tuple [.int e, .int 1]) = F (e : Rat) := by
  unfold F
  rw [Rat.num_intCast, Rat.den_intCast]
  rfl
theorem zf_sg (q : Rat) : Zf 4 ((sgQ q : Int) : Rat) := by
  rcases tri q with h | rfl | h
  · rw [sg_neg h]
    exact ⟨by unfold Sz; decide, by unfold Sz; decide⟩
  · rw [sg_zero]
    exact zl0
  · rw [sg_pos h]
    exact zl1
theorem zf_e {e : Int} (h : e = 0 ∨ e = 1 ∨ e = -1) : Zf 4 (e : Rat) := by
  rcases h with rfl | rfl | rfl
  · exact zl0
  · exact zl1
  · exact ⟨by unfold Sz; decide, by unfold Sz; decide⟩
theorem sdOk.e {p : Rat} {e : Int} {q : Rat} (h : sdOk p e q) : e = 0 ∨ e = 1 ∨ e = -1 := by
  rcases h with h | h
  · exact .inl h.1
  · exact .inr h.1
theorem sdOk.q {p : Rat} {e : Int} {q : Rat} (h : sdOk p e q) : 0 ≤ q := by
  rcases h with h | h
  · rw [h.2]
    grind
  · have := h.2.1
    grind
theorem tg_SU {Q : SDs → Prop} {τ : SDs} {p q : Rat} {e : Int} {i j k : Nat} : wTg (.many [i, j, k]) (.d (SU p e q)) τ Q = Q (((τ.set i (some (.val (.d (F p))))).set j (some (.val (.d (.int e))))).set k (some (.val (.d (F q))))) := propext ⟨fun h => h.2, fun h => ⟨rfl, h⟩⟩
theorem isT_SU {p q : Rat} {e : Int} : isT (SU p e q) = true := rfl
theorem len_SU {p q : Rat} {e : Int} : lenD (.d (SU p e q)) = some 3 := rfl
theorem isq_eq (n : Int) : ((Float64.isqrt n.toNat : Nat) : Int) = isq n := rfl
theorem fits13 {z : Int} (hz : Sz 3000 z) : z < 2 ^ 13000 := by
  have := hz.mono (k := 13000) (by decide)
  unfold Sz at this
  have e : ((2 ^ 13000 : Nat) : Int) = (2 : Int) ^ 13000 := by rw [Int.natCast_pow]; rfl
  omega
theorem rsD_some {q r : Rat} (h : rsq q = some r) : rsD q = F r := by
  unfold rsD
  rw [h]
theorem rsD_none {q : Rat} (h : rsq q = none) : rsD q = .none := by
  unfold rsD
  rw [h]
theorem rsD_def (q : Rat) : rsD q = if isq q.num * isq q.num = q.num then (if isq (q.den : Int) * isq (q.den : Int) = (q.den : Int) then .tuple [.int (isq q.num), .int (isq (q.den : Int))] else .none) else .none := by
  by_cases h : isq q.num * isq q.num = q.num
  · by_cases h' : isq (q.den : Int) * isq (q.den : Int) = (q.den : Int)
    · rw [if_pos h, if_pos h']
      have e : rsq q = some ((isq q.num : Rat) / (isq (q.den : Int) : Rat)) := by
        unfold rsq
        rw [if_pos ⟨h, h'⟩]
      rw [rsD_some e]
      refine (F_of (isq_den_pos h') ?_).symm
      have c := g2_rat q
      have d1 : (Nat.gcd (isq q.num).natAbs (isq (q.den : Int)).natAbs) ∣ q.num.natAbs := by
        have e1 : q.num.natAbs = (isq q.num).natAbs * (isq q.num).natAbs := by rw [← Int.natAbs_mul, h]
        rw [e1]
        exact Nat.dvd_trans (Nat.gcd_dvd_left _ _) (Nat.dvd_mul_right _ _)
      have d2 : (Nat.gcd (isq q.num).natAbs (isq (q.den : Int)).natAbs) ∣ (q.den : Int).natAbs := by
        have e1 : (q.den : Int).natAbs = (isq (q.den : Int)).natAbs * (isq (q.den : Int)).natAbs := by rw [← Int.natAbs_mul, h']
        rw [e1]
        exact Nat.dvd_trans (Nat.gcd_dvd_right _ _) (Nat.dvd_mul_right _ _)
      have := Nat.dvd_gcd d1 d2
      unfold g2 at c ⊢
      have c : Nat.gcd q.num.natAbs (q.den : Int).natAbs = 1 := by omega
      rw [c] at this
      have := Nat.dvd_one.mp this
      omega
    · rw [if_pos h, if_neg h', rsD_none]
      unfold rsq
      rw [if_neg fun z => h' z.2]
  · rw [if_neg h, rsD_none]
    unfold rsq
    rw [if_neg fun z => h z.1]
theorem cm_sg (a b : Int) (ha : a = 0 ∨ a = 1 ∨ a = -1) (hb : Sz 10 b) : CMul a b ∨ CMulW a b := cmul (j := 10) (k := 10) (by rcases ha with rfl | rfl | rfl <;> (unfold Sz; decide)) hb (by decide) (by decide) (by decide)
theorem sg_in (q : Rat) : sgQ q = 0 ∨ sgQ q = 1 ∨ sgQ q = -1 := by
  rcases tri q with h | rfl | h
  · rw [sg_neg h]; exact .inr (.inr rfl)
  · rw [sg_zero]; exact .inl rfl
  · rw [sg_pos h]; exact .inr (.inl rfl)
theorem sz_sg {a : Int} (h : a = 0 ∨ a = 1 ∨ a = -1) : Sz 10 a := by rcases h with rfl | rfl | rfl <;> (unfold Sz; decide)
theorem in_mul {a b : Int} (h : a = 0 ∨ a = 1 ∨ a = -1) (h' : b = 0 ∨ b = 1 ∨ b = -1) : a * b = 0 ∨ a * b = 1 ∨ a * b = -1 := by
  rcases h with rfl | rfl | rfl <;> rcases h' with rfl | rfl | rfl <;> simp
theorem sgR_in (p f q : Rat) : sgR p f q = 0 ∨ sgR p f q = 1 ∨ sgR p f q = -1 := by
  unfold sgR
  split
  · exact in_mul (sg_in _) (sg_in _)
  · split
    · exact sg_in _
    · exact in_mul (sg_in _) (sg_in _)
theorem fold_Fr {r : Rat} : (PyData.tuple [.int r.num, .int (r.den : Int)]) = F r := rfl
theorem tupS (q : Rat) : (PyData.tuple [.int (sgQ q), .int 1]) = F ((sgQ q : Int) : Rat) := tupI _
theorem isq_half {m : Nat} {n : Int} (h : isq n * isq n = n) (s : Sz (2 * m) n) : Sz m (isq n) := by
  unfold Sz at *
  rw [← h, Int.natAbs_mul] at s
  have e : (2 : Nat) ^ (2 * m) = 2 ^ m * 2 ^ m := by rw [← Nat.pow_add]; congr 1; omega
  rw [e] at s
  rcases Nat.lt_or_ge (isq n).natAbs (2 ^ m) with z | z
  · exact z
  · have := Nat.mul_le_mul z z
    omega
theorem rsq_half {m : Nat} {q r : Rat} (h : rsq q = some r) (z : Zf (2 * m) q) : Zf m r := by
  unfold rsq at h
  split at h
  · rename_i c
    cases h
    exact Zf.of (isq_den_pos c.2) (ratD (by have := isq_den_pos c.2; omega)) (isq_half c.1 z.n) (isq_half c.2 z.d)
  · cases h
def zOk (t : Rat × Int × Rat) : Prop := sdOk t.1 t.2.1 t.2.2 ∧ Zf 1400 t.1 ∧ Zf 2200 t.2.2
theorem zs_len (c g a : Rat) : (zsT c g a).length ≤ 2 := by
  unfold zsT
  split
  · split <;> simp
  · split
    · simp
    · split <;> simp
theorem flt_keep {α : Type} (p : α → Bool) (d : α → PyData) : ∀ es : List α, (es.flatMap fun e => (if p e = true then some (d e) else none).toList) = (es.filter p).map d
  | [] => rfl
  | e :: es => by
    have := flt_keep p d es
    cases h : p e <;> simp [h] <;> simpa using this
def sp_square_root : PSp := fun ds Q => ∃ q, ds = [.d (F q)] ∧ 0 ≤ q ∧ Zf 3000 q ∧ Q (.d (rsD q))
theorem ap_square_root {Q : DV → Prop} {q : Rat} : sp_square_root [DV.d (F q)] Q = (0 ≤ q ∧ Zf 3000 q ∧ Q (DV.d (rsD q))) := propext ⟨fun ⟨_, e, r⟩ => by
  simp only [List.cons.injEq, DV.d.injEq, and_true, true_and, F_eq, J_eq, P3_eq, T_eq, PyData.int.injEq, PyData.str.injEq, PyData.list.injEq, PyData.tuple.injEq] at e
  obtain rfl := e
  exact r, fun r => ⟨_, rfl, r⟩⟩
def sp_sign_with_root : PSp := fun ds Q => ∃ p f q, ds = [.d (F p), .d (F f), .d (F q)] ∧ 0 ≤ q ∧ Zf 1490 p ∧ Zf 1500 f ∧ Zf 3000 q ∧ Zf 3000 (f * f * q) ∧ Q (.d (.int (sgR p f q)))
theorem ap_sign_with_root {Q : DV → Prop} {p : Rat} {f : Rat} {q : Rat} : sp_sign_with_root [DV.d (F p), DV.d (F f), DV.d (F q)] Q = (0 ≤ q ∧ Zf 1490 p ∧ Zf 1500 f ∧ Zf 3000 q ∧ Zf 3000 (f * f * q) ∧ Q (DV.d (.int (sgR p f q)))) := propext ⟨fun ⟨_, _, _, e, r⟩ => by
  simp only [List.cons.injEq, DV.d.injEq, and_true, true_and, F_eq, J_eq, P3_eq, T_eq, PyData.int.injEq, PyData.str.injEq, PyData.list.injEq, PyData.tuple.injEq] at e
  obtain ⟨rfl, rfl, rfl⟩ := e
  exact r, fun r => ⟨_, _, _, rfl, r⟩⟩
def sp_check_surd : PSp := fun ds Q => ∃ p e q, ds = [.d (SU p e q)] ∧ sdOk p e q ∧ Zf 3000 q ∧ Q (.d (.none))
theorem ap_check_surd {Q : DV → Prop} {p : Rat} {e : Int} {q : Rat} : sp_check_surd [DV.d (SU p e q)] Q = (sdOk p e q ∧ Zf 3000 q ∧ Q (DV.d (.none))) := propext ⟨fun ⟨_, _, _, e, r⟩ => by
  simp only [List.cons.injEq, DV.d.injEq, and_true, true_and, F_eq, J_eq, P3_eq, T_eq, PyData.int.injEq, PyData.str.injEq, PyData.list.injEq, PyData.tuple.injEq, SU_eq] at e
  obtain ⟨rfl, rfl, rfl⟩ := e
  exact r, fun r => ⟨_, _, _, rfl, r⟩⟩
def sp_is_surd : PSp := fun ds Q => ∃ p e q, ds = [.d (SU p e q)] ∧ sdOk p e q ∧ Zf 3000 q ∧ Q (.d (.bool true))
theorem ap_is_surd {Q : DV → Prop} {p : Rat} {e : Int} {q : Rat} : sp_is_surd [DV.d (SU p e q)] Q = (sdOk p e q ∧ Zf 3000 q ∧ Q (DV.d (.bool true))) := propext ⟨fun ⟨_, _, _, e, r⟩ => by
  simp only [List.cons.injEq, DV.d.injEq, and_true, true_and, F_eq, J_eq, P3_eq, T_eq, PyData.int.injEq, PyData.str.injEq, PyData.list.injEq, PyData.tuple.injEq, SU_eq] at e
  obtain ⟨rfl, rfl, rfl⟩ := e
  exact r, fun r => ⟨_, _, _, rfl, r⟩⟩
def sp_surd_of : PSp := fun ds Q => ∃ p f q, ds = [.d (F p), .d (F f), .d (F q)] ∧ 0 ≤ q ∧ Zf 2000 p ∧ Zf 600 f ∧ Zf 2200 q ∧ Q (.d (SUt (so p f q)))
theorem ap_surd_of {Q : DV → Prop} {p : Rat} {f : Rat} {q : Rat} : sp_surd_of [DV.d (F p), DV.d (F f), DV.d (F q)] Q = (0 ≤ q ∧ Zf 2000 p ∧ Zf 600 f ∧ Zf 2200 q ∧ Q (DV.d (SUt (so p f q)))) := propext ⟨fun ⟨_, _, _, e, r⟩ => by
  simp only [List.cons.injEq, DV.d.injEq, and_true, true_and, F_eq, J_eq, P3_eq, T_eq, PyData.int.injEq, PyData.str.injEq, PyData.list.injEq, PyData.tuple.injEq] at e
  obtain ⟨rfl, rfl, rfl⟩ := e
  exact r, fun r => ⟨_, _, _, rfl, r⟩⟩
def sp_as_surd : PSp := fun ds Q => ∃ q, ds = [.d (F q)] ∧ Q (.d (SU q 0 0))
theorem ap_as_surd {Q : DV → Prop} {q : Rat} : sp_as_surd [DV.d (F q)] Q = (Q (DV.d (SU q 0 0))) := propext ⟨fun ⟨_, e, r⟩ => by
  simp only [List.cons.injEq, DV.d.injEq, and_true, true_and, F_eq, J_eq, P3_eq, T_eq, PyData.int.injEq, PyData.str.injEq, PyData.list.injEq, PyData.tuple.injEq] at e
  obtain rfl := e
  exact r, fun r => ⟨_, rfl, r⟩⟩
def sp_surd_sign : PSp := fun ds Q => ∃ p e q, ds = [.d (SU p e q)] ∧ sdOk p e q ∧ Zf 1400 p ∧ Zf 2200 q ∧ Q (.d (.int (sgR p (e : Rat) q)))
theorem ap_surd_sign {Q : DV → Prop} {p : Rat} {e : Int} {q : Rat} : sp_surd_sign [DV.d (SU p e q)] Q = (sdOk p e q ∧ Zf 1400 p ∧ Zf 2200 q ∧ Q (DV.d (.int (sgR p (e : Rat) q)))) := propext ⟨fun ⟨_, _, _, e, r⟩ => by
  simp only [List.cons.injEq, DV.d.injEq, and_true, true_and, F_eq, J_eq, P3_eq, T_eq, PyData.int.injEq, PyData.str.injEq, PyData.list.injEq, PyData.tuple.injEq, SU_eq] at e
  obtain ⟨rfl, rfl, rfl⟩ := e
  exact r, fun r => ⟨_, _, _, rfl, r⟩⟩
def sp_zeros : PSp := fun ds Q => ∃ c g a, ds = [.d (.tuple [F c, F g, F a])] ∧ Zf 250 c ∧ Zf 250 g ∧ Zf 250 a ∧ Q (.d (zsD (zsT c g a)))
theorem ap_zeros {Q : DV → Prop} {c : Rat} {g : Rat} {a : Rat} : sp_zeros [DV.d (.tuple [F c, F g, F a])] Q = (Zf 250 c ∧ Zf 250 g ∧ Zf 250 a ∧ Q (DV.d (zsD (zsT c g a)))) := propext ⟨fun ⟨_, _, _, e, r⟩ => by
  simp only [List.cons.injEq, DV.d.injEq, and_true, true_and, F_eq, J_eq, P3_eq, T_eq, PyData.int.injEq, PyData.str.injEq, PyData.list.injEq, PyData.tuple.injEq] at e
  obtain ⟨rfl, rfl, rfl⟩ := e
  exact r, fun r => ⟨_, _, _, rfl, r⟩⟩
section
variable {Φ : Nat → PSp}
theorem sem_square_root : ∀ ds Q, sp_square_root ds Q → wS Φ rs_square_root { nx := fun _ => Q (.d .none), rt := Q } (startD ["x0", "x1", "x2"] ds) := by
  rintro ds Q ⟨q, rfl, h1, h2, hq⟩
  show wS Φ rs_square_root _ [some (.val (.d (F q))), none, none]
  simp only [rs_square_root, wS, wE, wA, wT, wI, wO, ev_add, ev_sub, ev_mul, ev_div, ev_mod, ev_pow, ev_cat, ev_lt, ev_le, ev_gt, ev_ge, ev_eq, ev_ne, ev_eqs, ev_nes, ix_F0, ix_F1, ix_J0, ix_J1, ix_P0, ix_P1, ix_P2, ix_t0, ix_t1, ix_t2, ix_l0, ix_l1, ix_l2, tg_1, tg_F, tg_J, tg_P, tg_2, tg_3, tg_4, fold_J, eq_F, ne_F, eq_J, ne_J, eq_P, ne_P, db_, di_, setVals, setAll, datas, itemsD, truD, List.getElem?_cons_zero, List.getElem?_cons_succ, List.set_cons_zero, List.set_cons_succ, Option.map_some, Option.map_none, Option.some.injEq, exists_eq_left', decide_eq_true_eq, Bool.not_true, Bool.not_false, Bool.false_eq_true, if_false, if_true, true_and, and_true, decide_true, decide_false, List.length_cons, List.length_nil, mx_0, mx_1, mx_2, mx_3, mx_4, mx_5, mx_6, mx_7, mx_8, mx_9, mx_10, mx_11, mx_12, mx_13, mx_14, mx_15, mx_16, mx_17, mx_18, mx_19, mx_20, mx_21, mx_22, mx_23, mx_24, Nat.reduceAdd, Nat.reduceLeDiff, Nat.zero_add, Bool.not_eq_true', decide_eq_false_iff_not, reduceIte, ev_reprb, wBi, isq_eq]
  have n0 : 0 ≤ q.num := Rat.num_nonneg.mpr h1
  have d0 := Int.le_of_lt (den_pos q)
  refine ⟨n0, fits13 h2.n, d0, fits13 h2.d, cmul (isq_sz n0 h2.n) (isq_sz n0 h2.n) (by decide) (by decide) (by decide), ?_⟩
  rw [rsD_def] at hq
  split
  · rename_i c
    rw [if_pos c] at hq
    refine ⟨cmul (isq_sz d0 h2.d) (isq_sz d0 h2.d) (by decide) (by decide) (by decide), ?_⟩
    split
    · rename_i c'
      rw [if_pos c'] at hq
      exact hq
    · rename_i c'
      rw [if_neg c'] at hq
      exact hq
  · rename_i c
    rw [if_neg c] at hq
    exact hq
theorem sem_sign_with_root (e_sign : Φ 50 = sp_sign) (e_times : Φ 51 = sp_times) (e_pminus : Φ 65 = sp_pminus) : ∀ ds Q, sp_sign_with_root ds Q → wS Φ rs_sign_with_root { nx := fun _ => Q (.d .none), rt := Q } (startD ["x0", "x1", "x2", "x3", "x4", "x5"] ds) := by
  rintro ds Q ⟨p, f, q, rfl, h1, h2, h3, h4, h5, hq⟩
  show wS Φ rs_sign_with_root _ [some (.val (.d (F p))), some (.val (.d (F f))), some (.val (.d (F q))), none, none, none]
  simp only [rs_sign_with_root, wS, wE, wA, wT, wI, wO, ev_add, ev_sub, ev_mul, ev_div, ev_mod, ev_pow, ev_cat, ev_lt, ev_le, ev_gt, ev_ge, ev_eq, ev_ne, ev_eqs, ev_nes, ix_F0, ix_F1, ix_J0, ix_J1, ix_P0, ix_P1, ix_P2, ix_t0, ix_t1, ix_t2, ix_l0, ix_l1, ix_l2, tg_1, tg_F, tg_J, tg_P, tg_2, tg_3, tg_4, fold_J, eq_F, ne_F, eq_J, ne_J, eq_P, ne_P, db_, di_, setVals, setAll, datas, itemsD, truD, List.getElem?_cons_zero, List.getElem?_cons_succ, List.set_cons_zero, List.set_cons_succ, Option.map_some, Option.map_none, Option.some.injEq, exists_eq_left', decide_eq_true_eq, Bool.not_true, Bool.not_false, Bool.false_eq_true, if_false, if_true, true_and, and_true, decide_true, decide_false, List.length_cons, List.length_nil, mx_0, mx_1, mx_2, mx_3, mx_4, mx_5, mx_6, mx_7, mx_8, mx_9, mx_10, mx_11, mx_12, mx_13, mx_14, mx_15, mx_16, mx_17, mx_18, mx_19, mx_20, mx_21, mx_22, mx_23, mx_24, Nat.reduceAdd, Nat.reduceLeDiff, Nat.zero_add, Bool.not_eq_true', decide_eq_false_iff_not, reduceIte, ev_reprb, e_sign, e_times, e_pminus, ap_sign, ap_times, ap_pminus, sgI_num]
  refine ⟨cm_sg _ _ (sg_in _) (sz_sg (sg_in _)), ?_⟩
  unfold sgR at hq
  split
  · rename_i c
    rw [if_pos c] at hq
    exact hq
  · rename_i c
    rw [if_neg c] at hq
    refine ⟨cm_sg _ _ (sg_in _) (sz_sg (in_mul (sg_in _) (sg_in _))), ?_⟩
    split
    · rename_i c'
      rw [if_pos c'] at hq
      exact hq
    · rename_i c'
      rw [if_neg c'] at hq
      exact ⟨by walk_at "sz", by walk_at "sz", by walk_at "sz", by walk_at "sz", by walk_at "sz", by walk_at "sz", by walk_at "sz", by walk_at "sz", cm_sg _ _ (sg_in _) (sz_sg (sg_in _)), hq⟩
theorem sem_is_surd (e_is_whole : Φ 10 = sp_is_whole) (e_is_fraction : Φ 11 = sp_is_fraction) (e_square_root : Φ 45 = sp_square_root) : ∀ ds Q, sp_is_surd ds Q → wS Φ rs_is_surd { nx := fun _ => Q (.d .none), rt := Q } (startD ["x0", "x1", "x2", "x3"] ds) := by
  rintro ds Q ⟨p, e, q, rfl, h1, h2, hq⟩
  show wS Φ rs_is_surd _ [some (.val (.d (SU p e q))), none, none, none]
  simp only [rs_is_surd, wS, wE, wA, wT, wI, wO, ev_add, ev_sub, ev_mul, ev_div, ev_mod, ev_pow, ev_cat, ev_lt, ev_le, ev_gt, ev_ge, ev_eq, ev_ne, ev_eqs, ev_nes, ix_F0, ix_F1, ix_J0, ix_J1, ix_P0, ix_P1, ix_P2, ix_t0, ix_t1, ix_t2, ix_l0, ix_l1, ix_l2, tg_1, tg_F, tg_J, tg_P, tg_2, tg_3, tg_4, fold_J, eq_F, ne_F, eq_J, ne_J, eq_P, ne_P, db_, di_, setVals, setAll, datas, itemsD, truD, List.getElem?_cons_zero, List.getElem?_cons_succ, List.set_cons_zero, List.set_cons_succ, Option.map_some, Option.map_none, Option.some.injEq, exists_eq_left', decide_eq_true_eq, Bool.not_true, Bool.not_false, Bool.false_eq_true, if_false, if_true, true_and, and_true, decide_true, decide_false, List.length_cons, List.length_nil, mx_0, mx_1, mx_2, mx_3, mx_4, mx_5, mx_6, mx_7, mx_8, mx_9, mx_10, mx_11, mx_12, mx_13, mx_14, mx_15, mx_16, mx_17, mx_18, mx_19, mx_20, mx_21, mx_22, mx_23, mx_24, Nat.reduceAdd, Nat.reduceLeDiff, Nat.zero_add, Bool.not_eq_true', decide_eq_false_iff_not, reduceIte, ev_reprb, e_is_whole, e_is_fraction, e_square_root, ap_is_whole, ap_is_fraction, ap_square_root, isi_tuple, isT_SU, ev_len, len_SU, tg_SU, isF_F, isW, lit_0, num_pos]
  rcases h1 with ⟨rfl, rfl⟩ | ⟨he, q0, hn⟩
  · simp only [wS, wE, wA, wT, wI, wO, ev_add, ev_sub, ev_mul, ev_div, ev_mod, ev_pow, ev_cat, ev_lt, ev_le, ev_gt, ev_ge, ev_eq, ev_ne, ev_eqs, ev_nes, ix_F0, ix_F1, ix_J0, ix_J1, ix_P0, ix_P1, ix_P2, ix_t0, ix_t1, ix_t2, ix_l0, ix_l1, ix_l2, tg_1, tg_F, tg_J, tg_P, tg_2, tg_3, tg_4, fold_J, eq_F, ne_F, eq_J, ne_J, eq_P, ne_P, db_, di_, setVals, setAll, datas, itemsD, truD, List.getElem?_cons_zero, List.getElem?_cons_succ, List.set_cons_zero, List.set_cons_succ, Option.map_some, Option.map_none, Option.some.injEq, exists_eq_left', decide_eq_true_eq, Bool.not_true, Bool.not_false, Bool.false_eq_true, if_false, if_true, true_and, and_true, decide_true, decide_false, List.length_cons, List.length_nil, mx_0, mx_1, mx_2, mx_3, mx_4, mx_5, mx_6, mx_7, mx_8, mx_9, mx_10, mx_11, mx_12, mx_13, mx_14, mx_15, mx_16, mx_17, mx_18, mx_19, mx_20, mx_21, mx_22, mx_23, mx_24, Nat.reduceAdd, Nat.reduceLeDiff, Nat.zero_add, Bool.not_eq_true', decide_eq_false_iff_not, reduceIte, ev_reprb]
    exact hq
  · have e0 : ¬ e = 0 := by rcases he with rfl | rfl <;> decide
    have ed := rsD_none hn
    rcases he with rfl | rfl
    · simp only [wS, wE, wA, wT, wI, wO, ev_add, ev_sub, ev_mul, ev_div, ev_mod, ev_pow, ev_cat, ev_lt, ev_le, ev_gt, ev_ge, ev_eq, ev_ne, ev_eqs, ev_nes, ix_F0, ix_F1, ix_J0, ix_J1, ix_P0, ix_P1, ix_P2, ix_t0, ix_t1, ix_t2, ix_l0, ix_l1, ix_l2, tg_1, tg_F, tg_J, tg_P, tg_2, tg_3, tg_4, fold_J, eq_F, ne_F, eq_J, ne_J, eq_P, ne_P, db_, di_, setVals, setAll, datas, itemsD, truD, List.getElem?_cons_zero, List.getElem?_cons_succ, List.set_cons_zero, List.set_cons_succ, Option.map_some, Option.map_none, Option.some.injEq, exists_eq_left', decide_eq_true_eq, Bool.not_true, Bool.not_false, Bool.false_eq_true, if_false, if_true, true_and, and_true, decide_true, decide_false, List.length_cons, List.length_nil, mx_0, mx_1, mx_2, mx_3, mx_4, mx_5, mx_6, mx_7, mx_8, mx_9, mx_10, mx_11, mx_12, mx_13, mx_14, mx_15, mx_16, mx_17, mx_18, mx_19, mx_20, mx_21, mx_22, mx_23, mx_24, Nat.reduceAdd, Nat.reduceLeDiff, Nat.zero_add, Bool.not_eq_true', decide_eq_false_iff_not, reduceIte, ev_reprb, q0, ed]
      exact ⟨Rat.le_of_lt q0, h2, hq⟩
    · simp only [wS, wE, wA, wT, wI, wO, ev_add, ev_sub, ev_mul, ev_div, ev_mod, ev_pow, ev_cat, ev_lt, ev_le, ev_gt, ev_ge, ev_eq, ev_ne, ev_eqs, ev_nes, ix_F0, ix_F1, ix_J0, ix_J1, ix_P0, ix_P1, ix_P2, ix_t0, ix_t1, ix_t2, ix_l0, ix_l1, ix_l2, tg_1, tg_F, tg_J, tg_P, tg_2, tg_3, tg_4, fold_J, eq_F, ne_F, eq_J, ne_J, eq_P, ne_P, db_, di_, setVals, setAll, datas, itemsD, truD, List.getElem?_cons_zero, List.getElem?_cons_succ, List.set_cons_zero, List.set_cons_succ, Option.map_some, Option.map_none, Option.some.injEq, exists_eq_left', decide_eq_true_eq, Bool.not_true, Bool.not_false, Bool.false_eq_true, if_false, if_true, true_and, and_true, decide_true, decide_false, List.length_cons, List.length_nil, mx_0, mx_1, mx_2, mx_3, mx_4, mx_5, mx_6, mx_7, mx_8, mx_9, mx_10, mx_11, mx_12, mx_13, mx_14, mx_15, mx_16, mx_17, mx_18, mx_19, mx_20, mx_21, mx_22, mx_23, mx_24, Nat.reduceAdd, Nat.reduceLeDiff, Nat.zero_add, Bool.not_eq_true', decide_eq_false_iff_not, reduceIte, ev_reprb, q0, ed]
      exact ⟨Rat.le_of_lt q0, h2, hq⟩
theorem sem_check_surd (e_is_surd : Φ 46 = sp_is_surd) : ∀ ds Q, sp_check_surd ds Q → wS Φ rs_check_surd { nx := fun _ => Q (.d .none), rt := Q } (startD ["x0"] ds) := by
  rintro ds Q ⟨p, e, q, rfl, h1, h2, hq⟩
  show wS Φ rs_check_surd _ [some (.val (.d (SU p e q)))]
  simp only [rs_check_surd, wS, wE, wA, wT, wI, wO, ev_add, ev_sub, ev_mul, ev_div, ev_mod, ev_pow, ev_cat, ev_lt, ev_le, ev_gt, ev_ge, ev_eq, ev_ne, ev_eqs, ev_nes, ix_F0, ix_F1, ix_J0, ix_J1, ix_P0, ix_P1, ix_P2, ix_t0, ix_t1, ix_t2, ix_l0, ix_l1, ix_l2, tg_1, tg_F, tg_J, tg_P, tg_2, tg_3, tg_4, fold_J, eq_F, ne_F, eq_J, ne_J, eq_P, ne_P, db_, di_, setVals, setAll, datas, itemsD, truD, List.getElem?_cons_zero, List.getElem?_cons_succ, List.set_cons_zero, List.set_cons_succ, Option.map_some, Option.map_none, Option.some.injEq, exists_eq_left', decide_eq_true_eq, Bool.not_true, Bool.not_false, Bool.false_eq_true, if_false, if_true, true_and, and_true, decide_true, decide_false, List.length_cons, List.length_nil, mx_0, mx_1, mx_2, mx_3, mx_4, mx_5, mx_6, mx_7, mx_8, mx_9, mx_10, mx_11, mx_12, mx_13, mx_14, mx_15, mx_16, mx_17, mx_18, mx_19, mx_20, mx_21, mx_22, mx_23, mx_24, Nat.reduceAdd, Nat.reduceLeDiff, Nat.zero_add, Bool.not_eq_true', decide_eq_false_iff_not, reduceIte, ev_reprb, e_is_surd, ap_is_surd]
  exact ⟨h1, h2, hq⟩
theorem sem_surd_of (e_check_fraction : Φ 13 = sp_check_fraction) (e_square_root : Φ 45 = sp_square_root) (e_plus : Φ 48 = sp_plus) (e_times : Φ 51 = sp_times) (e_sign : Φ 50 = sp_sign) : ∀ ds Q, sp_surd_of ds Q → wS Φ rs_surd_of { nx := fun _ => Q (.d .none), rt := Q } (startD ["x0", "x1", "x2", "x3"] ds) := by
  rintro ds Q ⟨p, f, q, rfl, h1, h2, h3, h4, hq⟩
  show wS Φ rs_surd_of _ [some (.val (.d (F p))), some (.val (.d (F f))), some (.val (.d (F q))), none]
  simp only [rs_surd_of, wS, wE, wA, wT, wI, wO, ev_add, ev_sub, ev_mul, ev_div, ev_mod, ev_pow, ev_cat, ev_lt, ev_le, ev_gt, ev_ge, ev_eq, ev_ne, ev_eqs, ev_nes, ix_F0, ix_F1, ix_J0, ix_J1, ix_P0, ix_P1, ix_P2, ix_t0, ix_t1, ix_t2, ix_l0, ix_l1, ix_l2, tg_1, tg_F, tg_J, tg_P, tg_2, tg_3, tg_4, fold_J, eq_F, ne_F, eq_J, ne_J, eq_P, ne_P, db_, di_, setVals, setAll, datas, itemsD, truD, List.getElem?_cons_zero, List.getElem?_cons_succ, List.set_cons_zero, List.set_cons_succ, Option.map_some, Option.map_none, Option.some.injEq, exists_eq_left', decide_eq_true_eq, Bool.not_true, Bool.not_false, Bool.false_eq_true, if_false, if_true, true_and, and_true, decide_true, decide_false, List.length_cons, List.length_nil, mx_0, mx_1, mx_2, mx_3, mx_4, mx_5, mx_6, mx_7, mx_8, mx_9, mx_10, mx_11, mx_12, mx_13, mx_14, mx_15, mx_16, mx_17, mx_18, mx_19, mx_20, mx_21, mx_22, mx_23, mx_24, Nat.reduceAdd, Nat.reduceLeDiff, Nat.zero_add, Bool.not_eq_true', decide_eq_false_iff_not, reduceIte, ev_reprb, e_check_fraction, e_square_root, e_plus, e_times, e_sign, ap_check_fraction, ap_square_root, ap_plus, ap_times, ap_sign, isF_F, num_neg, sgI_num]
  rw [if_neg (by grind)]
  refine ⟨h1, by walk_at "sz", ?_⟩
  unfold so at hq
  cases e : rsq q with
  | none =>
    rw [e] at hq
    simp only [rsD_none e, wS, wE, wA, wT, wI, wO, ev_add, ev_sub, ev_mul, ev_div, ev_mod, ev_pow, ev_cat, ev_lt, ev_le, ev_gt, ev_ge, ev_eq, ev_ne, ev_eqs, ev_nes, ix_F0, ix_F1, ix_J0, ix_J1, ix_P0, ix_P1, ix_P2, ix_t0, ix_t1, ix_t2, ix_l0, ix_l1, ix_l2, tg_1, tg_F, tg_J, tg_P, tg_2, tg_3, tg_4, fold_J, eq_F, ne_F, eq_J, ne_J, eq_P, ne_P, db_, di_, setVals, setAll, datas, itemsD, truD, List.getElem?_cons_zero, List.getElem?_cons_succ, List.set_cons_zero, List.set_cons_succ, Option.map_some, Option.map_none, Option.some.injEq, exists_eq_left', decide_eq_true_eq, Bool.not_true, Bool.not_false, Bool.false_eq_true, if_false, if_true, true_and, and_true, decide_true, decide_false, List.length_cons, List.length_nil, mx_0, mx_1, mx_2, mx_3, mx_4, mx_5, mx_6, mx_7, mx_8, mx_9, mx_10, mx_11, mx_12, mx_13, mx_14, mx_15, mx_16, mx_17, mx_18, mx_19, mx_20, mx_21, mx_22, mx_23, mx_24, Nat.reduceAdd, Nat.reduceLeDiff, Nat.zero_add, Bool.not_eq_true', decide_eq_false_iff_not, reduceIte, ev_reprb]
    exact ⟨by walk_at "sz", by walk_at "sz", by walk_at "sz", by walk_at "sz", hq⟩
  | some r =>
    rw [e] at hq
    have zr := rsq_zf e h1 h4
    simp only [rsD_some e, F, wS, wE, wA, wT, wI, wO, ev_add, ev_sub, ev_mul, ev_div, ev_mod, ev_pow, ev_cat, ev_lt, ev_le, ev_gt, ev_ge, ev_eq, ev_ne, ev_eqs, ev_nes, ix_F0, ix_F1, ix_J0, ix_J1, ix_P0, ix_P1, ix_P2, ix_t0, ix_t1, ix_t2, ix_l0, ix_l1, ix_l2, tg_1, tg_F, tg_J, tg_P, tg_2, tg_3, tg_4, fold_J, eq_F, ne_F, eq_J, ne_J, eq_P, ne_P, db_, di_, setVals, setAll, datas, itemsD, truD, List.getElem?_cons_zero, List.getElem?_cons_succ, List.set_cons_zero, List.set_cons_succ, Option.map_some, Option.map_none, Option.some.injEq, exists_eq_left', decide_eq_true_eq, Bool.not_true, Bool.not_false, Bool.false_eq_true, if_false, if_true, true_and, and_true, decide_true, decide_false, List.length_cons, List.length_nil, mx_0, mx_1, mx_2, mx_3, mx_4, mx_5, mx_6, mx_7, mx_8, mx_9, mx_10, mx_11, mx_12, mx_13, mx_14, mx_15, mx_16, mx_17, mx_18, mx_19, mx_20, mx_21, mx_22, mx_23, mx_24, Nat.reduceAdd, Nat.reduceLeDiff, Nat.zero_add, Bool.not_eq_true', decide_eq_false_iff_not, reduceIte, ev_reprb]
    simp only [fold_Fr, wS, wE, wA, wT, wI, wO, ev_add, ev_sub, ev_mul, ev_div, ev_mod, ev_pow, ev_cat, ev_lt, ev_le, ev_gt, ev_ge, ev_eq, ev_ne, ev_eqs, ev_nes, ix_F0, ix_F1, ix_J0, ix_J1, ix_P0, ix_P1, ix_P2, ix_t0, ix_t1, ix_t2, ix_l0, ix_l1, ix_l2, tg_1, tg_F, tg_J, tg_P, tg_2, tg_3, tg_4, fold_J, eq_F, ne_F, eq_J, ne_J, eq_P, ne_P, db_, di_, setVals, setAll, datas, itemsD, truD, List.getElem?_cons_zero, List.getElem?_cons_succ, List.set_cons_zero, List.set_cons_succ, Option.map_some, Option.map_none, Option.some.injEq, exists_eq_left', decide_eq_true_eq, Bool.not_true, Bool.not_false, Bool.false_eq_true, if_false, if_true, true_and, and_true, decide_true, decide_false, List.length_cons, List.length_nil, mx_0, mx_1, mx_2, mx_3, mx_4, mx_5, mx_6, mx_7, mx_8, mx_9, mx_10, mx_11, mx_12, mx_13, mx_14, mx_15, mx_16, mx_17, mx_18, mx_19, mx_20, mx_21, mx_22, mx_23, mx_24, Nat.reduceAdd, Nat.reduceLeDiff, Nat.zero_add, Bool.not_eq_true', decide_eq_false_iff_not, reduceIte, ev_reprb, ap_times, ap_plus, lit_0]
    exact ⟨by walk_at "sz", by walk_at "sz", by walk_at "sz", by walk_at "sz", hq⟩
theorem sem_as_surd : ∀ ds Q, sp_as_surd ds Q → wS Φ rs_as_surd { nx := fun _ => Q (.d .none), rt := Q } (startD ["x0"] ds) := by
  rintro ds Q ⟨q, rfl, hq⟩
  show wS Φ rs_as_surd _ [some (.val (.d (F q)))]
  simp only [rs_as_surd, wS, wE, wA, wT, wI, wO, ev_add, ev_sub, ev_mul, ev_div, ev_mod, ev_pow, ev_cat, ev_lt, ev_le, ev_gt, ev_ge, ev_eq, ev_ne, ev_eqs, ev_nes, ix_F0, ix_F1, ix_J0, ix_J1, ix_P0, ix_P1, ix_P2, ix_t0, ix_t1, ix_t2, ix_l0, ix_l1, ix_l2, tg_1, tg_F, tg_J, tg_P, tg_2, tg_3, tg_4, fold_J, eq_F, ne_F, eq_J, ne_J, eq_P, ne_P, db_, di_, setVals, setAll, datas, itemsD, truD, List.getElem?_cons_zero, List.getElem?_cons_succ, List.set_cons_zero, List.set_cons_succ, Option.map_some, Option.map_none, Option.some.injEq, exists_eq_left', decide_eq_true_eq, Bool.not_true, Bool.not_false, Bool.false_eq_true, if_false, if_true, true_and, and_true, decide_true, decide_false, List.length_cons, List.length_nil, mx_0, mx_1, mx_2, mx_3, mx_4, mx_5, mx_6, mx_7, mx_8, mx_9, mx_10, mx_11, mx_12, mx_13, mx_14, mx_15, mx_16, mx_17, mx_18, mx_19, mx_20, mx_21, mx_22, mx_23, mx_24, Nat.reduceAdd, Nat.reduceLeDiff, Nat.zero_add, Bool.not_eq_true', decide_eq_false_iff_not, reduceIte, ev_reprb, lit_0]
  exact hq
theorem sem_surd_sign (e_sign_with_root : Φ 66 = sp_sign_with_root) : ∀ ds Q, sp_surd_sign ds Q → wS Φ rs_surd_sign { nx := fun _ => Q (.d .none), rt := Q } (startD ["x0", "x1", "x2", "x3"] ds) := by
  rintro ds Q ⟨p, e, q, rfl, h1, h2, h3, hq⟩
  show wS Φ rs_surd_sign _ [some (.val (.d (SU p e q))), none, none, none]
  simp only [rs_surd_sign, wS, wE, wA, wT, wI, wO, ev_add, ev_sub, ev_mul, ev_div, ev_mod, ev_pow, ev_cat, ev_lt, ev_le, ev_gt, ev_ge, ev_eq, ev_ne, ev_eqs, ev_nes, ix_F0, ix_F1, ix_J0, ix_J1, ix_P0, ix_P1, ix_P2, ix_t0, ix_t1, ix_t2, ix_l0, ix_l1, ix_l2, tg_1, tg_F, tg_J, tg_P, tg_2, tg_3, tg_4, fold_J, eq_F, ne_F, eq_J, ne_J, eq_P, ne_P, db_, di_, setVals, setAll, datas, itemsD, truD, List.getElem?_cons_zero, List.getElem?_cons_succ, List.set_cons_zero, List.set_cons_succ, Option.map_some, Option.map_none, Option.some.injEq, exists_eq_left', decide_eq_true_eq, Bool.not_true, Bool.not_false, Bool.false_eq_true, if_false, if_true, true_and, and_true, decide_true, decide_false, List.length_cons, List.length_nil, mx_0, mx_1, mx_2, mx_3, mx_4, mx_5, mx_6, mx_7, mx_8, mx_9, mx_10, mx_11, mx_12, mx_13, mx_14, mx_15, mx_16, mx_17, mx_18, mx_19, mx_20, mx_21, mx_22, mx_23, mx_24, Nat.reduceAdd, Nat.reduceLeDiff, Nat.zero_add, Bool.not_eq_true', decide_eq_false_iff_not, reduceIte, ev_reprb, e_sign_with_root, ap_sign_with_root, tupI, tg_SU]
  have ze := zf_e h1.e
  exact ⟨h1.q, by walk_at "sz", ze.mono (by decide), by walk_at "sz", by walk_at "sz", hq⟩
theorem sem_zeros (e_pminus : Φ 65 = sp_pminus) (e_times : Φ 51 = sp_times) (e_quotient : Φ 82 = sp_quotient) (e_negative : Φ 76 = sp_negative) (e_as_surd : Φ 94 = sp_as_surd) (e_sign : Φ 50 = sp_sign) (e_surd_of : Φ 52 = sp_surd_of) : ∀ ds Q, sp_zeros ds Q → wS Φ rs_zeros { nx := fun _ => Q (.d .none), rt := Q } (startD ["x0", "x1", "x2", "x3", "x4", "x5", "x6"] ds) := by
  rintro ds Q ⟨c, g, a, rfl, h1, h2, h3, hq⟩
  show wS Φ rs_zeros _ [some (.val (.d (.tuple [F c, F g, F a]))), none, none, none, none, none, none]
  simp only [rs_zeros, wS, wE, wA, wT, wI, wO, ev_add, ev_sub, ev_mul, ev_div, ev_mod, ev_pow, ev_cat, ev_lt, ev_le, ev_gt, ev_ge, ev_eq, ev_ne, ev_eqs, ev_nes, ix_F0, ix_F1, ix_J0, ix_J1, ix_P0, ix_P1, ix_P2, ix_t0, ix_t1, ix_t2, ix_l0, ix_l1, ix_l2, tg_1, tg_F, tg_J, tg_P, tg_2, tg_3, tg_4, fold_J, eq_F, ne_F, eq_J, ne_J, eq_P, ne_P, db_, di_, setVals, setAll, datas, itemsD, truD, List.getElem?_cons_zero, List.getElem?_cons_succ, List.set_cons_zero, List.set_cons_succ, Option.map_some, Option.map_none, Option.some.injEq, exists_eq_left', decide_eq_true_eq, Bool.not_true, Bool.not_false, Bool.false_eq_true, if_false, if_true, true_and, and_true, decide_true, decide_false, List.length_cons, List.length_nil, mx_0, mx_1, mx_2, mx_3, mx_4, mx_5, mx_6, mx_7, mx_8, mx_9, mx_10, mx_11, mx_12, mx_13, mx_14, mx_15, mx_16, mx_17, mx_18, mx_19, mx_20, mx_21, mx_22, mx_23, mx_24, Nat.reduceAdd, Nat.reduceLeDiff, Nat.zero_add, Bool.not_eq_true', decide_eq_false_iff_not, reduceIte, ev_reprb, e_pminus, e_times, e_quotient, e_negative, e_as_surd, e_sign, e_surd_of, ap_pminus, ap_times, ap_quotient, ap_negative, ap_as_surd, ap_sign, ap_surd_of, lit_0, lit_2, lit_4, sgI_num, tupS, num_neg]
  have zs := zf_sg a
  unfold zsT at hq
  by_cases c1 : a = 0
  · rw [if_pos c1] at hq ⊢
    by_cases c2 : g = 0
    · rw [if_pos c2] at hq ⊢
      exact hq
    · rw [if_neg c2] at hq ⊢
      exact ⟨c2, by walk_at "sz", by walk_at "sz", hq⟩
  · rw [if_neg c1] at hq ⊢
    refine ⟨by walk_at "sz", by walk_at "sz", by walk_at "sz", by walk_at "sz", by walk_at "sz", by walk_at "sz", by walk_at "sz", by walk_at "sz", ?_⟩
    have a2 : 2 * a ≠ 0 := by grind
    by_cases c2 : g * g - 4 * (a * c) < 0
    · rw [if_pos c2] at hq ⊢
      exact hq
    · rw [if_neg c2] at hq ⊢
      refine ⟨by walk_at "sz", by walk_at "sz", a2, by walk_at "sz", by walk_at "sz", ?_⟩
      by_cases c3 : g * g - 4 * (a * c) = 0
      · rw [if_pos c3] at hq ⊢
        exact hq
      · rw [if_neg c3] at hq ⊢
        have nn : 0 ≤ g * g - 4 * (a * c) := by grind
        exact ⟨by walk_at "sz", by walk_at "sz", a2, by walk_at "sz", by walk_at "sz", nn, by walk_at "sz", by walk_at "sz", by walk_at "sz", nn, by walk_at "sz", by walk_at "sz", by walk_at "sz", hq⟩
end
theorem zl14 : Zf 4 (1 / 4) := Zf.of (a := 1) (b := 4) (by decide) (by decide +kernel) (by unfold Sz; decide) (by unfold Sz; decide)
theorem zl12 : Zf 4 (1 / 2) := Zf.of (a := 1) (b := 2) (by decide) (by decide +kernel) (by unfold Sz; decide) (by unfold Sz; decide)
section
variable {Φ : Nat → PSp}
end
/-! ### the parts of a bound -/
structure Pt where
  lo : Option Rat
  hi : Option Rat
  r0 : Rat
  r1 : Rat
  r2 : Rat
def oD : Option Rat → PyData
  | none => .none
  | some q => F q
def Pt.dat (p : Pt) : PyData := .tuple [oD p.lo, oD p.hi, R3 p.r0 p.r1 p.r2]
def Pt.at (p : Pt) (s : Rat) : Rat := p.r0 + s * (p.r1 + s * p.r2)
def lnQ (x y : Rat) : Pt := ⟨none, none, -(y / (x * x)), 1 / x, 0⟩
def Ask.ps : Ask → List Pt
  | .over x y => [lnQ x y]
  | .under x y => [lnQ x y]
  | .roof x y u v => if kk x y u v ≤ 0 then [{ lnQ u v with hi := some (mm x y u v + (kk x y u v / x + kk x y u v / u)) }, { lnQ x y with lo := some (mm x y u v + (kk x y u v / x + kk x y u v / u)) }]
      else [{ lnQ u v with hi := some (mm x y u v + 2 * kk x y u v / u) }, ⟨some (mm x y u v + 2 * kk x y u v / u), some (mm x y u v + 2 * kk x y u v / x), 1 / (2 * (2 * kk x y u v)) * (mm x y u v * mm x y u v), -(mm x y u v / (2 * kk x y u v)), 1 / (2 * (2 * kk x y u v))⟩, { lnQ x y with lo := some (mm x y u v + 2 * kk x y u v / x) }]
  | .low B => [⟨none, some 0, 0, 0, 0⟩, ⟨some 0, none, 0, 0, 1 / 4 / B⟩]
  | .dives X M => if X = 0 then [] else [⟨none, none, -(1 / 2 / X * M), 1 / 2 / X, 0⟩]
  | .climbs X M => if X = 0 then [] else [⟨none, none, -(1 / 2 / X * M), 1 / 2 / X, 0⟩]
  | .quick B => [⟨none, none, B, 0, 0⟩]
  | .slow B => [⟨none, none, B, 0, 0⟩]
theorem kk_ev {x y u v : Rat} (h1 : x < u) : y = kk x y u v + mm x y u v * x ∧ v = kk x y u v + mm x y u v * u := by
  have ux : u - x ≠ 0 := by grind
  have ek : y - mm x y u v * x = kk x y u v := rfl
  have : mm x y u v * (u - x) = v - y := Rat.div_mul_cancel ux
  rw [← ek]
  constructor <;> grind
theorem turn_lt {m k x u : Rat} (h0 : 0 < x) (h1 : x < u) (k0 : 0 < k) : m + 2 * k / u < m + 2 * k / x := by
  have xn : x ≠ 0 := by grind
  have un : u ≠ 0 := by grind
  have p0 : 0 < x * u := Rat.mul_pos h0 (by grind)
  have p1 : 0 < (u - x) / (x * u) := div_pos (by grind) p0
  have e1 : (u - x) / (x * u) = 1 / x - 1 / u := by
    have : x * u ≠ 0 := by grind
    grind
  rw [e1] at p1
  have := Rat.mul_pos (show 0 < 2 * k by grind) p1
  have a1 : 2 * k / x = 2 * k * (1 / x) := by grind
  have a2 : 2 * k / u = 2 * k * (1 / u) := by grind
  rw [a1, a2]
  grind
/-- sizes of a part -/
structure Pt.sz (p : Pt) : Prop where
  lo : ∀ l, p.lo = some l → Zf 316 l
  hi : ∀ l, p.hi = some l → Zf 316 l
  gap : ∀ l h, p.lo = some l → p.hi = some h → l ≤ h ∧ Zf 170 (h - l)
  r0 : Zf 600 p.r0
  r1 : Zf 400 p.r1
  r2 : Zf 250 p.r2
theorem Ask.ps_sz {a : Ask} (h : a.sm) {p : Pt} (hp : p ∈ a.ps) : p.sz := by
  have z1 := zl1
  have z0 := zl0
  have ln : ∀ {x y : Rat}, Zf 63 x → Zf 31 y → Zf 600 (-(y / (x * x))) ∧ Zf 400 (1 / x) := by
    intro x y zx zy
    exact ⟨by walk_at "sz", by walk_at "sz"⟩
  cases a with
  | over x y =>
    rw [Ask.ps, List.mem_singleton] at hp
    subst hp
    have l1 := ln (h.2.1.mono (by decide)) h.2.2
    exact ⟨fun _ z => (by cases z), fun _ z => (by cases z), fun _ _ z => (by cases z), l1.1, l1.2, z0.mono (by decide)⟩
  | under x y =>
    rw [Ask.ps, List.mem_singleton] at hp
    subst hp
    have l1 := ln (h.2.1.mono (by decide)) h.2.2
    exact ⟨fun _ z => (by cases z), fun _ z => (by cases z), fun _ _ z => (by cases z), l1.1, l1.2, z0.mono (by decide)⟩
  | quick B =>
    rw [Ask.ps, List.mem_singleton] at hp
    subst hp
    exact ⟨fun _ z => (by cases z), fun _ z => (by cases z), fun _ _ z => (by cases z), h.2.mono (by decide), z0.mono (by decide), z0.mono (by decide)⟩
  | slow B =>
    rw [Ask.ps, List.mem_singleton] at hp
    subst hp
    exact ⟨fun _ z => (by cases z), fun _ z => (by cases z), fun _ _ z => (by cases z), h.2.mono (by decide), z0.mono (by decide), z0.mono (by decide)⟩
  | dives X M =>
    obtain ⟨-, zX, zM⟩ := h
    have z12 := zl12
    rw [Ask.ps] at hp
    split at hp
    · cases hp
    · rw [List.mem_singleton] at hp
      subst hp
      exact ⟨fun _ z => (by cases z), fun _ z => (by cases z), fun _ _ z => (by cases z), (show Zf 600 (-(1 / 2 / X * M)) by walk_at "sz"), (show Zf 400 (1 / 2 / X) by walk_at "sz"), z0.mono (by decide)⟩
  | climbs X M =>
    obtain ⟨-, zX, zM⟩ := h
    have z12 := zl12
    rw [Ask.ps] at hp
    split at hp
    · cases hp
    · rw [List.mem_singleton] at hp
      subst hp
      exact ⟨fun _ z => (by cases z), fun _ z => (by cases z), fun _ _ z => (by cases z), (show Zf 600 (-(1 / 2 / X * M)) by walk_at "sz"), (show Zf 400 (1 / 2 / X) by walk_at "sz"), z0.mono (by decide)⟩
  | low B =>
    obtain ⟨-, zB⟩ := h
    have z14 := zl14
    simp only [Ask.ps, List.mem_cons, List.not_mem_nil, or_false] at hp
    rcases hp with rfl | rfl
    · exact ⟨fun _ z => (by cases z), fun _ z => (by cases z; exact z0.mono (by decide)), fun _ _ z => (by cases z), z0.mono (by decide), z0.mono (by decide), z0.mono (by decide)⟩
    · exact ⟨fun _ z => (by cases z; exact z0.mono (by decide)), fun _ z => (by cases z), fun _ _ _ z => (by cases z), z0.mono (by decide), z0.mono (by decide), (show Zf 250 (1 / 4 / B) by walk_at "sz")⟩
  | roof x y u v =>
    obtain ⟨h0, hxu, zx, zy, zu, zv⟩ := h
    have xn : x ≠ 0 := by grind
    have un : u ≠ 0 := by grind
    obtain ⟨ey, ev⟩ := @kk_ev x y u v hxu
    have zm : Zf 158 (mm x y u v) := zf_mm zx zy zu zv
    have zk : Zf 221 (kk x y u v) := zf_kk zx zy zu zv
    have lx := ln (zx.mono (by decide)) zy
    have lu := ln zu zv
    have t1 : mm x y u v + (kk x y u v / x + kk x y u v / u) = y / x + v / u - mm x y u v := by
      have a1 : y / x = kk x y u v / x + mm x y u v := by
        have : y / x = (kk x y u v + mm x y u v * x) / x := by rw [← ey]
        rw [this]
        grind
      have a2 : v / u = kk x y u v / u + mm x y u v := by
        have : v / u = (kk x y u v + mm x y u v * u) / u := by rw [← ev]
        rw [this]
        grind
      rw [a1, a2]
      grind
    have t2 : mm x y u v + 2 * kk x y u v / x = 2 * (y / x) - mm x y u v := by
      have a1 : y / x = kk x y u v / x + mm x y u v := by
        have : y / x = (kk x y u v + mm x y u v * x) / x := by rw [← ey]
        rw [this]
        grind
      rw [a1]
      grind
    have t3 : mm x y u v + 2 * kk x y u v / u = 2 * (v / u) - mm x y u v := by
      have a2 : v / u = kk x y u v / u + mm x y u v := by
        have : v / u = (kk x y u v + mm x y u v * u) / u := by rw [← ev]
        rw [this]
        grind
      rw [a2]
      grind
    have s1 : Zf 316 (mm x y u v + (kk x y u v / x + kk x y u v / u)) := by
      rw [t1]
      walk_at "sz"
    have s2 : Zf 316 (mm x y u v + 2 * kk x y u v / x) := by
      rw [t2]
      walk_at "sz"
    have s3 : Zf 316 (mm x y u v + 2 * kk x y u v / u) := by
      rw [t3]
      walk_at "sz"
    have s4 : Zf 170 (mm x y u v + 2 * kk x y u v / x - (mm x y u v + 2 * kk x y u v / u)) := by
      have : mm x y u v + 2 * kk x y u v / x - (mm x y u v + 2 * kk x y u v / u) = 2 * (y / x - v / u) := by
        rw [t2, t3]
        grind
      rw [this]
      walk_at "sz"
    simp only [Ask.ps] at hp
    by_cases c : kk x y u v ≤ 0
    · rw [if_pos c] at hp
      simp only [List.mem_cons, List.not_mem_nil, or_false] at hp
      rcases hp with rfl | rfl
      · exact ⟨fun _ z => (by cases z), fun _ z => (by cases z; exact s1), fun _ _ z => (by cases z), lu.1, lu.2, z0.mono (by decide)⟩
      · exact ⟨fun _ z => (by cases z; exact s1), fun _ z => (by cases z), fun _ _ _ z => (by cases z), lx.1, lx.2, z0.mono (by decide)⟩
    · rw [if_neg c] at hp
      simp only [List.mem_cons, List.not_mem_nil, or_false] at hp
      have lt := @turn_lt (mm x y u v) (kk x y u v) x u h0 hxu (by grind)
      rcases hp with rfl | rfl | rfl
      · exact ⟨fun _ z => (by cases z), fun _ z => (by cases z; exact s3), fun _ _ z => (by cases z), lu.1, lu.2, z0.mono (by decide)⟩
      · exact ⟨fun _ z => (by cases z; exact s3), fun _ z => (by cases z; exact s2), fun _ _ z z' => (by cases z; cases z'; exact ⟨Rat.le_of_lt lt, s4⟩), (show Zf 600 (1 / (2 * (2 * kk x y u v)) * (mm x y u v * mm x y u v)) by walk_at "sz"), (show Zf 400 (-(mm x y u v / (2 * kk x y u v))) by walk_at "sz"), (show Zf 250 (1 / (2 * (2 * kk x y u v))) by walk_at "sz")⟩
      · exact ⟨fun _ z => (by cases z; exact s2), fun _ z => (by cases z), fun _ _ _ z => (by cases z), lx.1, lx.2, z0.mono (by decide)⟩
section
variable {Φ : Nat → PSp}
end
theorem sgR_f0 {p f q : Rat} (h : sgQ f = 0) : sgR p f q = sgQ p := by
  unfold sgR
  rw [h]
  split
  · rename_i c; rw [c]; simp
  · simp
theorem sgR_q0 {p f : Rat} : sgR p f 0 = sgQ p := by
  unfold sgR
  rw [sg_zero]
  split
  · rename_i c; rw [c]; simp
  · simp
/-- two surds, compared -/
def cmS (t u : Rat × Int × Rat) : Int := if sgR (t.1 - u.1) (t.2.1 : Rat) t.2.2 = u.2.1 then u.2.1 * sgR ((t.1 - u.1) * (t.1 - u.1) + t.2.2 - u.2.2) (((2 * t.2.1 : Int) : Rat) * (t.1 - u.1)) t.2.2 else sgI (sgR (t.1 - u.1) (t.2.1 : Rat) t.2.2 - u.2.1)
theorem tl_SU {p : Rat} {e : Int} {q : Rat} (zp : Zf 1400 p) (he : e = 0 ∨ e = 1 ∨ e = -1) (zq : Zf 1900 q) : Tl (SU p e q) := by
  refine Shw.mono (shw_tuple (n := 4000) (k := 1) (xs := [F p, .int e, F q]) ?_) (by simp) (by decide)
  refine al1 (shwF (zp.mono (by decide))) (al1 ?_ (al1 (shwF (zq.mono (by decide))) al0))
  exact (shw_int (show Sz 1920 e from by rcases he with rfl | rfl | rfl <;> exact (show Sz 10 _ by unfold Sz; decide).mono (by decide))).mono (by decide) (by decide)
section
variable {Φ : Nat → PSp}
end
section
variable {Φ : Nat → PSp}
end
/-! ### two surds: the own order and the program's -/
/-- no square -/
def nsq (q : Rat) : Prop := 0 < q ∧ ∀ r : Rat, r * r ≠ q
theorem nsq_of {q : Rat} (h : 0 < q) (e : rsq q = none) : nsq q := ⟨h, rsq_none (Rat.le_of_lt h) e⟩
theorem i1 : ((1 : Int) : Rat) = 1 := rfl
theorem im1 : ((-1 : Int) : Rat) = -1 := rfl
theorem i2 : ((2 : Int) : Rat) = 2 := rfl
theorem i0 : ((0 : Int) : Rat) = 0 := rfl
theorem sgR_pp {p f q : Rat} (q0 : 0 < q) (hp : 0 ≤ p) (hf : 0 < f) : sgR p f q = 1 := by
  unfold sgR
  rw [sg_pos q0, sg_pos hf]
  rcases tri p with h | rfl | h
  · grind
  · rw [sg_zero]; rfl
  · rw [sg_pos h]; rfl
theorem sgR_nn {p f q : Rat} (q0 : 0 < q) (hp : p ≤ 0) (hf : f < 0) : sgR p f q = -1 := by
  unfold sgR
  rw [sg_pos q0, sg_neg hf]
  rcases tri p with h | rfl | h
  · rw [sg_neg h]; rfl
  · rw [sg_zero]; rfl
  · grind
theorem sgR_pn {p f q : Rat} (q0 : 0 < q) (hp : 0 < p) (hf : f < 0) : sgR p f q = sgQ (p * p - f * f * q) := by
  unfold sgR
  rw [sg_pos q0, sg_neg hf, sg_pos hp, if_neg (by decide), if_neg (by decide)]
  omega
theorem sgR_np {p f q : Rat} (q0 : 0 < q) (hp : p < 0) (hf : 0 < f) : sgR p f q = -sgQ (p * p - f * f * q) := by
  unfold sgR
  rw [sg_pos q0, sg_pos hf, sg_neg hp, if_neg (by decide), if_neg (by decide)]
  omega
theorem sgQ_ne {x : Rat} (h : x ≠ 0) : sgQ x = 1 ∨ sgQ x = -1 := by
  rcases tri x with z | z | z
  · exact .inr (sg_neg z)
  · exact absurd z h
  · exact .inl (sg_pos z)
/-- surds of the law's sizes -/
def sK (p : Rat) (i : Int) (q : Rat) : Prop := sdOk p i q ∧ Zf 315 p ∧ Zf 274 q ∧ (i ≠ 0 → Zf 177 p)
theorem sK.of {p : Rat} {i : Int} {q : Rat} (h : sdOk p i q) (z1 : Zf 94 p) (z2 : Zf 124 q) (z3 : i ≠ 0 → Zf 31 p) : sK p i q := ⟨h, z1.mono (by decide), z2.mono (by decide), fun e => (z3 e).mono (by decide)⟩
theorem sdOk.k {p : Rat} {i : Int} {q : Rat} (h : sdOk p i q) : (i = 0 ∧ q = 0) ∨ ((i = 1 ∨ i = -1) ∧ nsq q) := by
  rcases h with h | ⟨h1, h2, h3⟩
  · exact .inl h
  · exact .inr ⟨h1, nsq_of h2 h3⟩
theorem ix_SU2 {Q : DV → Prop} {p q : Rat} {e : Int} : wIdx (.d (SU p e q)) (.d (.int 2)) Q = Q (.d (F q)) := ix_t2
section
variable {Φ : Nat → PSp}
end
/-! ### is it an ask, of anything -/
def inW (w : Str) (ws : List PyData) : Bool := ws.any fun z => PyData.eqv z (.str w)
def dsO : PyData → Rat
  | .tuple [.int a, .int _, .int c] => (a : Rat) / (c : Rat)
  | _ => 0
def topNN : PyData → Bool
  | .tuple (.int n :: _) => decide (0 ≤ n)
  | _ => false
def ask1 (w : Str) (a : PyData) : Bool := if inW w [.str (Str.ofString "over"), .str (Str.ofString "under")] = true then isPl a else inW w [.str (Str.ofString "low"), .str (Str.ofString "quick"), .str (Str.ofString "slow")] && isAb a
def ask2 (w : Str) (a b : PyData) : Bool := if w = Str.ofString "roof" then isPl a && (isPl b && decide (dsO a < dsO b)) else inW w [.str (Str.ofString "dives"), .str (Str.ofString "climbs")] && (isF a && (topNN a && isF b))
def askD : PyData → Bool
  | .tuple [.str w, a] => ask1 w a
  | .tuple [.str w, a, b] => ask2 w a b
  | _ => false
def Prt (a : PyData) : Prop := ∀ x y, a = P3 x y → 0 < x → Zp 3000 x y ∧ Zf 3000 x
theorem dsO_P (x y : Rat) : dsO (P3 x y) = x := by
  have h := pt_x x y
  have p := pt_pos x y
  show (((pt x y).1 : Int) : Rat) / (((pt x y).2.2 : Int) : Rat) = x
  rw [h]
  have : (((pt x y).2.2 : Int) : Rat) ≠ 0 := by
    have := Rat.intCast_pos.mpr p
    grind
  exact Rat.mul_div_cancel this
section
variable {Φ : Nat → PSp}
end
def Prl (x : PyData) : Prop := isT x = false ∨ ∃ ns : List Int, x = .tuple (ns.map PyData.int)
section
variable {Φ : Nat → PSp}
end
theorem prt_no {a : PyData} (h : isPl a = false) : Prt a := fun x y e x0 => by
  rw [e, isPl_P, decide_eq_true x0] at h
  cases h
theorem prt_F (q : Rat) : Prt (F q) := prt_no rfl
theorem prt_P {x y : Rat} (z1 : Zp 3000 x y) (z2 : Zf 3000 x) : Prt (P3 x y) := fun u v e _ => by
  rw [P3_eq] at e
  obtain ⟨rfl, rfl⟩ := e
  exact ⟨z1, z2⟩
theorem prl_F (q : Rat) : Prl (F q) := .inr ⟨[q.num, (q.den : Int)], rfl⟩
theorem prl_P (x y : Rat) : Prl (P3 x y) := .inr ⟨[(pt x y).1, (pt x y).2.1, (pt x y).2.2], rfl⟩
/-- the forms of an ask -/
theorem Ask.form {a : Ask} (h : a.ok) : ∃ (w : Str) (ps : List PyData), a.dat = .tuple (.str w :: ps) ∧ a.word = .str w ∧ .str w ∈ wordsL ∧ (ps.length = 1 ∨ ps.length = 2) ∧ (∀ p ∈ ps, Prl p ∧ Prt p) ∧ askD a.dat = true := by
  have pP : ∀ {x y : Rat}, Zf 300 x → Zf 700 y → Prl (P3 x y) ∧ Prt (P3 x y) := fun zx zy => ⟨prl_P _ _, prt_P ((zx.pt zy).mono (by decide)) (zx.mono (by decide))⟩
  have pF : ∀ q : Rat, Prl (F q) ∧ Prt (F q) := fun q => ⟨prl_F q, prt_F q⟩
  have ab : ∀ B : Rat, 0 < B → isAb (F B) = true := fun B hB => by
    unfold isAb
    rw [isF_F, topPos_F]
    simpa using hB
  have nn : ∀ B : Rat, 0 ≤ B → topNN (F B) = true := fun B hB => decide_eq_true (Rat.num_nonneg.mpr hB)
  cases a with
  | over x y =>
    refine ⟨_, [P3 x y], rfl, rfl, by simp [wordsL], .inl rfl, al1 (pP h.2.1 h.2.2) al0, ?_⟩
    simp only [Ask.dat, askD, ask1, inW, we_over_over, wn_over_under, we_over_under, wn_over_roof, we_over_roof, wn_over_low, we_over_low, wn_over_dives, we_over_dives, wn_over_climbs, we_over_climbs, wn_over_quick, we_over_quick, wn_over_slow, we_over_slow, wn_under_over, we_under_over, we_under_under, wn_under_roof, we_under_roof, wn_under_low, we_under_low, wn_under_dives, we_under_dives, wn_under_climbs, we_under_climbs, wn_under_quick, we_under_quick, wn_under_slow, we_under_slow, wn_roof_over, we_roof_over, wn_roof_under, we_roof_under, we_roof_roof, wn_roof_low, we_roof_low, wn_roof_dives, we_roof_dives, wn_roof_climbs, we_roof_climbs, wn_roof_quick, we_roof_quick, wn_roof_slow, we_roof_slow, wn_low_over, we_low_over, wn_low_under, we_low_under, wn_low_roof, we_low_roof, we_low_low, wn_low_dives, we_low_dives, wn_low_climbs, we_low_climbs, wn_low_quick, we_low_quick, wn_low_slow, we_low_slow, wn_dives_over, we_dives_over, wn_dives_under, we_dives_under, wn_dives_roof, we_dives_roof, wn_dives_low, we_dives_low, we_dives_dives, wn_dives_climbs, we_dives_climbs, wn_dives_quick, we_dives_quick, wn_dives_slow, we_dives_slow, wn_climbs_over, we_climbs_over, wn_climbs_under, we_climbs_under, wn_climbs_roof, we_climbs_roof, wn_climbs_low, we_climbs_low, wn_climbs_dives, we_climbs_dives, we_climbs_climbs, wn_climbs_quick, we_climbs_quick, wn_climbs_slow, we_climbs_slow, wn_quick_over, we_quick_over, wn_quick_under, we_quick_under, wn_quick_roof, we_quick_roof, wn_quick_low, we_quick_low, wn_quick_dives, we_quick_dives, wn_quick_climbs, we_quick_climbs, we_quick_quick, wn_quick_slow, we_quick_slow, wn_slow_over, we_slow_over, wn_slow_under, we_slow_under, wn_slow_roof, we_slow_roof, wn_slow_low, we_slow_low, wn_slow_dives, we_slow_dives, wn_slow_climbs, we_slow_climbs, wn_slow_quick, we_slow_quick, we_slow_slow, we_upright_upright, wn_upright_upper, we_upright_upper, wn_upright_lower, we_upright_lower, wn_upper_upright, we_upper_upright, we_upper_upper, wn_upper_lower, we_upper_lower, wn_lower_upright, we_lower_upright, wn_lower_upper, we_lower_upper, we_lower_lower, we_least_least, wn_least_most, we_least_most, wn_least_all, we_least_all, wn_least_none, we_least_none, wn_most_least, we_most_least, we_most_most, wn_most_all, we_most_all, wn_most_none, we_most_none, wn_all_least, we_all_least, wn_all_most, we_all_most, we_all_all, wn_all_none, we_all_none, wn_none_least, we_none_least, wn_none_most, we_none_most, wn_none_all, we_none_all, we_none_none, ev_inn, ev_innl, ev_nin, ev_inni, ev_nini, flat_s, flat_i, List.all_cons, List.all_nil, List.any_cons, List.any_nil, Bool.or_false, Bool.false_or, Bool.or_true, Bool.true_or, Bool.and_self, eqv_int, ev_is, ev_isnt, reduceCtorEq, if_true, isPl_P, decide_eq_true h.1]
  | under x y =>
    refine ⟨_, [P3 x y], rfl, rfl, by simp [wordsL], .inl rfl, al1 (pP h.2.1 h.2.2) al0, ?_⟩
    simp only [Ask.dat, askD, ask1, inW, we_over_over, wn_over_under, we_over_under, wn_over_roof, we_over_roof, wn_over_low, we_over_low, wn_over_dives, we_over_dives, wn_over_climbs, we_over_climbs, wn_over_quick, we_over_quick, wn_over_slow, we_over_slow, wn_under_over, we_under_over, we_under_under, wn_under_roof, we_under_roof, wn_under_low, we_under_low, wn_under_dives, we_under_dives, wn_under_climbs, we_under_climbs, wn_under_quick, we_under_quick, wn_under_slow, we_under_slow, wn_roof_over, we_roof_over, wn_roof_under, we_roof_under, we_roof_roof, wn_roof_low, we_roof_low, wn_roof_dives, we_roof_dives, wn_roof_climbs, we_roof_climbs, wn_roof_quick, we_roof_quick, wn_roof_slow, we_roof_slow, wn_low_over, we_low_over, wn_low_under, we_low_under, wn_low_roof, we_low_roof, we_low_low, wn_low_dives, we_low_dives, wn_low_climbs, we_low_climbs, wn_low_quick, we_low_quick, wn_low_slow, we_low_slow, wn_dives_over, we_dives_over, wn_dives_under, we_dives_under, wn_dives_roof, we_dives_roof, wn_dives_low, we_dives_low, we_dives_dives, wn_dives_climbs, we_dives_climbs, wn_dives_quick, we_dives_quick, wn_dives_slow, we_dives_slow, wn_climbs_over, we_climbs_over, wn_climbs_under, we_climbs_under, wn_climbs_roof, we_climbs_roof, wn_climbs_low, we_climbs_low, wn_climbs_dives, we_climbs_dives, we_climbs_climbs, wn_climbs_quick, we_climbs_quick, wn_climbs_slow, we_climbs_slow, wn_quick_over, we_quick_over, wn_quick_under, we_quick_under, wn_quick_roof, we_quick_roof, wn_quick_low, we_quick_low, wn_quick_dives, we_quick_dives, wn_quick_climbs, we_quick_climbs, we_quick_quick, wn_quick_slow, we_quick_slow, wn_slow_over, we_slow_over, wn_slow_under, we_slow_under, wn_slow_roof, we_slow_roof, wn_slow_low, we_slow_low, wn_slow_dives, we_slow_dives, wn_slow_climbs, we_slow_climbs, wn_slow_quick, we_slow_quick, we_slow_slow, we_upright_upright, wn_upright_upper, we_upright_upper, wn_upright_lower, we_upright_lower, wn_upper_upright, we_upper_upright, we_upper_upper, wn_upper_lower, we_upper_lower, wn_lower_upright, we_lower_upright, wn_lower_upper, we_lower_upper, we_lower_lower, we_least_least, wn_least_most, we_least_most, wn_least_all, we_least_all, wn_least_none, we_least_none, wn_most_least, we_most_least, we_most_most, wn_most_all, we_most_all, wn_most_none, we_most_none, wn_all_least, we_all_least, wn_all_most, we_all_most, we_all_all, wn_all_none, we_all_none, wn_none_least, we_none_least, wn_none_most, we_none_most, wn_none_all, we_none_all, we_none_none, ev_inn, ev_innl, ev_nin, ev_inni, ev_nini, flat_s, flat_i, List.all_cons, List.all_nil, List.any_cons, List.any_nil, Bool.or_false, Bool.false_or, Bool.or_true, Bool.true_or, Bool.and_self, eqv_int, ev_is, ev_isnt, reduceCtorEq, if_true, isPl_P, decide_eq_true h.1]
  | roof x y u v =>
    have u0 : 0 < u := by have := h.1; have := h.2.1; grind
    refine ⟨_, [P3 x y, P3 u v], rfl, rfl, by simp [wordsL], .inr rfl, al1 (pP h.2.2.1 h.2.2.2.1) (al1 (pP h.2.2.2.2.1 h.2.2.2.2.2.1) al0), ?_⟩
    simp only [Ask.dat, askD, ask2, inW, we_over_over, wn_over_under, we_over_under, wn_over_roof, we_over_roof, wn_over_low, we_over_low, wn_over_dives, we_over_dives, wn_over_climbs, we_over_climbs, wn_over_quick, we_over_quick, wn_over_slow, we_over_slow, wn_under_over, we_under_over, we_under_under, wn_under_roof, we_under_roof, wn_under_low, we_under_low, wn_under_dives, we_under_dives, wn_under_climbs, we_under_climbs, wn_under_quick, we_under_quick, wn_under_slow, we_under_slow, wn_roof_over, we_roof_over, wn_roof_under, we_roof_under, we_roof_roof, wn_roof_low, we_roof_low, wn_roof_dives, we_roof_dives, wn_roof_climbs, we_roof_climbs, wn_roof_quick, we_roof_quick, wn_roof_slow, we_roof_slow, wn_low_over, we_low_over, wn_low_under, we_low_under, wn_low_roof, we_low_roof, we_low_low, wn_low_dives, we_low_dives, wn_low_climbs, we_low_climbs, wn_low_quick, we_low_quick, wn_low_slow, we_low_slow, wn_dives_over, we_dives_over, wn_dives_under, we_dives_under, wn_dives_roof, we_dives_roof, wn_dives_low, we_dives_low, we_dives_dives, wn_dives_climbs, we_dives_climbs, wn_dives_quick, we_dives_quick, wn_dives_slow, we_dives_slow, wn_climbs_over, we_climbs_over, wn_climbs_under, we_climbs_under, wn_climbs_roof, we_climbs_roof, wn_climbs_low, we_climbs_low, wn_climbs_dives, we_climbs_dives, we_climbs_climbs, wn_climbs_quick, we_climbs_quick, wn_climbs_slow, we_climbs_slow, wn_quick_over, we_quick_over, wn_quick_under, we_quick_under, wn_quick_roof, we_quick_roof, wn_quick_low, we_quick_low, wn_quick_dives, we_quick_dives, wn_quick_climbs, we_quick_climbs, we_quick_quick, wn_quick_slow, we_quick_slow, wn_slow_over, we_slow_over, wn_slow_under, we_slow_under, wn_slow_roof, we_slow_roof, wn_slow_low, we_slow_low, wn_slow_dives, we_slow_dives, wn_slow_climbs, we_slow_climbs, wn_slow_quick, we_slow_quick, we_slow_slow, we_upright_upright, wn_upright_upper, we_upright_upper, wn_upright_lower, we_upright_lower, wn_upper_upright, we_upper_upright, we_upper_upper, wn_upper_lower, we_upper_lower, wn_lower_upright, we_lower_upright, wn_lower_upper, we_lower_upper, we_lower_lower, we_least_least, wn_least_most, we_least_most, wn_least_all, we_least_all, wn_least_none, we_least_none, wn_most_least, we_most_least, we_most_most, wn_most_all, we_most_all, wn_most_none, we_most_none, wn_all_least, we_all_least, wn_all_most, we_all_most, we_all_all, wn_all_none, we_all_none, wn_none_least, we_none_least, wn_none_most, we_none_most, wn_none_all, we_none_all, we_none_none, ev_inn, ev_innl, ev_nin, ev_inni, ev_nini, flat_s, flat_i, List.all_cons, List.all_nil, List.any_cons, List.any_nil, Bool.or_false, Bool.false_or, Bool.or_true, Bool.true_or, Bool.and_self, eqv_int, ev_is, ev_isnt, reduceCtorEq, if_true, isPl_P, decide_eq_true h.1, decide_eq_true u0, dsO_P, decide_eq_true h.2.1]
  | low B =>
    refine ⟨_, [F B], rfl, rfl, by simp [wordsL], .inl rfl, al1 (pF B) al0, ?_⟩
    simp only [Ask.dat, askD, ask1, inW, we_over_over, wn_over_under, we_over_under, wn_over_roof, we_over_roof, wn_over_low, we_over_low, wn_over_dives, we_over_dives, wn_over_climbs, we_over_climbs, wn_over_quick, we_over_quick, wn_over_slow, we_over_slow, wn_under_over, we_under_over, we_under_under, wn_under_roof, we_under_roof, wn_under_low, we_under_low, wn_under_dives, we_under_dives, wn_under_climbs, we_under_climbs, wn_under_quick, we_under_quick, wn_under_slow, we_under_slow, wn_roof_over, we_roof_over, wn_roof_under, we_roof_under, we_roof_roof, wn_roof_low, we_roof_low, wn_roof_dives, we_roof_dives, wn_roof_climbs, we_roof_climbs, wn_roof_quick, we_roof_quick, wn_roof_slow, we_roof_slow, wn_low_over, we_low_over, wn_low_under, we_low_under, wn_low_roof, we_low_roof, we_low_low, wn_low_dives, we_low_dives, wn_low_climbs, we_low_climbs, wn_low_quick, we_low_quick, wn_low_slow, we_low_slow, wn_dives_over, we_dives_over, wn_dives_under, we_dives_under, wn_dives_roof, we_dives_roof, wn_dives_low, we_dives_low, we_dives_dives, wn_dives_climbs, we_dives_climbs, wn_dives_quick, we_dives_quick, wn_dives_slow, we_dives_slow, wn_climbs_over, we_climbs_over, wn_climbs_under, we_climbs_under, wn_climbs_roof, we_climbs_roof, wn_climbs_low, we_climbs_low, wn_climbs_dives, we_climbs_dives, we_climbs_climbs, wn_climbs_quick, we_climbs_quick, wn_climbs_slow, we_climbs_slow, wn_quick_over, we_quick_over, wn_quick_under, we_quick_under, wn_quick_roof, we_quick_roof, wn_quick_low, we_quick_low, wn_quick_dives, we_quick_dives, wn_quick_climbs, we_quick_climbs, we_quick_quick, wn_quick_slow, we_quick_slow, wn_slow_over, we_slow_over, wn_slow_under, we_slow_under, wn_slow_roof, we_slow_roof, wn_slow_low, we_slow_low, wn_slow_dives, we_slow_dives, wn_slow_climbs, we_slow_climbs, wn_slow_quick, we_slow_quick, we_slow_slow, we_upright_upright, wn_upright_upper, we_upright_upper, wn_upright_lower, we_upright_lower, wn_upper_upright, we_upper_upright, we_upper_upper, wn_upper_lower, we_upper_lower, wn_lower_upright, we_lower_upright, wn_lower_upper, we_lower_upper, we_lower_lower, we_least_least, wn_least_most, we_least_most, wn_least_all, we_least_all, wn_least_none, we_least_none, wn_most_least, we_most_least, we_most_most, wn_most_all, we_most_all, wn_most_none, we_most_none, wn_all_least, we_all_least, wn_all_most, we_all_most, we_all_all, wn_all_none, we_all_none, wn_none_least, we_none_least, wn_none_most, we_none_most, wn_none_all, we_none_all, we_none_none, ev_inn, ev_innl, ev_nin, ev_inni, ev_nini, flat_s, flat_i, List.all_cons, List.all_nil, List.any_cons, List.any_nil, Bool.or_false, Bool.false_or, Bool.or_true, Bool.true_or, Bool.and_self, eqv_int, ev_is, ev_isnt, reduceCtorEq, ab B h.1]
    rfl
  | quick B =>
    refine ⟨_, [F B], rfl, rfl, by simp [wordsL], .inl rfl, al1 (pF B) al0, ?_⟩
    simp only [Ask.dat, askD, ask1, inW, we_over_over, wn_over_under, we_over_under, wn_over_roof, we_over_roof, wn_over_low, we_over_low, wn_over_dives, we_over_dives, wn_over_climbs, we_over_climbs, wn_over_quick, we_over_quick, wn_over_slow, we_over_slow, wn_under_over, we_under_over, we_under_under, wn_under_roof, we_under_roof, wn_under_low, we_under_low, wn_under_dives, we_under_dives, wn_under_climbs, we_under_climbs, wn_under_quick, we_under_quick, wn_under_slow, we_under_slow, wn_roof_over, we_roof_over, wn_roof_under, we_roof_under, we_roof_roof, wn_roof_low, we_roof_low, wn_roof_dives, we_roof_dives, wn_roof_climbs, we_roof_climbs, wn_roof_quick, we_roof_quick, wn_roof_slow, we_roof_slow, wn_low_over, we_low_over, wn_low_under, we_low_under, wn_low_roof, we_low_roof, we_low_low, wn_low_dives, we_low_dives, wn_low_climbs, we_low_climbs, wn_low_quick, we_low_quick, wn_low_slow, we_low_slow, wn_dives_over, we_dives_over, wn_dives_under, we_dives_under, wn_dives_roof, we_dives_roof, wn_dives_low, we_dives_low, we_dives_dives, wn_dives_climbs, we_dives_climbs, wn_dives_quick, we_dives_quick, wn_dives_slow, we_dives_slow, wn_climbs_over, we_climbs_over, wn_climbs_under, we_climbs_under, wn_climbs_roof, we_climbs_roof, wn_climbs_low, we_climbs_low, wn_climbs_dives, we_climbs_dives, we_climbs_climbs, wn_climbs_quick, we_climbs_quick, wn_climbs_slow, we_climbs_slow, wn_quick_over, we_quick_over, wn_quick_under, we_quick_under, wn_quick_roof, we_quick_roof, wn_quick_low, we_quick_low, wn_quick_dives, we_quick_dives, wn_quick_climbs, we_quick_climbs, we_quick_quick, wn_quick_slow, we_quick_slow, wn_slow_over, we_slow_over, wn_slow_under, we_slow_under, wn_slow_roof, we_slow_roof, wn_slow_low, we_slow_low, wn_slow_dives, we_slow_dives, wn_slow_climbs, we_slow_climbs, wn_slow_quick, we_slow_quick, we_slow_slow, we_upright_upright, wn_upright_upper, we_upright_upper, wn_upright_lower, we_upright_lower, wn_upper_upright, we_upper_upright, we_upper_upper, wn_upper_lower, we_upper_lower, wn_lower_upright, we_lower_upright, wn_lower_upper, we_lower_upper, we_lower_lower, we_least_least, wn_least_most, we_least_most, wn_least_all, we_least_all, wn_least_none, we_least_none, wn_most_least, we_most_least, we_most_most, wn_most_all, we_most_all, wn_most_none, we_most_none, wn_all_least, we_all_least, wn_all_most, we_all_most, we_all_all, wn_all_none, we_all_none, wn_none_least, we_none_least, wn_none_most, we_none_most, wn_none_all, we_none_all, we_none_none, ev_inn, ev_innl, ev_nin, ev_inni, ev_nini, flat_s, flat_i, List.all_cons, List.all_nil, List.any_cons, List.any_nil, Bool.or_false, Bool.false_or, Bool.or_true, Bool.true_or, Bool.and_self, eqv_int, ev_is, ev_isnt, reduceCtorEq, ab B h.1]
    rfl
  | slow B =>
    refine ⟨_, [F B], rfl, rfl, by simp [wordsL], .inl rfl, al1 (pF B) al0, ?_⟩
    simp only [Ask.dat, askD, ask1, inW, we_over_over, wn_over_under, we_over_under, wn_over_roof, we_over_roof, wn_over_low, we_over_low, wn_over_dives, we_over_dives, wn_over_climbs, we_over_climbs, wn_over_quick, we_over_quick, wn_over_slow, we_over_slow, wn_under_over, we_under_over, we_under_under, wn_under_roof, we_under_roof, wn_under_low, we_under_low, wn_under_dives, we_under_dives, wn_under_climbs, we_under_climbs, wn_under_quick, we_under_quick, wn_under_slow, we_under_slow, wn_roof_over, we_roof_over, wn_roof_under, we_roof_under, we_roof_roof, wn_roof_low, we_roof_low, wn_roof_dives, we_roof_dives, wn_roof_climbs, we_roof_climbs, wn_roof_quick, we_roof_quick, wn_roof_slow, we_roof_slow, wn_low_over, we_low_over, wn_low_under, we_low_under, wn_low_roof, we_low_roof, we_low_low, wn_low_dives, we_low_dives, wn_low_climbs, we_low_climbs, wn_low_quick, we_low_quick, wn_low_slow, we_low_slow, wn_dives_over, we_dives_over, wn_dives_under, we_dives_under, wn_dives_roof, we_dives_roof, wn_dives_low, we_dives_low, we_dives_dives, wn_dives_climbs, we_dives_climbs, wn_dives_quick, we_dives_quick, wn_dives_slow, we_dives_slow, wn_climbs_over, we_climbs_over, wn_climbs_under, we_climbs_under, wn_climbs_roof, we_climbs_roof, wn_climbs_low, we_climbs_low, wn_climbs_dives, we_climbs_dives, we_climbs_climbs, wn_climbs_quick, we_climbs_quick, wn_climbs_slow, we_climbs_slow, wn_quick_over, we_quick_over, wn_quick_under, we_quick_under, wn_quick_roof, we_quick_roof, wn_quick_low, we_quick_low, wn_quick_dives, we_quick_dives, wn_quick_climbs, we_quick_climbs, we_quick_quick, wn_quick_slow, we_quick_slow, wn_slow_over, we_slow_over, wn_slow_under, we_slow_under, wn_slow_roof, we_slow_roof, wn_slow_low, we_slow_low, wn_slow_dives, we_slow_dives, wn_slow_climbs, we_slow_climbs, wn_slow_quick, we_slow_quick, we_slow_slow, we_upright_upright, wn_upright_upper, we_upright_upper, wn_upright_lower, we_upright_lower, wn_upper_upright, we_upper_upright, we_upper_upper, wn_upper_lower, we_upper_lower, wn_lower_upright, we_lower_upright, wn_lower_upper, we_lower_upper, we_lower_lower, we_least_least, wn_least_most, we_least_most, wn_least_all, we_least_all, wn_least_none, we_least_none, wn_most_least, we_most_least, we_most_most, wn_most_all, we_most_all, wn_most_none, we_most_none, wn_all_least, we_all_least, wn_all_most, we_all_most, we_all_all, wn_all_none, we_all_none, wn_none_least, we_none_least, wn_none_most, we_none_most, wn_none_all, we_none_all, we_none_none, ev_inn, ev_innl, ev_nin, ev_inni, ev_nini, flat_s, flat_i, List.all_cons, List.all_nil, List.any_cons, List.any_nil, Bool.or_false, Bool.false_or, Bool.or_true, Bool.true_or, Bool.and_self, eqv_int, ev_is, ev_isnt, reduceCtorEq, ab B h.1]
    rfl
  | dives X M =>
    refine ⟨_, [F X, F M], rfl, rfl, by simp [wordsL], .inr rfl, al1 (pF X) (al1 (pF M) al0), ?_⟩
    simp only [Ask.dat, askD, ask2, inW, we_over_over, wn_over_under, we_over_under, wn_over_roof, we_over_roof, wn_over_low, we_over_low, wn_over_dives, we_over_dives, wn_over_climbs, we_over_climbs, wn_over_quick, we_over_quick, wn_over_slow, we_over_slow, wn_under_over, we_under_over, we_under_under, wn_under_roof, we_under_roof, wn_under_low, we_under_low, wn_under_dives, we_under_dives, wn_under_climbs, we_under_climbs, wn_under_quick, we_under_quick, wn_under_slow, we_under_slow, wn_roof_over, we_roof_over, wn_roof_under, we_roof_under, we_roof_roof, wn_roof_low, we_roof_low, wn_roof_dives, we_roof_dives, wn_roof_climbs, we_roof_climbs, wn_roof_quick, we_roof_quick, wn_roof_slow, we_roof_slow, wn_low_over, we_low_over, wn_low_under, we_low_under, wn_low_roof, we_low_roof, we_low_low, wn_low_dives, we_low_dives, wn_low_climbs, we_low_climbs, wn_low_quick, we_low_quick, wn_low_slow, we_low_slow, wn_dives_over, we_dives_over, wn_dives_under, we_dives_under, wn_dives_roof, we_dives_roof, wn_dives_low, we_dives_low, we_dives_dives, wn_dives_climbs, we_dives_climbs, wn_dives_quick, we_dives_quick, wn_dives_slow, we_dives_slow, wn_climbs_over, we_climbs_over, wn_climbs_under, we_climbs_under, wn_climbs_roof, we_climbs_roof, wn_climbs_low, we_climbs_low, wn_climbs_dives, we_climbs_dives, we_climbs_climbs, wn_climbs_quick, we_climbs_quick, wn_climbs_slow, we_climbs_slow, wn_quick_over, we_quick_over, wn_quick_under, we_quick_under, wn_quick_roof, we_quick_roof, wn_quick_low, we_quick_low, wn_quick_dives, we_quick_dives, wn_quick_climbs, we_quick_climbs, we_quick_quick, wn_quick_slow, we_quick_slow, wn_slow_over, we_slow_over, wn_slow_under, we_slow_under, wn_slow_roof, we_slow_roof, wn_slow_low, we_slow_low, wn_slow_dives, we_slow_dives, wn_slow_climbs, we_slow_climbs, wn_slow_quick, we_slow_quick, we_slow_slow, we_upright_upright, wn_upright_upper, we_upright_upper, wn_upright_lower, we_upright_lower, wn_upper_upright, we_upper_upright, we_upper_upper, wn_upper_lower, we_upper_lower, wn_lower_upright, we_lower_upright, wn_lower_upper, we_lower_upper, we_lower_lower, we_least_least, wn_least_most, we_least_most, wn_least_all, we_least_all, wn_least_none, we_least_none, wn_most_least, we_most_least, we_most_most, wn_most_all, we_most_all, wn_most_none, we_most_none, wn_all_least, we_all_least, wn_all_most, we_all_most, we_all_all, wn_all_none, we_all_none, wn_none_least, we_none_least, wn_none_most, we_none_most, wn_none_all, we_none_all, we_none_none, ev_inn, ev_innl, ev_nin, ev_inni, ev_nini, flat_s, flat_i, List.all_cons, List.all_nil, List.any_cons, List.any_nil, Bool.or_false, Bool.false_or, Bool.or_true, Bool.true_or, Bool.and_self, eqv_int, ev_is, ev_isnt, reduceCtorEq, isF_F, nn X h.1]
    rfl
  | climbs X M =>
    refine ⟨_, [F X, F M], rfl, rfl, by simp [wordsL], .inr rfl, al1 (pF X) (al1 (pF M) al0), ?_⟩
    simp only [Ask.dat, askD, ask2, inW, we_over_over, wn_over_under, we_over_under, wn_over_roof, we_over_roof, wn_over_low, we_over_low, wn_over_dives, we_over_dives, wn_over_climbs, we_over_climbs, wn_over_quick, we_over_quick, wn_over_slow, we_over_slow, wn_under_over, we_under_over, we_under_under, wn_under_roof, we_under_roof, wn_under_low, we_under_low, wn_under_dives, we_under_dives, wn_under_climbs, we_under_climbs, wn_under_quick, we_under_quick, wn_under_slow, we_under_slow, wn_roof_over, we_roof_over, wn_roof_under, we_roof_under, we_roof_roof, wn_roof_low, we_roof_low, wn_roof_dives, we_roof_dives, wn_roof_climbs, we_roof_climbs, wn_roof_quick, we_roof_quick, wn_roof_slow, we_roof_slow, wn_low_over, we_low_over, wn_low_under, we_low_under, wn_low_roof, we_low_roof, we_low_low, wn_low_dives, we_low_dives, wn_low_climbs, we_low_climbs, wn_low_quick, we_low_quick, wn_low_slow, we_low_slow, wn_dives_over, we_dives_over, wn_dives_under, we_dives_under, wn_dives_roof, we_dives_roof, wn_dives_low, we_dives_low, we_dives_dives, wn_dives_climbs, we_dives_climbs, wn_dives_quick, we_dives_quick, wn_dives_slow, we_dives_slow, wn_climbs_over, we_climbs_over, wn_climbs_under, we_climbs_under, wn_climbs_roof, we_climbs_roof, wn_climbs_low, we_climbs_low, wn_climbs_dives, we_climbs_dives, we_climbs_climbs, wn_climbs_quick, we_climbs_quick, wn_climbs_slow, we_climbs_slow, wn_quick_over, we_quick_over, wn_quick_under, we_quick_under, wn_quick_roof, we_quick_roof, wn_quick_low, we_quick_low, wn_quick_dives, we_quick_dives, wn_quick_climbs, we_quick_climbs, we_quick_quick, wn_quick_slow, we_quick_slow, wn_slow_over, we_slow_over, wn_slow_under, we_slow_under, wn_slow_roof, we_slow_roof, wn_slow_low, we_slow_low, wn_slow_dives, we_slow_dives, wn_slow_climbs, we_slow_climbs, wn_slow_quick, we_slow_quick, we_slow_slow, we_upright_upright, wn_upright_upper, we_upright_upper, wn_upright_lower, we_upright_lower, wn_upper_upright, we_upper_upright, we_upper_upper, wn_upper_lower, we_upper_lower, wn_lower_upright, we_lower_upright, wn_lower_upper, we_lower_upper, we_lower_lower, we_least_least, wn_least_most, we_least_most, wn_least_all, we_least_all, wn_least_none, we_least_none, wn_most_least, we_most_least, we_most_most, wn_most_all, we_most_all, wn_most_none, we_most_none, wn_all_least, we_all_least, wn_all_most, we_all_most, we_all_all, wn_all_none, we_all_none, wn_none_least, we_none_least, wn_none_most, we_none_most, wn_none_all, we_none_all, we_none_none, ev_inn, ev_innl, ev_nin, ev_inni, ev_nini, flat_s, flat_i, List.all_cons, List.all_nil, List.any_cons, List.any_nil, Bool.or_false, Bool.false_or, Bool.or_true, Bool.true_or, Bool.and_self, eqv_int, ev_is, ev_isnt, reduceCtorEq, isF_F, nn X h.1]
    rfl
section
variable {Φ : Nat → PSp}
end
def rs_Lcommon : RS := (.seq (.asg 1 (.con (.int 0))) (.seq (.for (.one 2) (.seq (.var 0)) (.seq (.par [3, 4] (.cons (.var 1) (.cons (.bi .abs (.cons (.var 2) .nil)) .nil))) (.seq (.for (.one 5) (.rng (.bin .add (.bin .mul (.con (.int 2)) (.bits (.bi .abs (.cons (.var 2) .nil)))) (.con (.int 2)))) (.seq (.iff (.bl (.cmp .eq (.var 4) (.con (.int 0)))) .brk .skip) (.par [3, 4] (.cons (.var 4) (.cons (.bin .mod (.bi .int (.cons (.var 3) .nil)) (.var 4)) .nil))))) (.asg 1 (.var 3))))) (.ret (.var 1))))
def rs_Llean : RS := (.seq (.asg 1 (.bi .max2 (.cons (.con (.int 1)) (.cons (.call 218 (.cons (.var 0) .nil)) .nil)))) (.ret (.bi .tuple (.cons (.lc [2] (.one 2) (.seq (.var 0)) .yes (.bin .div (.var 2) (.var 1))) .nil))))
def rs_Lratio : RS := (.ret (.ite (.bl (.cmp .gt (.var 1) (.con (.int 0)))) (.call 219 (.cons (.tup (.cons (.var 0) (.cons (.var 1) .nil))) .nil)) (.call 219 (.cons (.tup (.cons (.bin .sub (.con (.int 0)) (.var 0)) (.cons (.bin .sub (.con (.int 0)) (.var 1)) .nil))) .nil))))
def rs_Lapart : RS := (.ret (.tup (.cons (.call 220 (.cons (.idx (.var 0) (.con (.int 0))) (.cons (.idx (.var 0) (.con (.int 2))) .nil))) (.cons (.call 220 (.cons (.idx (.var 0) (.con (.int 1))) (.cons (.idx (.var 0) (.con (.int 2))) .nil))) .nil))))
def rs_Lplus : RS := (.ret (.call 220 (.cons (.bin .add (.bin .mul (.idx (.var 0) (.con (.int 0))) (.idx (.var 1) (.con (.int 1)))) (.bin .mul (.idx (.var 1) (.con (.int 0))) (.idx (.var 0) (.con (.int 1))))) (.cons (.bin .mul (.idx (.var 0) (.con (.int 1))) (.idx (.var 1) (.con (.int 1)))) .nil))))
def rs_Mless : RS := (.ret (.call 220 (.cons (.bin .sub (.bin .mul (.idx (.var 0) (.con (.int 0))) (.idx (.var 1) (.con (.int 1)))) (.bin .mul (.idx (.var 1) (.con (.int 0))) (.idx (.var 0) (.con (.int 1))))) (.cons (.bin .mul (.idx (.var 0) (.con (.int 1))) (.idx (.var 1) (.con (.int 1)))) .nil))))
def rs_Mdraw : RS := (.seq (.iff (.bl (.cmp .gt (.idx (.var 0) (.con (.int 0))) (.con (.int 0)))) (.seq (.setV2 0 0 2 (.bi .divmod (.cons (.idx (.var 0) (.con (.int 0))) (.cons (.var 1) .nil)))) (.ret (.var 2))) .skip) (.seq (.setV 0 2 (.bin .add (.idx (.var 0) (.con (.int 2))) (.con (.int 1)))) (.seq (.asg 3 (.bin .mod (.bi .int (.cons (.bin .add (.bin .add (.bin .mul (.idx (.var 0) (.con (.int 1))) (.con (.int 37))) (.bin .mul (.con (.int 80021)) (.idx (.var 0) (.con (.int 2))))) (.con (.int 11))) .nil)) (.con (.int 1000000123)))) (.seq (.setV 0 1 (.bin .mod (.bi .int (.cons (.bin .add (.bin .mul (.var 3) (.bin .add (.bin .mod (.bi .int (.cons (.var 3) .nil)) (.con (.int 6961))) (.con (.int 21001)))) (.bin .mul (.con (.int 29)) (.idx (.var 0) (.con (.int 2))))) .nil)) (.con (.int 1000000123)))) (.ret (.bin .mod (.bi .int (.cons (.bin .div (.idx (.var 0) (.con (.int 1))) (.con (.int 191))) .nil)) (.var 1)))))))
def rs_Mpick : RS := (.ret (.idx (.var 1) (.call 0 (.cons (.var 0) (.cons (.bi .len (.cons (.var 1) .nil)) .nil)))))
def rs_Msize : RS := (.seq (.asg 1 (.call 0 (.cons (.var 0) (.cons (.con (.int 4)) .nil)))) (.seq (.iff (.bl (.cmp .lt (.var 1) (.con (.int 3)))) (.ret (.call 1 (.cons (.var 0) (.cons (.tup (.cons (.tup (.cons (.con (.int 1)) (.cons (.con (.int 1)) .nil))) (.cons (.tup (.cons (.con (.int 1)) (.cons (.con (.int 2)) .nil))) (.cons (.tup (.cons (.con (.int 2)) (.cons (.con (.int 1)) .nil))) (.cons (.tup (.cons (.con (.int 3)) (.cons (.con (.int 2)) .nil))) (.cons (.tup (.cons (.con (.int 1)) (.cons (.con (.int 4)) .nil))) (.cons (.tup (.cons (.con (.int 3)) (.cons (.con (.int 4)) .nil))) (.cons (.tup (.cons (.con (.int 3)) (.cons (.con (.int 1)) .nil))) (.cons (.tup (.cons (.con (.int 4)) (.cons (.con (.int 1)) .nil))) .nil))))))))) .nil)))) .skip) (.ret (.call 220 (.cons (.bin .add (.con (.int 1)) (.call 0 (.cons (.var 0) (.cons (.con (.int 9)) .nil)))) (.cons (.bin .add (.con (.int 1)) (.call 0 (.cons (.var 0) (.cons (.con (.int 5)) .nil)))) .nil))))))
def rs_Lfar_x : RS := (.seq (.asg 2 (.idx (.call 230 (.cons (.idx (.var 1) (.con (.int 0))) .nil)) (.con (.int 0)))) (.ret (.ite (.bl (.cmp .eq (.idx (.var 1) (.con (.int 1))) (.con (.int 1)))) (.call 223 (.cons (.var 2) (.cons (.call 2 (.cons (.var 0) .nil)) .nil))) (.call 59 (.cons (.var 2) (.cons (.call 2 (.cons (.var 0) .nil)) .nil))))))
def rs_Lpoint : RS := (.ret (.call 219 (.cons (.tup (.cons (.bin .mul (.idx (.var 0) (.con (.int 0))) (.idx (.var 1) (.con (.int 1)))) (.cons (.bin .mul (.idx (.var 1) (.con (.int 0))) (.idx (.var 0) (.con (.int 1)))) (.cons (.bin .mul (.idx (.var 0) (.con (.int 1))) (.idx (.var 1) (.con (.int 1)))) .nil)))) .nil)))
def rs_Lpart : RS := (.seq (.asg 1 (.call 1 (.cons (.var 0) (.cons (.tup (.cons (.tup (.cons (.con (.int 0)) (.cons (.con (.int 1)) .nil))) (.cons (.tup (.cons (.con (.int 1)) (.cons (.con (.int 1)) .nil))) (.cons (.tup (.cons (.con (.int 1)) (.cons (.con (.int 2)) .nil))) (.cons (.tup (.cons (.con (.int 2)) (.cons (.con (.int 1)) .nil))) (.cons (.con .none) (.cons (.con .none) (.cons (.con .none) .nil)))))))) .nil)))) (.seq (.asg 1 (.ite (.bl (.isN (.var 1))) (.call 2 (.cons (.var 0) .nil)) (.var 1))) (.ret (.ite (.bl (.cmp .lt (.call 0 (.cons (.var 0) (.cons (.con (.int 5)) .nil))) (.con (.int 3)))) (.var 1) (.tup (.cons (.bin .sub (.con (.int 0)) (.idx (.var 1) (.con (.int 0)))) (.cons (.idx (.var 1) (.con (.int 1))) .nil)))))))
def rs_Mjet : RS := (.seq (.asg 1 (.call 0 (.cons (.var 0) (.cons (.con (.int 4)) .nil)))) (.seq (.iff (.bl (.cmp .lt (.var 1) (.con (.int 2)))) (.ret (.call 1 (.cons (.var 0) (.cons (.tup (.cons (.tup (.cons (.tup (.cons (.con (.int 1)) (.cons (.con (.int 1)) .nil))) (.cons (.tup (.cons (.con (.int 1)) (.cons (.con (.int 4)) .nil))) .nil))) (.cons (.tup (.cons (.tup (.cons (.con (.int 1)) (.cons (.con (.int 1)) .nil))) (.cons (.tup (.cons (.con (.int 1)) (.cons (.con (.int 2)) .nil))) .nil))) (.cons (.tup (.cons (.tup (.cons (.con (.int 2)) (.cons (.con (.int 1)) .nil))) (.cons (.tup (.cons (.con (.int 1)) (.cons (.con (.int 1)) .nil))) .nil))) (.cons (.tup (.cons (.tup (.cons (.con (.int 0)) (.cons (.con (.int 1)) .nil))) (.cons (.tup (.cons (.con (.int 1)) (.cons (.con (.int 4)) .nil))) .nil))) (.cons (.tup (.cons (.tup (.cons (.con (.int 2)) (.cons (.con (.int 1)) .nil))) (.cons (.tup (.cons (.con (.int 5)) (.cons (.con (.int 4)) .nil))) .nil))) .nil)))))) .nil)))) .skip) (.ret (.tup (.cons (.call 221 (.cons (.var 0) .nil)) (.cons (.call 2 (.cons (.var 0) .nil)) .nil))))))
def rs_Lstream : RS := (.seq (.asg 1 (.call 237 (.cons (.call 221 (.cons (.var 0) .nil)) (.cons (.call 221 (.cons (.var 0) .nil)) .nil)))) (.ret (.tup (.cons (.var 1) (.cons (.bin .sub (.con (.int 1)) (.bin .mul (.con (.int 2)) (.call 0 (.cons (.var 0) (.cons (.con (.int 2)) .nil))))) (.cons (.call 68 (.cons (.var 0) .nil)) .nil))))))
def rs_Ltimes : RS := (.ret (.call 220 (.cons (.bin .mul (.idx (.var 0) (.con (.int 0))) (.idx (.var 1) (.con (.int 0)))) (.cons (.bin .mul (.idx (.var 0) (.con (.int 1))) (.idx (.var 1) (.con (.int 1)))) .nil))))
def rs_Lcurve : RS := (.seq (.asgT (.many [1, 2, 3]) (.var 0)) (.seq (.asgT (.many [4, 5]) (.call 230 (.cons (.var 1) .nil))) (.seq (.par [6, 7] (.cons (.tup (.cons (.bin .mul (.var 2) (.idx (.idx (.var 3) (.con (.int 0))) (.con (.int 0)))) (.cons (.idx (.idx (.var 3) (.con (.int 0))) (.con (.int 1))) .nil))) (.cons (.idx (.var 3) (.con (.int 1))) .nil))) (.seq (.asg 8 (.call 223 (.cons (.var 6) (.cons (.call 224 (.cons (.tup (.cons (.con (.int 2)) (.cons (.con (.int 1)) .nil))) (.cons (.call 224 (.cons (.var 7) (.cons (.var 4) .nil))) .nil))) .nil)))) (.seq (.asg 9 (.call 59 (.cons (.call 59 (.cons (.var 5) (.cons (.call 224 (.cons (.var 6) (.cons (.var 4) .nil))) .nil))) (.cons (.call 224 (.cons (.var 7) (.cons (.call 224 (.cons (.var 4) (.cons (.var 4) .nil))) .nil))) .nil)))) (.ret (.tup (.cons (.var 9) (.cons (.var 8) (.cons (.tup (.cons (.bin .sub (.con (.int 0)) (.idx (.var 7) (.con (.int 0)))) (.cons (.idx (.var 7) (.con (.int 1))) .nil))) .nil))))))))))
def rs_Lon_curve : RS := (.seq (.asgT (.many [3, 4, 5]) (.call 243 (.cons (.var 0) .nil))) (.seq (.asg 6 (.call 223 (.cons (.var 4) (.cons (.call 224 (.cons (.tup (.cons (.con (.int 2)) (.cons (.con (.int 1)) .nil))) (.cons (.call 224 (.cons (.var 5) (.cons (.var 1) .nil))) .nil))) .nil)))) (.seq (.asg 7 (.call 223 (.cons (.var 3) (.cons (.call 224 (.cons (.var 1) (.cons (.call 223 (.cons (.var 4) (.cons (.call 224 (.cons (.var 5) (.cons (.var 1) .nil))) .nil))) .nil))) .nil)))) (.ret (.tup (.cons (.call 237 (.cons (.var 1) (.cons (.var 7) .nil))) (.cons (.var 2) (.cons (.tup (.cons (.tup (.cons (.bin .mul (.var 2) (.idx (.var 6) (.con (.int 0)))) (.cons (.idx (.var 6) (.con (.int 1))) .nil))) (.cons (.idx (.idx (.var 0) (.con (.int 2))) (.con (.int 1))) .nil))) .nil))))))))
def rs_Lsign : RS := (.ret (.bin .sub (.bi .int (.cons (.cmp .gt (.var 0) (.con (.int 0))) .nil)) (.bi .int (.cons (.cmp .lt (.var 0) (.con (.int 0))) .nil))))
def rs_Morder : RS := (.ret (.call 193 (.cons (.bin .sub (.bin .mul (.idx (.var 0) (.con (.int 0))) (.idx (.var 1) (.con (.int 1)))) (.bin .mul (.idx (.var 1) (.con (.int 0))) (.idx (.var 0) (.con (.int 1))))) .nil)))
def rs_is_stream : RS := (.seq (.iff (.or (.not (.val (.isi (.var 0) "tuple"))) (.bl (.cmp .ne (.bi .len (.cons (.var 0) .nil)) (.con (.int 3))))) (.ret (.con (.bool false))) .skip) (.seq (.asgT (.many [1, 2, 3]) (.var 0)) (.ret (.andV (.call 18 (.cons (.var 1) .nil)) (.andV (.call 10 (.cons (.var 2) .nil)) (.andV (.orV (.cmp .eq (.var 2) (.con (.int 1))) (.cmp .eq (.var 2) (.neg (.con (.int 1))))) (.call 72 (.cons (.var 3) .nil))))))))
def rs_check_stream : RS := (.iff (.not (.val (.call 256 (.cons (.var 0) .nil)))) .fail .skip)
def rs_later_begin : RS := (.seq (.iff (.or (.bl (.isN (.var 0))) (.and (.bl (.notN (.var 1))) (.bl (.cmp .lt (.call 67 (.cons (.var 0) (.cons (.var 1) .nil))) (.con (.int 0)))))) (.ret (.var 1)) .skip) (.ret (.var 0)))
def rs_earlier_end : RS := (.seq (.iff (.or (.bl (.isN (.var 0))) (.and (.bl (.notN (.var 1))) (.bl (.cmp .gt (.call 67 (.cons (.var 0) (.cons (.var 1) .nil))) (.con (.int 0)))))) (.ret (.var 1)) .skip) (.ret (.var 0)))
def rs_order_of : RS := (.ret (.ite (.or (.bl (.isN (.var 0))) (.bl (.isN (.var 1)))) (.neg (.con (.int 1))) (.call 67 (.cons (.var 0) (.cons (.var 1) .nil)))))
def rs_common : RS := (.seq (.asgT (.many [1, 2]) (.con (.tuple [.none, .none]))) (.seq (.for (.one 3) (.seq (.var 0)) (.seq (.iff (.bl (.isN (.var 3))) (.ret (.con .none)) .skip) (.par [1, 2] (.cons (.call 156 (.cons (.var 1) (.cons (.idx (.var 3) (.con (.int 0))) .nil))) (.cons (.call 157 (.cons (.var 2) (.cons (.idx (.var 3) (.con (.int 1))) .nil))) .nil))))) (.ret (.ite (.bl (.cmp .gt (.call 158 (.cons (.var 1) (.cons (.var 2) .nil))) (.con (.int 0)))) (.con .none) (.tup (.cons (.var 1) (.cons (.var 2) .nil)))))))
def rs_difference : RS := (.ret (.tup (.cons (.call 65 (.cons (.idx (.var 0) (.con (.int 0))) (.cons (.idx (.var 1) (.con (.int 0))) .nil))) (.cons (.call 65 (.cons (.idx (.var 0) (.con (.int 1))) (.cons (.idx (.var 1) (.con (.int 1))) .nil))) (.cons (.call 65 (.cons (.idx (.var 0) (.con (.int 2))) (.cons (.idx (.var 1) (.con (.int 2))) .nil))) .nil)))))
def rs_spout_of : RS := (.seq (.asgT (.many [1, 2, 3]) (.idx (.var 0) (.con (.int 0)))) (.ret (.tup (.cons (.call 33 (.cons (.var 1) (.cons (.var 3) .nil))) (.cons (.call 33 (.cons (.var 2) (.cons (.var 3) .nil))) .nil)))))
def rs_fall_of : RS := (.seq (.par [1, 2] (.cons (.idx (.call 258 (.cons (.var 0) .nil)) (.con (.int 0))) (.cons (.idx (.idx (.var 0) (.con (.int 2))) (.con (.int 1))) .nil))) (.ret (.tup (.cons (.call 51 (.cons (.var 2) (.cons (.call 51 (.cons (.var 1) (.cons (.var 1) .nil))) .nil))) (.cons (.call 51 (.cons (.tup (.cons (.neg (.con (.int 2))) (.cons (.con (.int 1)) .nil))) (.cons (.call 51 (.cons (.var 2) (.cons (.var 1) .nil))) .nil))) (.cons (.var 2) .nil))))))
def rs_water_of : RS := (.seq (.asgT (.many [1, 2]) (.call 258 (.cons (.var 0) .nil))) (.seq (.asg 3 (.call 51 (.cons (.tup (.cons (.idx (.var 0) (.con (.int 1))) (.cons (.con (.int 1)) .nil))) (.cons (.idx (.idx (.var 0) (.con (.int 2))) (.con (.int 0))) .nil)))) (.ret (.call 162 (.cons (.tup (.cons (.call 65 (.cons (.var 2) (.cons (.call 51 (.cons (.var 3) (.cons (.var 1) .nil))) .nil))) (.cons (.var 3) (.cons (.tup (.cons (.con (.int 0)) (.cons (.con (.int 1)) .nil))) .nil)))) (.cons (.call 259 (.cons (.var 0) .nil)) .nil))))))
def rs_stretch_of : RS := (.seq (.asg 1 (.call 94 (.cons (.idx (.call 258 (.cons (.var 0) .nil)) (.con (.int 0))) .nil))) (.ret (.ite (.bl (.cmp .eq (.idx (.var 0) (.con (.int 1))) (.con (.int 1)))) (.tup (.cons (.var 1) (.cons (.con .none) .nil))) (.tup (.cons (.con .none) (.cons (.var 1) .nil))))))
def rs_is_within : RS := (.ret (.andV (.orV (.isN (.var 1)) (.cmp .le (.call 67 (.cons (.var 1) (.cons (.var 0) .nil))) (.con (.int 0)))) (.orV (.isN (.var 2)) (.cmp .le (.call 67 (.cons (.var 0) (.cons (.var 2) .nil))) (.con (.int 0))))))
def rs_meeting_places : RS := (.seq (.asg 2 (.call 159 (.cons (.lst (.cons (.call 261 (.cons (.var 0) .nil)) (.cons (.call 261 (.cons (.var 1) .nil)) .nil))) .nil))) (.seq (.iff (.bl (.isN (.var 2))) (.ret (.lst .nil)) .skip) (.seq (.asg 3 (.call 162 (.cons (.call 260 (.cons (.var 0) .nil)) (.cons (.call 260 (.cons (.var 1) .nil)) .nil)))) (.seq (.iff (.bl (.cmp .eq (.var 3) (.con (.tuple [(.tuple [(.int 0), (.int 1)]), (.tuple [(.int 0), (.int 1)]), (.tuple [(.int 0), (.int 1)])])))) (.ret (.ite (.bl (.cmp .eq (.call 158 (.cons (.idx (.var 2) (.con (.int 0))) (.cons (.idx (.var 2) (.con (.int 1))) .nil))) (.con (.int 0)))) (.lst (.cons (.idx (.var 2) (.con (.int 0))) .nil)) (.con .none))) .skip) (.ret (.lc [4] (.one 4) (.seq (.call 95 (.cons (.var 3) .nil))) (.val (.call 177 (.cons (.var 4) (.cons (.idx (.var 2) (.con (.int 0))) (.cons (.idx (.var 2) (.con (.int 1))) .nil))))) (.var 4)))))))
def rs_growth_at : RS := (.ret (.call 48 (.cons (.idx (.var 0) (.con (.int 1))) (.cons (.call 51 (.cons (.call 51 (.cons (.tup (.cons (.con (.int 2)) (.cons (.con (.int 1)) .nil))) (.cons (.idx (.var 0) (.con (.int 2))) .nil))) (.cons (.var 1) .nil))) .nil))))
def rs_halves_at : RS := (.seq (.asgT (.many [2, 3, 4]) (.var 1)) (.seq (.asg 5 (.call 48 (.cons (.call 75 (.cons (.var 0) (.cons (.var 2) .nil))) (.cons (.call 51 (.cons (.idx (.var 0) (.con (.int 2))) (.cons (.var 4) .nil))) .nil)))) (.ret (.tup (.cons (.var 5) (.cons (.call 51 (.cons (.tup (.cons (.var 3) (.cons (.con (.int 1)) .nil))) (.cons (.call 178 (.cons (.var 0) (.cons (.var 2) .nil))) .nil))) .nil))))))
def rs_surd_at : RS := (.seq (.asgT (.many [2, 3]) (.call 179 (.cons (.var 0) (.cons (.var 1) .nil)))) (.ret (.call 52 (.cons (.var 2) (.cons (.var 3) (.cons (.idx (.var 1) (.con (.int 2))) .nil))))))
def rs_meetings : RS := (.seq (.exp (.call 257 (.cons (.var 0) .nil))) (.seq (.exp (.call 257 (.cons (.var 1) .nil))) (.seq (.asg 2 (.call 262 (.cons (.var 0) (.cons (.var 1) .nil)))) (.ret (.ite (.bl (.isN (.var 2))) (.con .none) (.bi .tuple (.cons (.lc [3] (.one 3) (.seq (.var 2)) .yes (.tup (.cons (.var 3) (.cons (.call 181 (.cons (.call 260 (.cons (.var 0) .nil)) (.cons (.var 3) .nil))) .nil)))) .nil)))))))
def rs_first_there : RS := (.seq (.exp (.call 257 (.cons (.var 0) .nil))) (.seq (.exp (.call 257 (.cons (.var 1) .nil))) (.seq (.asg 3 (.call 262 (.cons (.var 0) (.cons (.var 1) .nil)))) (.seq (.iff (.or (.bl (.isN (.var 3))) (.or (.not (.val (.call 10 (.cons (.var 2) .nil)))) (.or (.bl (.cmp .lt (.var 2) (.con (.int 0)))) (.bl (.cmp .ge (.var 2) (.bi .len (.cons (.var 3) .nil))))))) .fail .skip) (.ret (.look [(.int (-1), (.str (Str.ofString "first"))), (.int 0, (.str (Str.ofString "both"))), (.int 1, (.str (Str.ofString "other")))] (.call 96 (.cons (.call 181 (.cons (.call 162 (.cons (.call 259 (.cons (.var 0) .nil)) (.cons (.call 259 (.cons (.var 1) .nil)) .nil))) (.cons (.idx (.var 3) (.var 2)) .nil))) .nil))))))))
def rs_Lwell : RS := (.seq (.asg 2 (.bin .add (.con (.int 700001)) (.bin .mul (.con (.int 9241)) (.var 1)))) (.seq (.for (.one 3) (.seq (.slc (.var 0) .none (.some (.con (.int 63))))) (.asg 2 (.bin .mod (.bi .int (.cons (.bin .add (.bin .add (.bin .mul (.var 2) (.con (.int 44497))) (.bin .mod (.bi .int (.cons (.var 3) .nil)) (.con (.int 536870909)))) (.con (.int 61))) .nil)) (.con (.int 1000000123))))) (.seq (.asg 4 (.ite (.bl (.cmp .lt (.var 1) (.bi .len (.cons (.var 0) .nil)))) (.bi .int (.cons (.idx (.var 0) (.var 1)) .nil)) (.con (.int 0)))) (.seq (.asg 5 (.ite (.bl (.cmp .ge (.bi .abs (.cons (.var 4) .nil)) (.bin .pow (.con (.int 10)) (.con (.int 18))))) (.bi .abs (.cons (.var 4) .nil)) (.con (.int 0)))) (.retV (.cons (.var 5) (.cons (.bin .mod (.bi .int (.cons (.bin .add (.var 2) (.bin .mul (.con (.int 13)) (.bin .mod (.bi .int (.cons (.var 4) .nil)) (.con (.int 59999999))))) .nil)) (.con (.int 1000000123))) (.cons (.con (.int 0)) .nil))))))))
def rs_Lrounds : RS := (.ret (.bi .max2 (.cons (.var 1) (.cons (.bi .min2 (.cons (.bi .len (.cons (.var 0) .nil)) (.cons (.var 2) .nil))) .nil))))
def rs_drops_meet : RS := (.seq (.exp (.call 257 (.cons (.var 0) .nil))) (.seq (.exp (.call 257 (.cons (.var 1) .nil))) (.seq (.asgT (.nest (.cons (.many [2, 3]) (.cons (.many [4, 5]) .nil))) (.tup (.cons (.call 258 (.cons (.var 0) .nil)) (.cons (.call 258 (.cons (.var 1) .nil)) .nil)))) (.seq (.par [6, 7] (.cons (.call 65 (.cons (.var 4) (.cons (.var 2) .nil))) (.cons (.call 65 (.cons (.var 5) (.cons (.var 3) .nil))) .nil))) (.seq (.asgT (.nest (.cons (.nest (.cons (.one 8) (.cons (.one 9) (.cons (.many [10, 11]) .nil)))) (.cons (.nest (.cons (.one 8) (.cons (.one 12) (.cons (.many [13, 14]) .nil)))) .nil))) (.tup (.cons (.var 0) (.cons (.var 1) .nil)))) (.seq (.asg 15 (.call 82 (.cons (.var 11) (.cons (.var 14) .nil)))) (.seq (.asg 16 (.call 66 (.cons (.tup (.cons (.var 9) (.cons (.con (.int 1)) .nil))) (.cons (.tup (.cons (.neg (.var 12)) (.cons (.con (.int 1)) .nil))) (.cons (.var 15) .nil))))) (.seq (.asg 17 (.call 66 (.cons (.var 10) (.cons (.call 76 (.cons (.var 13) .nil)) (.cons (.var 15) .nil))))) (.seq (.asg 18 (.call 66 (.cons (.call 65 (.cons (.call 51 (.cons (.tup (.cons (.var 9) (.cons (.con (.int 1)) .nil))) (.cons (.var 7) .nil))) (.cons (.call 51 (.cons (.var 10) (.cons (.var 6) .nil))) .nil))) (.cons (.call 65 (.cons (.call 51 (.cons (.var 13) (.cons (.var 6) .nil))) (.cons (.call 51 (.cons (.tup (.cons (.var 12) (.cons (.con (.int 1)) .nil))) (.cons (.var 7) .nil))) .nil))) (.cons (.var 15) .nil))))) (.seq (.iff (.and (.bl (.cmp .eq (.idx (.var 6) (.con (.int 0))) (.con (.int 0)))) (.bl (.cmp .eq (.idx (.var 7) (.con (.int 0))) (.con (.int 0))))) (.ret (.con (.bool true))) .skip) (.ret (.andV (.cmp .eq (.var 18) (.con (.int 0))) (.andV (.cmp .eq (.var 16) (.call 50 (.cons (.idx (.var 6) (.con (.int 0))) .nil))) (.cmp .eq (.var 17) (.call 50 (.cons (.idx (.var 7) (.con (.int 0))) .nil))))))))))))))))
def rs_water_at : RS := (.seq (.exp (.call 257 (.cons (.var 0) .nil))) (.seq (.exp (.call 13 (.cons (.var 1) .nil))) (.seq (.asgT (.many [2, 3]) (.call 261 (.cons (.var 0) .nil))) (.ret (.ite (.val (.call 177 (.cons (.call 94 (.cons (.var 1) .nil)) (.cons (.var 2) (.cons (.var 3) .nil))))) (.call 75 (.cons (.call 260 (.cons (.var 0) .nil)) (.cons (.var 1) .nil))) (.con .none))))))
def rs_Mplace : RS := (.ret (.call 219 (.cons (.tup (.cons (.bin .mul (.idx (.var 0) (.con (.int 0))) (.idx (.var 1) (.con (.int 1)))) (.cons (.bin .mul (.idx (.var 1) (.con (.int 0))) (.idx (.var 0) (.con (.int 1)))) (.cons (.bin .mul (.idx (.var 0) (.con (.int 1))) (.idx (.var 1) (.con (.int 1)))) .nil)))) .nil)))
def b_Lwell_1 : RS := (.asg 2 (.bin .mod (.bi .int (.cons (.bin .add (.bin .add (.bin .mul (.var 2) (.con (.int 44497))) (.bin .mod (.bi .int (.cons (.var 3) .nil)) (.con (.int 536870909)))) (.con (.int 61))) .nil)) (.con (.int 1000000123))))
def q_Lwell_4 : RS := (.retV (.cons (.var 5) (.cons (.bin .mod (.bi .int (.cons (.bin .add (.var 2) (.bin .mul (.con (.int 13)) (.bin .mod (.bi .int (.cons (.var 4) .nil)) (.con (.int 59999999))))) .nil)) (.con (.int 1000000123))) (.cons (.con (.int 0)) .nil))))
def q_Lwell_3 : RS := (.seq (.asg 5 (.ite (.bl (.cmp .ge (.bi .abs (.cons (.var 4) .nil)) (.bin .pow (.con (.int 10)) (.con (.int 18))))) (.bi .abs (.cons (.var 4) .nil)) (.con (.int 0)))) q_Lwell_4)
def q_Lwell_2 : RS := (.seq (.asg 4 (.ite (.bl (.cmp .lt (.var 1) (.bi .len (.cons (.var 0) .nil)))) (.bi .int (.cons (.idx (.var 0) (.var 1)) .nil)) (.con (.int 0)))) q_Lwell_3)
def q_Lwell_1 : RS := (.seq (.for (.one 3) (.seq (.slc (.var 0) .none (.some (.con (.int 63))))) b_Lwell_1) q_Lwell_2)
def q_Lwell_0 : RS := (.seq (.asg 2 (.bin .add (.con (.int 700001)) (.bin .mul (.con (.int 9241)) (.var 1)))) q_Lwell_1)
theorem q_Lwell : rs_Lwell = q_Lwell_0 := rfl
def q_Lcommon_1_b_1_b_1 : RS := (.par [3, 4] (.cons (.var 4) (.cons (.bin .mod (.bi .int (.cons (.var 3) .nil)) (.var 4)) .nil)))
def q_Lcommon_1_b_1_b_0 : RS := (.seq (.iff (.bl (.cmp .eq (.var 4) (.con (.int 0)))) .brk .skip) q_Lcommon_1_b_1_b_1)
def q_Lcommon_1_b_2 : RS := (.asg 1 (.var 3))
def q_Lcommon_1_b_1 : RS := (.seq (.for (.one 5) (.rng (.bin .add (.bin .mul (.con (.int 2)) (.bits (.bi .abs (.cons (.var 2) .nil)))) (.con (.int 2)))) q_Lcommon_1_b_1_b_0) q_Lcommon_1_b_2)
def q_Lcommon_1_b_0 : RS := (.seq (.par [3, 4] (.cons (.var 1) (.cons (.bi .abs (.cons (.var 2) .nil)) .nil))) q_Lcommon_1_b_1)
def q_Lcommon_2 : RS := (.ret (.var 1))
def q_Lcommon_1 : RS := (.seq (.for (.one 2) (.seq (.var 0)) q_Lcommon_1_b_0) q_Lcommon_2)
def q_Lcommon_0 : RS := (.seq (.asg 1 (.con (.int 0))) q_Lcommon_1)
theorem q_Lcommon : rs_Lcommon = q_Lcommon_0 := rfl
/-! ### the second family of laws: their numbers and draws -/
def sp_Mdraw : PSp := fun ds Q => ∃ m, ds = [.vat, I m] ∧ 0 < m ∧ m < 1073741824 ∧ ∀ r, 0 ≤ r → r < m → Q (I r)
def sp_Mpick : PSp := fun ds Q => ∃ d, ds = [.vat, .d d] ∧ ∃ xs, seqOf (.d d) = some xs ∧ xs ≠ [] ∧ xs.length < 1000 ∧ ∀ x ∈ xs, Q (.d x)
def sp_Lwell : PSp := fun ds Q => ∃ ns n, ds = [.scr ns, I n] ∧ 0 ≤ n ∧ n ≤ 10 ∧ Q .vat
def sp_Lrounds : PSp := fun ds Q => ∃ ns a b, ds = [.scr ns, I a, I b] ∧ 0 ≤ a ∧ a ≤ b ∧ ∀ r, a ≤ r → r ≤ b → Q (I r)
def sp_Lcommon : PSp := fun ds Q => (∃ a b, ds = [T2 a b] ∧ Sz 8000 a ∧ Sz 8000 b ∧ Q (I (g2 a b))) ∨ (∃ a b c, ds = [T3 a b c] ∧ Sz 8000 a ∧ Sz 8000 b ∧ Sz 8000 c ∧ Q (I (g3 a b c)))
def sp_Llean : PSp := fun ds Q => (∃ a b, ds = [T2 a b] ∧ b ≠ 0 ∧ Sz 8000 a ∧ Sz 8000 b ∧ Q (T2 (rd a b).1 (rd a b).2)) ∨ (∃ a b c, ds = [T3 a b c] ∧ c ≠ 0 ∧ Sz 8000 a ∧ Sz 8000 b ∧ Sz 8000 c ∧ Q (T3 (rt a b c).1 (rt a b c).2.1 (rt a b c).2.2))
def sp_Mlaw : PSp := fun ds Q => ∃ ns, ds = [.scr ns] ∧ Q (B true)
theorem ap_Mdraw {Q : DV → Prop} {m : Int} : sp_Mdraw [DV.vat, DV.d (.int m)] Q = (0 < m ∧ m < 1073741824 ∧ ∀ r, 0 ≤ r → r < m → Q (I r)) := ap_Ldraw
theorem ap_Mpick {Q : DV → Prop} {d : PyData} : sp_Mpick [DV.vat, DV.d d] Q = (∃ xs, seqOf (.d d) = some xs ∧ xs ≠ [] ∧ xs.length < 1000 ∧ ∀ x ∈ xs, Q (.d x)) := propext ⟨fun ⟨_, e, r⟩ => by
  simp only [List.cons.injEq, DV.d.injEq, and_true, true_and] at e
  subst e
  exact r, fun r => ⟨_, rfl, r⟩⟩
section
variable {Φ : Nat → PSp}
theorem sem_Mdraw : ∀ ds Q, sp_Mdraw ds Q → wS Φ rs_Mdraw { nx := fun _ => Q (.d .none), rt := Q } (startD ["a", "b", "c", "d"] ds) := by
  rintro ds Q ⟨m, rfl, h1, h2, hq⟩
  show wS Φ rs_Mdraw _ [some (.val .vat), some (.val (I m)), none, none]
  simp only [rs_Mdraw, wS, wE, wA, wT, wI, wO, wTg, wIdx, wSlc, wBin, wCmp, wBi, wIsi, tyD, dbool, dint, setVals, setAll, datas, itemsD, truD, List.getElem?_cons_zero, List.getElem?_cons_succ, List.set_cons_zero, List.set_cons_succ, Option.map_some, Option.map_none]
  refine ⟨by omega, by omega, fun c hc => ?_⟩
  have hc := hc.1
  split
  · exact ⟨by omega, by omega, by omega, fun z hz => ⟨⟨h1, h2⟩, ⟨Int.ediv_nonneg hz.1 (by omega), fun h => by omega⟩, hq _ (Int.emod_nonneg _ (by omega)) (Int.emod_lt_of_pos _ h1)⟩⟩
  · refine ⟨by omega, by omega, by omega, fun z hz => ⟨⟨by have := hz.1; omega, fun h => by omega⟩, by omega, by omega, fun x hx => ⟨.inl (.inr ⟨by omega, by omega⟩), by omega, by omega, fun y hy => ?_⟩⟩⟩
    have hx1 := hx.2 rfl
    have hy0 := hy.1
    have hx0 := hx.1
    refine ⟨.inl (.inl ⟨by omega, by omega⟩), by omega, ?_⟩
    generalize hm : (x * 37 + 80021 * y + 11) % 1000000123 = u
    have u0 : 0 ≤ u := by rw [← hm]; exact Int.emod_nonneg _ (by omega)
    have u1 : u < 1000000123 := by rw [← hm]; exact Int.emod_lt_of_pos _ (by omega)
    refine ⟨by omega, by omega, .inl (.inl ⟨by omega, by omega⟩), by omega, by omega, fun t ht => ⟨.inl (.inl ⟨by omega, by omega⟩), by omega, ⟨Int.emod_nonneg _ (by omega), fun _ => ?_⟩, by omega, by omega, fun v hv => ⟨⟨by omega, by decide⟩, h1, hq _ (Int.emod_nonneg _ (by omega)) (Int.emod_lt_of_pos _ h1)⟩⟩⟩
    exact Int.lt_trans (Int.emod_lt_of_pos _ (by omega)) (by omega)
theorem sem_Mpick (e : Φ 0 = sp_Mdraw) : ∀ ds Q, sp_Mpick ds Q → wS Φ rs_Mpick { nx := fun _ => Q (.d .none), rt := Q } (startD ["a", "b"] ds) := by
  rintro ds Q ⟨d, rfl, xs, hx, h1, h2, hq⟩
  have hl : 0 < xs.length := List.length_pos_iff.mpr h1
  cases d <;> try (cases hx)
  all_goals
    show wS Φ rs_Mpick _ [some (.val .vat), some (.val (.d _))]
    simp only [rs_Mpick, wS, wE, wA, wT, wI, wO, wTg, wIdx, wSlc, wBin, wCmp, wBi, wIsi, tyD, dbool, dint, setVals, setAll, datas, itemsD, truD, List.getElem?_cons_zero, List.getElem?_cons_succ, List.set_cons_zero, List.set_cons_succ, Option.map_some, Option.map_none, e, lenD]
    refine ⟨xs.length, rfl, xs.length, rfl, by omega, by omega, fun r r0 r1 => ?_⟩
    obtain ⟨x, hx, hm⟩ := atI_mem r0 r1
    exact ⟨x, hx, hq x hm⟩
theorem well_loop {turn : DV → SDs → (SDs → Prop) → Prop} {nx : SDs → Prop} {a b d e : Option SD}
    (ht : ∀ (k : SDs → Prop) (i z : Int) (o : Option SD), 0 ≤ z → z < 1000000123 → (∀ z', 0 ≤ z' → z' < 1000000123 → k [a, b, some (.val (I z')), some (.val (I i)), d, e]) → turn (I i) [a, b, some (.val (I z)), o, d, e] k) :
    ∀ (xs : List DV), (∀ x ∈ xs, ∃ i, x = I i) → ∀ (z : Int) (o : Option SD), 0 ≤ z → z < 1000000123 → (∀ z' o', 0 ≤ z' → z' < 1000000123 → nx [a, b, some (.val (I z')), o', d, e]) → goFor turn nx xs [a, b, some (.val (I z)), o, d, e]
  | [], _, z, o, h0, h1, hn => hn z o h0 h1
  | x :: xs, hx, z, o, h0, h1, hn => by
    obtain ⟨i, rfl⟩ := hx x (List.mem_cons_self ..)
    exact ht _ i z o h0 h1 fun z' h0' h1' => well_loop ht xs (fun y hy => hx y (List.mem_cons_of_mem _ hy)) z' _ h0' h1' hn
theorem sem_Lwell : ∀ ds Q, sp_Lwell ds Q → wS Φ rs_Lwell { nx := fun _ => Q (.d .none), rt := Q } (startD ["a", "b", "c", "d", "e", "f"] ds) := by
  rintro ds Q ⟨ns, n, rfl, h0, h1, hq⟩
  show wS Φ rs_Lwell _ [some (.val (.scr ns)), some (.val (I n)), none, none, none, none]
  rw [q_Lwell]
  simp only [q_Lwell_0, wS, wE, wA, wT, wI, wO, wTg, wIdx, wSlc, wBin, wCmp, wBi, wIsi, tyD, dbool, dint, setVals, setAll, datas, itemsD, truD, List.getElem?_cons_zero, List.getElem?_cons_succ, List.set_cons_zero, List.set_cons_succ, Option.map_some, Option.map_none]
  refine ⟨.inl (.inl ⟨by omega, by omega⟩), ?_⟩
  simp only [q_Lwell_1, wS, wE, wA, wT, wI, wO, wTg, wIdx, wSlc, wBin, wCmp, wBi, wIsi, tyD, dbool, dint, setVals, setAll, datas, itemsD, truD, List.getElem?_cons_zero, List.getElem?_cons_succ, List.set_cons_zero, List.set_cons_succ, Option.map_some, Option.map_none]
  refine ⟨_, rfl, ?_⟩
  refine well_loop (fun k i z o z0 z1 hk => ?_) _ ?_ _ _ (by omega) (by omega) fun z o' z0 z1 => ?_
  · simp only [b_Lwell_1, wS, wE, wA, wT, wI, wO, wTg, wIdx, wSlc, wBin, wCmp, wBi, wIsi, tyD, dbool, dint, setVals, setAll, datas, itemsD, truD, List.getElem?_cons_zero, List.getElem?_cons_succ, List.set_cons_zero, List.set_cons_succ, Option.map_some, Option.map_none]
    refine ⟨.inl (.inl ⟨by omega, by omega⟩), by omega, by omega, hk _ (Int.emod_nonneg _ (by omega)) (Int.emod_lt_of_pos _ (by omega))⟩
  · intro x hx
    obtain ⟨d, hd, rfl⟩ := List.mem_map.mp hx
    obtain ⟨i, _, rfl⟩ := List.mem_map.mp hd
    exact ⟨i, rfl⟩
  · have key : ∀ cell : Int, wS Φ q_Lwell_3 { nx := fun _ => Q (.d .none), rt := Q } [some (.val (.scr ns)), some (.val (I n)), some (.val (I z)), o', some (.val (I cell)), none] := by
      intro cell
      simp only [q_Lwell_3, q_Lwell_4, wS, wE, wA, wT, wI, wO, wTg, wIdx, wSlc, wBin, wCmp, wBi, wIsi, tyD, dbool, dint, setVals, setAll, datas, itemsD, truD, List.getElem?_cons_zero, List.getElem?_cons_succ, List.set_cons_zero, List.set_cons_succ, Option.map_some, Option.map_none, decide_eq_true_eq]
      have e := Int.emod_nonneg cell (b := 59999999) (by omega)
      have e' := Int.emod_lt_of_pos cell (b := 59999999) (by omega)
      refine ⟨⟨by omega, by omega, by decide⟩, ?_⟩
      generalize (10 : Int) ^ Int.toNat 18 = big
      repeat' split
      all_goals exact ⟨by omega, .inl (.inl ⟨by omega, by omega⟩), by omega, by omega, Int.emod_nonneg _ (by omega), Int.lt_trans (Int.emod_lt_of_pos _ (by omega)) (by omega), by omega, hq⟩
    simp only [q_Lwell_2, wS, wE, wA, wT, wI, wO, wTg, wIdx, wSlc, wBin, wCmp, wBi, wIsi, tyD, dbool, dint, setVals, setAll, datas, itemsD, truD, List.getElem?_cons_zero, List.getElem?_cons_succ, List.set_cons_zero, List.set_cons_succ, Option.map_some, Option.map_none, decide_eq_true_eq]
    refine ⟨_, rfl, ?_⟩
    split
    · rename_i h
      have hl : n.toNat < ns.length := by omega
      refine ⟨ns[n.toNat], ?_, key _⟩
      have := atI_nat (xs := ns) (j := n.toNat) (v := ns[n.toNat]) (List.getElem?_eq_getElem hl)
      rw [Int.toNat_of_nonneg h0] at this
      exact this
    · exact key _
theorem sem_Lrounds : ∀ ds Q, sp_Lrounds ds Q → wS Φ rs_Lrounds { nx := fun _ => Q (.d .none), rt := Q } (startD ["a", "b", "c"] ds) := by
  rintro ds Q ⟨ns, a, b, rfl, h0, h1, hq⟩
  show wS Φ rs_Lrounds _ [some (.val (.scr ns)), some (.val (I a)), some (.val (I b))]
  simp only [rs_Lrounds, wS, wE, wA, wT, wI, wO, wTg, wIdx, wSlc, wBin, wCmp, wBi, wIsi, tyD, dbool, dint, setVals, setAll, datas, itemsD, truD, List.getElem?_cons_zero, List.getElem?_cons_succ, List.set_cons_zero, List.set_cons_succ, Option.map_some, Option.map_none]
  refine ⟨_, rfl, ?_⟩
  exact hq _ (by (repeat split) <;> omega) (by (repeat split) <;> omega)
/-- all rounds of a law -/
theorem goLc_all {P : DV → (DV → Prop) → Prop} {Q : DV → Prop} (hq : Q (B true)) : ∀ (xs : List DV) (acc : List PyData) , (∀ x ∈ xs, ∀ k : DV → Prop, k (B true) → P x k) → (∃ n, acc = List.replicate n (.bool true)) →
    goLc (fun x k => P x fun r => match r with | .d y => k (some y) | _ => False) xs acc fun ys => ∃ bs, boolsD ys = some bs ∧ Q (.d (.bool (bs.all id)))
  | [], acc, _, ⟨n, e⟩ => by
    subst e
    simp only [goLc]
    refine ⟨List.replicate n true, ?_, ?_⟩
    · induction n with
      | zero => rfl
      | succ n ih =>
        show (boolsD (List.replicate n (PyData.bool true))).map (true :: ·) = _
        rw [ih]
        rfl
    · have : (List.replicate n true).all id = true := by simp
      rw [this]
      exact hq
  | x :: xs, acc, hp, ⟨n, e⟩ => by
    simp only [goLc]
    refine hp x (List.mem_cons_self ..) _ ?_
    refine goLc_all hq xs _ (fun y hy => hp y (List.mem_cons_of_mem _ hy)) ⟨n + 1, ?_⟩
    subst e
    rw [List.replicate_succ']
    rfl
theorem law2 {a b : Int} (h0 : 0 ≤ a) (h1 : a ≤ b) (h2 : b ≤ 10) (e : Φ 36 = sp_Lright) (e1 : Φ 196 = sp_Lwell) (e2 : Φ 235 = sp_Lrounds) : ∀ ds Q, sp_Mlaw ds Q → wS Φ (.ret (.bi .all (.cons (.lc [1] (.one 1) (.rng (.call 235 (.cons (.var 0) (.cons (.con (.int a)) (.cons (.con (.int b)) .nil))))) .yes (.call 36 (.cons (.call 196 (.cons (.var 0) (.cons (.var 1) .nil))) .nil))) .nil))) { nx := fun _ => Q (.d .none), rt := Q } (startD ["a", "b"] ds) := by
  rintro ds Q ⟨ns, rfl, hq⟩
  show wS Φ _ _ [some (.val (.scr ns)), none]
  simp only [wS, wE, wA, wT, wI, wO, wTg, wIdx, wSlc, wBin, wCmp, wBi, wIsi, tyD, dbool, dint, setVals, setAll, datas, itemsD, truD, List.getElem?_cons_zero, List.getElem?_cons_succ, List.set_cons_zero, List.set_cons_succ, Option.map_some, Option.map_none, e, e1, e2]
  refine ⟨ns, a, b, rfl, h0, h1, fun r r0 r1 => ⟨by omega, by omega, ?_, ?_⟩⟩
  · unfold rngD
    rw [List.length_map, List.length_range]
    unfold mx
    omega
  · refine goLc_all (P := fun x k => sp_Lwell [.scr ns, x] fun r => sp_Lright [r] k) hq _ _ ?_ ⟨0, rfl⟩
    intro x hx k hk
    obtain ⟨i, hi, rfl⟩ := List.mem_map.mp hx
    rw [List.mem_range] at hi
    exact ⟨_, _, rfl, by omega, by omega, rfl, hk⟩
/-! the greatest common divisor by steps -/
theorem eu_loop {turn : DV → SDs → (SDs → Prop) → Prop} {nx : SDs → Prop} {a b c : Option SD} {g : Int}
    (ht : ∀ (k : SDs → Prop) (x y i : Int) (o : Option SD), 0 ≤ x → 0 ≤ y → (y ≠ 0 → k [a, b, c, some (.val (I y)), some (.val (I (x % y))), some (.val (I i))]) → (y = 0 → nx [a, b, c, some (.val (I x)), some (.val (I y)), some (.val (I i))]) → turn (I i) [a, b, c, some (.val (I x)), some (.val (I y)), o] k)
    (hn : ∀ y o, nx [a, b, c, some (.val (I g)), y, o]) :
    ∀ (n : Nat) (xs : List DV) (x y : Int) (o : Option SD), 0 ≤ x → 0 ≤ y → y.toNat < 2 ^ n → 2 * n ≤ xs.length → (∀ z ∈ xs, ∃ i, z = I i) → g2 x y = g → goFor turn nx xs [a, b, c, some (.val (I x)), some (.val (I y)), o] := by
  have z0 : ∀ x : Int, 0 ≤ x → g2 x 0 = x := by
    intro x hx
    unfold g2
    rw [Int.natAbs_zero, Nat.gcd_zero_right]
    omega
  intro n
  induction n with
  | zero =>
    intro xs x y o x0 y0 hy hl hx hg
    have : y = 0 := by simp at hy; omega
    subst this
    rw [z0 x x0] at hg
    subst hg
    cases xs with
    | nil => exact hn _ _
    | cons i xs =>
      obtain ⟨j, rfl⟩ := hx i (List.mem_cons_self ..)
      exact ht _ x 0 j o x0 y0 (fun h => absurd rfl h) fun _ => hn _ _
  | succ n ih =>
    intro xs x y o x0 y0 hy hl hx hg
    match xs, hl, hx with
    | i :: j :: r, hl, hx =>
      obtain ⟨i, rfl⟩ := hx i (List.mem_cons_self ..)
      obtain ⟨j, rfl⟩ := hx j (List.mem_cons_of_mem _ (List.mem_cons_self ..))
      refine ht _ x y i o x0 y0 (fun h => ?_) fun h => ?_
      · have yp : 0 < y := by omega
        have r0 := Int.emod_nonneg x (b := y) (by omega)
        have r1 := Int.emod_lt_of_pos x yp
        have hg' := g2_step (a := x) yp x0
        generalize x % y = u at r0 r1 hg'
        refine ht _ y u j _ y0 r0 (fun h' => ?_) fun h' => ?_
        · have up : 0 < u := by omega
          have s0 := Int.emod_nonneg y (b := u) (by omega)
          have s1 := Int.emod_lt_of_pos y up
          have hg2 := g2_step (a := y) up y0
          refine ih r u (y % u) _ r0 s0 ?_ ?_ (fun z hz => hx z (List.mem_cons_of_mem _ (List.mem_cons_of_mem _ hz))) (by rw [hg2, hg', hg])
          · have e := Int.emod_add_mul_ediv y u
            have q1 : 1 ≤ y / u := (Int.le_ediv_iff_mul_le up).mpr (by omega)
            have : u * 1 ≤ u * (y / u) := Int.mul_le_mul_of_nonneg_left q1 r0
            rw [Nat.pow_succ] at hy
            omega
          · simp only [List.length_cons] at hl
            omega
        · subst h'
          rw [z0 y y0] at hg'
          rw [show y = g from hg'.trans hg]
          exact hn _ _
      · subst h
        rw [z0 x x0] at hg
        subst hg
        exact hn _ _
theorem bits_lt (z : Int) : z.natAbs < 2 ^ (Builtin.Int.intBits z) := by
  unfold Builtin.Int.intBits
  by_cases h : z = 0
  · subst h
    decide
  · have : (z == 0) = false := by simp [h]
    rw [this]
    exact Nat.lt_log2_self
theorem bits_sz {z : Int} (h : Sz 8000 z) : Builtin.Int.intBits z ≤ 8000 := by
  unfold Builtin.Int.intBits
  split
  · omega
  · have := h.log (by decide)
    omega
end
def sp_Lratio : PSp := fun ds Q => ∃ a b, ds = [.d (.int a), .d (.int b)] ∧ b ≠ 0 ∧ Sz 8000 a ∧ Sz 8000 b ∧ Q (.d (F ((a : Rat) / (b : Rat))))
theorem ap_Lratio {Q : DV → Prop} {a : Int} {b : Int} : sp_Lratio [DV.d (.int a), DV.d (.int b)] Q = (b ≠ 0 ∧ Sz 8000 a ∧ Sz 8000 b ∧ Q (DV.d (F ((a : Rat) / (b : Rat))))) := propext ⟨fun ⟨_, _, e, r⟩ => by
  simp only [List.cons.injEq, DV.d.injEq, and_true, true_and, F_eq, J_eq, P3_eq, T_eq, PyData.int.injEq, PyData.str.injEq, PyData.list.injEq, PyData.tuple.injEq] at e
  obtain ⟨rfl, rfl⟩ := e
  exact r, fun r => ⟨_, _, rfl, r⟩⟩
def sp_Lapart : PSp := fun ds Q => ∃ x y, ds = [.d (P3 x y)] ∧ Zp 8000 x y ∧ Q (.d (.tuple [F x, F y]))
theorem ap_Lapart {Q : DV → Prop} {x : Rat} {y : Rat} : sp_Lapart [DV.d (P3 x y)] Q = (Zp 8000 x y ∧ Q (DV.d (.tuple [F x, F y]))) := propext ⟨fun ⟨_, _, e, r⟩ => by
  simp only [List.cons.injEq, DV.d.injEq, and_true, true_and, F_eq, J_eq, P3_eq, T_eq, PyData.int.injEq, PyData.str.injEq, PyData.list.injEq, PyData.tuple.injEq] at e
  obtain ⟨rfl, rfl⟩ := e
  exact r, fun r => ⟨_, _, rfl, r⟩⟩
def sp_Lplus : PSp := fun ds Q => ∃ x y, ds = [.d (F x), .d (F y)] ∧ Zf 3000 x ∧ Zf 3000 y ∧ Q (.d (F (x + y)))
theorem ap_Lplus {Q : DV → Prop} {x : Rat} {y : Rat} : sp_Lplus [DV.d (F x), DV.d (F y)] Q = (Zf 3000 x ∧ Zf 3000 y ∧ Q (DV.d (F (x + y)))) := propext ⟨fun ⟨_, _, e, r⟩ => by
  simp only [List.cons.injEq, DV.d.injEq, and_true, true_and, F_eq, J_eq, P3_eq, T_eq, PyData.int.injEq, PyData.str.injEq, PyData.list.injEq, PyData.tuple.injEq] at e
  obtain ⟨rfl, rfl⟩ := e
  exact r, fun r => ⟨_, _, rfl, r⟩⟩
def sp_Mless : PSp := fun ds Q => ∃ x y, ds = [.d (F x), .d (F y)] ∧ Zf 3000 x ∧ Zf 3000 y ∧ Q (.d (F (x - y)))
theorem ap_Mless {Q : DV → Prop} {x : Rat} {y : Rat} : sp_Mless [DV.d (F x), DV.d (F y)] Q = (Zf 3000 x ∧ Zf 3000 y ∧ Q (DV.d (F (x - y)))) := propext ⟨fun ⟨_, _, e, r⟩ => by
  simp only [List.cons.injEq, DV.d.injEq, and_true, true_and, F_eq, J_eq, P3_eq, T_eq, PyData.int.injEq, PyData.str.injEq, PyData.list.injEq, PyData.tuple.injEq] at e
  obtain ⟨rfl, rfl⟩ := e
  exact r, fun r => ⟨_, _, rfl, r⟩⟩
def sp_Ltimes : PSp := fun ds Q => ∃ x y, ds = [.d (F x), .d (F y)] ∧ Zf 3000 x ∧ Zf 3000 y ∧ Q (.d (F (x * y)))
theorem ap_Ltimes {Q : DV → Prop} {x : Rat} {y : Rat} : sp_Ltimes [DV.d (F x), DV.d (F y)] Q = (Zf 3000 x ∧ Zf 3000 y ∧ Q (DV.d (F (x * y)))) := propext ⟨fun ⟨_, _, e, r⟩ => by
  simp only [List.cons.injEq, DV.d.injEq, and_true, true_and, F_eq, J_eq, P3_eq, T_eq, PyData.int.injEq, PyData.str.injEq, PyData.list.injEq, PyData.tuple.injEq] at e
  obtain ⟨rfl, rfl⟩ := e
  exact r, fun r => ⟨_, _, rfl, r⟩⟩
def sp_Mplace : PSp := fun ds Q => ∃ x y, ds = [.d (F x), .d (F y)] ∧ Zf 2000 x ∧ Zf 2000 y ∧ Q (.d (P3 x y))
def sp_Lpoint : PSp := fun ds Q => ∃ x y, ds = [.d (F x), .d (F y)] ∧ Zf 2000 x ∧ Zf 2000 y ∧ Q (.d (P3 x y))
theorem ap_Lpoint {Q : DV → Prop} {x : Rat} {y : Rat} : sp_Lpoint [DV.d (F x), DV.d (F y)] Q = (Zf 2000 x ∧ Zf 2000 y ∧ Q (DV.d (P3 x y))) := propext ⟨fun ⟨_, _, e, r⟩ => by
  simp only [List.cons.injEq, DV.d.injEq, and_true, true_and, F_eq, J_eq, P3_eq, T_eq, PyData.int.injEq, PyData.str.injEq, PyData.list.injEq, PyData.tuple.injEq] at e
  obtain ⟨rfl, rfl⟩ := e
  exact r, fun r => ⟨_, _, rfl, r⟩⟩
def sp_Msize : PSp := fun ds Q => ds = [.vat] ∧ ∀ q : Rat, 0 < q → Zf 4 q → Q (.d (F q))
theorem ap_Msize {Q : DV → Prop} : sp_Msize [DV.vat] Q = (∀ q : Rat, 0 < q → Zf 4 q → Q (DV.d (F q))) := propext ⟨fun ⟨_, r⟩ => r, fun r => ⟨rfl, r⟩⟩
def sp_Lpart : PSp := fun ds Q => ds = [.vat] ∧ ∀ q : Rat, Zf 4 q → Q (.d (F q))
theorem ap_Lpart {Q : DV → Prop} : sp_Lpart [DV.vat] Q = (∀ q : Rat, Zf 4 q → Q (DV.d (F q))) := propext ⟨fun ⟨_, r⟩ => r, fun r => ⟨rfl, r⟩⟩
def sp_Mjet : PSp := fun ds Q => ds = [.vat] ∧ ∀ s b : Rat, 0 < b → Zf 4 s → Zf 4 b → Q (.d (J s b))
theorem ap_Mjet {Q : DV → Prop} : sp_Mjet [DV.vat] Q = (∀ s b : Rat, 0 < b → Zf 4 s → Zf 4 b → Q (DV.d (J s b))) := propext ⟨fun ⟨_, r⟩ => r, fun r => ⟨rfl, r⟩⟩
section
variable {Φ : Nat → PSp}
theorem sem_Lcommon : ∀ ds Q, sp_Lcommon ds Q → wS Φ rs_Lcommon { nx := fun _ => Q (.d .none), rt := Q } (startD ["a", "b", "c", "d", "e", "f"] ds) := by
  have turn : ∀ (rt : DV → Prop) (bk ct : SDs → Prop) (a : Option SD) (c : Option SD) (f z : Int) (x y o : Option SD) (k : SDs → Prop), 0 ≤ f → Sz 8000 z → (∀ x y o, k [a, some (.val (I (g2 f z))), some (.val (I z)), x, y, o]) →
      wS Φ q_Lcommon_1_b_0 { nx := k, rt := rt, bk := bk, ct := ct } [a, some (.val (I f)), some (.val (I z)), x, y, o] := by
    intro rt bk ct a c f z x y o k f0 hz hk
    simp only [q_Lcommon_1_b_0, q_Lcommon_1_b_1, wS, wE, wA, wT, wI, wO, wTg, wIdx, wSlc, wBin, wCmp, wBi, wIsi, tyD, dbool, dint, setVals, setAll, datas, itemsD, truD, List.getElem?_cons_zero, List.getElem?_cons_succ, List.set_cons_zero, List.set_cons_succ, Option.map_some, Option.map_none]
    refine ⟨rfl, ?_⟩
    generalize hw : (if z < 0 then -z else z) = w
    have w0 : 0 ≤ w := by rw [← hw]; split <;> omega
    have hzw : Sz 8000 w := hz.le (by rw [← hw]; split <;> omega)
    have hg : g2 f w = g2 f z := by
      unfold g2
      congr 2
      rw [← hw]; split <;> omega
    have hb := bits_sz hzw
    have hl := bits_lt w
    generalize Builtin.Int.intBits w = n at hb hl
    refine ⟨.inl (.inl ⟨by omega, by omega⟩), by omega, by omega, ?_⟩
    refine eu_loop (g := g2 f z) (fun k x y i o x0 y0 h1 h2 => ?_) (fun y o => ?_) n _ f w _ f0 w0 (by omega) ?_ ?_ hg
    · simp only [q_Lcommon_1_b_1_b_0, q_Lcommon_1_b_1_b_1, wS, wE, wA, wT, wI, wO, wTg, wIdx, wSlc, wBin, wCmp, wBi, wIsi, tyD, dbool, dint, setVals, setAll, datas, itemsD, truD, List.getElem?_cons_zero, List.getElem?_cons_succ, List.set_cons_zero, List.set_cons_succ, Option.map_some, Option.map_none, decide_eq_true_eq]
      by_cases hy : y = 0
      · rw [if_pos hy]
        exact h2 hy
      · rw [if_neg hy]
        exact ⟨by omega, rfl, h1 hy⟩
    · simp only [q_Lcommon_1_b_2, wS, wE, wA, wT, wI, wO, wTg, wIdx, wSlc, wBin, wCmp, wBi, wIsi, tyD, dbool, dint, setVals, setAll, datas, itemsD, truD, List.getElem?_cons_zero, List.getElem?_cons_succ, List.set_cons_zero, List.set_cons_succ, Option.map_some, Option.map_none]
      exact hk _ _ _
    · unfold rngD
      rw [List.length_map, List.length_range]
      omega
    · intro q hq
      obtain ⟨i, _, rfl⟩ := List.mem_map.mp hq
      exact ⟨_, rfl⟩
  rintro ds Q (⟨a, b, rfl, h1, h2, hq⟩ | ⟨a, b, c, rfl, h1, h2, h3, hq⟩)
  · show wS Φ rs_Lcommon _ [some (.val (T2 a b)), none, none, none, none, none]
    rw [q_Lcommon]
    simp only [q_Lcommon_0, q_Lcommon_1, wS, wE, wA, wT, wI, wO, wTg, wIdx, wSlc, wBin, wCmp, wBi, wIsi, tyD, dbool, dint, setVals, setAll, datas, itemsD, truD, List.getElem?_cons_zero, List.getElem?_cons_succ, List.set_cons_zero, List.set_cons_succ, Option.map_some, Option.map_none]
    refine ⟨_, rfl, ?_⟩
    simp only [List.map, goFor, wS, wE, wA, wT, wI, wO, wTg, wIdx, wSlc, wBin, wCmp, wBi, wIsi, tyD, dbool, dint, setVals, setAll, datas, itemsD, truD, List.getElem?_cons_zero, List.getElem?_cons_succ, List.set_cons_zero, List.set_cons_succ, Option.map_some, Option.map_none]
    refine turn _ _ _ _ none _ _ _ _ _ _ (by decide) h1 fun x y o => ?_
    refine turn _ _ _ _ none _ _ _ _ _ _ (g2_nn _ _) h2 fun x y o => ?_
    simp only [q_Lcommon_2, wS, wE, wA, wT, wI, wO, wTg, wIdx, wSlc, wBin, wCmp, wBi, wIsi, tyD, dbool, dint, setVals, setAll, datas, itemsD, truD, List.getElem?_cons_zero, List.getElem?_cons_succ, List.set_cons_zero, List.set_cons_succ, Option.map_some, Option.map_none]
    rw [g2_abs]
    exact hq
  · show wS Φ rs_Lcommon _ [some (.val (T3 a b c)), none, none, none, none, none]
    rw [q_Lcommon]
    simp only [q_Lcommon_0, q_Lcommon_1, wS, wE, wA, wT, wI, wO, wTg, wIdx, wSlc, wBin, wCmp, wBi, wIsi, tyD, dbool, dint, setVals, setAll, datas, itemsD, truD, List.getElem?_cons_zero, List.getElem?_cons_succ, List.set_cons_zero, List.set_cons_succ, Option.map_some, Option.map_none]
    refine ⟨_, rfl, ?_⟩
    simp only [List.map, goFor, wS, wE, wA, wT, wI, wO, wTg, wIdx, wSlc, wBin, wCmp, wBi, wIsi, tyD, dbool, dint, setVals, setAll, datas, itemsD, truD, List.getElem?_cons_zero, List.getElem?_cons_succ, List.set_cons_zero, List.set_cons_succ, Option.map_some, Option.map_none]
    refine turn _ _ _ _ none _ _ _ _ _ _ (by decide) h1 fun x y o => ?_
    refine turn _ _ _ _ none _ _ _ _ _ _ (g2_nn _ _) h2 fun x y o => ?_
    refine turn _ _ _ _ none _ _ _ _ _ _ (g2_nn _ _) h3 fun x y o => ?_
    simp only [q_Lcommon_2, wS, wE, wA, wT, wI, wO, wTg, wIdx, wSlc, wBin, wCmp, wBi, wIsi, tyD, dbool, dint, setVals, setAll, datas, itemsD, truD, List.getElem?_cons_zero, List.getElem?_cons_succ, List.set_cons_zero, List.set_cons_succ, Option.map_some, Option.map_none]
    rw [g2_abs, g3_abs]
    exact hq
theorem sem_Llean (e : Φ 218 = sp_Lcommon) : ∀ ds Q, sp_Llean ds Q → wS Φ rs_Llean { nx := fun _ => Q (.d .none), rt := Q } (startD ["a", "b", "c"] ds) := by
  have m1 : ∀ g : Int, 0 < g → (if g > 1 then g else 1) = g := by intro g h; split <;> omega
  rintro ds Q (⟨a, b, rfl, h1, h2, h3, hq⟩ | ⟨a, b, c, rfl, h1, h2, h3, h4, hq⟩)
  · show wS Φ rs_Llean _ [some (.val (T2 a b)), none, none]
    simp only [rs_Llean, wS, wE, wA, wT, wI, wO, wTg, wIdx, wSlc, wBin, wCmp, wBi, wIsi, tyD, dbool, dint, setVals, setAll, datas, itemsD, truD, List.getElem?_cons_zero, List.getElem?_cons_succ, List.set_cons_zero, List.set_cons_succ, Option.map_some, Option.map_none, e]
    refine .inl ⟨_, _, rfl, h2, h3, ?_⟩
    simp only [wS, wE, wA, wT, wI, wO, wTg, wIdx, wSlc, wBin, wCmp, wBi, wIsi, tyD, dbool, dint, setVals, setAll, datas, itemsD, truD, List.getElem?_cons_zero, List.getElem?_cons_succ, List.set_cons_zero, List.set_cons_succ, Option.map_some, Option.map_none, m1 _ (g2_pos h1)]
    refine ⟨_, rfl, by simp [mx], ?_⟩
    simp only [List.map, goLc, wS, wE, wA, wT, wI, wO, wTg, wIdx, wSlc, wBin, wCmp, wBi, wIsi, tyD, dbool, dint, setVals, setAll, datas, itemsD, truD, List.getElem?_cons_zero, List.getElem?_cons_succ, List.set_cons_zero, List.set_cons_succ, Option.map_some, Option.map_none, wipeD]
    exact ⟨cdiv (g2_pos h1) (h3.le (g2_le h1)) (by decide) (by decide), cdiv (g2_pos h1) (h3.le (g2_le h1)) (by decide) (by decide), hq⟩
  · show wS Φ rs_Llean _ [some (.val (T3 a b c)), none, none]
    simp only [rs_Llean, wS, wE, wA, wT, wI, wO, wTg, wIdx, wSlc, wBin, wCmp, wBi, wIsi, tyD, dbool, dint, setVals, setAll, datas, itemsD, truD, List.getElem?_cons_zero, List.getElem?_cons_succ, List.set_cons_zero, List.set_cons_succ, Option.map_some, Option.map_none, e]
    refine .inr ⟨_, _, _, rfl, h2, h3, h4, ?_⟩
    have hp : 0 < g3 a b c := g3_pos h1
    have hs : Sz 8000 (g3 a b c) := h4.le (g3_le h1)
    simp only [wS, wE, wA, wT, wI, wO, wTg, wIdx, wSlc, wBin, wCmp, wBi, wIsi, tyD, dbool, dint, setVals, setAll, datas, itemsD, truD, List.getElem?_cons_zero, List.getElem?_cons_succ, List.set_cons_zero, List.set_cons_succ, Option.map_some, Option.map_none, m1 _ hp]
    refine ⟨_, rfl, by simp [mx], ?_⟩
    simp only [List.map, goLc, wS, wE, wA, wT, wI, wO, wTg, wIdx, wSlc, wBin, wCmp, wBi, wIsi, tyD, dbool, dint, setVals, setAll, datas, itemsD, truD, List.getElem?_cons_zero, List.getElem?_cons_succ, List.set_cons_zero, List.set_cons_succ, Option.map_some, Option.map_none, wipeD]
    exact ⟨cdiv hp hs (by decide) (by decide), cdiv hp hs (by decide) (by decide), cdiv hp hs (by decide) (by decide), hq⟩
theorem sem_Lratio (e : Φ 219 = sp_Llean) : ∀ ds Q, sp_Lratio ds Q → wS Φ rs_Lratio { nx := fun _ => Q (.d .none), rt := Q } (startD ["a", "b"] ds) := by
  rintro ds Q ⟨a, b, rfl, h0, h1, h2, hq⟩
  show wS Φ rs_Lratio _ [some (.val (I a)), some (.val (I b))]
  simp only [rs_Lratio, wS, wE, wA, wT, wI, wO, wTg, wIdx, wSlc, wBin, wCmp, wBi, wIsi, tyD, dbool, dint, setVals, setAll, datas, itemsD, truD, List.getElem?_cons_zero, List.getElem?_cons_succ, List.set_cons_zero, List.set_cons_succ, Option.map_some, Option.map_none, e, decide_eq_true_eq]
  rw [← F_fr h0] at hq
  by_cases hb : 0 < b
  · rw [if_pos hb]
    rw [fr_pos' hb] at hq
    exact ⟨_, rfl, by simp [mx], .inl ⟨_, _, rfl, h0, h1, h2, hq⟩⟩
  · rw [if_neg hb]
    unfold fr at hq
    rw [if_neg hb] at hq
    exact ⟨_, rfl, by simp [mx], .inl ⟨_, _, rfl, by omega, h1.neg, h2.neg, hq⟩⟩
theorem sem_Ltimes (e : Φ 220 = sp_Lratio) : ∀ ds Q, sp_Ltimes ds Q → wS Φ rs_Ltimes { nx := fun _ => Q (.d .none), rt := Q } (startD ["a", "b"] ds) := by
  rintro ds Q ⟨x, y, rfl, h1, h2, hq⟩
  show wS Φ rs_Ltimes _ [some (.val (.d (F x))), some (.val (.d (F y)))]
  simp only [rs_Ltimes, wS, wE, wA, wT, wI, wO, ev_add, ev_sub, ev_mul, ev_div, ev_mod, ev_pow, ev_cat, ev_lt, ev_le, ev_gt, ev_ge, ev_eq, ev_ne, ev_eqs, ev_nes, ix_F0, ix_F1, ix_J0, ix_J1, ix_P0, ix_P1, ix_P2, ix_t0, ix_t1, ix_t2, ix_l0, ix_l1, ix_l2, tg_1, tg_F, tg_J, tg_P, tg_2, tg_3, tg_4, fold_J, eq_F, ne_F, eq_J, ne_J, eq_P, ne_P, db_, di_, setVals, setAll, datas, itemsD, truD, List.getElem?_cons_zero, List.getElem?_cons_succ, List.set_cons_zero, List.set_cons_succ, Option.map_some, Option.map_none, Option.some.injEq, exists_eq_left', decide_eq_true_eq, Bool.not_true, Bool.not_false, Bool.false_eq_true, if_false, if_true, true_and, and_true, decide_true, decide_false, List.length_cons, List.length_nil, mx_0, mx_1, mx_2, mx_3, mx_4, mx_5, mx_6, mx_7, mx_8, mx_9, mx_10, mx_11, mx_12, mx_13, mx_14, mx_15, mx_16, mx_17, mx_18, mx_19, mx_20, mx_21, mx_22, mx_23, mx_24, Nat.reduceAdd, Nat.reduceLeDiff, Nat.zero_add, Bool.not_eq_true', decide_eq_false_iff_not, reduceIte, ev_reprb, e]
  rw [← divE (dd_pos x y) (mulR x y)] at hq
  exact ⟨cm3 h1.n h2.n, cm3 h1.d h2.d, _, _, rfl, ddne x y, (h1.n.mul h2.n).mono (by decide), (h1.d.mul h2.d).mono (by decide), hq⟩
theorem sem_Lplus (e : Φ 220 = sp_Lratio) : ∀ ds Q, sp_Lplus ds Q → wS Φ rs_Lplus { nx := fun _ => Q (.d .none), rt := Q } (startD ["a", "b"] ds) := by
  rintro ds Q ⟨x, y, rfl, h1, h2, hq⟩
  show wS Φ rs_Lplus _ [some (.val (.d (F x))), some (.val (.d (F y)))]
  simp only [rs_Lplus, wS, wE, wA, wT, wI, wO, ev_add, ev_sub, ev_mul, ev_div, ev_mod, ev_pow, ev_cat, ev_lt, ev_le, ev_gt, ev_ge, ev_eq, ev_ne, ev_eqs, ev_nes, ix_F0, ix_F1, ix_J0, ix_J1, ix_P0, ix_P1, ix_P2, ix_t0, ix_t1, ix_t2, ix_l0, ix_l1, ix_l2, tg_1, tg_F, tg_J, tg_P, tg_2, tg_3, tg_4, fold_J, eq_F, ne_F, eq_J, ne_J, eq_P, ne_P, db_, di_, setVals, setAll, datas, itemsD, truD, List.getElem?_cons_zero, List.getElem?_cons_succ, List.set_cons_zero, List.set_cons_succ, Option.map_some, Option.map_none, Option.some.injEq, exists_eq_left', decide_eq_true_eq, Bool.not_true, Bool.not_false, Bool.false_eq_true, if_false, if_true, true_and, and_true, decide_true, decide_false, List.length_cons, List.length_nil, mx_0, mx_1, mx_2, mx_3, mx_4, mx_5, mx_6, mx_7, mx_8, mx_9, mx_10, mx_11, mx_12, mx_13, mx_14, mx_15, mx_16, mx_17, mx_18, mx_19, mx_20, mx_21, mx_22, mx_23, mx_24, Nat.reduceAdd, Nat.reduceLeDiff, Nat.zero_add, Bool.not_eq_true', decide_eq_false_iff_not, reduceIte, ev_reprb, e]
  rw [← divE (dd_pos x y) (addR x y)] at hq
  exact ⟨cm3 h1.n h2.d, cm3 h2.n h1.d, cm3 h1.d h2.d, _, _, rfl, ddne x y, ((h1.n.mul h2.d).add (h2.n.mul h1.d)).mono (by decide), (h1.d.mul h2.d).mono (by decide), hq⟩
theorem sem_Mless (e : Φ 220 = sp_Lratio) : ∀ ds Q, sp_Mless ds Q → wS Φ rs_Mless { nx := fun _ => Q (.d .none), rt := Q } (startD ["a", "b"] ds) := by
  rintro ds Q ⟨x, y, rfl, h1, h2, hq⟩
  show wS Φ rs_Mless _ [some (.val (.d (F x))), some (.val (.d (F y)))]
  simp only [rs_Mless, wS, wE, wA, wT, wI, wO, ev_add, ev_sub, ev_mul, ev_div, ev_mod, ev_pow, ev_cat, ev_lt, ev_le, ev_gt, ev_ge, ev_eq, ev_ne, ev_eqs, ev_nes, ix_F0, ix_F1, ix_J0, ix_J1, ix_P0, ix_P1, ix_P2, ix_t0, ix_t1, ix_t2, ix_l0, ix_l1, ix_l2, tg_1, tg_F, tg_J, tg_P, tg_2, tg_3, tg_4, fold_J, eq_F, ne_F, eq_J, ne_J, eq_P, ne_P, db_, di_, setVals, setAll, datas, itemsD, truD, List.getElem?_cons_zero, List.getElem?_cons_succ, List.set_cons_zero, List.set_cons_succ, Option.map_some, Option.map_none, Option.some.injEq, exists_eq_left', decide_eq_true_eq, Bool.not_true, Bool.not_false, Bool.false_eq_true, if_false, if_true, true_and, and_true, decide_true, decide_false, List.length_cons, List.length_nil, mx_0, mx_1, mx_2, mx_3, mx_4, mx_5, mx_6, mx_7, mx_8, mx_9, mx_10, mx_11, mx_12, mx_13, mx_14, mx_15, mx_16, mx_17, mx_18, mx_19, mx_20, mx_21, mx_22, mx_23, mx_24, Nat.reduceAdd, Nat.reduceLeDiff, Nat.zero_add, Bool.not_eq_true', decide_eq_false_iff_not, reduceIte, ev_reprb, e]
  rw [← divE (dd_pos x y) (subR x y)] at hq
  exact ⟨cm3 h1.n h2.d, cm3 h2.n h1.d, cm3 h1.d h2.d, _, _, rfl, ddne x y, ((h1.n.mul h2.d).sub (h2.n.mul h1.d)).mono (by decide), (h1.d.mul h2.d).mono (by decide), hq⟩
theorem sem_Mplace (e : Φ 219 = sp_Llean) : ∀ ds Q, sp_Mplace ds Q → wS Φ rs_Mplace { nx := fun _ => Q (.d .none), rt := Q } (startD ["a", "b"] ds) := by
  rintro ds Q ⟨x, y, rfl, h1, h2, hq⟩
  show wS Φ rs_Mplace _ [some (.val (.d (F x))), some (.val (.d (F y)))]
  simp only [rs_Mplace, wS, wE, wA, wT, wI, wO, ev_add, ev_sub, ev_mul, ev_div, ev_mod, ev_pow, ev_cat, ev_lt, ev_le, ev_gt, ev_ge, ev_eq, ev_ne, ev_eqs, ev_nes, ix_F0, ix_F1, ix_J0, ix_J1, ix_P0, ix_P1, ix_P2, ix_t0, ix_t1, ix_t2, ix_l0, ix_l1, ix_l2, tg_1, tg_F, tg_J, tg_P, tg_2, tg_3, tg_4, fold_J, eq_F, ne_F, eq_J, ne_J, eq_P, ne_P, db_, di_, setVals, setAll, datas, itemsD, truD, List.getElem?_cons_zero, List.getElem?_cons_succ, List.set_cons_zero, List.set_cons_succ, Option.map_some, Option.map_none, Option.some.injEq, exists_eq_left', decide_eq_true_eq, Bool.not_true, Bool.not_false, Bool.false_eq_true, if_false, if_true, true_and, and_true, decide_true, decide_false, List.length_cons, List.length_nil, mx_0, mx_1, mx_2, mx_3, mx_4, mx_5, mx_6, mx_7, mx_8, mx_9, mx_10, mx_11, mx_12, mx_13, mx_14, mx_15, mx_16, mx_17, mx_18, mx_19, mx_20, mx_21, mx_22, mx_23, mx_24, Nat.reduceAdd, Nat.reduceLeDiff, Nat.zero_add, Bool.not_eq_true', decide_eq_false_iff_not, reduceIte, ev_reprb, e]
  have m := fun {a b : Int} (h : Sz 2000 a) (e : Sz 2000 b) => cm3 (h.mono (k := 3000) (by decide)) (e.mono (k := 3000) (by decide))
  exact ⟨m h1.n h2.d, m h2.n h1.d, m h1.d h2.d, .inr ⟨_, _, _, rfl, ddne x y, (h1.n.mul h2.d).mono (by decide), (h2.n.mul h1.d).mono (by decide), (h1.d.mul h2.d).mono (by decide), hq⟩⟩
theorem sem_Lpoint (e : Φ 219 = sp_Llean) : ∀ ds Q, sp_Lpoint ds Q → wS Φ rs_Lpoint { nx := fun _ => Q (.d .none), rt := Q } (startD ["a", "b"] ds) := sem_Mplace e
theorem sem_Lapart (e : Φ 220 = sp_Lratio) : ∀ ds Q, sp_Lapart ds Q → wS Φ rs_Lapart { nx := fun _ => Q (.d .none), rt := Q } (startD ["a"] ds) := by
  rintro ds Q ⟨x, y, rfl, h, hq⟩
  show wS Φ rs_Lapart _ [some (.val (.d (P3 x y)))]
  simp only [rs_Lapart, wS, wE, wA, wT, wI, wO, ev_add, ev_sub, ev_mul, ev_div, ev_mod, ev_pow, ev_cat, ev_lt, ev_le, ev_gt, ev_ge, ev_eq, ev_ne, ev_eqs, ev_nes, ix_F0, ix_F1, ix_J0, ix_J1, ix_P0, ix_P1, ix_P2, ix_t0, ix_t1, ix_t2, ix_l0, ix_l1, ix_l2, tg_1, tg_F, tg_J, tg_P, tg_2, tg_3, tg_4, fold_J, eq_F, ne_F, eq_J, ne_J, eq_P, ne_P, db_, di_, setVals, setAll, datas, itemsD, truD, List.getElem?_cons_zero, List.getElem?_cons_succ, List.set_cons_zero, List.set_cons_succ, Option.map_some, Option.map_none, Option.some.injEq, exists_eq_left', decide_eq_true_eq, Bool.not_true, Bool.not_false, Bool.false_eq_true, if_false, if_true, true_and, and_true, decide_true, decide_false, List.length_cons, List.length_nil, mx_0, mx_1, mx_2, mx_3, mx_4, mx_5, mx_6, mx_7, mx_8, mx_9, mx_10, mx_11, mx_12, mx_13, mx_14, mx_15, mx_16, mx_17, mx_18, mx_19, mx_20, mx_21, mx_22, mx_23, mx_24, Nat.reduceAdd, Nat.reduceLeDiff, Nat.zero_add, Bool.not_eq_true', decide_eq_false_iff_not, reduceIte, ev_reprb, e]
  refine ⟨_, _, rfl, Int.ne_of_gt (pt_pos x y), h.a, h.c, ?_⟩
  rw [divE (pt_pos x y) (pt_x x y)]
  refine ⟨_, _, rfl, Int.ne_of_gt (pt_pos x y), h.b, h.c, ?_⟩
  rw [divE (pt_pos x y) (pt_y x y)]
  exact ⟨_, rfl, by simp [mx], hq⟩
end
section
variable {Φ : Nat → PSp}
theorem lit_p {P : PyData → Prop} {a b : Int} (hb : 0 < b) (hg : g2 a b = 1) (ha : 0 < a) (sa : Sz 4 a) (sb : Sz 4 b) (h : ∀ q : Rat, 0 < q → Zf 4 q → P (F q)) : P (.tuple [.int a, .int b]) := by
  rw [F_of hb hg]
  exact h _ (div_pos (Rat.intCast_pos.mpr ha) (Rat.intCast_pos.mpr hb)) (Zf.of hb (ratD (by omega)) sa sb)
theorem lit_z {P : PyData → Prop} {a b : Int} (hb : 0 < b) (hg : g2 a b = 1) (sa : Sz 4 a) (sb : Sz 4 b) (h : ∀ q : Rat, Zf 4 q → P (F q)) : P (.tuple [.int a, .int b]) := by
  rw [F_of hb hg]
  exact h _ (Zf.of hb (ratD (by omega)) sa sb)
theorem sz4 {a : Int} (h : -16 < a) (e : a < 16) : Sz 4 a := Sz.of (by omega) (by omega)
theorem sem_Msize (e_Mdraw : Φ 0 = sp_Mdraw) (e_Mpick : Φ 1 = sp_Mpick) (e_Lratio : Φ 220 = sp_Lratio) : ∀ ds Q, sp_Msize ds Q → wS Φ rs_Msize { nx := fun _ => Q (.d .none), rt := Q } (startD ["x0", "x1"] ds) := by
  rintro ds Q ⟨rfl, hq⟩
  show wS Φ rs_Msize _ [some (.val (.vat)), none]
  simp only [rs_Msize, wS, wE, wA, wT, wI, wO, ev_add, ev_sub, ev_mul, ev_div, ev_mod, ev_pow, ev_cat, ev_lt, ev_le, ev_gt, ev_ge, ev_eq, ev_ne, ev_eqs, ev_nes, ix_F0, ix_F1, ix_J0, ix_J1, ix_P0, ix_P1, ix_P2, ix_t0, ix_t1, ix_t2, ix_l0, ix_l1, ix_l2, tg_1, tg_F, tg_J, tg_P, tg_2, tg_3, tg_4, fold_J, eq_F, ne_F, eq_J, ne_J, eq_P, ne_P, db_, di_, setVals, setAll, datas, itemsD, truD, List.getElem?_cons_zero, List.getElem?_cons_succ, List.set_cons_zero, List.set_cons_succ, Option.map_some, Option.map_none, Option.some.injEq, exists_eq_left', decide_eq_true_eq, Bool.not_true, Bool.not_false, Bool.false_eq_true, if_false, if_true, true_and, and_true, decide_true, decide_false, List.length_cons, List.length_nil, mx_0, mx_1, mx_2, mx_3, mx_4, mx_5, mx_6, mx_7, mx_8, mx_9, mx_10, mx_11, mx_12, mx_13, mx_14, mx_15, mx_16, mx_17, mx_18, mx_19, mx_20, mx_21, mx_22, mx_23, mx_24, Nat.reduceAdd, Nat.reduceLeDiff, Nat.zero_add, Bool.not_eq_true', decide_eq_false_iff_not, reduceIte, ev_reprb, e_Mdraw, e_Mpick, e_Lratio, ap_Mdraw, ap_Mpick, ap_Lratio]
  refine ⟨by decide, by decide, fun r r0 r1 => ?_⟩
  split
  · refine ⟨_, rfl, by simp, by simp, fun x hx => ?_⟩
    simp only [List.mem_cons, List.not_mem_nil, or_false] at hx
    rcases hx with rfl | rfl | rfl | rfl | rfl | rfl | rfl | rfl
    all_goals exact lit_p (P := fun x => Q (.d x)) (by decide) (by decide) (by decide) (by unfold Sz; decide) (by unfold Sz; decide) hq
  · refine ⟨by decide, by decide, fun u u0 u1 => ⟨by decide, by decide, fun v v0 v1 => ?_⟩⟩
    have s1 : Sz 4 (1 + u) := sz4 (by omega) (by omega)
    have s2 : Sz 4 (1 + v) := sz4 (by omega) (by omega)
    exact ⟨by omega, s1.mono (by decide), s2.mono (by decide), hq _ (div_pos (Rat.intCast_pos.mpr (by omega)) (Rat.intCast_pos.mpr (by omega))) (Zf.of (by omega) (ratD (by omega)) s1 s2)⟩
theorem sem_Lpart (e_Mdraw : Φ 0 = sp_Mdraw) (e_Mpick : Φ 1 = sp_Mpick) (e_Msize : Φ 2 = sp_Msize) : ∀ ds Q, sp_Lpart ds Q → wS Φ rs_Lpart { nx := fun _ => Q (.d .none), rt := Q } (startD ["x0", "x1"] ds) := by
  rintro ds Q ⟨rfl, hq⟩
  show wS Φ rs_Lpart _ [some (.val (.vat)), none]
  simp only [rs_Lpart, wS, wE, wA, wT, wI, wO, ev_add, ev_sub, ev_mul, ev_div, ev_mod, ev_pow, ev_cat, ev_lt, ev_le, ev_gt, ev_ge, ev_eq, ev_ne, ev_eqs, ev_nes, ix_F0, ix_F1, ix_J0, ix_J1, ix_P0, ix_P1, ix_P2, ix_t0, ix_t1, ix_t2, ix_l0, ix_l1, ix_l2, tg_1, tg_F, tg_J, tg_P, tg_2, tg_3, tg_4, fold_J, eq_F, ne_F, eq_J, ne_J, eq_P, ne_P, db_, di_, setVals, setAll, datas, itemsD, truD, List.getElem?_cons_zero, List.getElem?_cons_succ, List.set_cons_zero, List.set_cons_succ, Option.map_some, Option.map_none, Option.some.injEq, exists_eq_left', decide_eq_true_eq, Bool.not_true, Bool.not_false, Bool.false_eq_true, if_false, if_true, true_and, and_true, decide_true, decide_false, List.length_cons, List.length_nil, mx_0, mx_1, mx_2, mx_3, mx_4, mx_5, mx_6, mx_7, mx_8, mx_9, mx_10, mx_11, mx_12, mx_13, mx_14, mx_15, mx_16, mx_17, mx_18, mx_19, mx_20, mx_21, mx_22, mx_23, mx_24, Nat.reduceAdd, Nat.reduceLeDiff, Nat.zero_add, Bool.not_eq_true', decide_eq_false_iff_not, reduceIte, ev_reprb, e_Mdraw, e_Mpick, e_Msize, ap_Mdraw, ap_Mpick, ap_Msize]
  have key : ∀ q : Rat, Zf 4 q → 0 < (5 : Int) ∧ (5 : Int) < 1073741824 ∧ ∀ r : Int, 0 ≤ r → r < 5 → if r < 3 then Q (DV.d (F q)) else Q (DV.d (PyData.tuple [PyData.int (0 - q.num), PyData.int (q.den : Int)])) := by
    intro q hz
    refine ⟨by decide, by decide, fun r r0 r1 => ?_⟩
    split
    · exact hq q hz
    · rw [F_neg]
      exact hq _ hz.neg
  refine ⟨_, rfl, by simp, by simp, fun x hx => ?_⟩
  simp only [List.mem_cons, List.not_mem_nil, or_false] at hx
  rcases hx with rfl | rfl | rfl | rfl | rfl | rfl | rfl
  all_goals
    simp only [wS, wE, wA, wT, wI, wO, ev_add, ev_sub, ev_mul, ev_div, ev_mod, ev_pow, ev_cat, ev_lt, ev_le, ev_gt, ev_ge, ev_eq, ev_ne, ev_eqs, ev_nes, ix_F0, ix_F1, ix_J0, ix_J1, ix_P0, ix_P1, ix_P2, ix_t0, ix_t1, ix_t2, ix_l0, ix_l1, ix_l2, tg_1, tg_F, tg_J, tg_P, tg_2, tg_3, tg_4, fold_J, eq_F, ne_F, eq_J, ne_J, eq_P, ne_P, db_, di_, setVals, setAll, datas, itemsD, truD, List.getElem?_cons_zero, List.getElem?_cons_succ, List.set_cons_zero, List.set_cons_succ, Option.map_some, Option.map_none, Option.some.injEq, exists_eq_left', decide_eq_true_eq, Bool.not_true, Bool.not_false, Bool.false_eq_true, if_false, if_true, true_and, and_true, decide_true, decide_false, List.length_cons, List.length_nil, mx_0, mx_1, mx_2, mx_3, mx_4, mx_5, mx_6, mx_7, mx_8, mx_9, mx_10, mx_11, mx_12, mx_13, mx_14, mx_15, mx_16, mx_17, mx_18, mx_19, mx_20, mx_21, mx_22, mx_23, mx_24, Nat.reduceAdd, Nat.reduceLeDiff, Nat.zero_add, Bool.not_eq_true', decide_eq_false_iff_not, reduceIte, ev_reprb]
    first
      | exact fun q _ hz => key q hz
      | refine ⟨by decide, by decide, fun r r0 r1 => ?_⟩
        split <;> exact lit_z (P := fun x => Q (.d x)) (by decide) (by decide) (by unfold Sz; decide) (by unfold Sz; decide) hq
theorem sem_Mjet (e_Mdraw : Φ 0 = sp_Mdraw) (e_Mpick : Φ 1 = sp_Mpick) (e_Msize : Φ 2 = sp_Msize) (e_Lpart : Φ 221 = sp_Lpart) : ∀ ds Q, sp_Mjet ds Q → wS Φ rs_Mjet { nx := fun _ => Q (.d .none), rt := Q } (startD ["x0", "x1"] ds) := by
  rintro ds Q ⟨rfl, hq⟩
  show wS Φ rs_Mjet _ [some (.val (.vat)), none]
  simp only [rs_Mjet, wS, wE, wA, wT, wI, wO, ev_add, ev_sub, ev_mul, ev_div, ev_mod, ev_pow, ev_cat, ev_lt, ev_le, ev_gt, ev_ge, ev_eq, ev_ne, ev_eqs, ev_nes, ix_F0, ix_F1, ix_J0, ix_J1, ix_P0, ix_P1, ix_P2, ix_t0, ix_t1, ix_t2, ix_l0, ix_l1, ix_l2, tg_1, tg_F, tg_J, tg_P, tg_2, tg_3, tg_4, fold_J, eq_F, ne_F, eq_J, ne_J, eq_P, ne_P, db_, di_, setVals, setAll, datas, itemsD, truD, List.getElem?_cons_zero, List.getElem?_cons_succ, List.set_cons_zero, List.set_cons_succ, Option.map_some, Option.map_none, Option.some.injEq, exists_eq_left', decide_eq_true_eq, Bool.not_true, Bool.not_false, Bool.false_eq_true, if_false, if_true, true_and, and_true, decide_true, decide_false, List.length_cons, List.length_nil, mx_0, mx_1, mx_2, mx_3, mx_4, mx_5, mx_6, mx_7, mx_8, mx_9, mx_10, mx_11, mx_12, mx_13, mx_14, mx_15, mx_16, mx_17, mx_18, mx_19, mx_20, mx_21, mx_22, mx_23, mx_24, Nat.reduceAdd, Nat.reduceLeDiff, Nat.zero_add, Bool.not_eq_true', decide_eq_false_iff_not, reduceIte, ev_reprb, e_Mdraw, e_Mpick, e_Msize, e_Lpart, ap_Mdraw, ap_Mpick, ap_Msize, ap_Lpart]
  refine ⟨by decide, by decide, fun r r0 r1 => ?_⟩
  split
  · refine ⟨_, rfl, by simp, by simp, fun x hx => ?_⟩
    simp only [List.mem_cons, List.not_mem_nil, or_false] at hx
    have two : ∀ a b c d : Int, 0 < b → g2 a b = 1 → Sz 4 a → Sz 4 b → 0 < d → g2 c d = 1 → 0 < c → Sz 4 c → Sz 4 d → Q (.d (.tuple [.tuple [.int a, .int b], .tuple [.int c, .int d]])) := by
      intro a b c d h1 h2 h3 h4 g1 g2 g3 g4 g5
      refine lit_z (P := fun x => Q (.d (.tuple [x, .tuple [.int c, .int d]]))) h1 h2 h3 h4 fun s hs => ?_
      exact lit_p (P := fun x => Q (.d (.tuple [F s, x]))) g1 g2 g3 g4 g5 fun b hb hz => hq s b hb hs hz
    rcases hx with rfl | rfl | rfl | rfl | rfl
    all_goals exact two _ _ _ _ (by decide) (by decide) (by unfold Sz; decide) (by unfold Sz; decide) (by decide) (by decide) (by decide) (by unfold Sz; decide) (by unfold Sz; decide)
  · exact fun q hz u hu hv => hq q u hu hz hv
end
/-! ### streams -/
theorem eqvT (a b c d e f : Rat) : PyData.eqv (.tuple [F a, F b, F c]) (.tuple [F d, F e, F f]) = decide (a = d ∧ b = e ∧ c = f) := by
  have : PyData.eqv (.tuple [F a, F b, F c]) (.tuple [F d, F e, F f]) = (PyData.eqv (F a) (F d) && (PyData.eqv (F b) (F e) && (PyData.eqv (F c) (F f) && true))) := by
    simp only [PyData.eqv, PyData.eqvAll]
  rw [this, eqvF, eqvF, eqvF]
  simp
theorem layT (a b c : Rat) : Lay 5 (.tuple [F a, F b, F c]) := lay_tuple (k := 4) (al1 (layF a) (al1 (layF b) (al1 (layF c) al0)))
theorem eq_T3 {Q : DV → Prop} {a b c d e f : Rat} : wCmp .eq (.d (.tuple [F a, F b, F c])) (.d (.tuple [F d, F e, F f])) Q = Q (.d (.bool (decide (a = d ∧ b = e ∧ c = f)))) := by
  rw [eq_gen rfl, lay_shaped ((layT a b c).mono (by decide)), lay_shaped ((layT d e f).mono (by decide)), eqvT]
  simp
/-- a way -/
def Wy (w : Int) : Prop := w = 1 ∨ w = -1
def ST (x y : Rat) (w : Int) (s b : Rat) : PyData := .tuple [P3 x y, .int w, J s b]
theorem ST_eq {x y : Rat} {w : Int} {s b : Rat} {x' y' : Rat} {w' : Int} {s' b' : Rat} : (ST x y w s b = ST x' y' w' s' b') = (x = x' ∧ y = y' ∧ w = w' ∧ s = s' ∧ b = b') := by
  unfold ST
  simp only [PyData.tuple.injEq, List.cons.injEq, and_true, P3_eq, J_eq, PyData.int.injEq, and_assoc]
theorem eqvST {x y : Rat} {w : Int} {s b : Rat} {x' y' : Rat} {w' : Int} {s' b' : Rat} : PyData.eqv (ST x y w s b) (ST x' y' w' s' b') = decide (x = x' ∧ y = y' ∧ w = w' ∧ s = s' ∧ b = b') := by
  have : PyData.eqv (ST x y w s b) (ST x' y' w' s' b') = (PyData.eqv (P3 x y) (P3 x' y') && ((w == w') && (PyData.eqv (J s b) (J s' b') && true))) := by
    simp only [ST, PyData.eqv, PyData.eqvAll]
  rw [this, eqvP, eqvJ, Bool.eq_iff_iff]
  simp [and_assoc]
theorem laySTM (x y : Rat) (w : Int) (s b : Rat) : Lay 5 (ST x y w s b) := lay_tuple (k := 4) (al1 (layP x y) (al1 (lay_int w) (al1 (layJ s b) al0)))
theorem eq_ST {Q : DV → Prop} {x y : Rat} {w : Int} {s b : Rat} {x' y' : Rat} {w' : Int} {s' b' : Rat} : wCmp .eq (.d (ST x y w s b)) (.d (ST x' y' w' s' b')) Q = Q (.d (.bool (decide (x = x' ∧ y = y' ∧ w = w' ∧ s = s' ∧ b = b')))) := by
  rw [eq_gen rfl, lay_shaped ((laySTM ..).mono (by decide)), lay_shaped ((laySTM ..).mono (by decide)), eqvST]
  simp
section
variable {Q : DV → Prop} {x y : Rat} {w : Int} {s b : Rat}
theorem ix_ST0 : wIdx (.d (ST x y w s b)) (.d (.int 0)) Q = Q (.d (P3 x y)) := ix_t0
theorem ix_ST1 : wIdx (.d (ST x y w s b)) (.d (.int 1)) Q = Q (.d (.int w)) := ix_t1
theorem ix_ST2 : wIdx (.d (ST x y w s b)) (.d (.int 2)) Q = Q (.d (J s b)) := ix_t2
theorem tg_ST {a b' c : Nat} {τ : SDs} {R : SDs → Prop} : wTg (.many [a, b', c]) (.d (ST x y w s b)) τ R = R (((τ.set a (some (.val (.d (P3 x y))))).set b' (some (.val (.d (.int w))))).set c (some (.val (.d (J s b))))) := tg_3
theorem fold_ST : (PyData.tuple [P3 x y, .int w, J s b]) = ST x y w s b := rfl
end
/-- an end of a stretch -/
def oS : Option Rat → PyData
  | none => .none
  | some x => SU x 0 0
theorem oS_eq {a b : Option Rat} : (oS a = oS b) = (a = b) := by
  cases a <;> cases b <;> simp [oS, SU_eq] <;> (try (unfold SU; simp))
abbrev Sx := Option Rat × Option Rat
def stD (t : Sx) : PyData := .tuple [oS t.1, oS t.2]
def oz (a : Option Rat) : Prop := ∀ x, a = some x → Zf 350 x
def mxo : Option Rat → Option Rat → Option Rat
  | none, b => b
  | some x, none => some x
  | some x, some y => if x < y then some y else some x
def mno : Option Rat → Option Rat → Option Rat
  | none, b => b
  | some x, none => some x
  | some x, some y => if y < x then some y else some x
def odo : Option Rat → Option Rat → Int
  | some x, some y => sgQ (x - y)
  | _, _ => -1
def cmnS (xs : List Sx) : Sx := xs.foldl (fun t u => (mxo t.1 u.1, mno t.2 u.2)) (none, none)
def cmnD (xs : List Sx) : PyData := if 0 < odo (cmnS xs).1 (cmnS xs).2 then .none else stD (cmnS xs)
def wside (w : Int) (x : Rat) : Sx := if w = 1 then (some x, none) else (none, some x)
theorem oz_mx {a b : Option Rat} (h : oz a) (e : oz b) : oz (mxo a b) := by
  cases a <;> cases b <;> simp only [mxo] <;> (try assumption)
  split <;> assumption
theorem oz_mn {a b : Option Rat} (h : oz a) (e : oz b) : oz (mno a b) := by
  cases a <;> cases b <;> simp only [mno] <;> (try assumption)
  split <;> assumption
theorem oz_none : oz none := fun _ h => by cases h
/-- the curve of a stream -/
def kA (x y : Rat) (w : Int) (s b : Rat) : Rat := y - w * s * x - b * (x * x)
def kB (x : Rat) (w : Int) (s b : Rat) : Rat := w * s + 2 * (b * x)
theorem zf_w {w : Int} (h : Wy w) : Zf 4 (w : Rat) := by
  rcases h with rfl | rfl <;> exact ⟨by unfold Sz; decide +kernel, by unfold Sz; decide +kernel⟩
theorem zf_kA {i j k l : Nat} {x y : Rat} {w : Int} {s b : Rat} (hw : Wy w) (zx : Zf i x) (zy : Zf j y) (zs : Zf k s) (zb : Zf l b) : Zf (j + (4 + k + i) + 1 + (l + (i + i)) + 1) (kA x y w s b) := (zy.sub (((zf_w hw).mul zs).mul zx)).sub (zb.mul (zx.mul zx))
theorem zf_kB {i k l : Nat} {x : Rat} {w : Int} {s b : Rat} (hw : Wy w) (zx : Zf i x) (zs : Zf k s) (zb : Zf l b) : Zf (4 + k + (4 + (l + i)) + 1) (kB x w s b) := ((zf_w hw).mul zs).add (zl2.mul (zb.mul zx))
def has (x : Rat) (w : Int) (q : Rat) : Prop := 0 ≤ (w : Rat) * (q - x)
instance (x : Rat) (w : Int) (q : Rat) : Decidable (has x w q) := by unfold has; infer_instance
/-- a surd and its stretch -/
def zW (t : Rat × Int × Rat) : Prop := sdOk t.1 t.2.1 t.2.2 ∧ Zf 430 t.1 ∧ Zf 565 t.2.2 ∧ (t.2.2 = 0 ∨ Zf 150 t.1)
def oz6 (a : Option Rat) : Prop := ∀ x, a = some x → Zf 60 x
def wIn (t : Rat × Int × Rat) (lo hi : Option Rat) : Bool := (match lo with | none => true | some l => decide (cmS (l, 0, 0) t ≤ 0)) && (match hi with | none => true | some h => decide (cmS t (h, 0, 0) ≤ 0))
theorem cmF (p u : Rat) : cmS (p, 0, 0) (u, 0, 0) = sgQ (p - u) := by
  unfold cmS
  show (if sgR (p - u) ((0 : Int) : Rat) 0 = 0 then (0 : Int) * _ else sgI (sgR (p - u) ((0 : Int) : Rat) 0 - 0)) = _
  rw [sgR_q0]
  rcases tri (p - u) with h | h | h
  · rw [sg_neg h]; rfl
  · rw [h, sg_zero]; simp
  · rw [sg_pos h]; rfl
theorem so_zW {p f q : Rat} (h : 0 ≤ q) (zp : Zf 144 p) (zf : Zf 38 f) (zq : Zf 486 q) : zW (so p f q) := by
  refine ⟨so_ok h, ?_⟩
  unfold so
  split
  · rename_i r e
    have zr : Zf 243 r := rsq_half (m := 243) e zq
    refine ⟨?_, zl0.mono (by decide), .inl rfl⟩
    show Zf 430 (p + f * r)
    exact (zp.add (zf.mul zr)).mono (by decide)
  · refine ⟨zp.mono (by decide), ?_, .inr (zp.mono (by decide))⟩
    show Zf 565 (f * f * q)
    exact ((zf.mul zf).mul zq).mono (by decide)
theorem zs_W {c g a : Rat} (zc : Zf 230 c) (zg : Zf 110 g) (za : Zf 30 a) : ∀ t ∈ zsT c g a, zW t := by
  intro t ht
  unfold zsT at ht
  have zs := zf_sg a
  have zi : Zf 486 (g * g - 4 * (a * c)) := ((zg.mul zg).sub (zl4.mul (za.mul zc))).mono (by decide)
  have zm : Zf 144 (-g / (2 * a)) := (zg.neg.div (zl2.mul za) (by decide)).mono (by decide)
  have zk : Zf 38 ((sgQ a : Rat) / (2 * a)) := (zs.div (zl2.mul za) (by decide)).mono (by decide)
  split at ht
  · split at ht
    · cases ht
    · rw [List.mem_singleton] at ht
      subst ht
      refine ⟨.inl ⟨rfl, rfl⟩, ?_, zl0.mono (by decide), .inl rfl⟩
      exact (zc.neg.div zg (by decide)).mono (by decide)
  · split at ht
    · cases ht
    · split at ht
      · rw [List.mem_singleton] at ht
        subst ht
        exact ⟨.inl ⟨rfl, rfl⟩, zm.mono (by decide), zl0.mono (by decide), .inl rfl⟩
      · rename_i c1 c2
        simp only [List.mem_cons, List.not_mem_nil, or_false] at ht
        rcases ht with rfl | rfl
        · exact so_zW (by grind) zm zk.neg zi
        · exact so_zW (by grind) zm zk zi
theorem zW_l {p : Rat} {i : Int} {q u : Rat} (h : zW (p, i, q)) (zu : Zf 60 u) : sdOk p i q ∧ Zf 740 (p - u) ∧ Zf 1500 p ∧ Zf 1500 u ∧ Zf 1400 q ∧ Zf 1490 ((p - u) * (p - u) + q - 0) := by
  obtain ⟨h1, h2, h3, h4⟩ := h
  have h2 : Zf 430 p := h2
  have h3 : Zf 565 q := h3
  have hd := h2.sub zu
  refine ⟨h1, hd.mono (by decide), h2.mono (by decide), zu.mono (by decide), h3.mono (by decide), ?_⟩
  rcases h4 with h4 | h4
  · have h4 : q = 0 := h4
    subst h4
    exact (((hd.mul hd).add zl0).sub zl0).mono (by decide)
  · have h4 : Zf 150 p := h4
    have hd := h4.sub zu
    exact (((hd.mul hd).add h3).sub zl0).mono (by decide)
theorem zW_r {p : Rat} {i : Int} {q u : Rat} (h : zW (p, i, q)) (zu : Zf 60 u) : sdOk p i q ∧ Zf 740 (u - p) ∧ Zf 1500 u ∧ Zf 1500 p ∧ Zf 1400 q ∧ Zf 1490 ((u - p) * (u - p) + 0 - q) := by
  obtain ⟨h1, h2, h3, h4⟩ := h
  have h2 : Zf 430 p := h2
  have h3 : Zf 565 q := h3
  have hd := zu.sub h2
  refine ⟨h1, hd.mono (by decide), zu.mono (by decide), h2.mono (by decide), h3.mono (by decide), ?_⟩
  rcases h4 with h4 | h4
  · have h4 : q = 0 := h4
    subst h4
    exact (((hd.mul hd).add zl0).sub zl0).mono (by decide)
  · have h4 : Zf 150 p := h4
    have hd := zu.sub h4
    exact (((hd.mul hd).add zl0).sub h3).mono (by decide)
def mpL (t : Sx) (c g a : Rat) : Option (List (Rat × Int × Rat)) := if 0 < odo t.1 t.2 then some [] else if c = 0 ∧ g = 0 ∧ a = 0 then (if odo t.1 t.2 = 0 then some [(t.1.getD 0, 0, 0)] else none) else some ((zsT c g a).filter fun z => wIn z t.1 t.2)
def mpD : Option (List (Rat × Int × Rat)) → PyData
  | none => .none
  | some l => zsD l
/-- the value at a surd -/
def sAt (c g a : Rat) (t : Rat × Int × Rat) : Rat × Int × Rat := so (c + t.1 * (g + a * t.1) + a * t.2.2) (t.2.1 * (g + 2 * a * t.1)) t.2.2
def msD (c g a : Rat) : Option (List (Rat × Int × Rat)) → PyData
  | none => .none
  | some l => .tuple (l.map fun t => .tuple [SUt t, SUt (sAt c g a t)])
def sp_compareW : PSp := fun ds Q => ∃ p i q u j w, ds = [.d (SU p i q), .d (SU u j w)] ∧ sdOk p i q ∧ sdOk u j w ∧ Zf 740 (p - u) ∧ Zf 1500 p ∧ Zf 1500 u ∧ Zf 1400 q ∧ Zf 1400 w ∧ (sgR (p - u) (i : Rat) q = j → Zf 1490 ((p - u) * (p - u) + q - w)) ∧ Q (.d (.int (cmS (p, i, q) (u, j, w))))
theorem ap_compareW {Q : DV → Prop} {p : Rat} {i : Int} {q : Rat} {u : Rat} {j : Int} {w : Rat} : sp_compareW [DV.d (SU p i q), DV.d (SU u j w)] Q = (sdOk p i q ∧ sdOk u j w ∧ Zf 740 (p - u) ∧ Zf 1500 p ∧ Zf 1500 u ∧ Zf 1400 q ∧ Zf 1400 w ∧ (sgR (p - u) (i : Rat) q = j → Zf 1490 ((p - u) * (p - u) + q - w)) ∧ Q (DV.d (.int (cmS (p, i, q) (u, j, w))))) := propext ⟨fun ⟨_, _, _, _, _, _, e, r⟩ => by
  simp only [List.cons.injEq, DV.d.injEq, and_true, true_and, F_eq, J_eq, P3_eq, T_eq, PyData.int.injEq, PyData.str.injEq, PyData.list.injEq, PyData.tuple.injEq, SU_eq] at e
  obtain ⟨⟨rfl, rfl, rfl⟩, ⟨rfl, rfl, rfl⟩⟩ := e
  exact r, fun r => ⟨_, _, _, _, _, _, rfl, r⟩⟩
def sp_is_stream : PSp := fun ds Q => ∃ x y w s b, ds = [.d (ST x y w s b)] ∧ Q (.d (.bool (decide ((w = 1 ∨ w = -1) ∧ 0 < b))))
theorem ap_is_stream {Q : DV → Prop} {x : Rat} {y : Rat} {w : Int} {s : Rat} {b : Rat} : sp_is_stream [DV.d (ST x y w s b)] Q = (Q (DV.d (.bool (decide ((w = 1 ∨ w = -1) ∧ 0 < b))))) := propext ⟨fun ⟨_, _, _, _, _, e, r⟩ => by
  simp only [List.cons.injEq, DV.d.injEq, and_true, true_and, F_eq, J_eq, P3_eq, T_eq, PyData.int.injEq, PyData.str.injEq, PyData.list.injEq, PyData.tuple.injEq, ST_eq] at e
  obtain ⟨rfl, rfl, rfl, rfl, rfl⟩ := e
  exact r, fun r => ⟨_, _, _, _, _, rfl, r⟩⟩
def sp_check_stream : PSp := fun ds Q => ∃ x y w s b, ds = [.d (ST x y w s b)] ∧ Wy w ∧ 0 < b ∧ Q (.d (.none))
theorem ap_check_stream {Q : DV → Prop} {x : Rat} {y : Rat} {w : Int} {s : Rat} {b : Rat} : sp_check_stream [DV.d (ST x y w s b)] Q = (Wy w ∧ 0 < b ∧ Q (DV.d (.none))) := propext ⟨fun ⟨_, _, _, _, _, e, r⟩ => by
  simp only [List.cons.injEq, DV.d.injEq, and_true, true_and, F_eq, J_eq, P3_eq, T_eq, PyData.int.injEq, PyData.str.injEq, PyData.list.injEq, PyData.tuple.injEq, ST_eq] at e
  obtain ⟨rfl, rfl, rfl, rfl, rfl⟩ := e
  exact r, fun r => ⟨_, _, _, _, _, rfl, r⟩⟩
def sp_spout_of : PSp := fun ds Q => ∃ x y w s b, ds = [.d (ST x y w s b)] ∧ Zp 8000 x y ∧ Q (.d (J x y))
theorem ap_spout_of {Q : DV → Prop} {x : Rat} {y : Rat} {w : Int} {s : Rat} {b : Rat} : sp_spout_of [DV.d (ST x y w s b)] Q = (Zp 8000 x y ∧ Q (DV.d (J x y))) := propext ⟨fun ⟨_, _, _, _, _, e, r⟩ => by
  simp only [List.cons.injEq, DV.d.injEq, and_true, true_and, F_eq, J_eq, P3_eq, T_eq, PyData.int.injEq, PyData.str.injEq, PyData.list.injEq, PyData.tuple.injEq, ST_eq] at e
  obtain ⟨rfl, rfl, rfl, rfl, rfl⟩ := e
  exact r, fun r => ⟨_, _, _, _, _, rfl, r⟩⟩
def sp_stretch_of : PSp := fun ds Q => ∃ x y w s b, ds = [.d (ST x y w s b)] ∧ Zp 8000 x y ∧ Q (.d (stD (wside w x)))
theorem ap_stretch_of {Q : DV → Prop} {x : Rat} {y : Rat} {w : Int} {s : Rat} {b : Rat} : sp_stretch_of [DV.d (ST x y w s b)] Q = (Zp 8000 x y ∧ Q (DV.d (stD (wside w x)))) := propext ⟨fun ⟨_, _, _, _, _, e, r⟩ => by
  simp only [List.cons.injEq, DV.d.injEq, and_true, true_and, F_eq, J_eq, P3_eq, T_eq, PyData.int.injEq, PyData.str.injEq, PyData.list.injEq, PyData.tuple.injEq, ST_eq] at e
  obtain ⟨rfl, rfl, rfl, rfl, rfl⟩ := e
  exact r, fun r => ⟨_, _, _, _, _, rfl, r⟩⟩
def sp_fall_of : PSp := fun ds Q => ∃ x y w s b, ds = [.d (ST x y w s b)] ∧ Zf 300 x ∧ Zf 300 y ∧ Zf 300 b ∧ Q (.d (.tuple [F (b * (x * x)), F (-2 * (b * x)), F b]))
theorem ap_fall_of {Q : DV → Prop} {x : Rat} {y : Rat} {w : Int} {s : Rat} {b : Rat} : sp_fall_of [DV.d (ST x y w s b)] Q = (Zf 300 x ∧ Zf 300 y ∧ Zf 300 b ∧ Q (DV.d (.tuple [F (b * (x * x)), F (-2 * (b * x)), F b]))) := propext ⟨fun ⟨_, _, _, _, _, e, r⟩ => by
  simp only [List.cons.injEq, DV.d.injEq, and_true, true_and, F_eq, J_eq, P3_eq, T_eq, PyData.int.injEq, PyData.str.injEq, PyData.list.injEq, PyData.tuple.injEq, ST_eq] at e
  obtain ⟨rfl, rfl, rfl, rfl, rfl⟩ := e
  exact r, fun r => ⟨_, _, _, _, _, rfl, r⟩⟩
def sp_difference : PSp := fun ds Q => ∃ a b c d e f, ds = [.d (.tuple [F a, F b, F c]), .d (.tuple [F d, F e, F f])] ∧ Zf 3000 a ∧ Zf 3000 b ∧ Zf 3000 c ∧ Zf 3000 d ∧ Zf 3000 e ∧ Zf 3000 f ∧ Q (.d (.tuple [F (a - d), F (b - e), F (c - f)]))
theorem ap_difference {Q : DV → Prop} {a : Rat} {b : Rat} {c : Rat} {d : Rat} {e : Rat} {f : Rat} : sp_difference [DV.d (.tuple [F a, F b, F c]), DV.d (.tuple [F d, F e, F f])] Q = (Zf 3000 a ∧ Zf 3000 b ∧ Zf 3000 c ∧ Zf 3000 d ∧ Zf 3000 e ∧ Zf 3000 f ∧ Q (DV.d (.tuple [F (a - d), F (b - e), F (c - f)]))) := propext ⟨fun ⟨_, _, _, _, _, _, e, r⟩ => by
  simp only [List.cons.injEq, DV.d.injEq, and_true, true_and, F_eq, J_eq, P3_eq, T_eq, PyData.int.injEq, PyData.str.injEq, PyData.list.injEq, PyData.tuple.injEq] at e
  obtain ⟨⟨rfl, rfl, rfl⟩, ⟨rfl, rfl, rfl⟩⟩ := e
  exact r, fun r => ⟨_, _, _, _, _, _, rfl, r⟩⟩
def sp_water_of : PSp := fun ds Q => ∃ x y w s b, ds = [.d (ST x y w s b)] ∧ Wy w ∧ Zf 200 x ∧ Zf 200 y ∧ Zf 200 s ∧ Zf 200 b ∧ Q (.d (.tuple [F (kA x y w s b), F (kB x w s b), F (-b)]))
theorem ap_water_of {Q : DV → Prop} {x : Rat} {y : Rat} {w : Int} {s : Rat} {b : Rat} : sp_water_of [DV.d (ST x y w s b)] Q = (Wy w ∧ Zf 200 x ∧ Zf 200 y ∧ Zf 200 s ∧ Zf 200 b ∧ Q (DV.d (.tuple [F (kA x y w s b), F (kB x w s b), F (-b)]))) := propext ⟨fun ⟨_, _, _, _, _, e, r⟩ => by
  simp only [List.cons.injEq, DV.d.injEq, and_true, true_and, F_eq, J_eq, P3_eq, T_eq, PyData.int.injEq, PyData.str.injEq, PyData.list.injEq, PyData.tuple.injEq, ST_eq] at e
  obtain ⟨rfl, rfl, rfl, rfl, rfl⟩ := e
  exact r, fun r => ⟨_, _, _, _, _, rfl, r⟩⟩
def sp_later_begin : PSp := fun ds Q => ∃ a b, ds = [.d (oS a), .d (oS b)] ∧ oz a ∧ oz b ∧ Q (.d (oS (mxo a b)))
theorem ap_later_begin {Q : DV → Prop} {a : Option Rat} {b : Option Rat} : sp_later_begin [DV.d (oS a), DV.d (oS b)] Q = (oz a ∧ oz b ∧ Q (DV.d (oS (mxo a b)))) := propext ⟨fun ⟨_, _, e, r⟩ => by
  simp only [List.cons.injEq, DV.d.injEq, and_true, true_and, F_eq, J_eq, P3_eq, T_eq, PyData.int.injEq, PyData.str.injEq, PyData.list.injEq, PyData.tuple.injEq, oS_eq] at e
  obtain ⟨rfl, rfl⟩ := e
  exact r, fun r => ⟨_, _, rfl, r⟩⟩
def sp_earlier_end : PSp := fun ds Q => ∃ a b, ds = [.d (oS a), .d (oS b)] ∧ oz a ∧ oz b ∧ Q (.d (oS (mno a b)))
theorem ap_earlier_end {Q : DV → Prop} {a : Option Rat} {b : Option Rat} : sp_earlier_end [DV.d (oS a), DV.d (oS b)] Q = (oz a ∧ oz b ∧ Q (DV.d (oS (mno a b)))) := propext ⟨fun ⟨_, _, e, r⟩ => by
  simp only [List.cons.injEq, DV.d.injEq, and_true, true_and, F_eq, J_eq, P3_eq, T_eq, PyData.int.injEq, PyData.str.injEq, PyData.list.injEq, PyData.tuple.injEq, oS_eq] at e
  obtain ⟨rfl, rfl⟩ := e
  exact r, fun r => ⟨_, _, rfl, r⟩⟩
def sp_order_of : PSp := fun ds Q => ∃ a b, ds = [.d (oS a), .d (oS b)] ∧ oz a ∧ oz b ∧ Q (.d (.int (odo a b)))
theorem ap_order_of {Q : DV → Prop} {a : Option Rat} {b : Option Rat} : sp_order_of [DV.d (oS a), DV.d (oS b)] Q = (oz a ∧ oz b ∧ Q (DV.d (.int (odo a b)))) := propext ⟨fun ⟨_, _, e, r⟩ => by
  simp only [List.cons.injEq, DV.d.injEq, and_true, true_and, F_eq, J_eq, P3_eq, T_eq, PyData.int.injEq, PyData.str.injEq, PyData.list.injEq, PyData.tuple.injEq, oS_eq] at e
  obtain ⟨rfl, rfl⟩ := e
  exact r, fun r => ⟨_, _, rfl, r⟩⟩
def sp_is_within : PSp := fun ds Q => ∃ p e q a b, ds = [.d (SU p e q), .d (oS a), .d (oS b)] ∧ zW (p, e, q) ∧ oz6 a ∧ oz6 b ∧ Q (.d (.bool (wIn (p, e, q) a b)))
theorem ap_is_within {Q : DV → Prop} {p : Rat} {e : Int} {q : Rat} {a : Option Rat} {b : Option Rat} : sp_is_within [DV.d (SU p e q), DV.d (oS a), DV.d (oS b)] Q = (zW (p, e, q) ∧ oz6 a ∧ oz6 b ∧ Q (DV.d (.bool (wIn (p, e, q) a b)))) := propext ⟨fun ⟨_, _, _, _, _, e, r⟩ => by
  simp only [List.cons.injEq, DV.d.injEq, and_true, true_and, F_eq, J_eq, P3_eq, T_eq, PyData.int.injEq, PyData.str.injEq, PyData.list.injEq, PyData.tuple.injEq, SU_eq, oS_eq] at e
  obtain ⟨⟨rfl, rfl, rfl⟩, rfl, rfl⟩ := e
  exact r, fun r => ⟨_, _, _, _, _, rfl, r⟩⟩
def sp_water_at : PSp := fun ds Q => ∃ x y w s b q, ds = [.d (ST x y w s b), .d (F q)] ∧ Wy w ∧ 0 < b ∧ Zf 60 x ∧ Zf 200 y ∧ Zf 200 s ∧ Zf 100 b ∧ Zf 60 q ∧ Q (.d ((if has x w q then F (kA x y w s b + q * (kB x w s b + -b * q)) else .none)))
theorem ap_water_at {Q : DV → Prop} {x : Rat} {y : Rat} {w : Int} {s : Rat} {b : Rat} {q : Rat} : sp_water_at [DV.d (ST x y w s b), DV.d (F q)] Q = (Wy w ∧ 0 < b ∧ Zf 60 x ∧ Zf 200 y ∧ Zf 200 s ∧ Zf 100 b ∧ Zf 60 q ∧ Q (DV.d ((if has x w q then F (kA x y w s b + q * (kB x w s b + -b * q)) else .none)))) := propext ⟨fun ⟨_, _, _, _, _, _, e, r⟩ => by
  simp only [List.cons.injEq, DV.d.injEq, and_true, true_and, F_eq, J_eq, P3_eq, T_eq, PyData.int.injEq, PyData.str.injEq, PyData.list.injEq, PyData.tuple.injEq, ST_eq] at e
  obtain ⟨⟨rfl, rfl, rfl, rfl, rfl⟩, rfl⟩ := e
  exact r, fun r => ⟨_, _, _, _, _, _, rfl, r⟩⟩
def sp_growth_at : PSp := fun ds Q => ∃ a b c x, ds = [.d (.tuple [F a, F b, F c]), .d (F x)] ∧ Zf 1000 b ∧ Zf 1000 c ∧ Zf 1000 x ∧ Q (.d (F (b + 2 * c * x)))
theorem ap_growth_at {Q : DV → Prop} {a : Rat} {b : Rat} {c : Rat} {x : Rat} : sp_growth_at [DV.d (.tuple [F a, F b, F c]), DV.d (F x)] Q = (Zf 1000 b ∧ Zf 1000 c ∧ Zf 1000 x ∧ Q (DV.d (F (b + 2 * c * x)))) := propext ⟨fun ⟨_, _, _, _, e, r⟩ => by
  simp only [List.cons.injEq, DV.d.injEq, and_true, true_and, F_eq, J_eq, P3_eq, T_eq, PyData.int.injEq, PyData.str.injEq, PyData.list.injEq, PyData.tuple.injEq] at e
  obtain ⟨⟨rfl, rfl, rfl⟩, rfl⟩ := e
  exact r, fun r => ⟨_, _, _, _, rfl, r⟩⟩
def sp_halves_at : PSp := fun ds Q => ∃ c g a p e q, ds = [.d (.tuple [F c, F g, F a]), .d (SU p e q)] ∧ sdOk p e q ∧ Zf 700 c ∧ Zf 430 g ∧ Zf 100 a ∧ Zf 430 p ∧ Zf 565 q ∧ Q (.d (.tuple [F (c + p * (g + a * p) + a * q), F (e * (g + 2 * a * p))]))
theorem ap_halves_at {Q : DV → Prop} {c : Rat} {g : Rat} {a : Rat} {p : Rat} {e : Int} {q : Rat} : sp_halves_at [DV.d (.tuple [F c, F g, F a]), DV.d (SU p e q)] Q = (sdOk p e q ∧ Zf 700 c ∧ Zf 430 g ∧ Zf 100 a ∧ Zf 430 p ∧ Zf 565 q ∧ Q (DV.d (.tuple [F (c + p * (g + a * p) + a * q), F (e * (g + 2 * a * p))]))) := propext ⟨fun ⟨_, _, _, _, _, _, e, r⟩ => by
  simp only [List.cons.injEq, DV.d.injEq, and_true, true_and, F_eq, J_eq, P3_eq, T_eq, PyData.int.injEq, PyData.str.injEq, PyData.list.injEq, PyData.tuple.injEq, SU_eq] at e
  obtain ⟨⟨rfl, rfl, rfl⟩, ⟨rfl, rfl, rfl⟩⟩ := e
  exact r, fun r => ⟨_, _, _, _, _, _, rfl, r⟩⟩
def sp_surd_at : PSp := fun ds Q => ∃ c g a p e q, ds = [.d (.tuple [F c, F g, F a]), .d (SU p e q)] ∧ zW (p, e, q) ∧ Zf 240 c ∧ Zf 110 g ∧ Zf 50 a ∧ Q (.d (SUt (sAt c g a (p, e, q))))
theorem ap_surd_at {Q : DV → Prop} {c : Rat} {g : Rat} {a : Rat} {p : Rat} {e : Int} {q : Rat} : sp_surd_at [DV.d (.tuple [F c, F g, F a]), DV.d (SU p e q)] Q = (zW (p, e, q) ∧ Zf 240 c ∧ Zf 110 g ∧ Zf 50 a ∧ Q (DV.d (SUt (sAt c g a (p, e, q))))) := propext ⟨fun ⟨_, _, _, _, _, _, e, r⟩ => by
  simp only [List.cons.injEq, DV.d.injEq, and_true, true_and, F_eq, J_eq, P3_eq, T_eq, PyData.int.injEq, PyData.str.injEq, PyData.list.injEq, PyData.tuple.injEq, SU_eq] at e
  obtain ⟨⟨rfl, rfl, rfl⟩, ⟨rfl, rfl, rfl⟩⟩ := e
  exact r, fun r => ⟨_, _, _, _, _, _, rfl, r⟩⟩
def sp_Morder : PSp := fun ds Q => ∃ x y, ds = [.d (F x), .d (F y)] ∧ Zf 3000 x ∧ Zf 3000 y ∧ Q (.d (.int (sgQ (x - y))))
theorem ap_Morder {Q : DV → Prop} {x : Rat} {y : Rat} : sp_Morder [DV.d (F x), DV.d (F y)] Q = (Zf 3000 x ∧ Zf 3000 y ∧ Q (DV.d (.int (sgQ (x - y))))) := propext ⟨fun ⟨_, _, e, r⟩ => by
  simp only [List.cons.injEq, DV.d.injEq, and_true, true_and, F_eq, J_eq, P3_eq, T_eq, PyData.int.injEq, PyData.str.injEq, PyData.list.injEq, PyData.tuple.injEq] at e
  obtain ⟨rfl, rfl⟩ := e
  exact r, fun r => ⟨_, _, rfl, r⟩⟩
def sp_Lsign : PSp := fun ds Q => ∃ n, ds = [.d (.int n)] ∧ Q (.d (.int (sgI n)))
theorem ap_Lsign {Q : DV → Prop} {n : Int} : sp_Lsign [DV.d (.int n)] Q = (Q (DV.d (.int (sgI n)))) := propext ⟨fun ⟨_, e, r⟩ => by
  simp only [List.cons.injEq, DV.d.injEq, and_true, true_and, F_eq, J_eq, P3_eq, T_eq, PyData.int.injEq, PyData.str.injEq, PyData.list.injEq, PyData.tuple.injEq] at e
  obtain rfl := e
  exact r, fun r => ⟨_, rfl, r⟩⟩
def sp_Lcurve : PSp := fun ds Q => ∃ x y w s b, ds = [.d (ST x y w s b)] ∧ Wy w ∧ Zf 200 x ∧ Zf 200 y ∧ Zf 200 s ∧ Zf 200 b ∧ Q (.d (.tuple [F (kA x y w s b), F (kB x w s b), F (-b)]))
theorem ap_Lcurve {Q : DV → Prop} {x : Rat} {y : Rat} {w : Int} {s : Rat} {b : Rat} : sp_Lcurve [DV.d (ST x y w s b)] Q = (Wy w ∧ Zf 200 x ∧ Zf 200 y ∧ Zf 200 s ∧ Zf 200 b ∧ Q (DV.d (.tuple [F (kA x y w s b), F (kB x w s b), F (-b)]))) := propext ⟨fun ⟨_, _, _, _, _, e, r⟩ => by
  simp only [List.cons.injEq, DV.d.injEq, and_true, true_and, F_eq, J_eq, P3_eq, T_eq, PyData.int.injEq, PyData.str.injEq, PyData.list.injEq, PyData.tuple.injEq, ST_eq] at e
  obtain ⟨rfl, rfl, rfl, rfl, rfl⟩ := e
  exact r, fun r => ⟨_, _, _, _, _, rfl, r⟩⟩
def sp_Lstream : PSp := fun ds Q => ds = [.vat] ∧ ∀ (x y : Rat) (w : Int) (s b : Rat), Wy w → 0 < b → Zf 4 x → Zf 4 y → Zf 4 s → Zf 4 b → Q (.d (ST x y w s b))
theorem ap_Lstream {Q : DV → Prop} : sp_Lstream [DV.vat] Q = (∀ (x y : Rat) (w : Int) (s b : Rat), Wy w → 0 < b → Zf 4 x → Zf 4 y → Zf 4 s → Zf 4 b → Q (DV.d (ST x y w s b))) := propext ⟨fun ⟨_, r⟩ => r, fun r => ⟨rfl, r⟩⟩
def sp_Lfar_x : PSp := fun ds Q => ∃ x y w s b, ds = [.vat, .d (ST x y w s b)] ∧ Wy w ∧ Zf 60 x ∧ Zf 60 y ∧ ∀ z : Rat, 0 < z → Zf 4 z → Q (.d (F (x + w * z)))
theorem ap_Lfar_x {Q : DV → Prop} {x : Rat} {y : Rat} {w : Int} {s : Rat} {b : Rat} : sp_Lfar_x [DV.vat, DV.d (ST x y w s b)] Q = (Wy w ∧ Zf 60 x ∧ Zf 60 y ∧ ∀ z : Rat, 0 < z → Zf 4 z → Q (DV.d (F (x + w * z)))) := propext ⟨fun ⟨_, _, _, _, _, e, r⟩ => by
  simp only [List.cons.injEq, DV.d.injEq, and_true, true_and, F_eq, J_eq, P3_eq, T_eq, PyData.int.injEq, PyData.str.injEq, PyData.list.injEq, PyData.tuple.injEq, ST_eq] at e
  obtain ⟨rfl, rfl, rfl, rfl, rfl⟩ := e
  exact r, fun r => ⟨_, _, _, _, _, rfl, r⟩⟩
def sp_Lon_curve : PSp := fun ds Q => ∃ x y w s b q v, ds = [.d (ST x y w s b), .d (F q), .d (.int v)] ∧ Wy w ∧ Wy v ∧ Zf 60 x ∧ Zf 60 y ∧ Zf 60 s ∧ Zf 60 b ∧ Zf 60 q ∧ Q (.d (ST q (kA x y w s b + q * (kB x w s b + -b * q)) v (v * (kB x w s b + 2 * (-b * q))) b))
theorem ap_Lon_curve {Q : DV → Prop} {x : Rat} {y : Rat} {w : Int} {s : Rat} {b : Rat} {q : Rat} {v : Int} : sp_Lon_curve [DV.d (ST x y w s b), DV.d (F q), DV.d (.int v)] Q = (Wy w ∧ Wy v ∧ Zf 60 x ∧ Zf 60 y ∧ Zf 60 s ∧ Zf 60 b ∧ Zf 60 q ∧ Q (DV.d (ST q (kA x y w s b + q * (kB x w s b + -b * q)) v (v * (kB x w s b + 2 * (-b * q))) b))) := propext ⟨fun ⟨_, _, _, _, _, _, _, e, r⟩ => by
  simp only [List.cons.injEq, DV.d.injEq, and_true, true_and, F_eq, J_eq, P3_eq, T_eq, PyData.int.injEq, PyData.str.injEq, PyData.list.injEq, PyData.tuple.injEq, ST_eq] at e
  obtain ⟨⟨rfl, rfl, rfl, rfl, rfl⟩, rfl, rfl⟩ := e
  exact r, fun r => ⟨_, _, _, _, _, _, _, rfl, r⟩⟩

theorem ev_intb {Q : DV → Prop} {b : Bool} : wBi .int [.d (.bool b)] Q = Q (.d (.int (if b = true then 1 else 0))) := rfl
theorem sg_lt0 {z : Rat} : (sgQ z < 0) = (z < 0) := propext (by
  rcases tri z with h | h | h
  · rw [sg_neg h]; simp [h]
  · subst h; rw [sg_zero]; decide
  · rw [sg_pos h]
    constructor
    · intro h'; omega
    · intro h'; grind)
theorem sg_gt0 {z : Rat} : (0 < sgQ z) = (0 < z) := propext (by
  rcases tri z with h | h | h
  · rw [sg_neg h]
    constructor
    · intro h'; omega
    · intro h'; grind
  · subst h; rw [sg_zero]; decide
  · rw [sg_pos h]; simp [h])
theorem sg_cross (x y : Rat) : sgI (x.num * (y.den : Int) - y.num * (x.den : Int)) = sgQ (x - y) := by
  have a := @lt_cross x y
  have c := @lt_cross y x
  rcases tri (x - y) with h | h | h
  · rw [sg_neg h]
    have : x.num * (y.den : Int) < y.num * (x.den : Int) := by rw [a]; grind
    unfold sgI
    rw [if_neg (by omega), if_pos (by omega)]
  · rw [h, sg_zero]
    have e : x = y := by grind
    subst e
    rw [Int.sub_self]
    rfl
  · rw [sg_pos h]
    have : y.num * (x.den : Int) < x.num * (y.den : Int) := by rw [c]; grind
    unfold sgI
    rw [if_pos (by omega)]
theorem w_F {w : Int} {s : Rat} (h : Wy w) : (PyData.tuple [.int (w * s.num), .int (s.den : Int)]) = F ((w : Rat) * s) := by
  rcases h with rfl | rfl
  · rw [Int.one_mul, i1, Rat.one_mul]
    rfl
  · rw [Int.neg_one_mul, im1, F_neg']
    congr 1
    grind
theorem cw_ff {x y : Rat} (zx : Zf 350 x) (zy : Zf 350 y) {Q : DV → Prop} (hq : Q (.d (.int (sgQ (x - y))))) : sp_compareW [DV.d (SU x 0 0), DV.d (SU y 0 0)] Q := by
  rw [ap_compareW, cmF]
  have zd := zx.sub zy
  exact ⟨.inl ⟨rfl, rfl⟩, .inl ⟨rfl, rfl⟩, zd.mono (by decide), zx.mono (by decide), zy.mono (by decide), zl0.mono (by decide), zl0.mono (by decide), fun _ => (((zd.mul zd).add zl0).sub zl0).mono (by decide), hq⟩
theorem cw_l {p : Rat} {e : Int} {q u : Rat} (h : zW (p, e, q)) (zu : Zf 60 u) {Q : DV → Prop} (hq : Q (.d (.int (cmS (p, e, q) (u, 0, 0))))) : sp_compareW [DV.d (SU p e q), DV.d (SU u 0 0)] Q := by
  rw [ap_compareW]
  obtain ⟨y1, y2, y3, y4, y5, y6⟩ := zW_l h zu
  exact ⟨y1, .inl ⟨rfl, rfl⟩, y2, y3, y4, y5, zl0.mono (by decide), fun _ => y6, hq⟩
theorem cw_r {p : Rat} {e : Int} {q u : Rat} (h : zW (p, e, q)) (zu : Zf 60 u) {Q : DV → Prop} (hq : Q (.d (.int (cmS (u, 0, 0) (p, e, q))))) : sp_compareW [DV.d (SU u 0 0), DV.d (SU p e q)] Q := by
  rw [ap_compareW]
  obtain ⟨y1, y2, y3, y4, y5, y6⟩ := zW_r h zu
  exact ⟨.inl ⟨rfl, rfl⟩, y1, y2, y3, y4, zl0.mono (by decide), y5, fun _ => y6, hq⟩
theorem ix_st0 {t : Sx} {Q : DV → Prop} : wIdx (.d (stD t)) (.d (.int 0)) Q = Q (.d (oS t.1)) := ix_t0
theorem ix_st1 {t : Sx} {Q : DV → Prop} : wIdx (.d (stD t)) (.d (.int 1)) Q = Q (.d (oS t.2)) := ix_t1
theorem tg_st {a b : Nat} {t : Sx} {τ : SDs} {R : SDs → Prop} : wTg (.many [a, b]) (.d (stD t)) τ R = R ((τ.set a (some (.val (.d (oS t.1))))).set b (some (.val (.d (oS t.2))))) := tg_2
theorem zW_f {q : Rat} (h : Zf 430 q) : zW (q, 0, 0) := ⟨.inl ⟨rfl, rfl⟩, h, zl0.mono (by decide), .inl rfl⟩
theorem oz6_side {w : Int} {x : Rat} (h : Zf 60 x) : oz6 (wside w x).1 ∧ oz6 (wside w x).2 := by
  refine ⟨fun a e => ?_, fun a e => ?_⟩ <;> (unfold wside at e; split at e <;> cases e <;> exact h)
theorem has_in {w : Int} (hw : Wy w) {x q : Rat} : wIn (q, 0, 0) (wside w x).1 (wside w x).2 = decide (has x w q) := by
  have sg : ∀ z : Rat, (sgQ z ≤ 0) = (z ≤ 0) := fun z => propext (by
    rcases tri z with h | h | h
    · rw [sg_neg h]; exact ⟨fun _ => by grind, fun _ => by decide⟩
    · subst h; rw [sg_zero]; decide
    · rw [sg_pos h]; exact ⟨fun h' => by omega, fun h' => by grind⟩)
  unfold wIn wside has
  rcases hw with rfl | rfl
  · simp only [if_true, cmF, sg, Bool.and_true, i1]
    congr 1
    exact propext ⟨fun _ => by grind, fun _ => by grind⟩
  · rw [if_neg (by decide)]
    simp only [cmF, sg, Bool.true_and, im1]
    congr 1
    exact propext ⟨fun _ => by grind, fun _ => by grind⟩
theorem isT_ST {x y : Rat} {w : Int} {s b : Rat} : isT (ST x y w s b) = true := rfl
theorem len_ST {x y : Rat} {w : Int} {s b : Rat} : lenD (.d (ST x y w s b)) = some 3 := rfl
section
variable {Φ : Nat → PSp}
theorem sem_compareW (e_check_surd : Φ 47 = sp_check_surd) (e_pminus : Φ 65 = sp_pminus) (e_plus : Φ 48 = sp_plus) (e_times : Φ 51 = sp_times) (e_sign_with_root : Φ 66 = sp_sign_with_root) (e_sign : Φ 50 = sp_sign) : ∀ ds Q, sp_compareW ds Q → wS Φ rs_compare { nx := fun _ => Q (.d .none), rt := Q } (startD ["x0", "x1", "x2", "x3", "x4", "x5", "x6", "x7", "x8", "x9", "x10"] ds) := by
  rintro ds Q ⟨p, i, q, u, j, w, rfl, h1, h2, h3, h4, h5, h6, h7, h8, hq⟩
  show wS Φ rs_compare _ [some (.val (.d (SU p i q))), some (.val (.d (SU u j w))), none, none, none, none, none, none, none, none, none]
  simp only [rs_compare, wS, wE, wA, wT, wI, wO, ev_add, ev_sub, ev_mul, ev_div, ev_mod, ev_pow, ev_cat, ev_lt, ev_le, ev_gt, ev_ge, ev_eq, ev_ne, ev_eqs, ev_nes, ix_F0, ix_F1, ix_J0, ix_J1, ix_P0, ix_P1, ix_P2, ix_t0, ix_t1, ix_t2, ix_l0, ix_l1, ix_l2, tg_1, tg_F, tg_J, tg_P, tg_2, tg_3, tg_4, fold_J, eq_F, ne_F, eq_J, ne_J, eq_P, ne_P, db_, di_, setVals, setAll, datas, itemsD, truD, List.getElem?_cons_zero, List.getElem?_cons_succ, List.set_cons_zero, List.set_cons_succ, Option.map_some, Option.map_none, Option.some.injEq, exists_eq_left', decide_eq_true_eq, Bool.not_true, Bool.not_false, Bool.false_eq_true, if_false, if_true, true_and, and_true, decide_true, decide_false, List.length_cons, List.length_nil, mx_0, mx_1, mx_2, mx_3, mx_4, mx_5, mx_6, mx_7, mx_8, mx_9, mx_10, mx_11, mx_12, mx_13, mx_14, mx_15, mx_16, mx_17, mx_18, mx_19, mx_20, mx_21, mx_22, mx_23, mx_24, Nat.reduceAdd, Nat.reduceLeDiff, Nat.zero_add, Bool.not_eq_true', decide_eq_false_iff_not, reduceIte, ev_reprb, e_check_surd, e_pminus, e_plus, e_times, e_sign_with_root, e_sign, ap_check_surd, ap_pminus, ap_plus, ap_times, ap_sign_with_root, ap_sign, tg_SU, tupI]
  have zi := (zf_e h1.e).mono (k := 300) (by decide)
  have ze := zf_e h1.e
  have ii := h1.e
  have ij := h2.e
  refine ⟨h1, by walk_at "sz", h2, by walk_at "sz", by walk_at "sz", by walk_at "sz", h1.q, h3.mono (by decide), by walk_at "sz", by walk_at "sz", by walk_at "sz", ?_⟩
  by_cases c : sgR (p - u) (i : Rat) q = j
  · have hc : cmS (p, i, q) (u, j, w) = j * sgR ((p - u) * (p - u) + q - w) (((2 * i : Int) : Rat) * (p - u)) q := if_pos c
    rw [hc] at hq
    rw [if_neg (by simpa using c)]
    have y1 := h8 c
    have z2i : Zf 4 ((2 * i : Int) : Rat) := by
      rcases ii with rfl | rfl | rfl <;> exact ⟨by unfold Sz; decide +kernel, by unfold Sz; decide +kernel⟩
    generalize p - u = d at *
    exact ⟨by walk_at "sz", by walk_at "sz", by walk_at "sz", by walk_at "sz", by walk_at "sz", by walk_at "sz", cmul (show Sz 2 2 by unfold Sz; decide) (sz_sg ii) (by decide) (by decide) (by decide), by walk_at "sz", by walk_at "sz", h1.q, y1, by walk_at "sz", by walk_at "sz", by walk_at "sz", cm_sg _ _ ij (sz_sg (sgR_in _ _ _)), hq⟩
  · have hc : cmS (p, i, q) (u, j, w) = sgI (sgR (p - u) (i : Rat) q - j) := if_neg c
    rw [hc] at hq
    rw [if_pos c]
    exact hq
theorem sem_spout_of (e_reduced : Φ 33 = sp_reduced) : ∀ ds Q, sp_spout_of ds Q → wS Φ rs_spout_of { nx := fun _ => Q (.d .none), rt := Q } (startD ["x0", "x1", "x2", "x3"] ds) := by
  rintro ds Q ⟨x, y, w, s, b, rfl, h1, hq⟩
  show wS Φ rs_spout_of _ [some (.val (.d (ST x y w s b))), none, none, none]
  simp only [rs_spout_of, wS, wE, wA, wT, wI, wO, ev_add, ev_sub, ev_mul, ev_div, ev_mod, ev_pow, ev_cat, ev_lt, ev_le, ev_gt, ev_ge, ev_eq, ev_ne, ev_eqs, ev_nes, ix_F0, ix_F1, ix_J0, ix_J1, ix_P0, ix_P1, ix_P2, ix_t0, ix_t1, ix_t2, ix_l0, ix_l1, ix_l2, tg_1, tg_F, tg_J, tg_P, tg_2, tg_3, tg_4, fold_J, eq_F, ne_F, eq_J, ne_J, eq_P, ne_P, db_, di_, setVals, setAll, datas, itemsD, truD, List.getElem?_cons_zero, List.getElem?_cons_succ, List.set_cons_zero, List.set_cons_succ, Option.map_some, Option.map_none, Option.some.injEq, exists_eq_left', decide_eq_true_eq, Bool.not_true, Bool.not_false, Bool.false_eq_true, if_false, if_true, true_and, and_true, decide_true, decide_false, List.length_cons, List.length_nil, mx_0, mx_1, mx_2, mx_3, mx_4, mx_5, mx_6, mx_7, mx_8, mx_9, mx_10, mx_11, mx_12, mx_13, mx_14, mx_15, mx_16, mx_17, mx_18, mx_19, mx_20, mx_21, mx_22, mx_23, mx_24, Nat.reduceAdd, Nat.reduceLeDiff, Nat.zero_add, Bool.not_eq_true', decide_eq_false_iff_not, reduceIte, ev_reprb, e_reduced, ap_reduced, ix_ST0]
  refine ⟨pt_pos x y, h1.c, pt_pos x y, h1.c, ?_⟩
  rw [← fold_J, ← F_rd (pt_pos x y) (pt_x x y), ← F_rd (pt_pos x y) (pt_y x y)] at hq
  exact hq
theorem sem_stretch_of (e_spout_of : Φ 258 = sp_spout_of) (e_as_surd : Φ 94 = sp_as_surd) : ∀ ds Q, sp_stretch_of ds Q → wS Φ rs_stretch_of { nx := fun _ => Q (.d .none), rt := Q } (startD ["x0", "x1"] ds) := by
  rintro ds Q ⟨x, y, w, s, b, rfl, h1, hq⟩
  show wS Φ rs_stretch_of _ [some (.val (.d (ST x y w s b))), none]
  simp only [rs_stretch_of, wS, wE, wA, wT, wI, wO, ev_add, ev_sub, ev_mul, ev_div, ev_mod, ev_pow, ev_cat, ev_lt, ev_le, ev_gt, ev_ge, ev_eq, ev_ne, ev_eqs, ev_nes, ix_F0, ix_F1, ix_J0, ix_J1, ix_P0, ix_P1, ix_P2, ix_t0, ix_t1, ix_t2, ix_l0, ix_l1, ix_l2, tg_1, tg_F, tg_J, tg_P, tg_2, tg_3, tg_4, fold_J, eq_F, ne_F, eq_J, ne_J, eq_P, ne_P, db_, di_, setVals, setAll, datas, itemsD, truD, List.getElem?_cons_zero, List.getElem?_cons_succ, List.set_cons_zero, List.set_cons_succ, Option.map_some, Option.map_none, Option.some.injEq, exists_eq_left', decide_eq_true_eq, Bool.not_true, Bool.not_false, Bool.false_eq_true, if_false, if_true, true_and, and_true, decide_true, decide_false, List.length_cons, List.length_nil, mx_0, mx_1, mx_2, mx_3, mx_4, mx_5, mx_6, mx_7, mx_8, mx_9, mx_10, mx_11, mx_12, mx_13, mx_14, mx_15, mx_16, mx_17, mx_18, mx_19, mx_20, mx_21, mx_22, mx_23, mx_24, Nat.reduceAdd, Nat.reduceLeDiff, Nat.zero_add, Bool.not_eq_true', decide_eq_false_iff_not, reduceIte, ev_reprb, e_spout_of, e_as_surd, ap_spout_of, ap_as_surd, ix_ST1]
  refine ⟨h1, ?_⟩
  unfold wside at hq
  split
  · rename_i h
    rw [if_pos h] at hq
    exact hq
  · rename_i h
    rw [if_neg h] at hq
    exact hq
theorem sem_fall_of (e_spout_of : Φ 258 = sp_spout_of) (e_times : Φ 51 = sp_times) : ∀ ds Q, sp_fall_of ds Q → wS Φ rs_fall_of { nx := fun _ => Q (.d .none), rt := Q } (startD ["x0", "x1", "x2"] ds) := by
  rintro ds Q ⟨x, y, w, s, b, rfl, h1, h2, h3, hq⟩
  show wS Φ rs_fall_of _ [some (.val (.d (ST x y w s b))), none, none]
  simp only [rs_fall_of, wS, wE, wA, wT, wI, wO, ev_add, ev_sub, ev_mul, ev_div, ev_mod, ev_pow, ev_cat, ev_lt, ev_le, ev_gt, ev_ge, ev_eq, ev_ne, ev_eqs, ev_nes, ix_F0, ix_F1, ix_J0, ix_J1, ix_P0, ix_P1, ix_P2, ix_t0, ix_t1, ix_t2, ix_l0, ix_l1, ix_l2, tg_1, tg_F, tg_J, tg_P, tg_2, tg_3, tg_4, fold_J, eq_F, ne_F, eq_J, ne_J, eq_P, ne_P, db_, di_, setVals, setAll, datas, itemsD, truD, List.getElem?_cons_zero, List.getElem?_cons_succ, List.set_cons_zero, List.set_cons_succ, Option.map_some, Option.map_none, Option.some.injEq, exists_eq_left', decide_eq_true_eq, Bool.not_true, Bool.not_false, Bool.false_eq_true, if_false, if_true, true_and, and_true, decide_true, decide_false, List.length_cons, List.length_nil, mx_0, mx_1, mx_2, mx_3, mx_4, mx_5, mx_6, mx_7, mx_8, mx_9, mx_10, mx_11, mx_12, mx_13, mx_14, mx_15, mx_16, mx_17, mx_18, mx_19, mx_20, mx_21, mx_22, mx_23, mx_24, Nat.reduceAdd, Nat.reduceLeDiff, Nat.zero_add, Bool.not_eq_true', decide_eq_false_iff_not, reduceIte, ev_reprb, e_spout_of, e_times, ap_spout_of, ap_times, ix_ST2, lit_m2]
  have z2 : Zf 4 (-2 : Rat) := zl2.neg
  exact ⟨(h1.pt h2).mono (by decide), by walk_at "sz", by walk_at "sz", by walk_at "sz", by walk_at "sz", by walk_at "sz", by walk_at "sz", by walk_at "sz", by walk_at "sz", hq⟩
theorem sem_difference (e_pminus : Φ 65 = sp_pminus) : ∀ ds Q, sp_difference ds Q → wS Φ rs_difference { nx := fun _ => Q (.d .none), rt := Q } (startD ["x0", "x1"] ds) := by
  rintro ds Q ⟨a, b, c, d, e, f, rfl, h1, h2, h3, h4, h5, h6, hq⟩
  show wS Φ rs_difference _ [some (.val (.d (.tuple [F a, F b, F c]))), some (.val (.d (.tuple [F d, F e, F f])))]
  simp only [rs_difference, wS, wE, wA, wT, wI, wO, ev_add, ev_sub, ev_mul, ev_div, ev_mod, ev_pow, ev_cat, ev_lt, ev_le, ev_gt, ev_ge, ev_eq, ev_ne, ev_eqs, ev_nes, ix_F0, ix_F1, ix_J0, ix_J1, ix_P0, ix_P1, ix_P2, ix_t0, ix_t1, ix_t2, ix_l0, ix_l1, ix_l2, tg_1, tg_F, tg_J, tg_P, tg_2, tg_3, tg_4, fold_J, eq_F, ne_F, eq_J, ne_J, eq_P, ne_P, db_, di_, setVals, setAll, datas, itemsD, truD, List.getElem?_cons_zero, List.getElem?_cons_succ, List.set_cons_zero, List.set_cons_succ, Option.map_some, Option.map_none, Option.some.injEq, exists_eq_left', decide_eq_true_eq, Bool.not_true, Bool.not_false, Bool.false_eq_true, if_false, if_true, true_and, and_true, decide_true, decide_false, List.length_cons, List.length_nil, mx_0, mx_1, mx_2, mx_3, mx_4, mx_5, mx_6, mx_7, mx_8, mx_9, mx_10, mx_11, mx_12, mx_13, mx_14, mx_15, mx_16, mx_17, mx_18, mx_19, mx_20, mx_21, mx_22, mx_23, mx_24, Nat.reduceAdd, Nat.reduceLeDiff, Nat.zero_add, Bool.not_eq_true', decide_eq_false_iff_not, reduceIte, ev_reprb, e_pminus, ap_pminus, ix_t0, ix_t1, ix_t2]
  exact ⟨h1, h4, h2, h5, h3, h6, hq⟩
theorem sem_water_of (e_spout_of : Φ 258 = sp_spout_of) (e_times : Φ 51 = sp_times) (e_pminus : Φ 65 = sp_pminus) (e_difference : Φ 162 = sp_difference) (e_fall_of : Φ 259 = sp_fall_of) : ∀ ds Q, sp_water_of ds Q → wS Φ rs_water_of { nx := fun _ => Q (.d .none), rt := Q } (startD ["x0", "x1", "x2", "x3"] ds) := by
  rintro ds Q ⟨x, y, w, s, b, rfl, h1, h2, h3, h4, h5, hq⟩
  show wS Φ rs_water_of _ [some (.val (.d (ST x y w s b))), none, none, none]
  simp only [rs_water_of, wS, wE, wA, wT, wI, wO, ev_add, ev_sub, ev_mul, ev_div, ev_mod, ev_pow, ev_cat, ev_lt, ev_le, ev_gt, ev_ge, ev_eq, ev_ne, ev_eqs, ev_nes, ix_F0, ix_F1, ix_J0, ix_J1, ix_P0, ix_P1, ix_P2, ix_t0, ix_t1, ix_t2, ix_l0, ix_l1, ix_l2, tg_1, tg_F, tg_J, tg_P, tg_2, tg_3, tg_4, fold_J, eq_F, ne_F, eq_J, ne_J, eq_P, ne_P, db_, di_, setVals, setAll, datas, itemsD, truD, List.getElem?_cons_zero, List.getElem?_cons_succ, List.set_cons_zero, List.set_cons_succ, Option.map_some, Option.map_none, Option.some.injEq, exists_eq_left', decide_eq_true_eq, Bool.not_true, Bool.not_false, Bool.false_eq_true, if_false, if_true, true_and, and_true, decide_true, decide_false, List.length_cons, List.length_nil, mx_0, mx_1, mx_2, mx_3, mx_4, mx_5, mx_6, mx_7, mx_8, mx_9, mx_10, mx_11, mx_12, mx_13, mx_14, mx_15, mx_16, mx_17, mx_18, mx_19, mx_20, mx_21, mx_22, mx_23, mx_24, Nat.reduceAdd, Nat.reduceLeDiff, Nat.zero_add, Bool.not_eq_true', decide_eq_false_iff_not, reduceIte, ev_reprb, e_spout_of, e_times, e_pminus, e_difference, e_fall_of, ap_spout_of, ap_times, ap_pminus, ap_difference, ap_fall_of, ix_ST1, ix_ST2, tupI, lit_0]
  have zw := zf_w h1
  have z2 : Zf 4 (-2 : Rat) := zl2.neg
  refine ⟨(h2.pt h3).mono (by decide), by walk_at "sz", by walk_at "sz", by walk_at "sz", by walk_at "sz", by walk_at "sz", by walk_at "sz", by walk_at "sz", by walk_at "sz", by walk_at "sz", by walk_at "sz", by walk_at "sz", zl0.mono (by decide), by walk_at "sz", by walk_at "sz", by walk_at "sz", ?_⟩
  have e1 : (w : Rat) * s - -2 * (b * x) = kB x w s b := by unfold kB; grind
  have e2 : ((0 : Int) : Rat) - b = -b := by rw [i0]; grind
  rw [e1, e2]
  exact hq
theorem sem_later_begin (e_compareW : Φ 67 = sp_compareW) : ∀ ds Q, sp_later_begin ds Q → wS Φ rs_later_begin { nx := fun _ => Q (.d .none), rt := Q } (startD ["x0", "x1"] ds) := by
  rintro ds Q ⟨a, b, rfl, h1, h2, hq⟩
  show wS Φ rs_later_begin _ [some (.val (.d (oS a))), some (.val (.d (oS b)))]
  simp only [rs_later_begin, wS, wE, wA, wT, wI, wO, ev_add, ev_sub, ev_mul, ev_div, ev_mod, ev_pow, ev_cat, ev_lt, ev_le, ev_gt, ev_ge, ev_eq, ev_ne, ev_eqs, ev_nes, ix_F0, ix_F1, ix_J0, ix_J1, ix_P0, ix_P1, ix_P2, ix_t0, ix_t1, ix_t2, ix_l0, ix_l1, ix_l2, tg_1, tg_F, tg_J, tg_P, tg_2, tg_3, tg_4, fold_J, eq_F, ne_F, eq_J, ne_J, eq_P, ne_P, db_, di_, setVals, setAll, datas, itemsD, truD, List.getElem?_cons_zero, List.getElem?_cons_succ, List.set_cons_zero, List.set_cons_succ, Option.map_some, Option.map_none, Option.some.injEq, exists_eq_left', decide_eq_true_eq, Bool.not_true, Bool.not_false, Bool.false_eq_true, if_false, if_true, true_and, and_true, decide_true, decide_false, List.length_cons, List.length_nil, mx_0, mx_1, mx_2, mx_3, mx_4, mx_5, mx_6, mx_7, mx_8, mx_9, mx_10, mx_11, mx_12, mx_13, mx_14, mx_15, mx_16, mx_17, mx_18, mx_19, mx_20, mx_21, mx_22, mx_23, mx_24, Nat.reduceAdd, Nat.reduceLeDiff, Nat.zero_add, Bool.not_eq_true', decide_eq_false_iff_not, reduceIte, ev_reprb, e_compareW, ap_compareW]
  cases a with
  | none => exact hq
  | some x =>
    cases b with
    | none => exact hq
    | some y =>
      simp only [oS, SU, Bool.false_eq_true, if_false, if_true]
      refine cw_ff (x := x) (y := y) (h1 _ rfl) (h2 _ rfl) ?_
      simp only [wS, wE, wA, wT, wI, wO, ev_add, ev_sub, ev_mul, ev_div, ev_mod, ev_pow, ev_cat, ev_lt, ev_le, ev_gt, ev_ge, ev_eq, ev_ne, ev_eqs, ev_nes, ix_F0, ix_F1, ix_J0, ix_J1, ix_P0, ix_P1, ix_P2, ix_t0, ix_t1, ix_t2, ix_l0, ix_l1, ix_l2, tg_1, tg_F, tg_J, tg_P, tg_2, tg_3, tg_4, fold_J, eq_F, ne_F, eq_J, ne_J, eq_P, ne_P, db_, di_, setVals, setAll, datas, itemsD, truD, List.getElem?_cons_zero, List.getElem?_cons_succ, List.set_cons_zero, List.set_cons_succ, Option.map_some, Option.map_none, Option.some.injEq, exists_eq_left', decide_eq_true_eq, Bool.not_true, Bool.not_false, Bool.false_eq_true, if_false, if_true, true_and, and_true, decide_true, decide_false, List.length_cons, List.length_nil, mx_0, mx_1, mx_2, mx_3, mx_4, mx_5, mx_6, mx_7, mx_8, mx_9, mx_10, mx_11, mx_12, mx_13, mx_14, mx_15, mx_16, mx_17, mx_18, mx_19, mx_20, mx_21, mx_22, mx_23, mx_24, Nat.reduceAdd, Nat.reduceLeDiff, Nat.zero_add, Bool.not_eq_true', decide_eq_false_iff_not, reduceIte, ev_reprb, sg_lt0]
      unfold mxo at hq
      simp only at hq
      split
      · rename_i h
        rw [if_pos (by grind)] at hq
        exact hq
      · rename_i h
        rw [if_neg (by grind)] at hq
        exact hq
theorem sem_earlier_end (e_compareW : Φ 67 = sp_compareW) : ∀ ds Q, sp_earlier_end ds Q → wS Φ rs_earlier_end { nx := fun _ => Q (.d .none), rt := Q } (startD ["x0", "x1"] ds) := by
  rintro ds Q ⟨a, b, rfl, h1, h2, hq⟩
  show wS Φ rs_earlier_end _ [some (.val (.d (oS a))), some (.val (.d (oS b)))]
  simp only [rs_earlier_end, wS, wE, wA, wT, wI, wO, ev_add, ev_sub, ev_mul, ev_div, ev_mod, ev_pow, ev_cat, ev_lt, ev_le, ev_gt, ev_ge, ev_eq, ev_ne, ev_eqs, ev_nes, ix_F0, ix_F1, ix_J0, ix_J1, ix_P0, ix_P1, ix_P2, ix_t0, ix_t1, ix_t2, ix_l0, ix_l1, ix_l2, tg_1, tg_F, tg_J, tg_P, tg_2, tg_3, tg_4, fold_J, eq_F, ne_F, eq_J, ne_J, eq_P, ne_P, db_, di_, setVals, setAll, datas, itemsD, truD, List.getElem?_cons_zero, List.getElem?_cons_succ, List.set_cons_zero, List.set_cons_succ, Option.map_some, Option.map_none, Option.some.injEq, exists_eq_left', decide_eq_true_eq, Bool.not_true, Bool.not_false, Bool.false_eq_true, if_false, if_true, true_and, and_true, decide_true, decide_false, List.length_cons, List.length_nil, mx_0, mx_1, mx_2, mx_3, mx_4, mx_5, mx_6, mx_7, mx_8, mx_9, mx_10, mx_11, mx_12, mx_13, mx_14, mx_15, mx_16, mx_17, mx_18, mx_19, mx_20, mx_21, mx_22, mx_23, mx_24, Nat.reduceAdd, Nat.reduceLeDiff, Nat.zero_add, Bool.not_eq_true', decide_eq_false_iff_not, reduceIte, ev_reprb, e_compareW, ap_compareW]
  cases a with
  | none => exact hq
  | some x =>
    cases b with
    | none => exact hq
    | some y =>
      simp only [oS, SU, Bool.false_eq_true, if_false, if_true]
      refine cw_ff (x := x) (y := y) (h1 _ rfl) (h2 _ rfl) ?_
      simp only [wS, wE, wA, wT, wI, wO, ev_add, ev_sub, ev_mul, ev_div, ev_mod, ev_pow, ev_cat, ev_lt, ev_le, ev_gt, ev_ge, ev_eq, ev_ne, ev_eqs, ev_nes, ix_F0, ix_F1, ix_J0, ix_J1, ix_P0, ix_P1, ix_P2, ix_t0, ix_t1, ix_t2, ix_l0, ix_l1, ix_l2, tg_1, tg_F, tg_J, tg_P, tg_2, tg_3, tg_4, fold_J, eq_F, ne_F, eq_J, ne_J, eq_P, ne_P, db_, di_, setVals, setAll, datas, itemsD, truD, List.getElem?_cons_zero, List.getElem?_cons_succ, List.set_cons_zero, List.set_cons_succ, Option.map_some, Option.map_none, Option.some.injEq, exists_eq_left', decide_eq_true_eq, Bool.not_true, Bool.not_false, Bool.false_eq_true, if_false, if_true, true_and, and_true, decide_true, decide_false, List.length_cons, List.length_nil, mx_0, mx_1, mx_2, mx_3, mx_4, mx_5, mx_6, mx_7, mx_8, mx_9, mx_10, mx_11, mx_12, mx_13, mx_14, mx_15, mx_16, mx_17, mx_18, mx_19, mx_20, mx_21, mx_22, mx_23, mx_24, Nat.reduceAdd, Nat.reduceLeDiff, Nat.zero_add, Bool.not_eq_true', decide_eq_false_iff_not, reduceIte, ev_reprb, sg_gt0]
      unfold mno at hq
      simp only at hq
      split
      · rename_i h
        rw [if_pos (by grind)] at hq
        exact hq
      · rename_i h
        rw [if_neg (by grind)] at hq
        exact hq
theorem sem_order_of (e_compareW : Φ 67 = sp_compareW) : ∀ ds Q, sp_order_of ds Q → wS Φ rs_order_of { nx := fun _ => Q (.d .none), rt := Q } (startD ["x0", "x1"] ds) := by
  rintro ds Q ⟨a, b, rfl, h1, h2, hq⟩
  show wS Φ rs_order_of _ [some (.val (.d (oS a))), some (.val (.d (oS b)))]
  simp only [rs_order_of, wS, wE, wA, wT, wI, wO, ev_add, ev_sub, ev_mul, ev_div, ev_mod, ev_pow, ev_cat, ev_lt, ev_le, ev_gt, ev_ge, ev_eq, ev_ne, ev_eqs, ev_nes, ix_F0, ix_F1, ix_J0, ix_J1, ix_P0, ix_P1, ix_P2, ix_t0, ix_t1, ix_t2, ix_l0, ix_l1, ix_l2, tg_1, tg_F, tg_J, tg_P, tg_2, tg_3, tg_4, fold_J, eq_F, ne_F, eq_J, ne_J, eq_P, ne_P, db_, di_, setVals, setAll, datas, itemsD, truD, List.getElem?_cons_zero, List.getElem?_cons_succ, List.set_cons_zero, List.set_cons_succ, Option.map_some, Option.map_none, Option.some.injEq, exists_eq_left', decide_eq_true_eq, Bool.not_true, Bool.not_false, Bool.false_eq_true, if_false, if_true, true_and, and_true, decide_true, decide_false, List.length_cons, List.length_nil, mx_0, mx_1, mx_2, mx_3, mx_4, mx_5, mx_6, mx_7, mx_8, mx_9, mx_10, mx_11, mx_12, mx_13, mx_14, mx_15, mx_16, mx_17, mx_18, mx_19, mx_20, mx_21, mx_22, mx_23, mx_24, Nat.reduceAdd, Nat.reduceLeDiff, Nat.zero_add, Bool.not_eq_true', decide_eq_false_iff_not, reduceIte, ev_reprb, e_compareW, ap_compareW]
  cases a with
  | none => exact hq
  | some x =>
    cases b with
    | none => exact hq
    | some y =>
      simp only [oS, SU, Bool.false_eq_true, if_false, if_true]
      exact cw_ff (x := x) (y := y) (h1 _ rfl) (h2 _ rfl) hq
theorem sem_is_within (e_compareW : Φ 67 = sp_compareW) : ∀ ds Q, sp_is_within ds Q → wS Φ rs_is_within { nx := fun _ => Q (.d .none), rt := Q } (startD ["x0", "x1", "x2"] ds) := by
  rintro ds Q ⟨p, e, q, a, b, rfl, h1, h2, h3, hq⟩
  show wS Φ rs_is_within _ [some (.val (.d (SU p e q))), some (.val (.d (oS a))), some (.val (.d (oS b)))]
  simp only [rs_is_within, wS, wE, wA, wT, wI, wO, ev_add, ev_sub, ev_mul, ev_div, ev_mod, ev_pow, ev_cat, ev_lt, ev_le, ev_gt, ev_ge, ev_eq, ev_ne, ev_eqs, ev_nes, ix_F0, ix_F1, ix_J0, ix_J1, ix_P0, ix_P1, ix_P2, ix_t0, ix_t1, ix_t2, ix_l0, ix_l1, ix_l2, tg_1, tg_F, tg_J, tg_P, tg_2, tg_3, tg_4, fold_J, eq_F, ne_F, eq_J, ne_J, eq_P, ne_P, db_, di_, setVals, setAll, datas, itemsD, truD, List.getElem?_cons_zero, List.getElem?_cons_succ, List.set_cons_zero, List.set_cons_succ, Option.map_some, Option.map_none, Option.some.injEq, exists_eq_left', decide_eq_true_eq, Bool.not_true, Bool.not_false, Bool.false_eq_true, if_false, if_true, true_and, and_true, decide_true, decide_false, List.length_cons, List.length_nil, mx_0, mx_1, mx_2, mx_3, mx_4, mx_5, mx_6, mx_7, mx_8, mx_9, mx_10, mx_11, mx_12, mx_13, mx_14, mx_15, mx_16, mx_17, mx_18, mx_19, mx_20, mx_21, mx_22, mx_23, mx_24, Nat.reduceAdd, Nat.reduceLeDiff, Nat.zero_add, Bool.not_eq_true', decide_eq_false_iff_not, reduceIte, ev_reprb, e_compareW, ap_compareW]
  cases a with
  | none =>
    cases b with
    | none => exact hq
    | some u =>
      simp only [oS, SU, Bool.false_eq_true, if_false, if_true]
      exact cw_l h1 (h3 u rfl) hq
  | some v =>
    cases b with
    | none =>
      simp only [oS, SU, Bool.false_eq_true, if_false, if_true]
      refine cw_r h1 (h2 v rfl) ?_
      simp only [wS, wE, wA, wT, wI, wO, ev_add, ev_sub, ev_mul, ev_div, ev_mod, ev_pow, ev_cat, ev_lt, ev_le, ev_gt, ev_ge, ev_eq, ev_ne, ev_eqs, ev_nes, ix_F0, ix_F1, ix_J0, ix_J1, ix_P0, ix_P1, ix_P2, ix_t0, ix_t1, ix_t2, ix_l0, ix_l1, ix_l2, tg_1, tg_F, tg_J, tg_P, tg_2, tg_3, tg_4, fold_J, eq_F, ne_F, eq_J, ne_J, eq_P, ne_P, db_, di_, setVals, setAll, datas, itemsD, truD, List.getElem?_cons_zero, List.getElem?_cons_succ, List.set_cons_zero, List.set_cons_succ, Option.map_some, Option.map_none, Option.some.injEq, exists_eq_left', decide_eq_true_eq, Bool.not_true, Bool.not_false, Bool.false_eq_true, if_false, if_true, true_and, and_true, decide_true, decide_false, List.length_cons, List.length_nil, mx_0, mx_1, mx_2, mx_3, mx_4, mx_5, mx_6, mx_7, mx_8, mx_9, mx_10, mx_11, mx_12, mx_13, mx_14, mx_15, mx_16, mx_17, mx_18, mx_19, mx_20, mx_21, mx_22, mx_23, mx_24, Nat.reduceAdd, Nat.reduceLeDiff, Nat.zero_add, Bool.not_eq_true', decide_eq_false_iff_not, reduceIte, ev_reprb]
      by_cases c : cmS (v, 0, 0) (p, e, q) ≤ 0
      · rw [if_pos c]
        simp only [wIn, c, decide_true, Bool.true_and] at hq
        exact hq
      · rw [if_neg c]
        simp only [wIn, c, decide_false, Bool.false_and] at hq
        exact hq
    | some u =>
      simp only [oS, SU, Bool.false_eq_true, if_false, if_true]
      refine cw_r h1 (h2 v rfl) ?_
      simp only [wS, wE, wA, wT, wI, wO, ev_add, ev_sub, ev_mul, ev_div, ev_mod, ev_pow, ev_cat, ev_lt, ev_le, ev_gt, ev_ge, ev_eq, ev_ne, ev_eqs, ev_nes, ix_F0, ix_F1, ix_J0, ix_J1, ix_P0, ix_P1, ix_P2, ix_t0, ix_t1, ix_t2, ix_l0, ix_l1, ix_l2, tg_1, tg_F, tg_J, tg_P, tg_2, tg_3, tg_4, fold_J, eq_F, ne_F, eq_J, ne_J, eq_P, ne_P, db_, di_, setVals, setAll, datas, itemsD, truD, List.getElem?_cons_zero, List.getElem?_cons_succ, List.set_cons_zero, List.set_cons_succ, Option.map_some, Option.map_none, Option.some.injEq, exists_eq_left', decide_eq_true_eq, Bool.not_true, Bool.not_false, Bool.false_eq_true, if_false, if_true, true_and, and_true, decide_true, decide_false, List.length_cons, List.length_nil, mx_0, mx_1, mx_2, mx_3, mx_4, mx_5, mx_6, mx_7, mx_8, mx_9, mx_10, mx_11, mx_12, mx_13, mx_14, mx_15, mx_16, mx_17, mx_18, mx_19, mx_20, mx_21, mx_22, mx_23, mx_24, Nat.reduceAdd, Nat.reduceLeDiff, Nat.zero_add, Bool.not_eq_true', decide_eq_false_iff_not, reduceIte, ev_reprb]
      by_cases c : cmS (v, 0, 0) (p, e, q) ≤ 0
      · rw [if_pos c]
        simp only [wIn, c, decide_true, Bool.true_and] at hq
        exact cw_l h1 (h3 u rfl) hq
      · rw [if_neg c]
        simp only [wIn, c, decide_false, Bool.false_and] at hq
        exact hq
theorem sem_water_at (e_check_stream : Φ 257 = sp_check_stream) (e_check_fraction : Φ 13 = sp_check_fraction) (e_stretch_of : Φ 261 = sp_stretch_of) (e_is_within : Φ 177 = sp_is_within) (e_value_at : Φ 75 = sp_value_at) (e_water_of : Φ 260 = sp_water_of) (e_as_surd : Φ 94 = sp_as_surd) : ∀ ds Q, sp_water_at ds Q → wS Φ rs_water_at { nx := fun _ => Q (.d .none), rt := Q } (startD ["x0", "x1", "x2", "x3"] ds) := by
  rintro ds Q ⟨x, y, w, s, b, q, rfl, h1, h2, h3, h4, h5, h6, h7, hq⟩
  show wS Φ rs_water_at _ [some (.val (.d (ST x y w s b))), some (.val (.d (F q))), none, none]
  simp only [rs_water_at, wS, wE, wA, wT, wI, wO, ev_add, ev_sub, ev_mul, ev_div, ev_mod, ev_pow, ev_cat, ev_lt, ev_le, ev_gt, ev_ge, ev_eq, ev_ne, ev_eqs, ev_nes, ix_F0, ix_F1, ix_J0, ix_J1, ix_P0, ix_P1, ix_P2, ix_t0, ix_t1, ix_t2, ix_l0, ix_l1, ix_l2, tg_1, tg_F, tg_J, tg_P, tg_2, tg_3, tg_4, fold_J, eq_F, ne_F, eq_J, ne_J, eq_P, ne_P, db_, di_, setVals, setAll, datas, itemsD, truD, List.getElem?_cons_zero, List.getElem?_cons_succ, List.set_cons_zero, List.set_cons_succ, Option.map_some, Option.map_none, Option.some.injEq, exists_eq_left', decide_eq_true_eq, Bool.not_true, Bool.not_false, Bool.false_eq_true, if_false, if_true, true_and, and_true, decide_true, decide_false, List.length_cons, List.length_nil, mx_0, mx_1, mx_2, mx_3, mx_4, mx_5, mx_6, mx_7, mx_8, mx_9, mx_10, mx_11, mx_12, mx_13, mx_14, mx_15, mx_16, mx_17, mx_18, mx_19, mx_20, mx_21, mx_22, mx_23, mx_24, Nat.reduceAdd, Nat.reduceLeDiff, Nat.zero_add, Bool.not_eq_true', decide_eq_false_iff_not, reduceIte, ev_reprb, e_check_stream, e_check_fraction, e_stretch_of, e_is_within, e_value_at, e_water_of, e_as_surd, ap_check_stream, ap_check_fraction, ap_stretch_of, ap_is_within, ap_value_at, ap_water_of, ap_as_surd, tg_st, isF_F]
  have hz : Zp 8000 x y := (h3.pt h4).mono (by decide)
  refine ⟨h1, h2, hz, zW_f (h7.mono (by decide)), (oz6_side h3).1, (oz6_side h3).2, ?_⟩
  rw [has_in h1]
  by_cases c : has x w q
  · rw [if_pos c] at hq
    simp only [c, decide_true, if_true]
    have zA := zf_kA h1 h3 h4 h5 h6
    have zB := zf_kB (s := s) h1 h3 h5 h6
    exact ⟨h1, h3.mono (by decide), h4, h5, h6.mono (by decide), zA.mono (by decide), zB.mono (by decide), h6.neg.mono (by decide), h7.mono (by decide), hq⟩
  · rw [if_neg c] at hq
    simp only [c, decide_false, Bool.false_eq_true, if_false]
    exact hq
theorem sem_growth_at (e_plus : Φ 48 = sp_plus) (e_times : Φ 51 = sp_times) : ∀ ds Q, sp_growth_at ds Q → wS Φ rs_growth_at { nx := fun _ => Q (.d .none), rt := Q } (startD ["x0", "x1"] ds) := by
  rintro ds Q ⟨a, b, c, x, rfl, h1, h2, h3, hq⟩
  show wS Φ rs_growth_at _ [some (.val (.d (.tuple [F a, F b, F c]))), some (.val (.d (F x)))]
  simp only [rs_growth_at, wS, wE, wA, wT, wI, wO, ev_add, ev_sub, ev_mul, ev_div, ev_mod, ev_pow, ev_cat, ev_lt, ev_le, ev_gt, ev_ge, ev_eq, ev_ne, ev_eqs, ev_nes, ix_F0, ix_F1, ix_J0, ix_J1, ix_P0, ix_P1, ix_P2, ix_t0, ix_t1, ix_t2, ix_l0, ix_l1, ix_l2, tg_1, tg_F, tg_J, tg_P, tg_2, tg_3, tg_4, fold_J, eq_F, ne_F, eq_J, ne_J, eq_P, ne_P, db_, di_, setVals, setAll, datas, itemsD, truD, List.getElem?_cons_zero, List.getElem?_cons_succ, List.set_cons_zero, List.set_cons_succ, Option.map_some, Option.map_none, Option.some.injEq, exists_eq_left', decide_eq_true_eq, Bool.not_true, Bool.not_false, Bool.false_eq_true, if_false, if_true, true_and, and_true, decide_true, decide_false, List.length_cons, List.length_nil, mx_0, mx_1, mx_2, mx_3, mx_4, mx_5, mx_6, mx_7, mx_8, mx_9, mx_10, mx_11, mx_12, mx_13, mx_14, mx_15, mx_16, mx_17, mx_18, mx_19, mx_20, mx_21, mx_22, mx_23, mx_24, Nat.reduceAdd, Nat.reduceLeDiff, Nat.zero_add, Bool.not_eq_true', decide_eq_false_iff_not, reduceIte, ev_reprb, e_plus, e_times, ap_plus, ap_times, lit_2]
  walk_at "fin"
theorem sem_halves_at (e_value_at : Φ 75 = sp_value_at) (e_times : Φ 51 = sp_times) (e_plus : Φ 48 = sp_plus) (e_growth_at : Φ 178 = sp_growth_at) : ∀ ds Q, sp_halves_at ds Q → wS Φ rs_halves_at { nx := fun _ => Q (.d .none), rt := Q } (startD ["x0", "x1", "x2", "x3", "x4", "x5"] ds) := by
  rintro ds Q ⟨c, g, a, p, e, q, rfl, h1, h2, h3, h4, h5, h6, hq⟩
  show wS Φ rs_halves_at _ [some (.val (.d (.tuple [F c, F g, F a]))), some (.val (.d (SU p e q))), none, none, none, none]
  simp only [rs_halves_at, wS, wE, wA, wT, wI, wO, ev_add, ev_sub, ev_mul, ev_div, ev_mod, ev_pow, ev_cat, ev_lt, ev_le, ev_gt, ev_ge, ev_eq, ev_ne, ev_eqs, ev_nes, ix_F0, ix_F1, ix_J0, ix_J1, ix_P0, ix_P1, ix_P2, ix_t0, ix_t1, ix_t2, ix_l0, ix_l1, ix_l2, tg_1, tg_F, tg_J, tg_P, tg_2, tg_3, tg_4, fold_J, eq_F, ne_F, eq_J, ne_J, eq_P, ne_P, db_, di_, setVals, setAll, datas, itemsD, truD, List.getElem?_cons_zero, List.getElem?_cons_succ, List.set_cons_zero, List.set_cons_succ, Option.map_some, Option.map_none, Option.some.injEq, exists_eq_left', decide_eq_true_eq, Bool.not_true, Bool.not_false, Bool.false_eq_true, if_false, if_true, true_and, and_true, decide_true, decide_false, List.length_cons, List.length_nil, mx_0, mx_1, mx_2, mx_3, mx_4, mx_5, mx_6, mx_7, mx_8, mx_9, mx_10, mx_11, mx_12, mx_13, mx_14, mx_15, mx_16, mx_17, mx_18, mx_19, mx_20, mx_21, mx_22, mx_23, mx_24, Nat.reduceAdd, Nat.reduceLeDiff, Nat.zero_add, Bool.not_eq_true', decide_eq_false_iff_not, reduceIte, ev_reprb, e_value_at, e_times, e_plus, e_growth_at, ap_value_at, ap_times, ap_plus, ap_growth_at, tg_SU, tupI]
  have ze := zf_e h1.e
  exact ⟨by walk_at "sz", by walk_at "sz", by walk_at "sz", by walk_at "sz", by walk_at "sz", by walk_at "sz", by walk_at "sz", by walk_at "sz", by walk_at "sz", by walk_at "sz", by walk_at "sz", by walk_at "sz", by walk_at "sz", hq⟩
theorem sem_surd_at (e_halves_at : Φ 179 = sp_halves_at) (e_surd_of : Φ 52 = sp_surd_of) : ∀ ds Q, sp_surd_at ds Q → wS Φ rs_surd_at { nx := fun _ => Q (.d .none), rt := Q } (startD ["x0", "x1", "x2", "x3"] ds) := by
  rintro ds Q ⟨c, g, a, p, e, q, rfl, h1, h2, h3, h4, hq⟩
  show wS Φ rs_surd_at _ [some (.val (.d (.tuple [F c, F g, F a]))), some (.val (.d (SU p e q))), none, none]
  simp only [rs_surd_at, wS, wE, wA, wT, wI, wO, ev_add, ev_sub, ev_mul, ev_div, ev_mod, ev_pow, ev_cat, ev_lt, ev_le, ev_gt, ev_ge, ev_eq, ev_ne, ev_eqs, ev_nes, ix_F0, ix_F1, ix_J0, ix_J1, ix_P0, ix_P1, ix_P2, ix_t0, ix_t1, ix_t2, ix_l0, ix_l1, ix_l2, tg_1, tg_F, tg_J, tg_P, tg_2, tg_3, tg_4, fold_J, eq_F, ne_F, eq_J, ne_J, eq_P, ne_P, db_, di_, setVals, setAll, datas, itemsD, truD, List.getElem?_cons_zero, List.getElem?_cons_succ, List.set_cons_zero, List.set_cons_succ, Option.map_some, Option.map_none, Option.some.injEq, exists_eq_left', decide_eq_true_eq, Bool.not_true, Bool.not_false, Bool.false_eq_true, if_false, if_true, true_and, and_true, decide_true, decide_false, List.length_cons, List.length_nil, mx_0, mx_1, mx_2, mx_3, mx_4, mx_5, mx_6, mx_7, mx_8, mx_9, mx_10, mx_11, mx_12, mx_13, mx_14, mx_15, mx_16, mx_17, mx_18, mx_19, mx_20, mx_21, mx_22, mx_23, mx_24, Nat.reduceAdd, Nat.reduceLeDiff, Nat.zero_add, Bool.not_eq_true', decide_eq_false_iff_not, reduceIte, ev_reprb, e_halves_at, e_surd_of, ap_halves_at, ap_surd_of, ix_SU2]
  obtain ⟨y1, y2, y3, y4⟩ := h1
  have y1 : sdOk p e q := y1
  have y2 : Zf 430 p := y2
  have y3 : Zf 565 q := y3
  have ze := zf_e y1.e
  exact ⟨y1, h2.mono (by decide), h3.mono (by decide), h4.mono (by decide), y2, y3, y1.q, by walk_at "sz", by walk_at "sz", by walk_at "sz", hq⟩
theorem sem_Lsign : ∀ ds Q, sp_Lsign ds Q → wS Φ rs_Lsign { nx := fun _ => Q (.d .none), rt := Q } (startD ["x0"] ds) := by
  rintro ds Q ⟨n, rfl, hq⟩
  show wS Φ rs_Lsign _ [some (.val (.d (.int n)))]
  simp only [rs_Lsign, wS, wE, wA, wT, wI, wO, ev_add, ev_sub, ev_mul, ev_div, ev_mod, ev_pow, ev_cat, ev_lt, ev_le, ev_gt, ev_ge, ev_eq, ev_ne, ev_eqs, ev_nes, ix_F0, ix_F1, ix_J0, ix_J1, ix_P0, ix_P1, ix_P2, ix_t0, ix_t1, ix_t2, ix_l0, ix_l1, ix_l2, tg_1, tg_F, tg_J, tg_P, tg_2, tg_3, tg_4, fold_J, eq_F, ne_F, eq_J, ne_J, eq_P, ne_P, db_, di_, setVals, setAll, datas, itemsD, truD, List.getElem?_cons_zero, List.getElem?_cons_succ, List.set_cons_zero, List.set_cons_succ, Option.map_some, Option.map_none, Option.some.injEq, exists_eq_left', decide_eq_true_eq, Bool.not_true, Bool.not_false, Bool.false_eq_true, if_false, if_true, true_and, and_true, decide_true, decide_false, List.length_cons, List.length_nil, mx_0, mx_1, mx_2, mx_3, mx_4, mx_5, mx_6, mx_7, mx_8, mx_9, mx_10, mx_11, mx_12, mx_13, mx_14, mx_15, mx_16, mx_17, mx_18, mx_19, mx_20, mx_21, mx_22, mx_23, mx_24, Nat.reduceAdd, Nat.reduceLeDiff, Nat.zero_add, Bool.not_eq_true', decide_eq_false_iff_not, reduceIte, ev_reprb, ev_intb]
  have : (if 0 < n then (1 : Int) else 0) - (if n < 0 then 1 else 0) = sgI n := by
    unfold sgI
    split <;> split <;> omega
  rw [this]
  exact hq
theorem sem_Morder (e_Lsign : Φ 193 = sp_Lsign) : ∀ ds Q, sp_Morder ds Q → wS Φ rs_Morder { nx := fun _ => Q (.d .none), rt := Q } (startD ["x0", "x1"] ds) := by
  rintro ds Q ⟨x, y, rfl, h1, h2, hq⟩
  show wS Φ rs_Morder _ [some (.val (.d (F x))), some (.val (.d (F y)))]
  simp only [rs_Morder, wS, wE, wA, wT, wI, wO, ev_add, ev_sub, ev_mul, ev_div, ev_mod, ev_pow, ev_cat, ev_lt, ev_le, ev_gt, ev_ge, ev_eq, ev_ne, ev_eqs, ev_nes, ix_F0, ix_F1, ix_J0, ix_J1, ix_P0, ix_P1, ix_P2, ix_t0, ix_t1, ix_t2, ix_l0, ix_l1, ix_l2, tg_1, tg_F, tg_J, tg_P, tg_2, tg_3, tg_4, fold_J, eq_F, ne_F, eq_J, ne_J, eq_P, ne_P, db_, di_, setVals, setAll, datas, itemsD, truD, List.getElem?_cons_zero, List.getElem?_cons_succ, List.set_cons_zero, List.set_cons_succ, Option.map_some, Option.map_none, Option.some.injEq, exists_eq_left', decide_eq_true_eq, Bool.not_true, Bool.not_false, Bool.false_eq_true, if_false, if_true, true_and, and_true, decide_true, decide_false, List.length_cons, List.length_nil, mx_0, mx_1, mx_2, mx_3, mx_4, mx_5, mx_6, mx_7, mx_8, mx_9, mx_10, mx_11, mx_12, mx_13, mx_14, mx_15, mx_16, mx_17, mx_18, mx_19, mx_20, mx_21, mx_22, mx_23, mx_24, Nat.reduceAdd, Nat.reduceLeDiff, Nat.zero_add, Bool.not_eq_true', decide_eq_false_iff_not, reduceIte, ev_reprb, e_Lsign, ap_Lsign, sg_cross]
  exact ⟨cm3 h1.n h2.d, cm3 h2.n h1.d, hq⟩
theorem sem_Lcurve (e_Lapart : Φ 230 = sp_Lapart) (e_Lplus : Φ 223 = sp_Lplus) (e_Ltimes : Φ 224 = sp_Ltimes) (e_Mless : Φ 59 = sp_Mless) : ∀ ds Q, sp_Lcurve ds Q → wS Φ rs_Lcurve { nx := fun _ => Q (.d .none), rt := Q } (startD ["x0", "x1", "x2", "x3", "x4", "x5", "x6", "x7", "x8", "x9"] ds) := by
  rintro ds Q ⟨x, y, w, s, b, rfl, h1, h2, h3, h4, h5, hq⟩
  show wS Φ rs_Lcurve _ [some (.val (.d (ST x y w s b))), none, none, none, none, none, none, none, none, none]
  simp only [rs_Lcurve, wS, wE, wA, wT, wI, wO, ev_add, ev_sub, ev_mul, ev_div, ev_mod, ev_pow, ev_cat, ev_lt, ev_le, ev_gt, ev_ge, ev_eq, ev_ne, ev_eqs, ev_nes, ix_F0, ix_F1, ix_J0, ix_J1, ix_P0, ix_P1, ix_P2, ix_t0, ix_t1, ix_t2, ix_l0, ix_l1, ix_l2, tg_1, tg_F, tg_J, tg_P, tg_2, tg_3, tg_4, fold_J, eq_F, ne_F, eq_J, ne_J, eq_P, ne_P, db_, di_, setVals, setAll, datas, itemsD, truD, List.getElem?_cons_zero, List.getElem?_cons_succ, List.set_cons_zero, List.set_cons_succ, Option.map_some, Option.map_none, Option.some.injEq, exists_eq_left', decide_eq_true_eq, Bool.not_true, Bool.not_false, Bool.false_eq_true, if_false, if_true, true_and, and_true, decide_true, decide_false, List.length_cons, List.length_nil, mx_0, mx_1, mx_2, mx_3, mx_4, mx_5, mx_6, mx_7, mx_8, mx_9, mx_10, mx_11, mx_12, mx_13, mx_14, mx_15, mx_16, mx_17, mx_18, mx_19, mx_20, mx_21, mx_22, mx_23, mx_24, Nat.reduceAdd, Nat.reduceLeDiff, Nat.zero_add, Bool.not_eq_true', decide_eq_false_iff_not, reduceIte, ev_reprb, e_Lapart, e_Lplus, e_Ltimes, e_Mless, ap_Lapart, ap_Lplus, ap_Ltimes, ap_Mless, tg_ST]
  have zw := zf_w h1
  have hz : Zp 8000 x y := (h2.pt h3).mono (by decide)
  refine ⟨hz, cm3 (zw.n.mono (by decide)) (h4.n.mono (by decide)), by walk_at "sz", by walk_at "sz", ?_⟩
  rw [w_F h1]
  simp only [lit_2, F_neg, wS, wE, wA, wT, wI, wO, ev_add, ev_sub, ev_mul, ev_div, ev_mod, ev_pow, ev_cat, ev_lt, ev_le, ev_gt, ev_ge, ev_eq, ev_ne, ev_eqs, ev_nes, ix_F0, ix_F1, ix_J0, ix_J1, ix_P0, ix_P1, ix_P2, ix_t0, ix_t1, ix_t2, ix_l0, ix_l1, ix_l2, tg_1, tg_F, tg_J, tg_P, tg_2, tg_3, tg_4, fold_J, eq_F, ne_F, eq_J, ne_J, eq_P, ne_P, db_, di_, setVals, setAll, datas, itemsD, truD, List.getElem?_cons_zero, List.getElem?_cons_succ, List.set_cons_zero, List.set_cons_succ, Option.map_some, Option.map_none, Option.some.injEq, exists_eq_left', decide_eq_true_eq, Bool.not_true, Bool.not_false, Bool.false_eq_true, if_false, if_true, true_and, and_true, decide_true, decide_false, List.length_cons, List.length_nil, mx_0, mx_1, mx_2, mx_3, mx_4, mx_5, mx_6, mx_7, mx_8, mx_9, mx_10, mx_11, mx_12, mx_13, mx_14, mx_15, mx_16, mx_17, mx_18, mx_19, mx_20, mx_21, mx_22, mx_23, mx_24, Nat.reduceAdd, Nat.reduceLeDiff, Nat.zero_add, Bool.not_eq_true', decide_eq_false_iff_not, reduceIte, ev_reprb, e_Lapart, e_Lplus, e_Ltimes, e_Mless, ap_Lapart, ap_Lplus, ap_Ltimes, ap_Mless]
  refine ⟨by walk_at "sz", by walk_at "sz", by walk_at "sz", by walk_at "sz", by walk_at "sz", by walk_at "sz", by walk_at "sz", by walk_at "sz", by walk_at "sz", by walk_at "sz", by walk_at "sz", by walk_at "sz", by walk_at "sz", by walk_at "sz", ?_⟩
  exact hq
theorem sem_Lstream (e_Lpoint : Φ 237 = sp_Lpoint) (e_Lpart : Φ 221 = sp_Lpart) (e_Mdraw : Φ 0 = sp_Mdraw) (e_Mjet : Φ 68 = sp_Mjet) : ∀ ds Q, sp_Lstream ds Q → wS Φ rs_Lstream { nx := fun _ => Q (.d .none), rt := Q } (startD ["x0", "x1"] ds) := by
  rintro ds Q ⟨rfl, hq⟩
  show wS Φ rs_Lstream _ [some (.val (.vat)), none]
  simp only [rs_Lstream, wS, wE, wA, wT, wI, wO, ev_add, ev_sub, ev_mul, ev_div, ev_mod, ev_pow, ev_cat, ev_lt, ev_le, ev_gt, ev_ge, ev_eq, ev_ne, ev_eqs, ev_nes, ix_F0, ix_F1, ix_J0, ix_J1, ix_P0, ix_P1, ix_P2, ix_t0, ix_t1, ix_t2, ix_l0, ix_l1, ix_l2, tg_1, tg_F, tg_J, tg_P, tg_2, tg_3, tg_4, fold_J, eq_F, ne_F, eq_J, ne_J, eq_P, ne_P, db_, di_, setVals, setAll, datas, itemsD, truD, List.getElem?_cons_zero, List.getElem?_cons_succ, List.set_cons_zero, List.set_cons_succ, Option.map_some, Option.map_none, Option.some.injEq, exists_eq_left', decide_eq_true_eq, Bool.not_true, Bool.not_false, Bool.false_eq_true, if_false, if_true, true_and, and_true, decide_true, decide_false, List.length_cons, List.length_nil, mx_0, mx_1, mx_2, mx_3, mx_4, mx_5, mx_6, mx_7, mx_8, mx_9, mx_10, mx_11, mx_12, mx_13, mx_14, mx_15, mx_16, mx_17, mx_18, mx_19, mx_20, mx_21, mx_22, mx_23, mx_24, Nat.reduceAdd, Nat.reduceLeDiff, Nat.zero_add, Bool.not_eq_true', decide_eq_false_iff_not, reduceIte, ev_reprb, e_Lpoint, e_Lpart, e_Mdraw, e_Mjet, ap_Lpoint, ap_Lpart, ap_Mdraw, ap_Mjet, fold_ST]
  intro x zx y zy
  refine ⟨by walk_at "sz", by walk_at "sz", by decide, by decide, fun r r0 r1 => ⟨.inl (.inl ⟨by omega, by omega⟩), fun s b hb zs zb => ?_⟩⟩
  exact hq _ _ _ _ _ (by unfold Wy; omega) hb zx zy zs zb
theorem sem_Lfar_x (e_Lapart : Φ 230 = sp_Lapart) (e_Lplus : Φ 223 = sp_Lplus) (e_Mless : Φ 59 = sp_Mless) (e_Msize : Φ 2 = sp_Msize) : ∀ ds Q, sp_Lfar_x ds Q → wS Φ rs_Lfar_x { nx := fun _ => Q (.d .none), rt := Q } (startD ["x0", "x1", "x2"] ds) := by
  rintro ds Q ⟨x, y, w, s, b, rfl, h1, h2, h3, hq⟩
  show wS Φ rs_Lfar_x _ [some (.val (.vat)), some (.val (.d (ST x y w s b))), none]
  simp only [rs_Lfar_x, wS, wE, wA, wT, wI, wO, ev_add, ev_sub, ev_mul, ev_div, ev_mod, ev_pow, ev_cat, ev_lt, ev_le, ev_gt, ev_ge, ev_eq, ev_ne, ev_eqs, ev_nes, ix_F0, ix_F1, ix_J0, ix_J1, ix_P0, ix_P1, ix_P2, ix_t0, ix_t1, ix_t2, ix_l0, ix_l1, ix_l2, tg_1, tg_F, tg_J, tg_P, tg_2, tg_3, tg_4, fold_J, eq_F, ne_F, eq_J, ne_J, eq_P, ne_P, db_, di_, setVals, setAll, datas, itemsD, truD, List.getElem?_cons_zero, List.getElem?_cons_succ, List.set_cons_zero, List.set_cons_succ, Option.map_some, Option.map_none, Option.some.injEq, exists_eq_left', decide_eq_true_eq, Bool.not_true, Bool.not_false, Bool.false_eq_true, if_false, if_true, true_and, and_true, decide_true, decide_false, List.length_cons, List.length_nil, mx_0, mx_1, mx_2, mx_3, mx_4, mx_5, mx_6, mx_7, mx_8, mx_9, mx_10, mx_11, mx_12, mx_13, mx_14, mx_15, mx_16, mx_17, mx_18, mx_19, mx_20, mx_21, mx_22, mx_23, mx_24, Nat.reduceAdd, Nat.reduceLeDiff, Nat.zero_add, Bool.not_eq_true', decide_eq_false_iff_not, reduceIte, ev_reprb, e_Lapart, e_Lplus, e_Mless, e_Msize, ap_Lapart, ap_Lplus, ap_Mless, ap_Msize, ix_ST0, ix_ST1]
  have hz : Zp 8000 x y := (h2.pt h3).mono (by decide)
  refine ⟨hz, ?_⟩
  split
  · rename_i h
    subst h
    refine fun z z0 zz => ⟨by walk_at "sz", by walk_at "sz", ?_⟩
    have := hq z z0 zz
    rw [i1, Rat.one_mul] at this
    exact this
  · rename_i h
    have e : w = -1 := by rcases h1 with rfl | rfl <;> trivial
    subst e
    refine fun z z0 zz => ⟨by walk_at "sz", by walk_at "sz", ?_⟩
    have := hq z z0 zz
    rw [im1, show x + -1 * z = x - z by grind] at this
    exact this
theorem sem_Lon_curve (e_Lcurve : Φ 243 = sp_Lcurve) (e_Lplus : Φ 223 = sp_Lplus) (e_Ltimes : Φ 224 = sp_Ltimes) (e_Lpoint : Φ 237 = sp_Lpoint) : ∀ ds Q, sp_Lon_curve ds Q → wS Φ rs_Lon_curve { nx := fun _ => Q (.d .none), rt := Q } (startD ["x0", "x1", "x2", "x3", "x4", "x5", "x6", "x7"] ds) := by
  rintro ds Q ⟨x, y, w, s, b, q, v, rfl, h1, h2, h3, h4, h5, h6, h7, hq⟩
  show wS Φ rs_Lon_curve _ [some (.val (.d (ST x y w s b))), some (.val (.d (F q))), some (.val (.d (.int v))), none, none, none, none, none]
  simp only [rs_Lon_curve, wS, wE, wA, wT, wI, wO, ev_add, ev_sub, ev_mul, ev_div, ev_mod, ev_pow, ev_cat, ev_lt, ev_le, ev_gt, ev_ge, ev_eq, ev_ne, ev_eqs, ev_nes, ix_F0, ix_F1, ix_J0, ix_J1, ix_P0, ix_P1, ix_P2, ix_t0, ix_t1, ix_t2, ix_l0, ix_l1, ix_l2, tg_1, tg_F, tg_J, tg_P, tg_2, tg_3, tg_4, fold_J, eq_F, ne_F, eq_J, ne_J, eq_P, ne_P, db_, di_, setVals, setAll, datas, itemsD, truD, List.getElem?_cons_zero, List.getElem?_cons_succ, List.set_cons_zero, List.set_cons_succ, Option.map_some, Option.map_none, Option.some.injEq, exists_eq_left', decide_eq_true_eq, Bool.not_true, Bool.not_false, Bool.false_eq_true, if_false, if_true, true_and, and_true, decide_true, decide_false, List.length_cons, List.length_nil, mx_0, mx_1, mx_2, mx_3, mx_4, mx_5, mx_6, mx_7, mx_8, mx_9, mx_10, mx_11, mx_12, mx_13, mx_14, mx_15, mx_16, mx_17, mx_18, mx_19, mx_20, mx_21, mx_22, mx_23, mx_24, Nat.reduceAdd, Nat.reduceLeDiff, Nat.zero_add, Bool.not_eq_true', decide_eq_false_iff_not, reduceIte, ev_reprb, e_Lcurve, e_Lplus, e_Ltimes, e_Lpoint, ap_Lcurve, ap_Lplus, ap_Ltimes, ap_Lpoint, ix_ST2, lit_2]
  have zA := zf_kA h1 h3 h4 h5 h6
  have zB := zf_kB (s := s) h1 h3 h5 h6
  refine ⟨h1, h3.mono (by decide), h4.mono (by decide), h5.mono (by decide), h6.mono (by decide), by walk_at "sz", by walk_at "sz", by walk_at "sz", by walk_at "sz", by walk_at "sz", by walk_at "sz", by walk_at "sz", by walk_at "sz", by walk_at "sz", by walk_at "sz", by walk_at "sz", by walk_at "sz", by walk_at "sz", by walk_at "sz", by walk_at "sz", by walk_at "sz", ?_, ?_⟩
  · have zz : Zf 3000 (kB x w s b + 2 * (-b * q)) := by walk_at "sz"
    exact cm3 ((zf_w h2).n.mono (by decide)) zz.n
  · rw [w_F h2]
    exact hq
theorem sem_is_stream (e_is_point : Φ 18 = sp_is_point) (e_is_whole : Φ 10 = sp_is_whole) (e_is_jet : Φ 72 = sp_is_jet) : ∀ ds Q, sp_is_stream ds Q → wS Φ rs_is_stream { nx := fun _ => Q (.d .none), rt := Q } (startD ["x0", "x1", "x2", "x3"] ds) := by
  rintro ds Q ⟨x, y, w, s, b, rfl, hq⟩
  show wS Φ rs_is_stream _ [some (.val (.d (ST x y w s b))), none, none, none]
  simp only [rs_is_stream, wS, wE, wA, wT, wI, wO, ev_add, ev_sub, ev_mul, ev_div, ev_mod, ev_pow, ev_cat, ev_lt, ev_le, ev_gt, ev_ge, ev_eq, ev_ne, ev_eqs, ev_nes, ix_F0, ix_F1, ix_J0, ix_J1, ix_P0, ix_P1, ix_P2, ix_t0, ix_t1, ix_t2, ix_l0, ix_l1, ix_l2, tg_1, tg_F, tg_J, tg_P, tg_2, tg_3, tg_4, fold_J, eq_F, ne_F, eq_J, ne_J, eq_P, ne_P, db_, di_, setVals, setAll, datas, itemsD, truD, List.getElem?_cons_zero, List.getElem?_cons_succ, List.set_cons_zero, List.set_cons_succ, Option.map_some, Option.map_none, Option.some.injEq, exists_eq_left', decide_eq_true_eq, Bool.not_true, Bool.not_false, Bool.false_eq_true, if_false, if_true, true_and, and_true, decide_true, decide_false, List.length_cons, List.length_nil, mx_0, mx_1, mx_2, mx_3, mx_4, mx_5, mx_6, mx_7, mx_8, mx_9, mx_10, mx_11, mx_12, mx_13, mx_14, mx_15, mx_16, mx_17, mx_18, mx_19, mx_20, mx_21, mx_22, mx_23, mx_24, Nat.reduceAdd, Nat.reduceLeDiff, Nat.zero_add, Bool.not_eq_true', decide_eq_false_iff_not, reduceIte, ev_reprb, e_is_point, e_is_whole, e_is_jet, ap_is_point, ap_is_whole, ap_is_jet, isP_P, isJ_J, isi_tuple, isT_ST, ev_len, len_ST, tg_ST, isW]
  rw [if_neg (by decide), if_neg (by simp)]
  by_cases c : w = 1
  · rw [if_pos c]
    simpa [c] using hq
  · rw [if_neg c]
    by_cases c2 : w = -1
    · rw [if_pos c2]
      simpa [c2] using hq
    · rw [if_neg c2]
      simpa [c, c2] using hq
theorem sem_check_stream (e_is_stream : Φ 256 = sp_is_stream) : ∀ ds Q, sp_check_stream ds Q → wS Φ rs_check_stream { nx := fun _ => Q (.d .none), rt := Q } (startD ["x0"] ds) := by
  rintro ds Q ⟨x, y, w, s, b, rfl, h1, h2, hq⟩
  show wS Φ rs_check_stream _ [some (.val (.d (ST x y w s b)))]
  simp only [rs_check_stream, wS, wE, wA, wT, wI, wO, ev_add, ev_sub, ev_mul, ev_div, ev_mod, ev_pow, ev_cat, ev_lt, ev_le, ev_gt, ev_ge, ev_eq, ev_ne, ev_eqs, ev_nes, ix_F0, ix_F1, ix_J0, ix_J1, ix_P0, ix_P1, ix_P2, ix_t0, ix_t1, ix_t2, ix_l0, ix_l1, ix_l2, tg_1, tg_F, tg_J, tg_P, tg_2, tg_3, tg_4, fold_J, eq_F, ne_F, eq_J, ne_J, eq_P, ne_P, db_, di_, setVals, setAll, datas, itemsD, truD, List.getElem?_cons_zero, List.getElem?_cons_succ, List.set_cons_zero, List.set_cons_succ, Option.map_some, Option.map_none, Option.some.injEq, exists_eq_left', decide_eq_true_eq, Bool.not_true, Bool.not_false, Bool.false_eq_true, if_false, if_true, true_and, and_true, decide_true, decide_false, List.length_cons, List.length_nil, mx_0, mx_1, mx_2, mx_3, mx_4, mx_5, mx_6, mx_7, mx_8, mx_9, mx_10, mx_11, mx_12, mx_13, mx_14, mx_15, mx_16, mx_17, mx_18, mx_19, mx_20, mx_21, mx_22, mx_23, mx_24, Nat.reduceAdd, Nat.reduceLeDiff, Nat.zero_add, Bool.not_eq_true', decide_eq_false_iff_not, reduceIte, ev_reprb, e_is_stream, ap_is_stream]
  rw [if_neg (by intro hh; exact hh ⟨h1, h2⟩)]
  exact hq
end
def q_common_1_b_1 : RS := (.par [1, 2] (.cons (.call 156 (.cons (.var 1) (.cons (.idx (.var 3) (.con (.int 0))) .nil))) (.cons (.call 157 (.cons (.var 2) (.cons (.idx (.var 3) (.con (.int 1))) .nil))) .nil)))
def q_common_1_b_0 : RS := (.seq (.iff (.bl (.isN (.var 3))) (.ret (.con .none)) .skip) q_common_1_b_1)
def q_common_2 : RS := (.ret (.ite (.bl (.cmp .gt (.call 158 (.cons (.var 1) (.cons (.var 2) .nil))) (.con (.int 0)))) (.con .none) (.tup (.cons (.var 1) (.cons (.var 2) .nil)))))
def q_common_1 : RS := (.seq (.for (.one 3) (.seq (.var 0)) q_common_1_b_0) q_common_2)
def q_common_0 : RS := (.seq (.asgT (.many [1, 2]) (.con (.tuple [.none, .none]))) q_common_1)
theorem q_common : rs_common = q_common_0 := rfl
def q_meeting_places_4 : RS := (.ret (.lc [4] (.one 4) (.seq (.call 95 (.cons (.var 3) .nil))) (.val (.call 177 (.cons (.var 4) (.cons (.idx (.var 2) (.con (.int 0))) (.cons (.idx (.var 2) (.con (.int 1))) .nil))))) (.var 4)))
def q_meeting_places_3 : RS := (.seq (.iff (.bl (.cmp .eq (.var 3) (.con (.tuple [(.tuple [(.int 0), (.int 1)]), (.tuple [(.int 0), (.int 1)]), (.tuple [(.int 0), (.int 1)])])))) (.ret (.ite (.bl (.cmp .eq (.call 158 (.cons (.idx (.var 2) (.con (.int 0))) (.cons (.idx (.var 2) (.con (.int 1))) .nil))) (.con (.int 0)))) (.lst (.cons (.idx (.var 2) (.con (.int 0))) .nil)) (.con .none))) .skip) q_meeting_places_4)
def q_meeting_places_2 : RS := (.seq (.asg 3 (.call 162 (.cons (.call 260 (.cons (.var 0) .nil)) (.cons (.call 260 (.cons (.var 1) .nil)) .nil)))) q_meeting_places_3)
def q_meeting_places_1 : RS := (.seq (.iff (.bl (.isN (.var 2))) (.ret (.lst .nil)) .skip) q_meeting_places_2)
def q_meeting_places_0 : RS := (.seq (.asg 2 (.call 159 (.cons (.lst (.cons (.call 261 (.cons (.var 0) .nil)) (.cons (.call 261 (.cons (.var 1) .nil)) .nil))) .nil))) q_meeting_places_1)
theorem q_meeting_places : rs_meeting_places = q_meeting_places_0 := rfl
def q_meetings_3 : RS := (.ret (.ite (.bl (.isN (.var 2))) (.con .none) (.bi .tuple (.cons (.lc [3] (.one 3) (.seq (.var 2)) .yes (.tup (.cons (.var 3) (.cons (.call 181 (.cons (.call 260 (.cons (.var 0) .nil)) (.cons (.var 3) .nil))) .nil)))) .nil))))
def q_meetings_2 : RS := (.seq (.asg 2 (.call 262 (.cons (.var 0) (.cons (.var 1) .nil)))) q_meetings_3)
def q_meetings_1 : RS := (.seq (.exp (.call 257 (.cons (.var 1) .nil))) q_meetings_2)
def q_meetings_0 : RS := (.seq (.exp (.call 257 (.cons (.var 0) .nil))) q_meetings_1)
theorem q_meetings : rs_meetings = q_meetings_0 := rfl
def q_first_there_4 : RS := (.ret (.look [(.int (-1), (.str (Str.ofString "first"))), (.int 0, (.str (Str.ofString "both"))), (.int 1, (.str (Str.ofString "other")))] (.call 96 (.cons (.call 181 (.cons (.call 162 (.cons (.call 259 (.cons (.var 0) .nil)) (.cons (.call 259 (.cons (.var 1) .nil)) .nil))) (.cons (.idx (.var 3) (.var 2)) .nil))) .nil))))
def q_first_there_3 : RS := (.seq (.iff (.or (.bl (.isN (.var 3))) (.or (.not (.val (.call 10 (.cons (.var 2) .nil)))) (.or (.bl (.cmp .lt (.var 2) (.con (.int 0)))) (.bl (.cmp .ge (.var 2) (.bi .len (.cons (.var 3) .nil))))))) .fail .skip) q_first_there_4)
def q_first_there_2 : RS := (.seq (.asg 3 (.call 262 (.cons (.var 0) (.cons (.var 1) .nil)))) q_first_there_3)
def q_first_there_1 : RS := (.seq (.exp (.call 257 (.cons (.var 1) .nil))) q_first_there_2)
def q_first_there_0 : RS := (.seq (.exp (.call 257 (.cons (.var 0) .nil))) q_first_there_1)
theorem q_first_there : rs_first_there = q_first_there_0 := rfl
def q_drops_meet_10 : RS := (.ret (.andV (.cmp .eq (.var 18) (.con (.int 0))) (.andV (.cmp .eq (.var 16) (.call 50 (.cons (.idx (.var 6) (.con (.int 0))) .nil))) (.cmp .eq (.var 17) (.call 50 (.cons (.idx (.var 7) (.con (.int 0))) .nil))))))
def q_drops_meet_9 : RS := (.seq (.iff (.and (.bl (.cmp .eq (.idx (.var 6) (.con (.int 0))) (.con (.int 0)))) (.bl (.cmp .eq (.idx (.var 7) (.con (.int 0))) (.con (.int 0))))) (.ret (.con (.bool true))) .skip) q_drops_meet_10)
def q_drops_meet_8 : RS := (.seq (.asg 18 (.call 66 (.cons (.call 65 (.cons (.call 51 (.cons (.tup (.cons (.var 9) (.cons (.con (.int 1)) .nil))) (.cons (.var 7) .nil))) (.cons (.call 51 (.cons (.var 10) (.cons (.var 6) .nil))) .nil))) (.cons (.call 65 (.cons (.call 51 (.cons (.var 13) (.cons (.var 6) .nil))) (.cons (.call 51 (.cons (.tup (.cons (.var 12) (.cons (.con (.int 1)) .nil))) (.cons (.var 7) .nil))) .nil))) (.cons (.var 15) .nil))))) q_drops_meet_9)
def q_drops_meet_7 : RS := (.seq (.asg 17 (.call 66 (.cons (.var 10) (.cons (.call 76 (.cons (.var 13) .nil)) (.cons (.var 15) .nil))))) q_drops_meet_8)
def q_drops_meet_6 : RS := (.seq (.asg 16 (.call 66 (.cons (.tup (.cons (.var 9) (.cons (.con (.int 1)) .nil))) (.cons (.tup (.cons (.neg (.var 12)) (.cons (.con (.int 1)) .nil))) (.cons (.var 15) .nil))))) q_drops_meet_7)
def q_drops_meet_5 : RS := (.seq (.asg 15 (.call 82 (.cons (.var 11) (.cons (.var 14) .nil)))) q_drops_meet_6)
def q_drops_meet_4 : RS := (.seq (.asgT (.nest (.cons (.nest (.cons (.one 8) (.cons (.one 9) (.cons (.many [10, 11]) .nil)))) (.cons (.nest (.cons (.one 8) (.cons (.one 12) (.cons (.many [13, 14]) .nil)))) .nil))) (.tup (.cons (.var 0) (.cons (.var 1) .nil)))) q_drops_meet_5)
def q_drops_meet_3 : RS := (.seq (.par [6, 7] (.cons (.call 65 (.cons (.var 4) (.cons (.var 2) .nil))) (.cons (.call 65 (.cons (.var 5) (.cons (.var 3) .nil))) .nil))) q_drops_meet_4)
def q_drops_meet_2 : RS := (.seq (.asgT (.nest (.cons (.many [2, 3]) (.cons (.many [4, 5]) .nil))) (.tup (.cons (.call 258 (.cons (.var 0) .nil)) (.cons (.call 258 (.cons (.var 1) .nil)) .nil)))) q_drops_meet_3)
def q_drops_meet_1 : RS := (.seq (.exp (.call 257 (.cons (.var 1) .nil))) q_drops_meet_2)
def q_drops_meet_0 : RS := (.seq (.exp (.call 257 (.cons (.var 0) .nil))) q_drops_meet_1)
theorem q_drops_meet : rs_drops_meet = q_drops_meet_0 := rfl
/-- two streams, small enough -/
structure szM (x y : Rat) (w : Int) (s b u v : Rat) (z : Int) (t c : Rat) : Prop where
  w1 : Wy w
  w2 : Wy z
  b0 : 0 < b
  c0 : 0 < c
  zx : Zf 60 x
  zu : Zf 60 u
  zy : Zf 200 y
  zv : Zf 200 v
  zs : Zf 60 s
  zt : Zf 60 t
  zb : Zf 30 b
  zc : Zf 30 c
  a1 : Zf 230 (kA x y w s b - kA u v z t c)
  a2 : Zf 110 (kB x w s b - kB u z t c)
  a3 : Zf 30 (-b - -c)
  k1 : Zf 240 (kA x y w s b)
  k2 : Zf 240 (kA u v z t c)
  l1 : Zf 110 (kB x w s b)
  l2 : Zf 110 (kB u z t c)
  f1 : Zf 240 (b * (x * x) - c * (u * u))
  f2 : Zf 110 (-2 * (b * x) - -2 * (c * u))
  f3 : Zf 50 (b - c)
theorem zf_swap {k : Nat} {a b : Rat} (h : Zf k (a - b)) : Zf k (b - a) := by
  have e : b - a = -(a - b) := by grind
  rw [e]
  exact h.neg
theorem szM.swap {x y : Rat} {w : Int} {s b u v : Rat} {z : Int} {t c : Rat} (h : szM x y w s b u v z t c) : szM u v z t c x y w s b :=
  ⟨h.w2, h.w1, h.c0, h.b0, h.zu, h.zx, h.zv, h.zy, h.zt, h.zs, h.zc, h.zb, zf_swap h.a1, zf_swap h.a2, zf_swap h.a3, h.k2, h.k1, h.l2, h.l1, zf_swap h.f1, zf_swap h.f2, zf_swap h.f3⟩
def mpS (x y : Rat) (w : Int) (s b u v : Rat) (z : Int) (t c : Rat) : Option (List (Rat × Int × Rat)) := mpL (cmnS [wside w x, wside z u]) (kA x y w s b - kA u v z t c) (kB x w s b - kB u z t c) (-b - -c)
def frT (x b u c : Rat) (q : Rat × Int × Rat) : Int := sgT (sAt (b * (x * x) - c * (u * u)) (-2 * (b * x) - -2 * (c * u)) (b - c) q)
def fwD (i : Int) : Str := if i = -1 then Str.ofString "first" else if i = 0 then Str.ofString "both" else Str.ofString "other"
def dmB (x y : Rat) (w : Int) (s b u v : Rat) (z : Int) (t c : Rat) : Bool := decide ((u - x = 0 ∧ v - y = 0) ∨ (sgR ((w : Rat) * (v - y) - s * (u - x)) (t * (u - x) - z * (v - y)) (b / c) = 0 ∧ sgR (w : Rat) (-z) (b / c) = sgQ (u - x) ∧ sgR s (-t) (b / c) = sgQ (v - y)))
def sp_common : PSp := fun ds Q => ∃ xs, ds = [.d (.list (List.map stD xs))] ∧ (∀ t ∈ xs, oz t.1 ∧ oz t.2) ∧ Q (.d (cmnD xs))
def sp_meeting_places : PSp := fun ds Q => ∃ x y w s b u v z t c, ds = [.d (ST x y w s b), .d (ST u v z t c)] ∧ szM x y w s b u v z t c ∧ Q (.d (mpD (mpS x y w s b u v z t c)))
theorem ap_meeting_places {Q : DV → Prop} {x : Rat} {y : Rat} {w : Int} {s : Rat} {b : Rat} {u : Rat} {v : Rat} {z : Int} {t : Rat} {c : Rat} : sp_meeting_places [DV.d (ST x y w s b), DV.d (ST u v z t c)] Q = (szM x y w s b u v z t c ∧ Q (DV.d (mpD (mpS x y w s b u v z t c)))) := propext ⟨fun ⟨_, _, _, _, _, _, _, _, _, _, e, r⟩ => by
  simp only [List.cons.injEq, DV.d.injEq, and_true, true_and, F_eq, J_eq, P3_eq, T_eq, PyData.int.injEq, PyData.str.injEq, PyData.list.injEq, PyData.tuple.injEq, ST_eq] at e
  obtain ⟨⟨rfl, rfl, rfl, rfl, rfl⟩, ⟨rfl, rfl, rfl, rfl, rfl⟩⟩ := e
  exact r, fun r => ⟨_, _, _, _, _, _, _, _, _, _, rfl, r⟩⟩
def sp_meetings : PSp := fun ds Q => ∃ x y w s b u v z t c, ds = [.d (ST x y w s b), .d (ST u v z t c)] ∧ szM x y w s b u v z t c ∧ Q (.d (msD (kA x y w s b) (kB x w s b) (-b) (mpS x y w s b u v z t c)))
theorem ap_meetings {Q : DV → Prop} {x : Rat} {y : Rat} {w : Int} {s : Rat} {b : Rat} {u : Rat} {v : Rat} {z : Int} {t : Rat} {c : Rat} : sp_meetings [DV.d (ST x y w s b), DV.d (ST u v z t c)] Q = (szM x y w s b u v z t c ∧ Q (DV.d (msD (kA x y w s b) (kB x w s b) (-b) (mpS x y w s b u v z t c)))) := propext ⟨fun ⟨_, _, _, _, _, _, _, _, _, _, e, r⟩ => by
  simp only [List.cons.injEq, DV.d.injEq, and_true, true_and, F_eq, J_eq, P3_eq, T_eq, PyData.int.injEq, PyData.str.injEq, PyData.list.injEq, PyData.tuple.injEq, ST_eq] at e
  obtain ⟨⟨rfl, rfl, rfl, rfl, rfl⟩, ⟨rfl, rfl, rfl, rfl, rfl⟩⟩ := e
  exact r, fun r => ⟨_, _, _, _, _, _, _, _, _, _, rfl, r⟩⟩
def sp_first_there : PSp := fun ds Q => ∃ x y w s b u v z t c k, ds = [.d (ST x y w s b), .d (ST u v z t c), .d (.int k)] ∧ szM x y w s b u v z t c ∧ ∃ l q, mpS x y w s b u v z t c = some l ∧ 0 ≤ k ∧ l[k.toNat]? = some q ∧ Q (.d (.str (fwD (frT x b u c q))))
theorem ap_first_there {Q : DV → Prop} {x : Rat} {y : Rat} {w : Int} {s : Rat} {b : Rat} {u : Rat} {v : Rat} {z : Int} {t : Rat} {c : Rat} {k : Int} : sp_first_there [DV.d (ST x y w s b), DV.d (ST u v z t c), DV.d (.int k)] Q = (szM x y w s b u v z t c ∧ ∃ l q, mpS x y w s b u v z t c = some l ∧ 0 ≤ k ∧ l[k.toNat]? = some q ∧ Q (DV.d (.str (fwD (frT x b u c q))))) := propext ⟨fun ⟨_, _, _, _, _, _, _, _, _, _, _, e, r⟩ => by
  simp only [List.cons.injEq, DV.d.injEq, and_true, true_and, F_eq, J_eq, P3_eq, T_eq, PyData.int.injEq, PyData.str.injEq, PyData.list.injEq, PyData.tuple.injEq, ST_eq] at e
  obtain ⟨⟨rfl, rfl, rfl, rfl, rfl⟩, ⟨rfl, rfl, rfl, rfl, rfl⟩, rfl⟩ := e
  exact r, fun r => ⟨_, _, _, _, _, _, _, _, _, _, _, rfl, r⟩⟩
def sp_drops_meet : PSp := fun ds Q => ∃ x y w s b u v z t c, ds = [.d (ST x y w s b), .d (ST u v z t c)] ∧ szM x y w s b u v z t c ∧ Q (.d (.bool (dmB x y w s b u v z t c)))
theorem ap_drops_meet {Q : DV → Prop} {x : Rat} {y : Rat} {w : Int} {s : Rat} {b : Rat} {u : Rat} {v : Rat} {z : Int} {t : Rat} {c : Rat} : sp_drops_meet [DV.d (ST x y w s b), DV.d (ST u v z t c)] Q = (szM x y w s b u v z t c ∧ Q (DV.d (.bool (dmB x y w s b u v z t c)))) := propext ⟨fun ⟨_, _, _, _, _, _, _, _, _, _, e, r⟩ => by
  simp only [List.cons.injEq, DV.d.injEq, and_true, true_and, F_eq, J_eq, P3_eq, T_eq, PyData.int.injEq, PyData.str.injEq, PyData.list.injEq, PyData.tuple.injEq, ST_eq] at e
  obtain ⟨⟨rfl, rfl, rfl, rfl, rfl⟩, ⟨rfl, rfl, rfl, rfl, rfl⟩⟩ := e
  exact r, fun r => ⟨_, _, _, _, _, _, _, _, _, _, rfl, r⟩⟩

section
variable {Φ : Nat → PSp}
theorem cmn_step (t u : Sx) (xs : List Sx) : (u :: xs).foldl (fun t u => (mxo t.1 u.1, mno t.2 u.2)) t = xs.foldl (fun t u => (mxo t.1 u.1, mno t.2 u.2)) ((mxo t.1 u.1, mno t.2 u.2) : Sx) := rfl
theorem common_loop {turn : DV → SDs → (SDs → Prop) → Prop} {nx : SDs → Prop} {a : Option SD}
    (ht : ∀ (k : SDs → Prop) (t u : Sx) (o : Option SD), oz t.1 → oz t.2 → oz u.1 → oz u.2 → k [a, some (.val (.d (oS (mxo t.1 u.1)))), some (.val (.d (oS (mno t.2 u.2)))), some (.val (.d (stD u)))] → turn (.d (stD u)) [a, some (.val (.d (oS t.1))), some (.val (.d (oS t.2))), o] k) :
    ∀ (xs : List Sx) (t : Sx) (o : Option SD), oz t.1 → oz t.2 → (∀ u ∈ xs, oz u.1 ∧ oz u.2) →
      (∀ r : Sx, r = xs.foldl (fun t u => (mxo t.1 u.1, mno t.2 u.2)) t → oz r.1 → oz r.2 → ∀ o, nx [a, some (.val (.d (oS r.1))), some (.val (.d (oS r.2))), o]) →
      goFor turn nx ((xs.map stD).map DV.d) [a, some (.val (.d (oS t.1))), some (.val (.d (oS t.2))), o]
  | [], t, o, h1, h2, _, hn => hn t rfl h1 h2 o
  | u :: xs, t, o, h1, h2, hx, hn => by
    obtain ⟨u1, u2⟩ := hx u (List.mem_cons_self ..)
    refine ht _ t u o h1 h2 u1 u2 ?_
    exact common_loop ht xs (mxo t.1 u.1, mno t.2 u.2) _ (oz_mx h1 u1) (oz_mn h2 u2) (fun y hy => hx y (List.mem_cons_of_mem _ hy)) fun r e => hn r (by rw [cmn_step]; exact e)
theorem sem_common (e1 : Φ 156 = sp_later_begin) (e2 : Φ 157 = sp_earlier_end) (e3 : Φ 158 = sp_order_of) : ∀ ds Q, sp_common ds Q → wS Φ rs_common { nx := fun _ => Q (.d .none), rt := Q } (startD ["a", "b", "c", "d"] ds) := by
  rintro ds Q ⟨xs, rfl, hx, hq⟩
  show wS Φ rs_common _ [some (.val (.d (.list (xs.map stD)))), none, none, none]
  rw [q_common]
  simp only [q_common_0, q_common_1, wS, wE, wA, wT, wI, wO, ev_add, ev_sub, ev_mul, ev_div, ev_mod, ev_pow, ev_cat, ev_lt, ev_le, ev_gt, ev_ge, ev_eq, ev_ne, ev_eqs, ev_nes, ix_F0, ix_F1, ix_J0, ix_J1, ix_P0, ix_P1, ix_P2, ix_t0, ix_t1, ix_t2, ix_l0, ix_l1, ix_l2, tg_1, tg_F, tg_J, tg_P, tg_2, tg_3, tg_4, fold_J, eq_F, ne_F, eq_J, ne_J, eq_P, ne_P, db_, di_, setVals, setAll, datas, itemsD, truD, List.getElem?_cons_zero, List.getElem?_cons_succ, List.set_cons_zero, List.set_cons_succ, Option.map_some, Option.map_none, Option.some.injEq, exists_eq_left', decide_eq_true_eq, Bool.not_true, Bool.not_false, Bool.false_eq_true, if_false, if_true, true_and, and_true, decide_true, decide_false, List.length_cons, List.length_nil, mx_0, mx_1, mx_2, mx_3, mx_4, mx_5, mx_6, mx_7, mx_8, mx_9, mx_10, mx_11, mx_12, mx_13, mx_14, mx_15, mx_16, mx_17, mx_18, mx_19, mx_20, mx_21, mx_22, mx_23, mx_24, Nat.reduceAdd, Nat.reduceLeDiff, Nat.zero_add, Bool.not_eq_true', decide_eq_false_iff_not, reduceIte, ev_reprb]
  refine common_loop (a := some (.val (.d (.list (xs.map stD))))) (fun k t u o h1 h2 g1 g2 hk => ?_) xs (none, none) none oz_none oz_none hx fun r er r1 r2 o => ?_
  · simp only [q_common_1_b_0, q_common_1_b_1, wS, wE, wA, wT, wI, wO, ev_add, ev_sub, ev_mul, ev_div, ev_mod, ev_pow, ev_cat, ev_lt, ev_le, ev_gt, ev_ge, ev_eq, ev_ne, ev_eqs, ev_nes, ix_F0, ix_F1, ix_J0, ix_J1, ix_P0, ix_P1, ix_P2, ix_t0, ix_t1, ix_t2, ix_l0, ix_l1, ix_l2, tg_1, tg_F, tg_J, tg_P, tg_2, tg_3, tg_4, fold_J, eq_F, ne_F, eq_J, ne_J, eq_P, ne_P, db_, di_, setVals, setAll, datas, itemsD, truD, List.getElem?_cons_zero, List.getElem?_cons_succ, List.set_cons_zero, List.set_cons_succ, Option.map_some, Option.map_none, Option.some.injEq, exists_eq_left', decide_eq_true_eq, Bool.not_true, Bool.not_false, Bool.false_eq_true, if_false, if_true, true_and, and_true, decide_true, decide_false, List.length_cons, List.length_nil, mx_0, mx_1, mx_2, mx_3, mx_4, mx_5, mx_6, mx_7, mx_8, mx_9, mx_10, mx_11, mx_12, mx_13, mx_14, mx_15, mx_16, mx_17, mx_18, mx_19, mx_20, mx_21, mx_22, mx_23, mx_24, Nat.reduceAdd, Nat.reduceLeDiff, Nat.zero_add, Bool.not_eq_true', decide_eq_false_iff_not, reduceIte, ev_reprb]
    simp only [stD, Bool.false_eq_true, if_false, wS, wE, wA, wT, wI, wO, ev_add, ev_sub, ev_mul, ev_div, ev_mod, ev_pow, ev_cat, ev_lt, ev_le, ev_gt, ev_ge, ev_eq, ev_ne, ev_eqs, ev_nes, ix_F0, ix_F1, ix_J0, ix_J1, ix_P0, ix_P1, ix_P2, ix_t0, ix_t1, ix_t2, ix_l0, ix_l1, ix_l2, tg_1, tg_F, tg_J, tg_P, tg_2, tg_3, tg_4, fold_J, eq_F, ne_F, eq_J, ne_J, eq_P, ne_P, db_, di_, setVals, setAll, datas, itemsD, truD, List.getElem?_cons_zero, List.getElem?_cons_succ, List.set_cons_zero, List.set_cons_succ, Option.map_some, Option.map_none, Option.some.injEq, exists_eq_left', decide_eq_true_eq, Bool.not_true, Bool.not_false, Bool.false_eq_true, if_false, if_true, true_and, and_true, decide_true, decide_false, List.length_cons, List.length_nil, mx_0, mx_1, mx_2, mx_3, mx_4, mx_5, mx_6, mx_7, mx_8, mx_9, mx_10, mx_11, mx_12, mx_13, mx_14, mx_15, mx_16, mx_17, mx_18, mx_19, mx_20, mx_21, mx_22, mx_23, mx_24, Nat.reduceAdd, Nat.reduceLeDiff, Nat.zero_add, Bool.not_eq_true', decide_eq_false_iff_not, reduceIte, ev_reprb, e1, e2, ap_later_begin, ap_earlier_end]
    exact ⟨h1, g1, h2, g2, hk⟩
  · simp only [q_common_2, wS, wE, wA, wT, wI, wO, ev_add, ev_sub, ev_mul, ev_div, ev_mod, ev_pow, ev_cat, ev_lt, ev_le, ev_gt, ev_ge, ev_eq, ev_ne, ev_eqs, ev_nes, ix_F0, ix_F1, ix_J0, ix_J1, ix_P0, ix_P1, ix_P2, ix_t0, ix_t1, ix_t2, ix_l0, ix_l1, ix_l2, tg_1, tg_F, tg_J, tg_P, tg_2, tg_3, tg_4, fold_J, eq_F, ne_F, eq_J, ne_J, eq_P, ne_P, db_, di_, setVals, setAll, datas, itemsD, truD, List.getElem?_cons_zero, List.getElem?_cons_succ, List.set_cons_zero, List.set_cons_succ, Option.map_some, Option.map_none, Option.some.injEq, exists_eq_left', decide_eq_true_eq, Bool.not_true, Bool.not_false, Bool.false_eq_true, if_false, if_true, true_and, and_true, decide_true, decide_false, List.length_cons, List.length_nil, mx_0, mx_1, mx_2, mx_3, mx_4, mx_5, mx_6, mx_7, mx_8, mx_9, mx_10, mx_11, mx_12, mx_13, mx_14, mx_15, mx_16, mx_17, mx_18, mx_19, mx_20, mx_21, mx_22, mx_23, mx_24, Nat.reduceAdd, Nat.reduceLeDiff, Nat.zero_add, Bool.not_eq_true', decide_eq_false_iff_not, reduceIte, ev_reprb, e3, ap_order_of]
    have er : r = cmnS xs := er
    refine ⟨r1, r2, ?_⟩
    unfold cmnD at hq
    rw [← er] at hq
    split
    · rename_i h
      rw [if_pos h] at hq
      exact hq
    · rename_i h
      rw [if_neg h] at hq
      exact hq
theorem sem_meeting_places (e1 : Φ 159 = sp_common) (e2 : Φ 261 = sp_stretch_of) (e3 : Φ 162 = sp_difference) (e4 : Φ 260 = sp_water_of) (e5 : Φ 158 = sp_order_of) (e6 : Φ 95 = sp_zeros) (e7 : Φ 177 = sp_is_within) : ∀ ds Q, sp_meeting_places ds Q → wS Φ rs_meeting_places { nx := fun _ => Q (.d .none), rt := Q } (startD ["a", "b", "c", "d", "e"] ds) := by
  rintro ds Q ⟨x, y, w, s, b, u, v, z, t, c, rfl, h, hq⟩
  show wS Φ rs_meeting_places _ [some (.val (.d (ST x y w s b))), some (.val (.d (ST u v z t c))), none, none, none]
  rw [q_meeting_places]
  simp only [q_meeting_places_0, wS, wE, wA, wT, wI, wO, ev_add, ev_sub, ev_mul, ev_div, ev_mod, ev_pow, ev_cat, ev_lt, ev_le, ev_gt, ev_ge, ev_eq, ev_ne, ev_eqs, ev_nes, ix_F0, ix_F1, ix_J0, ix_J1, ix_P0, ix_P1, ix_P2, ix_t0, ix_t1, ix_t2, ix_l0, ix_l1, ix_l2, tg_1, tg_F, tg_J, tg_P, tg_2, tg_3, tg_4, fold_J, eq_F, ne_F, eq_J, ne_J, eq_P, ne_P, db_, di_, setVals, setAll, datas, itemsD, truD, List.getElem?_cons_zero, List.getElem?_cons_succ, List.set_cons_zero, List.set_cons_succ, Option.map_some, Option.map_none, Option.some.injEq, exists_eq_left', decide_eq_true_eq, Bool.not_true, Bool.not_false, Bool.false_eq_true, if_false, if_true, true_and, and_true, decide_true, decide_false, List.length_cons, List.length_nil, mx_0, mx_1, mx_2, mx_3, mx_4, mx_5, mx_6, mx_7, mx_8, mx_9, mx_10, mx_11, mx_12, mx_13, mx_14, mx_15, mx_16, mx_17, mx_18, mx_19, mx_20, mx_21, mx_22, mx_23, mx_24, Nat.reduceAdd, Nat.reduceLeDiff, Nat.zero_add, Bool.not_eq_true', decide_eq_false_iff_not, reduceIte, ev_reprb, e1, e2, ap_stretch_of]
  have z1 : Zp 8000 x y := (h.zx.pt h.zy).mono (by decide)
  have z2 : Zp 8000 u v := (h.zu.pt h.zv).mono (by decide)
  have ozs : ∀ {w : Int} {x : Rat}, Zf 60 x → oz (wside w x).1 ∧ oz (wside w x).2 := by
    intro w x hz
    refine ⟨fun a e => ?_, fun a e => ?_⟩ <;> (unfold wside at e; split at e <;> cases e <;> exact hz.mono (by decide))
  refine ⟨z1, z2, [wside w x, wside z u], rfl, ?_, ?_⟩
  · intro t ht
    simp only [List.mem_cons, List.not_mem_nil, or_false] at ht
    rcases ht with rfl | rfl
    · exact ozs h.zx
    · exact ozs h.zu
  have ends : oz6 (cmnS [wside w x, wside z u]).1 ∧ oz6 (cmnS [wside w x, wside z u]).2 := by
    have m : ∀ a b : Option Rat, oz6 a → oz6 b → oz6 (mxo a b) ∧ oz6 (mno a b) := by
      intro a b ha hb
      constructor
      · cases a <;> cases b <;> simp only [mxo] <;> (try assumption)
        split <;> assumption
      · cases a <;> cases b <;> simp only [mno] <;> (try assumption)
        split <;> assumption
    have a := oz6_side (w := w) h.zx
    have b := oz6_side (w := z) h.zu
    have n : oz6 none := fun _ e => by cases e
    exact ⟨(m _ _ (m _ _ n a.1).1 b.1).1, (m _ _ (m _ _ n a.2).2 b.2).2⟩
  unfold mpS mpL at hq
  show wS Φ q_meeting_places_1 _ [some (.val (.d (ST x y w s b))), some (.val (.d (ST u v z t c))), some (.val (.d (cmnD [wside w x, wside z u]))), none, none]
  unfold cmnD
  generalize cmnS [wside w x, wside z u] = r at hq ends ⊢
  have hoz : oz r.1 ∧ oz r.2 := ⟨fun a e => (ends.1 a e).mono (by decide), fun a e => (ends.2 a e).mono (by decide)⟩
  by_cases c1 : 0 < odo r.1 r.2
  · rw [if_pos c1] at hq ⊢
    simp only [q_meeting_places_1, wS, wE, wA, wT, wI, wO, ev_add, ev_sub, ev_mul, ev_div, ev_mod, ev_pow, ev_cat, ev_lt, ev_le, ev_gt, ev_ge, ev_eq, ev_ne, ev_eqs, ev_nes, ix_F0, ix_F1, ix_J0, ix_J1, ix_P0, ix_P1, ix_P2, ix_t0, ix_t1, ix_t2, ix_l0, ix_l1, ix_l2, tg_1, tg_F, tg_J, tg_P, tg_2, tg_3, tg_4, fold_J, eq_F, ne_F, eq_J, ne_J, eq_P, ne_P, db_, di_, setVals, setAll, datas, itemsD, truD, List.getElem?_cons_zero, List.getElem?_cons_succ, List.set_cons_zero, List.set_cons_succ, Option.map_some, Option.map_none, Option.some.injEq, exists_eq_left', decide_eq_true_eq, Bool.not_true, Bool.not_false, Bool.false_eq_true, if_false, if_true, true_and, and_true, decide_true, decide_false, List.length_cons, List.length_nil, mx_0, mx_1, mx_2, mx_3, mx_4, mx_5, mx_6, mx_7, mx_8, mx_9, mx_10, mx_11, mx_12, mx_13, mx_14, mx_15, mx_16, mx_17, mx_18, mx_19, mx_20, mx_21, mx_22, mx_23, mx_24, Nat.reduceAdd, Nat.reduceLeDiff, Nat.zero_add, Bool.not_eq_true', decide_eq_false_iff_not, reduceIte, ev_reprb]
    exact hq
  rw [if_neg c1] at hq ⊢
  simp only [q_meeting_places_1, q_meeting_places_2, wS, wE, wA, wT, wI, wO, ev_add, ev_sub, ev_mul, ev_div, ev_mod, ev_pow, ev_cat, ev_lt, ev_le, ev_gt, ev_ge, ev_eq, ev_ne, ev_eqs, ev_nes, ix_F0, ix_F1, ix_J0, ix_J1, ix_P0, ix_P1, ix_P2, ix_t0, ix_t1, ix_t2, ix_l0, ix_l1, ix_l2, tg_1, tg_F, tg_J, tg_P, tg_2, tg_3, tg_4, fold_J, eq_F, ne_F, eq_J, ne_J, eq_P, ne_P, db_, di_, setVals, setAll, datas, itemsD, truD, List.getElem?_cons_zero, List.getElem?_cons_succ, List.set_cons_zero, List.set_cons_succ, Option.map_some, Option.map_none, Option.some.injEq, exists_eq_left', decide_eq_true_eq, Bool.not_true, Bool.not_false, Bool.false_eq_true, if_false, if_true, true_and, and_true, decide_true, decide_false, List.length_cons, List.length_nil, mx_0, mx_1, mx_2, mx_3, mx_4, mx_5, mx_6, mx_7, mx_8, mx_9, mx_10, mx_11, mx_12, mx_13, mx_14, mx_15, mx_16, mx_17, mx_18, mx_19, mx_20, mx_21, mx_22, mx_23, mx_24, Nat.reduceAdd, Nat.reduceLeDiff, Nat.zero_add, Bool.not_eq_true', decide_eq_false_iff_not, reduceIte, ev_reprb, e3, e4, ap_water_of]
  rw [if_neg (by unfold stD; simp)]
  refine ⟨h.w1, h.zx.mono (by decide), h.zy, h.zs.mono (by decide), h.zb.mono (by decide), h.w2, h.zu.mono (by decide), h.zv, h.zt.mono (by decide), h.zc.mono (by decide), ?_⟩
  rw [ap_difference]
  refine ⟨h.k1.mono (by decide), h.l1.mono (by decide), h.zb.neg.mono (by decide), h.k2.mono (by decide), h.l2.mono (by decide), h.zc.neg.mono (by decide), ?_⟩
  have g1 := h.a1
  have g2 := h.a2
  have g3 := h.a3
  generalize kA x y w s b - kA u v z t c = A at hq g1 ⊢
  generalize kB x w s b - kB u z t c = B at hq g2 ⊢
  generalize -b - -c = C at hq g3 ⊢
  simp only [q_meeting_places_3, wS, wE, wA, wT, wI, wO, ev_add, ev_sub, ev_mul, ev_div, ev_mod, ev_pow, ev_cat, ev_lt, ev_le, ev_gt, ev_ge, ev_eq, ev_ne, ev_eqs, ev_nes, ix_F0, ix_F1, ix_J0, ix_J1, ix_P0, ix_P1, ix_P2, ix_t0, ix_t1, ix_t2, ix_l0, ix_l1, ix_l2, tg_1, tg_F, tg_J, tg_P, tg_2, tg_3, tg_4, fold_J, eq_F, ne_F, eq_J, ne_J, eq_P, ne_P, db_, di_, setVals, setAll, datas, itemsD, truD, List.getElem?_cons_zero, List.getElem?_cons_succ, List.set_cons_zero, List.set_cons_succ, Option.map_some, Option.map_none, Option.some.injEq, exists_eq_left', decide_eq_true_eq, Bool.not_true, Bool.not_false, Bool.false_eq_true, if_false, if_true, true_and, and_true, decide_true, decide_false, List.length_cons, List.length_nil, mx_0, mx_1, mx_2, mx_3, mx_4, mx_5, mx_6, mx_7, mx_8, mx_9, mx_10, mx_11, mx_12, mx_13, mx_14, mx_15, mx_16, mx_17, mx_18, mx_19, mx_20, mx_21, mx_22, mx_23, mx_24, Nat.reduceAdd, Nat.reduceLeDiff, Nat.zero_add, Bool.not_eq_true', decide_eq_false_iff_not, reduceIte, ev_reprb, lit_0, eq_T3, e5, ix_st0, ix_st1, ap_order_of]
  by_cases c2 : A = 0 ∧ B = 0 ∧ C = 0
  · rw [if_pos c2] at hq ⊢
    refine ⟨hoz.1, hoz.2, ?_⟩
    by_cases c3 : odo r.1 r.2 = 0
    · rw [if_pos c3] at hq ⊢
      have : ∃ a, r.1 = some a := by
        cases e : r.1 with
        | none => rw [e] at c3; cases c3
        | some a => exact ⟨a, rfl⟩
      obtain ⟨a, ea⟩ := this
      rw [ea] at hq ⊢
      exact hq
    · rw [if_neg c3] at hq ⊢
      exact hq
  · rw [if_neg c2] at hq ⊢
    simp only [q_meeting_places_4, wS, wE, wA, wT, wI, wO, ev_add, ev_sub, ev_mul, ev_div, ev_mod, ev_pow, ev_cat, ev_lt, ev_le, ev_gt, ev_ge, ev_eq, ev_ne, ev_eqs, ev_nes, ix_F0, ix_F1, ix_J0, ix_J1, ix_P0, ix_P1, ix_P2, ix_t0, ix_t1, ix_t2, ix_l0, ix_l1, ix_l2, tg_1, tg_F, tg_J, tg_P, tg_2, tg_3, tg_4, fold_J, eq_F, ne_F, eq_J, ne_J, eq_P, ne_P, db_, di_, setVals, setAll, datas, itemsD, truD, List.getElem?_cons_zero, List.getElem?_cons_succ, List.set_cons_zero, List.set_cons_succ, Option.map_some, Option.map_none, Option.some.injEq, exists_eq_left', decide_eq_true_eq, Bool.not_true, Bool.not_false, Bool.false_eq_true, if_false, if_true, true_and, and_true, decide_true, decide_false, List.length_cons, List.length_nil, mx_0, mx_1, mx_2, mx_3, mx_4, mx_5, mx_6, mx_7, mx_8, mx_9, mx_10, mx_11, mx_12, mx_13, mx_14, mx_15, mx_16, mx_17, mx_18, mx_19, mx_20, mx_21, mx_22, mx_23, mx_24, Nat.reduceAdd, Nat.reduceLeDiff, Nat.zero_add, Bool.not_eq_true', decide_eq_false_iff_not, reduceIte, ev_reprb, e6, ap_zeros]
    refine ⟨g1.mono (by decide), g2.mono (by decide), g3.mono (by decide), ?_⟩
    refine ⟨_, rfl, by rw [List.length_map, List.length_map]; exact Nat.le_trans (zs_len _ _ _) (by simp only [mx_2]), ?_⟩
    rw [List.map_map]
    refine lc_opt (fun q => if wIn q r.1 r.2 = true then some (SUt q) else none) (DV.d ∘ SUt) _ [] _ ?_ ?_
    · intro q hq' k hk
      have zq := zs_W g1 g2 g3 q hq'
      obtain ⟨p, e, q⟩ := q
      simp only [Function.comp, SUt, wS, wE, wA, wT, wI, wO, ev_add, ev_sub, ev_mul, ev_div, ev_mod, ev_pow, ev_cat, ev_lt, ev_le, ev_gt, ev_ge, ev_eq, ev_ne, ev_eqs, ev_nes, ix_F0, ix_F1, ix_J0, ix_J1, ix_P0, ix_P1, ix_P2, ix_t0, ix_t1, ix_t2, ix_l0, ix_l1, ix_l2, tg_1, tg_F, tg_J, tg_P, tg_2, tg_3, tg_4, fold_J, eq_F, ne_F, eq_J, ne_J, eq_P, ne_P, db_, di_, setVals, setAll, datas, itemsD, truD, List.getElem?_cons_zero, List.getElem?_cons_succ, List.set_cons_zero, List.set_cons_succ, Option.map_some, Option.map_none, Option.some.injEq, exists_eq_left', decide_eq_true_eq, Bool.not_true, Bool.not_false, Bool.false_eq_true, if_false, if_true, true_and, and_true, decide_true, decide_false, List.length_cons, List.length_nil, mx_0, mx_1, mx_2, mx_3, mx_4, mx_5, mx_6, mx_7, mx_8, mx_9, mx_10, mx_11, mx_12, mx_13, mx_14, mx_15, mx_16, mx_17, mx_18, mx_19, mx_20, mx_21, mx_22, mx_23, mx_24, Nat.reduceAdd, Nat.reduceLeDiff, Nat.zero_add, Bool.not_eq_true', decide_eq_false_iff_not, reduceIte, ev_reprb, e7, ap_is_within, wipeD, ix_st0, ix_st1]
      refine ⟨zq, ends.1, ends.2, ?_⟩
      cases c : wIn (p, e, q) r.1 r.2
      · rw [c] at hk
        exact hk
      · rw [c] at hk
        exact hk
    · rw [flt_keep, List.nil_append]
      exact hq
theorem mpS_W {x y : Rat} {w : Int} {s b u v : Rat} {z : Int} {t c : Rat} (h : szM x y w s b u v z t c) : ∀ l, mpS x y w s b u v z t c = some l → l.length ≤ 2 ∧ ∀ q ∈ l, zW q := by
  intro l e
  unfold mpS mpL at e
  have hx : ∀ a, (cmnS [wside w x, wside z u]).1 = some a → Zf 60 a := by
    intro a ea
    have zx := h.zx
    have zu := h.zu
    unfold cmnS wside at ea
    by_cases w1 : w = 1 <;> by_cases z1 : z = 1 <;> simp [w1, z1, mxo] at ea
    · split at ea <;> cases ea <;> assumption
    · cases ea; exact zx
    · cases ea; exact zu
  generalize cmnS [wside w x, wside z u] = r at e hx
  split at e
  · cases e
    exact ⟨by simp, fun q hq => by cases hq⟩
  · split at e
    · split at e
      · rename_i c3
        cases e
        refine ⟨by simp, fun q hq => ?_⟩
        rw [List.mem_singleton] at hq
        subst hq
        cases er : r.1 with
        | none => rw [er] at c3; cases c3
        | some a => exact zW_f ((hx a er).mono (by decide))
      · cases e
    · cases e
      refine ⟨Nat.le_trans (List.length_filter_le _ _) (zs_len _ _ _), fun q hq => zs_W h.a1 h.a2 h.a3 q (List.mem_filter.mp hq).1⟩
theorem sem_meetings (e1 : Φ 257 = sp_check_stream) (e2 : Φ 262 = sp_meeting_places) (e3 : Φ 260 = sp_water_of) (e4 : Φ 181 = sp_surd_at) : ∀ ds Q, sp_meetings ds Q → wS Φ rs_meetings { nx := fun _ => Q (.d .none), rt := Q } (startD ["a", "b", "c", "d"] ds) := by
  rintro ds Q ⟨x, y, w, s, b, u, v, z, t, c, rfl, h, hq⟩
  show wS Φ rs_meetings _ [some (.val (.d (ST x y w s b))), some (.val (.d (ST u v z t c))), none, none]
  rw [q_meetings]
  simp only [q_meetings_0, q_meetings_1, q_meetings_2, wS, wE, wA, wT, wI, wO, ev_add, ev_sub, ev_mul, ev_div, ev_mod, ev_pow, ev_cat, ev_lt, ev_le, ev_gt, ev_ge, ev_eq, ev_ne, ev_eqs, ev_nes, ix_F0, ix_F1, ix_J0, ix_J1, ix_P0, ix_P1, ix_P2, ix_t0, ix_t1, ix_t2, ix_l0, ix_l1, ix_l2, tg_1, tg_F, tg_J, tg_P, tg_2, tg_3, tg_4, fold_J, eq_F, ne_F, eq_J, ne_J, eq_P, ne_P, db_, di_, setVals, setAll, datas, itemsD, truD, List.getElem?_cons_zero, List.getElem?_cons_succ, List.set_cons_zero, List.set_cons_succ, Option.map_some, Option.map_none, Option.some.injEq, exists_eq_left', decide_eq_true_eq, Bool.not_true, Bool.not_false, Bool.false_eq_true, if_false, if_true, true_and, and_true, decide_true, decide_false, List.length_cons, List.length_nil, mx_0, mx_1, mx_2, mx_3, mx_4, mx_5, mx_6, mx_7, mx_8, mx_9, mx_10, mx_11, mx_12, mx_13, mx_14, mx_15, mx_16, mx_17, mx_18, mx_19, mx_20, mx_21, mx_22, mx_23, mx_24, Nat.reduceAdd, Nat.reduceLeDiff, Nat.zero_add, Bool.not_eq_true', decide_eq_false_iff_not, reduceIte, ev_reprb, e1, e2, ap_check_stream, ap_meeting_places]
  refine ⟨h.w1, h.b0, h.w2, h.c0, h, ?_⟩
  have hl := mpS_W h
  cases e : mpS x y w s b u v z t c with
  | none =>
    rw [e] at hq
    simp only [q_meetings_3, mpD, wS, wE, wA, wT, wI, wO, ev_add, ev_sub, ev_mul, ev_div, ev_mod, ev_pow, ev_cat, ev_lt, ev_le, ev_gt, ev_ge, ev_eq, ev_ne, ev_eqs, ev_nes, ix_F0, ix_F1, ix_J0, ix_J1, ix_P0, ix_P1, ix_P2, ix_t0, ix_t1, ix_t2, ix_l0, ix_l1, ix_l2, tg_1, tg_F, tg_J, tg_P, tg_2, tg_3, tg_4, fold_J, eq_F, ne_F, eq_J, ne_J, eq_P, ne_P, db_, di_, setVals, setAll, datas, itemsD, truD, List.getElem?_cons_zero, List.getElem?_cons_succ, List.set_cons_zero, List.set_cons_succ, Option.map_some, Option.map_none, Option.some.injEq, exists_eq_left', decide_eq_true_eq, Bool.not_true, Bool.not_false, Bool.false_eq_true, if_false, if_true, true_and, and_true, decide_true, decide_false, List.length_cons, List.length_nil, mx_0, mx_1, mx_2, mx_3, mx_4, mx_5, mx_6, mx_7, mx_8, mx_9, mx_10, mx_11, mx_12, mx_13, mx_14, mx_15, mx_16, mx_17, mx_18, mx_19, mx_20, mx_21, mx_22, mx_23, mx_24, Nat.reduceAdd, Nat.reduceLeDiff, Nat.zero_add, Bool.not_eq_true', decide_eq_false_iff_not, reduceIte, ev_reprb]
    exact hq
  | some l =>
    rw [e] at hq
    obtain ⟨l1, l2⟩ := hl l e
    simp only [q_meetings_3, mpD, zsD, wS, wE, wA, wT, wI, wO, ev_add, ev_sub, ev_mul, ev_div, ev_mod, ev_pow, ev_cat, ev_lt, ev_le, ev_gt, ev_ge, ev_eq, ev_ne, ev_eqs, ev_nes, ix_F0, ix_F1, ix_J0, ix_J1, ix_P0, ix_P1, ix_P2, ix_t0, ix_t1, ix_t2, ix_l0, ix_l1, ix_l2, tg_1, tg_F, tg_J, tg_P, tg_2, tg_3, tg_4, fold_J, eq_F, ne_F, eq_J, ne_J, eq_P, ne_P, db_, di_, setVals, setAll, datas, itemsD, truD, List.getElem?_cons_zero, List.getElem?_cons_succ, List.set_cons_zero, List.set_cons_succ, Option.map_some, Option.map_none, Option.some.injEq, exists_eq_left', decide_eq_true_eq, Bool.not_true, Bool.not_false, Bool.false_eq_true, if_false, if_true, true_and, and_true, decide_true, decide_false, List.length_cons, List.length_nil, mx_0, mx_1, mx_2, mx_3, mx_4, mx_5, mx_6, mx_7, mx_8, mx_9, mx_10, mx_11, mx_12, mx_13, mx_14, mx_15, mx_16, mx_17, mx_18, mx_19, mx_20, mx_21, mx_22, mx_23, mx_24, Nat.reduceAdd, Nat.reduceLeDiff, Nat.zero_add, Bool.not_eq_true', decide_eq_false_iff_not, reduceIte, ev_reprb, e3, e4]
    refine ⟨by rw [List.length_map, List.length_map]; exact Nat.le_trans l1 (by simp only [mx_2]), ?_⟩
    rw [List.map_map]
    refine lc_map (fun t => .tuple [SUt t, SUt (sAt (kA x y w s b) (kB x w s b) (-b) t)]) (DV.d ∘ SUt) _ [] _ ?_ ?_
    · intro q hq' k hk
      have zq := l2 q hq'
      obtain ⟨p, i, q⟩ := q
      simp only [Function.comp, SUt, wS, wE, wA, wT, wI, wO, ev_add, ev_sub, ev_mul, ev_div, ev_mod, ev_pow, ev_cat, ev_lt, ev_le, ev_gt, ev_ge, ev_eq, ev_ne, ev_eqs, ev_nes, ix_F0, ix_F1, ix_J0, ix_J1, ix_P0, ix_P1, ix_P2, ix_t0, ix_t1, ix_t2, ix_l0, ix_l1, ix_l2, tg_1, tg_F, tg_J, tg_P, tg_2, tg_3, tg_4, fold_J, eq_F, ne_F, eq_J, ne_J, eq_P, ne_P, db_, di_, setVals, setAll, datas, itemsD, truD, List.getElem?_cons_zero, List.getElem?_cons_succ, List.set_cons_zero, List.set_cons_succ, Option.map_some, Option.map_none, Option.some.injEq, exists_eq_left', decide_eq_true_eq, Bool.not_true, Bool.not_false, Bool.false_eq_true, if_false, if_true, true_and, and_true, decide_true, decide_false, List.length_cons, List.length_nil, mx_0, mx_1, mx_2, mx_3, mx_4, mx_5, mx_6, mx_7, mx_8, mx_9, mx_10, mx_11, mx_12, mx_13, mx_14, mx_15, mx_16, mx_17, mx_18, mx_19, mx_20, mx_21, mx_22, mx_23, mx_24, Nat.reduceAdd, Nat.reduceLeDiff, Nat.zero_add, Bool.not_eq_true', decide_eq_false_iff_not, reduceIte, ev_reprb, wipeD, ap_water_of]
      refine ⟨h.w1, h.zx.mono (by decide), h.zy, h.zs.mono (by decide), h.zb.mono (by decide), ?_⟩
      rw [ap_surd_at]
      exact ⟨zq, h.k1, h.l1, h.zb.neg.mono (by decide), _, rfl, by simp [mx], hk⟩
    · rw [List.nil_append]
      exact hq
theorem rsq0 (p f : Rat) : so p f 0 = (p, 0, 0) := by
  unfold so
  rw [rsq_zero]
  simp only [Prod.mk.injEq, and_true]
  grind
theorem sAt_ok {c g a : Rat} {t : Rat × Int × Rat} (h : zW t) (z1 : Zf 240 c) (z2 : Zf 110 g) (z3 : Zf 50 a) : zOk (sAt c g a t) := by
  obtain ⟨p, e, q⟩ := t
  obtain ⟨y1, y2, y3, y4⟩ := h
  have y1 : sdOk p e q := y1
  have y2 : Zf 430 p := y2
  have y3 : Zf 565 q := y3
  have ze := zf_e y1.e
  unfold sAt
  show zOk (so (c + p * (g + a * p) + a * q) ((e : Rat) * (g + 2 * a * p)) q)
  rcases y1 with ⟨e0, q0⟩ | ⟨he, qp, hn⟩
  · subst q0
    rw [rsq0]
    refine ⟨.inl ⟨rfl, rfl⟩, ?_, zl0.mono (by decide)⟩
    exact ((z1.add (y2.mul (z2.add (z3.mul y2)))).add (z3.mul zl0)).mono (by decide)
  · have y4 : Zf 150 p := by
      rcases y4 with y4 | y4
      · have y4 : q = 0 := y4
        grind
      · exact y4
    have zf : Zf 320 ((e : Rat) * (g + 2 * a * p)) := (ze.mul (z2.add ((zl2.mul z3).mul y4))).mono (by decide)
    refine ⟨so_ok (Rat.le_of_lt qp), ?_⟩
    unfold so
    rw [hn]
    refine ⟨?_, ?_⟩
    · exact ((z1.add (y4.mul (z2.add (z3.mul y4)))).add (z3.mul y3)).mono (by decide)
    · exact ((zf.mul zf).mul y3).mono (by decide)
theorem sem_first_there (e0 : Φ 10 = sp_is_whole) (e1 : Φ 257 = sp_check_stream) (e2 : Φ 262 = sp_meeting_places) (e3 : Φ 259 = sp_fall_of) (e4 : Φ 181 = sp_surd_at) (e5 : Φ 162 = sp_difference) (e6 : Φ 96 = sp_surd_sign) : ∀ ds Q, sp_first_there ds Q → wS Φ rs_first_there { nx := fun _ => Q (.d .none), rt := Q } (startD ["a", "b", "c", "d"] ds) := by
  rintro ds Q ⟨x, y, w, s, b, u, v, z, t, c, k, rfl, h, l, q, el, k0, eq, hq⟩
  show wS Φ rs_first_there _ [some (.val (.d (ST x y w s b))), some (.val (.d (ST u v z t c))), some (.val (I k)), none]
  rw [q_first_there]
  simp only [q_first_there_0, q_first_there_1, q_first_there_2, wS, wE, wA, wT, wI, wO, ev_add, ev_sub, ev_mul, ev_div, ev_mod, ev_pow, ev_cat, ev_lt, ev_le, ev_gt, ev_ge, ev_eq, ev_ne, ev_eqs, ev_nes, ix_F0, ix_F1, ix_J0, ix_J1, ix_P0, ix_P1, ix_P2, ix_t0, ix_t1, ix_t2, ix_l0, ix_l1, ix_l2, tg_1, tg_F, tg_J, tg_P, tg_2, tg_3, tg_4, fold_J, eq_F, ne_F, eq_J, ne_J, eq_P, ne_P, db_, di_, setVals, setAll, datas, itemsD, truD, List.getElem?_cons_zero, List.getElem?_cons_succ, List.set_cons_zero, List.set_cons_succ, Option.map_some, Option.map_none, Option.some.injEq, exists_eq_left', decide_eq_true_eq, Bool.not_true, Bool.not_false, Bool.false_eq_true, if_false, if_true, true_and, and_true, decide_true, decide_false, List.length_cons, List.length_nil, mx_0, mx_1, mx_2, mx_3, mx_4, mx_5, mx_6, mx_7, mx_8, mx_9, mx_10, mx_11, mx_12, mx_13, mx_14, mx_15, mx_16, mx_17, mx_18, mx_19, mx_20, mx_21, mx_22, mx_23, mx_24, Nat.reduceAdd, Nat.reduceLeDiff, Nat.zero_add, Bool.not_eq_true', decide_eq_false_iff_not, reduceIte, ev_reprb, e1, e2, ap_check_stream, ap_meeting_places]
  refine ⟨h.w1, h.b0, h.w2, h.c0, h, ?_⟩
  obtain ⟨l1, l2⟩ := mpS_W h l el
  have hk : k.toNat < l.length := (List.getElem?_eq_some_iff.mp eq).1
  have hm : q ∈ l := List.mem_of_getElem? eq
  have zq := l2 q hm
  rw [el]
  simp only [q_first_there_3, mpD, zsD, wS, wE, wA, wT, wI, wO, ev_add, ev_sub, ev_mul, ev_div, ev_mod, ev_pow, ev_cat, ev_lt, ev_le, ev_gt, ev_ge, ev_eq, ev_ne, ev_eqs, ev_nes, ix_F0, ix_F1, ix_J0, ix_J1, ix_P0, ix_P1, ix_P2, ix_t0, ix_t1, ix_t2, ix_l0, ix_l1, ix_l2, tg_1, tg_F, tg_J, tg_P, tg_2, tg_3, tg_4, fold_J, eq_F, ne_F, eq_J, ne_J, eq_P, ne_P, db_, di_, setVals, setAll, datas, itemsD, truD, List.getElem?_cons_zero, List.getElem?_cons_succ, List.set_cons_zero, List.set_cons_succ, Option.map_some, Option.map_none, Option.some.injEq, exists_eq_left', decide_eq_true_eq, Bool.not_true, Bool.not_false, Bool.false_eq_true, if_false, if_true, true_and, and_true, decide_true, decide_false, List.length_cons, List.length_nil, mx_0, mx_1, mx_2, mx_3, mx_4, mx_5, mx_6, mx_7, mx_8, mx_9, mx_10, mx_11, mx_12, mx_13, mx_14, mx_15, mx_16, mx_17, mx_18, mx_19, mx_20, mx_21, mx_22, mx_23, mx_24, Nat.reduceAdd, Nat.reduceLeDiff, Nat.zero_add, Bool.not_eq_true', decide_eq_false_iff_not, reduceIte, ev_reprb, e0, ap_is_whole]
  rw [if_neg (by simp [isW]), if_neg (by omega)]
  refine (ev_len (Q := _)).mpr ⟨_, rfl, ?_⟩
  rw [List.length_map]
  simp only [wS, wE, wA, wT, wI, wO, ev_add, ev_sub, ev_mul, ev_div, ev_mod, ev_pow, ev_cat, ev_lt, ev_le, ev_gt, ev_ge, ev_eq, ev_ne, ev_eqs, ev_nes, ix_F0, ix_F1, ix_J0, ix_J1, ix_P0, ix_P1, ix_P2, ix_t0, ix_t1, ix_t2, ix_l0, ix_l1, ix_l2, tg_1, tg_F, tg_J, tg_P, tg_2, tg_3, tg_4, fold_J, eq_F, ne_F, eq_J, ne_J, eq_P, ne_P, db_, di_, setVals, setAll, datas, itemsD, truD, List.getElem?_cons_zero, List.getElem?_cons_succ, List.set_cons_zero, List.set_cons_succ, Option.map_some, Option.map_none, Option.some.injEq, exists_eq_left', decide_eq_true_eq, Bool.not_true, Bool.not_false, Bool.false_eq_true, if_false, if_true, true_and, and_true, decide_true, decide_false, List.length_cons, List.length_nil, mx_0, mx_1, mx_2, mx_3, mx_4, mx_5, mx_6, mx_7, mx_8, mx_9, mx_10, mx_11, mx_12, mx_13, mx_14, mx_15, mx_16, mx_17, mx_18, mx_19, mx_20, mx_21, mx_22, mx_23, mx_24, Nat.reduceAdd, Nat.reduceLeDiff, Nat.zero_add, Bool.not_eq_true', decide_eq_false_iff_not, reduceIte, ev_reprb]
  rw [if_neg (by omega)]
  have ei : ∀ K : DV → Prop, K (.d (SUt q)) → wIdx (.d (.list (l.map SUt))) (I k) K := by
    intro K hK
    have := atI_nat (xs := l.map SUt) (j := k.toNat) (v := SUt q) (by rw [List.getElem?_map, eq]; rfl)
    rw [Int.toNat_of_nonneg k0] at this
    exact ⟨_, this, hK⟩
  simp only [q_first_there_4, wS, wE, wA, wT, wI, wO, ev_add, ev_sub, ev_mul, ev_div, ev_mod, ev_pow, ev_cat, ev_lt, ev_le, ev_gt, ev_ge, ev_eq, ev_ne, ev_eqs, ev_nes, ix_F0, ix_F1, ix_J0, ix_J1, ix_P0, ix_P1, ix_P2, ix_t0, ix_t1, ix_t2, ix_l0, ix_l1, ix_l2, tg_1, tg_F, tg_J, tg_P, tg_2, tg_3, tg_4, fold_J, eq_F, ne_F, eq_J, ne_J, eq_P, ne_P, db_, di_, setVals, setAll, datas, itemsD, truD, List.getElem?_cons_zero, List.getElem?_cons_succ, List.set_cons_zero, List.set_cons_succ, Option.map_some, Option.map_none, Option.some.injEq, exists_eq_left', decide_eq_true_eq, Bool.not_true, Bool.not_false, Bool.false_eq_true, if_false, if_true, true_and, and_true, decide_true, decide_false, List.length_cons, List.length_nil, mx_0, mx_1, mx_2, mx_3, mx_4, mx_5, mx_6, mx_7, mx_8, mx_9, mx_10, mx_11, mx_12, mx_13, mx_14, mx_15, mx_16, mx_17, mx_18, mx_19, mx_20, mx_21, mx_22, mx_23, mx_24, Nat.reduceAdd, Nat.reduceLeDiff, Nat.zero_add, Bool.not_eq_true', decide_eq_false_iff_not, reduceIte, ev_reprb, e3, e4, e5, e6, ap_fall_of]
  refine ⟨h.zx.mono (by decide), h.zy.mono (by decide), h.zb.mono (by decide), h.zu.mono (by decide), h.zv.mono (by decide), h.zc.mono (by decide), ?_⟩
  rw [ap_difference]
  have z2 : Zf 4 (-2 : Rat) := zl2.neg
  refine ⟨(h.zb.mul (h.zx.mul h.zx)).mono (by decide), (z2.mul (h.zb.mul h.zx)).mono (by decide), h.zb.mono (by decide), (h.zc.mul (h.zu.mul h.zu)).mono (by decide), (z2.mul (h.zc.mul h.zu)).mono (by decide), h.zc.mono (by decide), ?_⟩
  refine ei _ ?_
  unfold frT at hq
  have g1 := h.f1
  have g2 := h.f2
  have g3 := h.f3
  generalize b * (x * x) - c * (u * u) = A at hq g1 ⊢
  generalize -2 * (b * x) - -2 * (c * u) = B at hq g2 ⊢
  generalize b - c = C at hq g3 ⊢
  obtain ⟨p, i, q⟩ := q
  show sp_surd_at [_, DV.d (SU p i q)] _
  rw [ap_surd_at]
  refine ⟨zq, g1, g2, g3, ?_⟩
  have ok := sAt_ok zq g1 g2 g3
  generalize sAt A B C (p, i, q) = t at hq ok ⊢
  obtain ⟨p, i, q⟩ := t
  show sp_surd_sign [DV.d (SU p i q)] _
  rw [ap_surd_sign]
  refine ⟨ok.1, ok.2.1, ok.2.2, ?_⟩
  have e : sgT (p, i, q) = sgR p (i : Rat) q := rfl
  rw [e] at hq
  rcases sgR_in p (i : Rat) q with h | h | h <;> rw [h] at hq ⊢ <;> exact hq
end
/-! ### streams on one curve -/
theorem sgR_one (p f : Rat) : sgR p f 1 = sgQ (p + f) := by
  have e : p * p - f * f * 1 = (p - f) * (p + f) := by grind
  rcases tri f with hf | rfl | hf
  · rcases tri p with hp | rfl | hp
    · rw [sgR_nn (by decide) (by grind) hf, sg_neg (by grind)]
    · rw [sgR_nn (by decide) (by grind) hf, sg_neg (by grind)]
    · rw [sgR_pn (by decide) hp hf, e, sg_mul, sg_pos (show 0 < p - f by grind)]
      omega
  · rw [sgR_f0 sg_zero, show p + 0 = p by grind]
  · rcases tri p with hp | rfl | hp
    · rw [sgR_np (by decide) hp hf, e, sg_mul, sg_neg (show p - f < 0 by grind)]
      omega
    · rw [sgR_pp (by decide) (by grind) hf, sg_pos (by grind)]
    · rw [sgR_pp (by decide) (by grind) hf, sg_pos (by grind)]
theorem sg_2 {m : Rat} : sgQ (2 * m) = sgQ m := by
  rw [sg_mul, sg_pos (show (0 : Rat) < 2 by decide), Int.one_mul]
theorem sg_ng {m : Rat} : sgQ (-m) = -sgQ m := by
  rw [show -m = -1 * m by grind, sg_mul, sg_neg (show (-1 : Rat) < 0 by decide), Int.neg_one_mul]
theorem wsq {w : Int} (h : Wy w) : (w : Rat) * w = 1 := by
  rcases h with rfl | rfl
  · rw [i1]; grind
  · rw [im1]; grind
/-- the stream that goes on along a curve -/
def ocY (x y : Rat) (w : Int) (s b q : Rat) : Rat := kA x y w s b + q * (kB x w s b + -b * q)
def ocS (x : Rat) (w : Int) (s b q : Rat) : Rat := kB x w s b + 2 * (-b * q)
theorem oc_kA {x y : Rat} {w : Int} {s b q : Rat} {v : Int} (h : Wy v) : kA q (ocY x y w s b q) v (v * ocS x w s b q) b = kA x y w s b := by
  have := wsq h
  unfold ocY ocS kA kB at *
  grind
theorem oc_kB {x : Rat} {w : Int} {s b q : Rat} {v : Int} (h : Wy v) : kB q v (v * ocS x w s b q) b = kB x w s b := by
  have := wsq h
  unfold ocS kB at *
  grind
theorem at_begin {x y : Rat} {w : Int} {s b : Rat} : sAt (kA x y w s b) (kB x w s b) (-b) (x, 0, 0) = (y, 0, 0) := by
  unfold sAt
  rw [rsq0]
  simp only [Prod.mk.injEq, and_true]
  unfold kA kB
  grind
theorem sAt_nought (t : Rat × Int × Rat) : sgT (sAt 0 0 0 (t.1, 0, 0)) = 0 := by
  unfold sAt
  rw [rsq0]
  have e : 0 + t.1 * (0 + 0 * t.1) + 0 * 0 = (0 : Rat) := by grind
  show sgT (0 + t.1 * (0 + 0 * t.1) + 0 * 0, 0, 0) = 0
  rw [e]
  unfold sgT
  show sgR 0 ((0 : Int) : Rat) 0 = 0
  rw [sgR_q0]
  exact sg_zero
/-- what meets, of two on one curve -/
theorem mp_same {x y : Rat} {w : Int} {s b q : Rat} {v : Int} (hv : Wy v) : mpS x y w s b q (ocY x y w s b q) v (v * ocS x w s b q) b = (if 0 < odo (cmnS [wside w x, wside v q]).1 (cmnS [wside w x, wside v q]).2 then some [] else if odo (cmnS [wside w x, wside v q]).1 (cmnS [wside w x, wside v q]).2 = 0 then some [((cmnS [wside w x, wside v q]).1.getD 0, 0, 0)] else none) := by
  unfold mpS mpL
  rw [oc_kA hv, oc_kB hv]
  have e : kA x y w s b - kA x y w s b = 0 ∧ kB x w s b - kB x w s b = 0 ∧ -b - -b = 0 := ⟨by grind, by grind, by grind⟩
  simp only [e, if_true]
  simp
theorem mp_same' {x y : Rat} {w : Int} {s b q : Rat} {v : Int} (hv : Wy v) : mpS q (ocY x y w s b q) v (v * ocS x w s b q) b x y w s b = (if 0 < odo (cmnS [wside v q, wside w x]).1 (cmnS [wside v q, wside w x]).2 then some [] else if odo (cmnS [wside v q, wside w x]).1 (cmnS [wside v q, wside w x]).2 = 0 then some [((cmnS [wside v q, wside w x]).1.getD 0, 0, 0)] else none) := by
  unfold mpS mpL
  rw [oc_kA hv, oc_kB hv]
  have e : kA x y w s b - kA x y w s b = 0 ∧ kB x w s b - kB x w s b = 0 ∧ -b - -b = 0 := ⟨by grind, by grind, by grind⟩
  simp only [e, if_true]
  simp
theorem odo_same {w : Int} (hw : Wy w) (x q : Rat) : odo (cmnS [wside w x, wside w q]).1 (cmnS [wside w x, wside w q]).2 = -1 := by
  unfold cmnS wside
  rcases hw with rfl | rfl
  · simp [mxo, mno]
    split <;> rfl
  · simp [mxo, mno, odo]
theorem odo_face {w : Int} (hw : Wy w) (x q : Rat) : odo (cmnS [wside w x, wside (-w) q]).1 (cmnS [wside w x, wside (-w) q]).2 = -(sgQ (q - x) * w) ∧ (q = x → (cmnS [wside w x, wside (-w) q]).1 = some x) := by
  unfold cmnS wside
  have e : sgQ (x - q) = -sgQ (q - x) := by
    rcases tri (q - x) with h | h | h
    · rw [sg_neg h, sg_pos (by grind)]; rfl
    · rw [h, sg_zero, show x - q = 0 by grind, sg_zero]; rfl
    · rw [sg_pos h, sg_neg (by grind)]
  rcases hw with rfl | rfl
  · simp [mxo, mno, odo, e]
  · simp [mxo, mno, odo]
theorem odo_face' {w : Int} (hw : Wy w) (x q : Rat) : odo (cmnS [wside (-w) q, wside w x]).1 (cmnS [wside (-w) q, wside w x]).2 = -(sgQ (q - x) * w) ∧ (q = x → (cmnS [wside (-w) q, wside w x]).1 = some x) := by
  unfold cmnS wside
  have e : sgQ (x - q) = -sgQ (q - x) := by
    rcases tri (q - x) with h | h | h
    · rw [sg_neg h, sg_pos (by grind)]; rfl
    · rw [h, sg_zero, show x - q = 0 by grind, sg_zero]; rfl
    · rw [sg_pos h, sg_neg (by grind)]
  rcases hw with rfl | rfl
  · simp [mxo, mno, odo, e]
  · simp [mxo, mno, odo]
theorem b_b {b : Rat} (h : 0 < b) : b / b = 1 := by
  have : b ≠ 0 := by grind
  grind
/-- do drops meet, on one curve -/
theorem dm_same {x y : Rat} {w : Int} {s b q : Rat} (hw : Wy w) (hb : 0 < b) : dmB x y w s b q (ocY x y w s b q) w (w * ocS x w s b q) b = decide (q = x) := by
  unfold dmB
  rw [b_b hb, sgR_one, sgR_one, sgR_one]
  have ww := wsq hw
  have e : (w : Rat) * (ocY x y w s b q - y) - s * (q - x) + (w * ocS x w s b q * (q - x) - w * (ocY x y w s b q - y)) = -2 * (w * (b * ((q - x) * (q - x)))) := by
    unfold ocY ocS kA kB
    grind
  rw [e]
  by_cases h : q = x
  · subst h
    have : ocY q y w s b q - y = 0 := by unfold ocY kA kB; grind
    rw [decide_eq_true (Or.inl ⟨by grind, this⟩)]
    simp
  · have d0 : q - x ≠ 0 := by grind
    have d2 : 0 < (q - x) * (q - x) := by
      rcases tri (q - x) with z | z | z
      · exact neg_neg z z
      · exact absurd z d0
      · exact Rat.mul_pos z z
    have := Rat.mul_pos hb d2
    have n : sgQ (-2 * (w * (b * ((q - x) * (q - x))))) ≠ 0 := by
      rcases hw with rfl | rfl
      · rw [i1, sg_neg (by grind)]
        decide
      · rw [im1, sg_pos (by grind)]
        decide
    simp [h, d0, n]
theorem dm_face {x y : Rat} {w : Int} {s b q : Rat} (hw : Wy w) (hb : 0 < b) : dmB x y w s b q (ocY x y w s b q) (-w) (((-w : Int) : Rat) * ocS x w s b q) b = decide (0 ≤ sgQ (q - x) * w) := by
  unfold dmB
  rw [b_b hb, sgR_one, sgR_one, sgR_one]
  have ww := wsq hw
  rw [Rat.intCast_neg]
  have e : (w : Rat) * (ocY x y w s b q - y) - s * (q - x) + (-w * ocS x w s b q * (q - x) - -w * (ocY x y w s b q - y)) = 0 := by
    unfold ocY ocS kA kB
    grind
  rw [e, sg_zero]
  have eY : ocY x y w s b q - y = (q - x) * (w * s - b * (q - x)) := by
    unfold ocY kA kB
    grind
  have e3 : s + -(-w * ocS x w s b q) = 2 * (w * (w * s - b * (q - x))) := by
    unfold ocS kB
    grind
  rw [eY, e3]
  have eW : sgQ ((w : Rat) + - -w) = w := by
    rcases hw with rfl | rfl
    · exact sg_pos (by rw [i1]; grind)
    · exact sg_neg (by rw [im1]; grind)
  rw [eW]
  by_cases h : q = x
  · subst h
    have z : q - q = 0 := by grind
    rw [decide_eq_true (Or.inl ⟨z, by grind⟩), z, sg_zero]
    simp
  · have d0 : q - x ≠ 0 := by grind
    generalize (w : Rat) * s - b * (q - x) = m
    rcases hw with rfl | rfl
    · rcases tri (q - x) with g | g | g
      · rw [sg_neg g]
        simp [d0]
      · exact absurd g d0
      · have : sgQ (2 * (((1 : Int) : Rat) * m)) = sgQ ((q - x) * m) := by
          rw [i1, Rat.one_mul, sg_2, sg_mul, sg_pos g, Int.one_mul]
        rw [sg_pos g, this]
        simp
    · rcases tri (q - x) with g | g | g
      · have : sgQ (2 * (((-1 : Int) : Rat) * m)) = sgQ ((q - x) * m) := by
          rw [im1, show (-1 : Rat) * m = -m by grind, sg_2, sg_mul, sg_neg g, sg_ng, Int.neg_one_mul]
        rw [sg_neg g, this]
        simp
      · exact absurd g d0
      · rw [sg_pos g]
        simp [d0]
section
variable {Φ : Nat → PSp}
theorem tg_n2 {a b c d : Nat} {x y u v : Rat} {τ : SDs} {R : SDs → Prop} : wTg (.nest (.cons (.many [a, b]) (.cons (.many [c, d]) .nil))) (.d (.tuple [J x y, J u v])) τ R = R ((((τ.set a (some (.val (.d (F x))))).set b (some (.val (.d (F y))))).set c (some (.val (.d (F u))))).set d (some (.val (.d (F v))))) := propext ⟨fun h => h.2.2.2, fun h => ⟨rfl, rfl, rfl, h⟩⟩
theorem tg_n3 {a b c d e f g h : Nat} {x y : Rat} {w : Int} {s b' u v : Rat} {z : Int} {t c' : Rat} {τ : SDs} {R : SDs → Prop} : wTg (.nest (.cons (.nest (.cons (.one a) (.cons (.one b) (.cons (.many [c, d]) .nil)))) (.cons (.nest (.cons (.one e) (.cons (.one f) (.cons (.many [g, h]) .nil)))) .nil))) (.d (.tuple [ST x y w s b', ST u v z t c'])) τ R = R ((((((((τ.set a (some (.val (.d (P3 x y))))).set b (some (.val (.d (.int w))))).set c (some (.val (.d (F s))))).set d (some (.val (.d (F b'))))).set e (some (.val (.d (P3 u v))))).set f (some (.val (.d (.int z))))).set g (some (.val (.d (F t))))).set h (some (.val (.d (F c'))))) := propext ⟨fun h => h.2.2.2.2.2, fun h => ⟨rfl, rfl, rfl, rfl, rfl, h⟩⟩
theorem sem_drops_meet (e1 : Φ 257 = sp_check_stream) (e2 : Φ 258 = sp_spout_of) (e3 : Φ 65 = sp_pminus) (e4 : Φ 82 = sp_quotient) (e5 : Φ 66 = sp_sign_with_root) (e6 : Φ 76 = sp_negative) (e7 : Φ 51 = sp_times) (e8 : Φ 50 = sp_sign) : ∀ ds Q, sp_drops_meet ds Q → wS Φ rs_drops_meet { nx := fun _ => Q (.d .none), rt := Q } (startD ["a", "b", "c", "d", "e", "f", "g", "h", "i", "j", "k", "l", "m", "n", "o", "p", "q", "r", "s"] ds) := by
  rintro ds Q ⟨x, y, w, s, b, u, v, z, t, c, rfl, h, hq⟩
  show wS Φ rs_drops_meet _ [some (.val (.d (ST x y w s b))), some (.val (.d (ST u v z t c))), none, none, none, none, none, none, none, none, none, none, none, none, none, none, none, none, none]
  rw [q_drops_meet]
  have z1 : Zp 8000 x y := (h.zx.pt h.zy).mono (by decide)
  have z2 : Zp 8000 u v := (h.zu.pt h.zv).mono (by decide)
  have zw1 := zf_w h.w1
  have zw2 := zf_w h.w2
  obtain ⟨w1, w2, b0, c0, zx, zu, zy, zv, zs, zt, zb, zc, -, -, -, -, -, -, -, -, -, -⟩ := h
  simp only [q_drops_meet_0, q_drops_meet_1, wS, wE, wA, wT, wI, wO, ev_add, ev_sub, ev_mul, ev_div, ev_mod, ev_pow, ev_cat, ev_lt, ev_le, ev_gt, ev_ge, ev_eq, ev_ne, ev_eqs, ev_nes, ix_F0, ix_F1, ix_J0, ix_J1, ix_P0, ix_P1, ix_P2, ix_t0, ix_t1, ix_t2, ix_l0, ix_l1, ix_l2, tg_1, tg_F, tg_J, tg_P, tg_2, tg_3, tg_4, fold_J, eq_F, ne_F, eq_J, ne_J, eq_P, ne_P, db_, di_, setVals, setAll, datas, itemsD, truD, List.getElem?_cons_zero, List.getElem?_cons_succ, List.set_cons_zero, List.set_cons_succ, Option.map_some, Option.map_none, Option.some.injEq, exists_eq_left', decide_eq_true_eq, Bool.not_true, Bool.not_false, Bool.false_eq_true, if_false, if_true, true_and, and_true, decide_true, decide_false, List.length_cons, List.length_nil, mx_0, mx_1, mx_2, mx_3, mx_4, mx_5, mx_6, mx_7, mx_8, mx_9, mx_10, mx_11, mx_12, mx_13, mx_14, mx_15, mx_16, mx_17, mx_18, mx_19, mx_20, mx_21, mx_22, mx_23, mx_24, Nat.reduceAdd, Nat.reduceLeDiff, Nat.zero_add, Bool.not_eq_true', decide_eq_false_iff_not, reduceIte, ev_reprb, e1, e2, ap_check_stream, ap_spout_of]
  refine ⟨w1, b0, w2, c0, ?_⟩
  simp only [q_drops_meet_2, wS, wE, wA, wT, wI, wO, ev_add, ev_sub, ev_mul, ev_div, ev_mod, ev_pow, ev_cat, ev_lt, ev_le, ev_gt, ev_ge, ev_eq, ev_ne, ev_eqs, ev_nes, ix_F0, ix_F1, ix_J0, ix_J1, ix_P0, ix_P1, ix_P2, ix_t0, ix_t1, ix_t2, ix_l0, ix_l1, ix_l2, tg_1, tg_F, tg_J, tg_P, tg_2, tg_3, tg_4, fold_J, eq_F, ne_F, eq_J, ne_J, eq_P, ne_P, db_, di_, setVals, setAll, datas, itemsD, truD, List.getElem?_cons_zero, List.getElem?_cons_succ, List.set_cons_zero, List.set_cons_succ, Option.map_some, Option.map_none, Option.some.injEq, exists_eq_left', decide_eq_true_eq, Bool.not_true, Bool.not_false, Bool.false_eq_true, if_false, if_true, true_and, and_true, decide_true, decide_false, List.length_cons, List.length_nil, mx_0, mx_1, mx_2, mx_3, mx_4, mx_5, mx_6, mx_7, mx_8, mx_9, mx_10, mx_11, mx_12, mx_13, mx_14, mx_15, mx_16, mx_17, mx_18, mx_19, mx_20, mx_21, mx_22, mx_23, mx_24, Nat.reduceAdd, Nat.reduceLeDiff, Nat.zero_add, Bool.not_eq_true', decide_eq_false_iff_not, reduceIte, ev_reprb, e2, ap_spout_of]
  refine ⟨z1, z2, ?_⟩
  rw [tg_n2]
  simp only [q_drops_meet_3, wS, wE, wA, wT, wI, wO, ev_add, ev_sub, ev_mul, ev_div, ev_mod, ev_pow, ev_cat, ev_lt, ev_le, ev_gt, ev_ge, ev_eq, ev_ne, ev_eqs, ev_nes, ix_F0, ix_F1, ix_J0, ix_J1, ix_P0, ix_P1, ix_P2, ix_t0, ix_t1, ix_t2, ix_l0, ix_l1, ix_l2, tg_1, tg_F, tg_J, tg_P, tg_2, tg_3, tg_4, fold_J, eq_F, ne_F, eq_J, ne_J, eq_P, ne_P, db_, di_, setVals, setAll, datas, itemsD, truD, List.getElem?_cons_zero, List.getElem?_cons_succ, List.set_cons_zero, List.set_cons_succ, Option.map_some, Option.map_none, Option.some.injEq, exists_eq_left', decide_eq_true_eq, Bool.not_true, Bool.not_false, Bool.false_eq_true, if_false, if_true, true_and, and_true, decide_true, decide_false, List.length_cons, List.length_nil, mx_0, mx_1, mx_2, mx_3, mx_4, mx_5, mx_6, mx_7, mx_8, mx_9, mx_10, mx_11, mx_12, mx_13, mx_14, mx_15, mx_16, mx_17, mx_18, mx_19, mx_20, mx_21, mx_22, mx_23, mx_24, Nat.reduceAdd, Nat.reduceLeDiff, Nat.zero_add, Bool.not_eq_true', decide_eq_false_iff_not, reduceIte, ev_reprb, e3, ap_pminus]
  refine ⟨by walk_at "sz", by walk_at "sz", by walk_at "sz", by walk_at "sz", ?_⟩
  simp only [q_drops_meet_4, wS, wE, wA, wT, wI, wO, ev_add, ev_sub, ev_mul, ev_div, ev_mod, ev_pow, ev_cat, ev_lt, ev_le, ev_gt, ev_ge, ev_eq, ev_ne, ev_eqs, ev_nes, ix_F0, ix_F1, ix_J0, ix_J1, ix_P0, ix_P1, ix_P2, ix_t0, ix_t1, ix_t2, ix_l0, ix_l1, ix_l2, tg_1, tg_F, tg_J, tg_P, tg_2, tg_3, tg_4, fold_J, eq_F, ne_F, eq_J, ne_J, eq_P, ne_P, db_, di_, setVals, setAll, datas, itemsD, truD, List.getElem?_cons_zero, List.getElem?_cons_succ, List.set_cons_zero, List.set_cons_succ, Option.map_some, Option.map_none, Option.some.injEq, exists_eq_left', decide_eq_true_eq, Bool.not_true, Bool.not_false, Bool.false_eq_true, if_false, if_true, true_and, and_true, decide_true, decide_false, List.length_cons, List.length_nil, mx_0, mx_1, mx_2, mx_3, mx_4, mx_5, mx_6, mx_7, mx_8, mx_9, mx_10, mx_11, mx_12, mx_13, mx_14, mx_15, mx_16, mx_17, mx_18, mx_19, mx_20, mx_21, mx_22, mx_23, mx_24, Nat.reduceAdd, Nat.reduceLeDiff, Nat.zero_add, Bool.not_eq_true', decide_eq_false_iff_not, reduceIte, ev_reprb]
  rw [tg_n3]
  simp only [q_drops_meet_5, wS, wE, wA, wT, wI, wO, ev_add, ev_sub, ev_mul, ev_div, ev_mod, ev_pow, ev_cat, ev_lt, ev_le, ev_gt, ev_ge, ev_eq, ev_ne, ev_eqs, ev_nes, ix_F0, ix_F1, ix_J0, ix_J1, ix_P0, ix_P1, ix_P2, ix_t0, ix_t1, ix_t2, ix_l0, ix_l1, ix_l2, tg_1, tg_F, tg_J, tg_P, tg_2, tg_3, tg_4, fold_J, eq_F, ne_F, eq_J, ne_J, eq_P, ne_P, db_, di_, setVals, setAll, datas, itemsD, truD, List.getElem?_cons_zero, List.getElem?_cons_succ, List.set_cons_zero, List.set_cons_succ, Option.map_some, Option.map_none, Option.some.injEq, exists_eq_left', decide_eq_true_eq, Bool.not_true, Bool.not_false, Bool.false_eq_true, if_false, if_true, true_and, and_true, decide_true, decide_false, List.length_cons, List.length_nil, mx_0, mx_1, mx_2, mx_3, mx_4, mx_5, mx_6, mx_7, mx_8, mx_9, mx_10, mx_11, mx_12, mx_13, mx_14, mx_15, mx_16, mx_17, mx_18, mx_19, mx_20, mx_21, mx_22, mx_23, mx_24, Nat.reduceAdd, Nat.reduceLeDiff, Nat.zero_add, Bool.not_eq_true', decide_eq_false_iff_not, reduceIte, ev_reprb, e4, ap_quotient]
  have c0' : c ≠ 0 := by grind
  refine ⟨c0', by walk_at "sz", by walk_at "sz", ?_⟩
  have r0 : 0 ≤ b / c := Rat.le_of_lt (div_pos b0 c0)
  have zr : Zf 60 (b / c) := zb.div zc (by decide)
  unfold dmB at hq
  generalize b / c = r at hq r0 zr ⊢
  simp only [q_drops_meet_6, wS, wE, wA, wT, wI, wO, ev_add, ev_sub, ev_mul, ev_div, ev_mod, ev_pow, ev_cat, ev_lt, ev_le, ev_gt, ev_ge, ev_eq, ev_ne, ev_eqs, ev_nes, ix_F0, ix_F1, ix_J0, ix_J1, ix_P0, ix_P1, ix_P2, ix_t0, ix_t1, ix_t2, ix_l0, ix_l1, ix_l2, tg_1, tg_F, tg_J, tg_P, tg_2, tg_3, tg_4, fold_J, eq_F, ne_F, eq_J, ne_J, eq_P, ne_P, db_, di_, setVals, setAll, datas, itemsD, truD, List.getElem?_cons_zero, List.getElem?_cons_succ, List.set_cons_zero, List.set_cons_succ, Option.map_some, Option.map_none, Option.some.injEq, exists_eq_left', decide_eq_true_eq, Bool.not_true, Bool.not_false, Bool.false_eq_true, if_false, if_true, true_and, and_true, decide_true, decide_false, List.length_cons, List.length_nil, mx_0, mx_1, mx_2, mx_3, mx_4, mx_5, mx_6, mx_7, mx_8, mx_9, mx_10, mx_11, mx_12, mx_13, mx_14, mx_15, mx_16, mx_17, mx_18, mx_19, mx_20, mx_21, mx_22, mx_23, mx_24, Nat.reduceAdd, Nat.reduceLeDiff, Nat.zero_add, Bool.not_eq_true', decide_eq_false_iff_not, reduceIte, ev_reprb, e5, tupI, ap_sign_with_root]
  rw [Rat.intCast_neg]
  refine ⟨r0, by walk_at "sz", by walk_at "sz", by walk_at "sz", by walk_at "sz", ?_⟩
  simp only [q_drops_meet_7, wS, wE, wA, wT, wI, wO, ev_add, ev_sub, ev_mul, ev_div, ev_mod, ev_pow, ev_cat, ev_lt, ev_le, ev_gt, ev_ge, ev_eq, ev_ne, ev_eqs, ev_nes, ix_F0, ix_F1, ix_J0, ix_J1, ix_P0, ix_P1, ix_P2, ix_t0, ix_t1, ix_t2, ix_l0, ix_l1, ix_l2, tg_1, tg_F, tg_J, tg_P, tg_2, tg_3, tg_4, fold_J, eq_F, ne_F, eq_J, ne_J, eq_P, ne_P, db_, di_, setVals, setAll, datas, itemsD, truD, List.getElem?_cons_zero, List.getElem?_cons_succ, List.set_cons_zero, List.set_cons_succ, Option.map_some, Option.map_none, Option.some.injEq, exists_eq_left', decide_eq_true_eq, Bool.not_true, Bool.not_false, Bool.false_eq_true, if_false, if_true, true_and, and_true, decide_true, decide_false, List.length_cons, List.length_nil, mx_0, mx_1, mx_2, mx_3, mx_4, mx_5, mx_6, mx_7, mx_8, mx_9, mx_10, mx_11, mx_12, mx_13, mx_14, mx_15, mx_16, mx_17, mx_18, mx_19, mx_20, mx_21, mx_22, mx_23, mx_24, Nat.reduceAdd, Nat.reduceLeDiff, Nat.zero_add, Bool.not_eq_true', decide_eq_false_iff_not, reduceIte, ev_reprb, e5, e6, ap_negative, ap_sign_with_root]
  refine ⟨r0, by walk_at "sz", by walk_at "sz", by walk_at "sz", by walk_at "sz", ?_⟩
  simp only [q_drops_meet_8, wS, wE, wA, wT, wI, wO, ev_add, ev_sub, ev_mul, ev_div, ev_mod, ev_pow, ev_cat, ev_lt, ev_le, ev_gt, ev_ge, ev_eq, ev_ne, ev_eqs, ev_nes, ix_F0, ix_F1, ix_J0, ix_J1, ix_P0, ix_P1, ix_P2, ix_t0, ix_t1, ix_t2, ix_l0, ix_l1, ix_l2, tg_1, tg_F, tg_J, tg_P, tg_2, tg_3, tg_4, fold_J, eq_F, ne_F, eq_J, ne_J, eq_P, ne_P, db_, di_, setVals, setAll, datas, itemsD, truD, List.getElem?_cons_zero, List.getElem?_cons_succ, List.set_cons_zero, List.set_cons_succ, Option.map_some, Option.map_none, Option.some.injEq, exists_eq_left', decide_eq_true_eq, Bool.not_true, Bool.not_false, Bool.false_eq_true, if_false, if_true, true_and, and_true, decide_true, decide_false, List.length_cons, List.length_nil, mx_0, mx_1, mx_2, mx_3, mx_4, mx_5, mx_6, mx_7, mx_8, mx_9, mx_10, mx_11, mx_12, mx_13, mx_14, mx_15, mx_16, mx_17, mx_18, mx_19, mx_20, mx_21, mx_22, mx_23, mx_24, Nat.reduceAdd, Nat.reduceLeDiff, Nat.zero_add, Bool.not_eq_true', decide_eq_false_iff_not, reduceIte, ev_reprb, e3, e5, e7, tupI, ap_times, ap_pminus, ap_sign_with_root]
  refine ⟨by walk_at "sz", by walk_at "sz", by walk_at "sz", by walk_at "sz", by walk_at "sz", by walk_at "sz", by walk_at "sz", by walk_at "sz", by walk_at "sz", by walk_at "sz", by walk_at "sz", by walk_at "sz", r0, by walk_at "sz", by walk_at "sz", by walk_at "sz", by walk_at "sz", ?_⟩
  generalize sgR (↑w * (v - y) - s * (u - x)) (t * (u - x) - ↑z * (v - y)) r = i1 at hq ⊢
  generalize sgR (w : Rat) (-↑z) r = i2 at hq ⊢
  generalize sgR s (-t) r = i3 at hq ⊢
  simp only [q_drops_meet_9, wS, wE, wA, wT, wI, wO, ev_add, ev_sub, ev_mul, ev_div, ev_mod, ev_pow, ev_cat, ev_lt, ev_le, ev_gt, ev_ge, ev_eq, ev_ne, ev_eqs, ev_nes, ix_F0, ix_F1, ix_J0, ix_J1, ix_P0, ix_P1, ix_P2, ix_t0, ix_t1, ix_t2, ix_l0, ix_l1, ix_l2, tg_1, tg_F, tg_J, tg_P, tg_2, tg_3, tg_4, fold_J, eq_F, ne_F, eq_J, ne_J, eq_P, ne_P, db_, di_, setVals, setAll, datas, itemsD, truD, List.getElem?_cons_zero, List.getElem?_cons_succ, List.set_cons_zero, List.set_cons_succ, Option.map_some, Option.map_none, Option.some.injEq, exists_eq_left', decide_eq_true_eq, Bool.not_true, Bool.not_false, Bool.false_eq_true, if_false, if_true, true_and, and_true, decide_true, decide_false, List.length_cons, List.length_nil, mx_0, mx_1, mx_2, mx_3, mx_4, mx_5, mx_6, mx_7, mx_8, mx_9, mx_10, mx_11, mx_12, mx_13, mx_14, mx_15, mx_16, mx_17, mx_18, mx_19, mx_20, mx_21, mx_22, mx_23, mx_24, Nat.reduceAdd, Nat.reduceLeDiff, Nat.zero_add, Bool.not_eq_true', decide_eq_false_iff_not, reduceIte, ev_reprb, num_zero]
  have fin : ¬ (u - x = 0 ∧ v - y = 0) → wS Φ q_drops_meet_10 { nx := fun _ => Q (.d .none), rt := Q } [some (.val (.d (ST x y w s b))), some (.val (.d (ST u v z t c))), some (.val (.d (F x))), some (.val (.d (F y))), some (.val (.d (F u))), some (.val (.d (F v))), some (.val (.d (F (u - x)))), some (.val (.d (F (v - y)))), some (.val (.d (P3 u v))), some (.val (.d (.int w))), some (.val (.d (F s))), some (.val (.d (F b))), some (.val (.d (.int z))), some (.val (.d (F t))), some (.val (.d (F c))), some (.val (.d (F r))), some (.val (.d (.int i2))), some (.val (.d (.int i3))), some (.val (.d (.int i1)))] := by
    intro hn
    simp only [hn, false_or] at hq
    simp only [q_drops_meet_10, wS, wE, wA, wT, wI, wO, ev_add, ev_sub, ev_mul, ev_div, ev_mod, ev_pow, ev_cat, ev_lt, ev_le, ev_gt, ev_ge, ev_eq, ev_ne, ev_eqs, ev_nes, ix_F0, ix_F1, ix_J0, ix_J1, ix_P0, ix_P1, ix_P2, ix_t0, ix_t1, ix_t2, ix_l0, ix_l1, ix_l2, tg_1, tg_F, tg_J, tg_P, tg_2, tg_3, tg_4, fold_J, eq_F, ne_F, eq_J, ne_J, eq_P, ne_P, db_, di_, setVals, setAll, datas, itemsD, truD, List.getElem?_cons_zero, List.getElem?_cons_succ, List.set_cons_zero, List.set_cons_succ, Option.map_some, Option.map_none, Option.some.injEq, exists_eq_left', decide_eq_true_eq, Bool.not_true, Bool.not_false, Bool.false_eq_true, if_false, if_true, true_and, and_true, decide_true, decide_false, List.length_cons, List.length_nil, mx_0, mx_1, mx_2, mx_3, mx_4, mx_5, mx_6, mx_7, mx_8, mx_9, mx_10, mx_11, mx_12, mx_13, mx_14, mx_15, mx_16, mx_17, mx_18, mx_19, mx_20, mx_21, mx_22, mx_23, mx_24, Nat.reduceAdd, Nat.reduceLeDiff, Nat.zero_add, Bool.not_eq_true', decide_eq_false_iff_not, reduceIte, ev_reprb, e8, ap_sign, sgI_num]
    by_cases c1 : i1 = 0
    · rw [if_pos c1]
      by_cases c2 : i2 = sgQ (u - x)
      · rw [if_pos c2]
        simpa [c1, c2] using hq
      · rw [if_neg c2]
        simpa [c1, c2] using hq
    · rw [if_neg c1]
      simpa [c1] using hq
  by_cases a : u - x = 0
  · rw [if_pos a]
    by_cases a2 : v - y = 0
    · rw [if_pos a2]
      simpa [a, a2] using hq
    · rw [if_neg a2]
      exact fin fun hh => a2 hh.2
  · rw [if_neg a]
    exact fin fun hh => a hh.1
end
def q_Lright_5_t_1 : RS := (.ret (.andV (.cmp .eq (.bi .repr (.cons (.var 5) .nil)) (.con (.str (Str.ofString "[None, None]")))) (.andV (.cmp .eq (.bi .repr (.cons (.var 7) .nil)) (.bi .repr (.cons (.cmp .eq (.var 6) (.con (.int 0))) .nil))) (.orV (.cmp .ne (.var 6) (.con (.int 0))) (.cmp .eq (.var 1) (.var 4))))))
def q_Lright_5_t_0 : RS := (.seq (.asg 7 (.call 267 (.cons (.var 1) (.cons (.var 4) .nil)))) q_Lright_5_t_1)
def q_Lright_6_t_2 : RS := (.ret (.andV (.cmp .eq (.bi .repr (.cons (.var 5) .nil)) (.con (.str (Str.ofString "[None, None]")))) (.cmp .iss (.call 267 (.cons (.var 1) (.cons (.var 4) .nil))) (.con (.bool true)))))
def q_Lright_6_t_1 : RS := (.seq (.iff (.or (.bl (.cmp .ne (.bi .repr (.cons (.call 272 (.cons (.var 1) (.cons (.var 8) .nil))) .nil)) (.bi .repr (.cons (.call 272 (.cons (.var 4) (.cons (.var 8) .nil))) .nil)))) (.bl (.isN (.call 272 (.cons (.var 1) (.cons (.var 8) .nil)))))) (.ret (.con (.bool false))) .skip) q_Lright_6_t_2)
def q_Lright_6_t_0 : RS := (.seq (.asg 8 (.call 224 (.cons (.tup (.cons (.con (.int 1)) (.cons (.con (.int 2)) .nil))) (.cons (.call 223 (.cons (.var 2) (.cons (.var 3) .nil))) .nil)))) q_Lright_6_t_1)
def q_Lright_11 : RS := (.ret (.andV (.cmp .eq (.call 264 (.cons (.var 1) (.cons (.var 4) (.cons (.con (.int 0)) .nil)))) (.con (.str (Str.ofString "both")))) (.cmp .iss (.call 267 (.cons (.var 4) (.cons (.var 1) .nil))) (.con (.bool true)))))
def q_Lright_10 : RS := (.seq (.iff (.bl (.cmp .ne (.bi .repr (.cons (.var 5) .nil)) (.bi .repr (.cons (.lst (.cons (.var 10) (.cons (.var 10) .nil))) .nil)))) (.ret (.con (.bool false))) .skip) q_Lright_11)
def q_Lright_9 : RS := (.seq (.asg 10 (.tup (.cons (.tup (.cons (.tup (.cons (.idx (.var 9) (.con (.int 0))) (.cons (.con (.int 0)) (.cons (.tup (.cons (.con (.int 0)) (.cons (.con (.int 1)) .nil))) .nil)))) (.cons (.tup (.cons (.idx (.var 9) (.con (.int 1))) (.cons (.con (.int 0)) (.cons (.tup (.cons (.con (.int 0)) (.cons (.con (.int 1)) .nil))) .nil)))) .nil))) .nil))) q_Lright_10)
def q_Lright_8 : RS := (.seq (.asg 9 (.call 230 (.cons (.idx (.var 1) (.con (.int 0))) .nil))) q_Lright_9)
def q_Lright_7 : RS := (.seq (.iff (.bl (.cmp .lt (.var 6) (.con (.int 0)))) (.ret (.andV (.cmp .eq (.bi .repr (.cons (.var 5) .nil)) (.con (.str (Str.ofString "[(), ()]")))) (.cmp .iss (.call 267 (.cons (.var 1) (.cons (.var 4) .nil))) (.con (.bool false))))) .skip) q_Lright_8)
def q_Lright_6 : RS := (.seq (.iff (.bl (.cmp .gt (.var 6) (.con (.int 0)))) q_Lright_6_t_0 .skip) q_Lright_7)
def q_Lright_5 : RS := (.seq (.iff (.bl (.cmp .eq (.idx (.var 4) (.con (.int 1))) (.idx (.var 1) (.con (.int 1))))) q_Lright_5_t_0 .skip) q_Lright_6)
def q_Lright_4 : RS := (.seq (.par [5, 6] (.cons (.lst (.cons (.call 263 (.cons (.var 1) (.cons (.var 4) .nil))) (.cons (.callK 263 0 2 [0, 1] .nil (.cons (.var 4) (.cons (.var 1) .nil))) .nil))) (.cons (.bin .mul (.call 93 (.cons (.var 3) (.cons (.var 2) .nil))) (.idx (.var 1) (.con (.int 1)))) .nil))) q_Lright_5)
def q_Lright_3 : RS := (.seq (.asg 4 (.call 244 (.cons (.var 1) (.cons (.var 3) (.cons (.bin .sub (.con (.int 1)) (.bin .mul (.con (.int 2)) (.call 0 (.cons (.var 0) (.cons (.con (.int 2)) .nil))))) .nil))))) q_Lright_4)
def q_Lright_2 : RS := (.seq (.asg 3 (.call 1 (.cons (.var 0) (.cons (.lst (.cons (.call 236 (.cons (.var 0) (.cons (.var 1) .nil))) (.cons (.var 2) (.cons (.call 59 (.cons (.var 2) (.cons (.call 2 (.cons (.var 0) .nil)) .nil))) (.cons (.call 223 (.cons (.var 2) (.cons (.call 2 (.cons (.var 0) .nil)) .nil))) .nil))))) .nil)))) q_Lright_3)
def q_Lright_1 : RS := (.seq (.asg 2 (.idx (.call 230 (.cons (.idx (.var 1) (.con (.int 0))) .nil)) (.con (.int 0)))) q_Lright_2)
def q_Lright_0 : RS := (.seq (.asg 1 (.call 238 (.cons (.var 0) .nil))) q_Lright_1)
theorem q_Lright : rs_Lright = q_Lright_0 := rfl
section
variable {Φ : Nat → PSp}
theorem oc_sz {x y : Rat} {w : Int} {s b q : Rat} {v : Int} (hw : Wy w) (hv : Wy v) (hb : 0 < b) (zx : Zf 4 x) (zy : Zf 4 y) (zs : Zf 4 s) (zb : Zf 4 b) (zq : Zf 13 q) : szM x y w s b q (ocY x y w s b q) v (v * ocS x w s b q) b := by
  have zA := zf_kA hw zx zy zs zb
  have zB := zf_kB (s := s) hw zx zs zb
  have zY : Zf 90 (ocY x y w s b q) := (zA.add (zq.mul (zB.add (zb.neg.mul zq)))).mono (by decide)
  have zS : Zf 50 ((v : Rat) * ocS x w s b q) := ((zf_w hv).mul (zB.add (zl2.mul (zb.neg.mul zq)))).mono (by decide)
  have z2 : Zf 4 (-2 : Rat) := zl2.neg
  refine ⟨hw, hv, hb, hb, zx.mono (by decide), zq.mono (by decide), zy.mono (by decide), zY.mono (by decide), zs.mono (by decide), zS.mono (by decide), zb.mono (by decide), zb.mono (by decide), ?_, ?_, ?_, zA.mono (by decide), ?_, zB.mono (by decide), ?_, ?_, ?_, ?_⟩
  · rw [oc_kA hv]; exact (zA.sub zA).mono (by decide)
  · rw [oc_kB hv]; exact (zB.sub zB).mono (by decide)
  · exact (zb.neg.sub zb.neg).mono (by decide)
  · rw [oc_kA hv]; exact zA.mono (by decide)
  · rw [oc_kB hv]; exact zB.mono (by decide)
  · exact ((zb.mul (zx.mul zx)).sub (zb.mul (zq.mul zq))).mono (by decide)
  · exact ((z2.mul (zb.mul zx)).sub (z2.mul (zb.mul zq))).mono (by decide)
  · exact (zb.sub zb).mono (by decide)
theorem tl_t0 : Tl (.tuple []) := (shw_tuple (n := 0) (k := 0) (xs := []) al0).mono (by decide) (by decide)
theorem rpF {v : Rat} (h : Zf 1920 v) {Q : DV → Prop} (hp : Q (.d (.str (F v).shown))) : wBi .repr [.d (F v)] Q := by
  have := shwF h
  exact ⟨this.1, this.2.1, Nat.le_trans this.2.2.1 (by decide), Nat.le_trans this.2.2.2 (by decide), hp⟩
theorem rpG {xs : List PyData} {n k : Nat} (h : Shw n k (.list xs)) (hn : n ≤ sizeLine) (hk : k ≤ 40) {Q : DV → Prop} (hp : Q (.d (.str (PyData.list xs).shown))) : wBi .repr [.d (.list xs)] Q := ⟨h.1, h.2.1, Nat.le_trans h.2.2.1 hk, Nat.le_trans h.2.2.2 hn, hp⟩
theorem tail_85 (e_Mdraw : Φ 0 = sp_Mdraw) (e_Mpick : Φ 1 = sp_Mpick) (e_Msize : Φ 2 = sp_Msize) (e_Mless : Φ 59 = sp_Mless) (e_Morder : Φ 93 = sp_Morder) (e_Lplus : Φ 223 = sp_Lplus) (e_Ltimes : Φ 224 = sp_Ltimes) (e_Lapart : Φ 230 = sp_Lapart) (e_Lfar_x : Φ 236 = sp_Lfar_x) (e_Lstream : Φ 238 = sp_Lstream) (e_Lon_curve : Φ 244 = sp_Lon_curve) (e_meetings : Φ 263 = sp_meetings) (e_first_there : Φ 264 = sp_first_there) (e_drops_meet : Φ 267 = sp_drops_meet) (e_water_at : Φ 272 = sp_water_at) (e_compareW : Φ 67 = sp_compareW) {Q : DV → Prop} (hq : Q (B true)) {x y : Rat} {w : Int} {s b q : Rat} (hw : Wy w) (hb : 0 < b) (zx : Zf 4 x) (zy : Zf 4 y) (zs : Zf 4 s) (zb : Zf 4 b) (zq : Zf 13 q) :
    wS Φ q_Lright_3 { nx := fun _ => Q (.d .none), rt := Q } [some (.val .vat), some (.val (.d (ST x y w s b))), some (.val (.d (F x))), some (.val (.d (F q))), none, none, none, none, none, none, none] := by
  simp only [q_Lright_3, wS, wE, wA, wT, wI, wO, ev_add, ev_sub, ev_mul, ev_div, ev_mod, ev_pow, ev_cat, ev_lt, ev_le, ev_gt, ev_ge, ev_eq, ev_ne, ev_eqs, ev_nes, ix_F0, ix_F1, ix_J0, ix_J1, ix_P0, ix_P1, ix_P2, ix_t0, ix_t1, ix_t2, ix_l0, ix_l1, ix_l2, tg_1, tg_F, tg_J, tg_P, tg_2, tg_3, tg_4, fold_J, eq_F, ne_F, eq_J, ne_J, eq_P, ne_P, db_, di_, setVals, setAll, datas, itemsD, truD, List.getElem?_cons_zero, List.getElem?_cons_succ, List.set_cons_zero, List.set_cons_succ, Option.map_some, Option.map_none, Option.some.injEq, exists_eq_left', decide_eq_true_eq, Bool.not_true, Bool.not_false, Bool.false_eq_true, if_false, if_true, true_and, and_true, decide_true, decide_false, List.length_cons, List.length_nil, mx_0, mx_1, mx_2, mx_3, mx_4, mx_5, mx_6, mx_7, mx_8, mx_9, mx_10, mx_11, mx_12, mx_13, mx_14, mx_15, mx_16, mx_17, mx_18, mx_19, mx_20, mx_21, mx_22, mx_23, mx_24, Nat.reduceAdd, Nat.reduceLeDiff, Nat.zero_add, Bool.not_eq_true', decide_eq_false_iff_not, reduceIte, ev_reprb, e_Mdraw, e_Mpick, e_Msize, e_Mless, e_Morder, e_Lplus, e_Ltimes, e_Lapart, e_Lfar_x, e_Lstream, e_Lon_curve, e_meetings, e_first_there, e_drops_meet, e_water_at, e_compareW, ap_Mdraw, ap_Mpick, ap_Msize, ap_Mless, ap_Morder, ap_Lplus, ap_Ltimes, ap_Lapart, ap_Lfar_x, ap_Lstream, ap_Lon_curve, ap_meetings, ap_first_there, ap_drops_meet, ap_water_at, ap_compareW]
  refine ⟨by decide, by decide, fun r r0 r1 => ⟨.inl (.inl ⟨by omega, by omega⟩), ?_⟩⟩
  have hv : Wy (1 - 2 * r) := by unfold Wy; omega
  generalize 1 - 2 * r = v at hv
  refine ⟨hw, hv, zx.mono (by decide), zy.mono (by decide), zs.mono (by decide), zb.mono (by decide), zq.mono (by decide), ?_⟩
  have hm := oc_sz hw hv hb zx zy zs zb zq
  have hm' := hm.swap
  show wS Φ q_Lright_4 _ [_, _, _, _, some (.val (.d (ST q (ocY x y w s b q) v (v * ocS x w s b q) b))), none, none, none, none, none, none]
  simp only [q_Lright_4, wS, wE, wA, wT, wI, wO, ev_add, ev_sub, ev_mul, ev_div, ev_mod, ev_pow, ev_cat, ev_lt, ev_le, ev_gt, ev_ge, ev_eq, ev_ne, ev_eqs, ev_nes, ix_F0, ix_F1, ix_J0, ix_J1, ix_P0, ix_P1, ix_P2, ix_t0, ix_t1, ix_t2, ix_l0, ix_l1, ix_l2, tg_1, tg_F, tg_J, tg_P, tg_2, tg_3, tg_4, fold_J, eq_F, ne_F, eq_J, ne_J, eq_P, ne_P, db_, di_, setVals, setAll, datas, itemsD, truD, List.getElem?_cons_zero, List.getElem?_cons_succ, List.set_cons_zero, List.set_cons_succ, Option.map_some, Option.map_none, Option.some.injEq, exists_eq_left', decide_eq_true_eq, Bool.not_true, Bool.not_false, Bool.false_eq_true, if_false, if_true, true_and, and_true, decide_true, decide_false, List.length_cons, List.length_nil, mx_0, mx_1, mx_2, mx_3, mx_4, mx_5, mx_6, mx_7, mx_8, mx_9, mx_10, mx_11, mx_12, mx_13, mx_14, mx_15, mx_16, mx_17, mx_18, mx_19, mx_20, mx_21, mx_22, mx_23, mx_24, Nat.reduceAdd, Nat.reduceLeDiff, Nat.zero_add, Bool.not_eq_true', decide_eq_false_iff_not, reduceIte, ev_reprb, e_Mdraw, e_Mpick, e_Msize, e_Mless, e_Morder, e_Lplus, e_Ltimes, e_Lapart, e_Lfar_x, e_Lstream, e_Lon_curve, e_meetings, e_first_there, e_drops_meet, e_water_at, e_compareW, ap_Mdraw, ap_Mpick, ap_Msize, ap_Mless, ap_Morder, ap_Lplus, ap_Ltimes, ap_Lapart, ap_Lfar_x, ap_Lstream, ap_Lon_curve, ap_meetings, ap_first_there, ap_drops_meet, ap_water_at, ap_compareW, pm_01, List.nil_append, ix_ST1]
  have s3 := sg_in (q - x)
  refine ⟨hm, hm', zq.mono (by decide), zx.mono (by decide), .inl (.inl ⟨by omega, by omega⟩), ?_⟩
  simp only [q_Lright_5, wS, wE, wA, wT, wI, wO, ev_add, ev_sub, ev_mul, ev_div, ev_mod, ev_pow, ev_cat, ev_lt, ev_le, ev_gt, ev_ge, ev_eq, ev_ne, ev_eqs, ev_nes, ix_F0, ix_F1, ix_J0, ix_J1, ix_P0, ix_P1, ix_P2, ix_t0, ix_t1, ix_t2, ix_l0, ix_l1, ix_l2, tg_1, tg_F, tg_J, tg_P, tg_2, tg_3, tg_4, fold_J, eq_F, ne_F, eq_J, ne_J, eq_P, ne_P, db_, di_, setVals, setAll, datas, itemsD, truD, List.getElem?_cons_zero, List.getElem?_cons_succ, List.set_cons_zero, List.set_cons_succ, Option.map_some, Option.map_none, Option.some.injEq, exists_eq_left', decide_eq_true_eq, Bool.not_true, Bool.not_false, Bool.false_eq_true, if_false, if_true, true_and, and_true, decide_true, decide_false, List.length_cons, List.length_nil, mx_0, mx_1, mx_2, mx_3, mx_4, mx_5, mx_6, mx_7, mx_8, mx_9, mx_10, mx_11, mx_12, mx_13, mx_14, mx_15, mx_16, mx_17, mx_18, mx_19, mx_20, mx_21, mx_22, mx_23, mx_24, Nat.reduceAdd, Nat.reduceLeDiff, Nat.zero_add, Bool.not_eq_true', decide_eq_false_iff_not, reduceIte, ev_reprb, ix_ST1]
  by_cases hvw : v = w
  · rw [if_pos hvw]
    subst hvw
    have m1 : mpS x y v s b q (ocY x y v s b q) v (v * ocS x v s b q) b = none := by rw [mp_same hv, odo_same hv]; rfl
    have m2 : mpS q (ocY x y v s b q) v (v * ocS x v s b q) b x y v s b = none := by rw [mp_same' hv, odo_same hv]; rfl
    rw [m1, m2]
    simp only [q_Lright_5_t_0, wS, wE, wA, wT, wI, wO, ev_add, ev_sub, ev_mul, ev_div, ev_mod, ev_pow, ev_cat, ev_lt, ev_le, ev_gt, ev_ge, ev_eq, ev_ne, ev_eqs, ev_nes, ix_F0, ix_F1, ix_J0, ix_J1, ix_P0, ix_P1, ix_P2, ix_t0, ix_t1, ix_t2, ix_l0, ix_l1, ix_l2, tg_1, tg_F, tg_J, tg_P, tg_2, tg_3, tg_4, fold_J, eq_F, ne_F, eq_J, ne_J, eq_P, ne_P, db_, di_, setVals, setAll, datas, itemsD, truD, List.getElem?_cons_zero, List.getElem?_cons_succ, List.set_cons_zero, List.set_cons_succ, Option.map_some, Option.map_none, Option.some.injEq, exists_eq_left', decide_eq_true_eq, Bool.not_true, Bool.not_false, Bool.false_eq_true, if_false, if_true, true_and, and_true, decide_true, decide_false, List.length_cons, List.length_nil, mx_0, mx_1, mx_2, mx_3, mx_4, mx_5, mx_6, mx_7, mx_8, mx_9, mx_10, mx_11, mx_12, mx_13, mx_14, mx_15, mx_16, mx_17, mx_18, mx_19, mx_20, mx_21, mx_22, mx_23, mx_24, Nat.reduceAdd, Nat.reduceLeDiff, Nat.zero_add, Bool.not_eq_true', decide_eq_false_iff_not, reduceIte, ev_reprb, e_Mdraw, e_Mpick, e_Msize, e_Mless, e_Morder, e_Lplus, e_Ltimes, e_Lapart, e_Lfar_x, e_Lstream, e_Lon_curve, e_meetings, e_first_there, e_drops_meet, e_water_at, e_compareW, ap_Mdraw, ap_Mpick, ap_Msize, ap_Mless, ap_Morder, ap_Lplus, ap_Ltimes, ap_Lapart, ap_Lfar_x, ap_Lstream, ap_Lon_curve, ap_meetings, ap_first_there, ap_drops_meet, ap_water_at, ap_compareW, msD]
    refine ⟨hm, ?_⟩
    rw [dm_same hv hb]
    simp only [q_Lright_5_t_1, wS, wE, wA, wT, wI, wO, ev_add, ev_sub, ev_mul, ev_div, ev_mod, ev_pow, ev_cat, ev_lt, ev_le, ev_gt, ev_ge, ev_eq, ev_ne, ev_eqs, ev_nes, ix_F0, ix_F1, ix_J0, ix_J1, ix_P0, ix_P1, ix_P2, ix_t0, ix_t1, ix_t2, ix_l0, ix_l1, ix_l2, tg_1, tg_F, tg_J, tg_P, tg_2, tg_3, tg_4, fold_J, eq_F, ne_F, eq_J, ne_J, eq_P, ne_P, db_, di_, setVals, setAll, datas, itemsD, truD, List.getElem?_cons_zero, List.getElem?_cons_succ, List.set_cons_zero, List.set_cons_succ, Option.map_some, Option.map_none, Option.some.injEq, exists_eq_left', decide_eq_true_eq, Bool.not_true, Bool.not_false, Bool.false_eq_true, if_false, if_true, true_and, and_true, decide_true, decide_false, List.length_cons, List.length_nil, mx_0, mx_1, mx_2, mx_3, mx_4, mx_5, mx_6, mx_7, mx_8, mx_9, mx_10, mx_11, mx_12, mx_13, mx_14, mx_15, mx_16, mx_17, mx_18, mx_19, mx_20, mx_21, mx_22, mx_23, mx_24, Nat.reduceAdd, Nat.reduceLeDiff, Nat.zero_add, Bool.not_eq_true', decide_eq_false_iff_not, reduceIte, ev_reprb]
    walk_at "rp"
    have e0 : (PyData.list [.none, .none]).shown = Str.ofString "[None, None]" := by decide +kernel
    simp only [wS, wE, wA, wT, wI, wO, ev_add, ev_sub, ev_mul, ev_div, ev_mod, ev_pow, ev_cat, ev_lt, ev_le, ev_gt, ev_ge, ev_eq, ev_ne, ev_eqs, ev_nes, ix_F0, ix_F1, ix_J0, ix_J1, ix_P0, ix_P1, ix_P2, ix_t0, ix_t1, ix_t2, ix_l0, ix_l1, ix_l2, tg_1, tg_F, tg_J, tg_P, tg_2, tg_3, tg_4, fold_J, eq_F, ne_F, eq_J, ne_J, eq_P, ne_P, db_, di_, setVals, setAll, datas, itemsD, truD, List.getElem?_cons_zero, List.getElem?_cons_succ, List.set_cons_zero, List.set_cons_succ, Option.map_some, Option.map_none, Option.some.injEq, exists_eq_left', decide_eq_true_eq, Bool.not_true, Bool.not_false, Bool.false_eq_true, if_false, if_true, true_and, and_true, decide_true, decide_false, List.length_cons, List.length_nil, mx_0, mx_1, mx_2, mx_3, mx_4, mx_5, mx_6, mx_7, mx_8, mx_9, mx_10, mx_11, mx_12, mx_13, mx_14, mx_15, mx_16, mx_17, mx_18, mx_19, mx_20, mx_21, mx_22, mx_23, mx_24, Nat.reduceAdd, Nat.reduceLeDiff, Nat.zero_add, Bool.not_eq_true', decide_eq_false_iff_not, reduceIte, ev_reprb]
    rw [if_pos e0]
    by_cases hx : q = x
    · subst hx
      have z : q - q = 0 := by grind
      rw [z, sg_zero]
      have eY : ocY q y v s b q = y := by unfold ocY kA kB; grind
      have eS : (v : Rat) * ocS q v s b q = s := by have := wsq hv; unfold ocS kB; grind
      rw [eY, eS]
      simp only [wS, wE, wA, wT, wI, wO, ev_add, ev_sub, ev_mul, ev_div, ev_mod, ev_pow, ev_cat, ev_lt, ev_le, ev_gt, ev_ge, ev_eq, ev_ne, ev_eqs, ev_nes, ix_F0, ix_F1, ix_J0, ix_J1, ix_P0, ix_P1, ix_P2, ix_t0, ix_t1, ix_t2, ix_l0, ix_l1, ix_l2, tg_1, tg_F, tg_J, tg_P, tg_2, tg_3, tg_4, fold_J, eq_F, ne_F, eq_J, ne_J, eq_P, ne_P, db_, di_, setVals, setAll, datas, itemsD, truD, List.getElem?_cons_zero, List.getElem?_cons_succ, List.set_cons_zero, List.set_cons_succ, Option.map_some, Option.map_none, Option.some.injEq, exists_eq_left', decide_eq_true_eq, Bool.not_true, Bool.not_false, Bool.false_eq_true, if_false, if_true, true_and, and_true, decide_true, decide_false, List.length_cons, List.length_nil, mx_0, mx_1, mx_2, mx_3, mx_4, mx_5, mx_6, mx_7, mx_8, mx_9, mx_10, mx_11, mx_12, mx_13, mx_14, mx_15, mx_16, mx_17, mx_18, mx_19, mx_20, mx_21, mx_22, mx_23, mx_24, Nat.reduceAdd, Nat.reduceLeDiff, Nat.zero_add, Bool.not_eq_true', decide_eq_false_iff_not, reduceIte, ev_reprb, Int.zero_mul, eq_ST]
      split <;> exact hq
    · have d0 : sgQ (q - x) * v ≠ 0 := by
        rcases hv with rfl | rfl <;> rcases sgQ_ne (show q - x ≠ 0 by grind) with h | h <;> rw [h] <;> decide
      simp only [hx, d0, wS, wE, wA, wT, wI, wO, ev_add, ev_sub, ev_mul, ev_div, ev_mod, ev_pow, ev_cat, ev_lt, ev_le, ev_gt, ev_ge, ev_eq, ev_ne, ev_eqs, ev_nes, ix_F0, ix_F1, ix_J0, ix_J1, ix_P0, ix_P1, ix_P2, ix_t0, ix_t1, ix_t2, ix_l0, ix_l1, ix_l2, tg_1, tg_F, tg_J, tg_P, tg_2, tg_3, tg_4, fold_J, eq_F, ne_F, eq_J, ne_J, eq_P, ne_P, db_, di_, setVals, setAll, datas, itemsD, truD, List.getElem?_cons_zero, List.getElem?_cons_succ, List.set_cons_zero, List.set_cons_succ, Option.map_some, Option.map_none, Option.some.injEq, exists_eq_left', decide_eq_true_eq, Bool.not_true, Bool.not_false, Bool.false_eq_true, if_false, if_true, true_and, and_true, decide_true, decide_false, List.length_cons, List.length_nil, mx_0, mx_1, mx_2, mx_3, mx_4, mx_5, mx_6, mx_7, mx_8, mx_9, mx_10, mx_11, mx_12, mx_13, mx_14, mx_15, mx_16, mx_17, mx_18, mx_19, mx_20, mx_21, mx_22, mx_23, mx_24, Nat.reduceAdd, Nat.reduceLeDiff, Nat.zero_add, Bool.not_eq_true', decide_eq_false_iff_not, reduceIte, ev_reprb]
      rw [if_pos (fun h => h)]
      exact hq
  · rw [if_neg hvw]
    have e : v = -w := by rcases hw with rfl | rfl <;> rcases hv with rfl | rfl <;> first | rfl | exact absurd rfl hvw
    subst e
    have f1 := odo_face hw x q
    have f2 := odo_face' hw x q
    have dm := dm_face (x := x) (y := y) (s := s) (q := q) hw hb
    simp only [q_Lright_6, wS, wE, wA, wT, wI, wO, ev_add, ev_sub, ev_mul, ev_div, ev_mod, ev_pow, ev_cat, ev_lt, ev_le, ev_gt, ev_ge, ev_eq, ev_ne, ev_eqs, ev_nes, ix_F0, ix_F1, ix_J0, ix_J1, ix_P0, ix_P1, ix_P2, ix_t0, ix_t1, ix_t2, ix_l0, ix_l1, ix_l2, tg_1, tg_F, tg_J, tg_P, tg_2, tg_3, tg_4, fold_J, eq_F, ne_F, eq_J, ne_J, eq_P, ne_P, db_, di_, setVals, setAll, datas, itemsD, truD, List.getElem?_cons_zero, List.getElem?_cons_succ, List.set_cons_zero, List.set_cons_succ, Option.map_some, Option.map_none, Option.some.injEq, exists_eq_left', decide_eq_true_eq, Bool.not_true, Bool.not_false, Bool.false_eq_true, if_false, if_true, true_and, and_true, decide_true, decide_false, List.length_cons, List.length_nil, mx_0, mx_1, mx_2, mx_3, mx_4, mx_5, mx_6, mx_7, mx_8, mx_9, mx_10, mx_11, mx_12, mx_13, mx_14, mx_15, mx_16, mx_17, mx_18, mx_19, mx_20, mx_21, mx_22, mx_23, mx_24, Nat.reduceAdd, Nat.reduceLeDiff, Nat.zero_add, Bool.not_eq_true', decide_eq_false_iff_not, reduceIte, ev_reprb]
    by_cases c1 : 0 < sgQ (q - x) * w
    · rw [if_pos c1]
      have m1 : mpS x y w s b q (ocY x y w s b q) (-w) ((-w : Int) * ocS x w s b q) b = none := by
        rw [mp_same hv, f1.1, if_neg (by omega), if_neg (by omega)]
      have m2 : mpS q (ocY x y w s b q) (-w) ((-w : Int) * ocS x w s b q) b x y w s b = none := by
        rw [mp_same' hv, f2.1, if_neg (by omega), if_neg (by omega)]
      rw [m1, m2]
      simp only [q_Lright_6_t_0, wS, wE, wA, wT, wI, wO, ev_add, ev_sub, ev_mul, ev_div, ev_mod, ev_pow, ev_cat, ev_lt, ev_le, ev_gt, ev_ge, ev_eq, ev_ne, ev_eqs, ev_nes, ix_F0, ix_F1, ix_J0, ix_J1, ix_P0, ix_P1, ix_P2, ix_t0, ix_t1, ix_t2, ix_l0, ix_l1, ix_l2, tg_1, tg_F, tg_J, tg_P, tg_2, tg_3, tg_4, fold_J, eq_F, ne_F, eq_J, ne_J, eq_P, ne_P, db_, di_, setVals, setAll, datas, itemsD, truD, List.getElem?_cons_zero, List.getElem?_cons_succ, List.set_cons_zero, List.set_cons_succ, Option.map_some, Option.map_none, Option.some.injEq, exists_eq_left', decide_eq_true_eq, Bool.not_true, Bool.not_false, Bool.false_eq_true, if_false, if_true, true_and, and_true, decide_true, decide_false, List.length_cons, List.length_nil, mx_0, mx_1, mx_2, mx_3, mx_4, mx_5, mx_6, mx_7, mx_8, mx_9, mx_10, mx_11, mx_12, mx_13, mx_14, mx_15, mx_16, mx_17, mx_18, mx_19, mx_20, mx_21, mx_22, mx_23, mx_24, Nat.reduceAdd, Nat.reduceLeDiff, Nat.zero_add, Bool.not_eq_true', decide_eq_false_iff_not, reduceIte, ev_reprb, e_Mdraw, e_Mpick, e_Msize, e_Mless, e_Morder, e_Lplus, e_Ltimes, e_Lapart, e_Lfar_x, e_Lstream, e_Lon_curve, e_meetings, e_first_there, e_drops_meet, e_water_at, e_compareW, ap_Mdraw, ap_Mpick, ap_Msize, ap_Mless, ap_Morder, ap_Lplus, ap_Ltimes, ap_Lapart, ap_Lfar_x, ap_Lstream, ap_Lon_curve, ap_meetings, ap_first_there, ap_drops_meet, ap_water_at, ap_compareW, msD, lit_12]
      have zh : Zf 4 (1 / 2 : Rat) := ⟨by unfold Sz; decide +kernel, by unfold Sz; decide +kernel⟩
      have zm : Zf 30 (1 / 2 * (x + q)) := (zh.mul (zx.add zq)).mono (by decide)
      refine ⟨by walk_at "sz", by walk_at "sz", by walk_at "sz", by walk_at "sz", ?_⟩
      have s3' := sg_in (q - x)
      have h1 : has x w (1 / 2 * (x + q)) := by
        unfold has
        rw [show (1 / 2 * (x + q)) - x = 1 / 2 * (q - x) by grind]
        rcases hw with rfl | rfl
        · have : 0 < q - x := by rw [← sg_gt0]; omega
          rw [i1]; grind
        · have : q - x < 0 := by rw [← sg_lt0]; omega
          rw [im1]; grind
      have h2 : has q (-w) (1 / 2 * (x + q)) := by
        unfold has
        rw [show (1 / 2 * (x + q)) - q = -(1 / 2 * (q - x)) by grind, Rat.intCast_neg]
        rcases hw with rfl | rfl
        · have : 0 < q - x := by rw [← sg_gt0]; omega
          rw [i1]; grind
        · have : q - x < 0 := by rw [← sg_lt0]; omega
          rw [im1]; grind
      have zA := hm.k1
      have zB := hm.l1
      simp only [q_Lright_6_t_1, wS, wE, wA, wT, wI, wO, ev_add, ev_sub, ev_mul, ev_div, ev_mod, ev_pow, ev_cat, ev_lt, ev_le, ev_gt, ev_ge, ev_eq, ev_ne, ev_eqs, ev_nes, ix_F0, ix_F1, ix_J0, ix_J1, ix_P0, ix_P1, ix_P2, ix_t0, ix_t1, ix_t2, ix_l0, ix_l1, ix_l2, tg_1, tg_F, tg_J, tg_P, tg_2, tg_3, tg_4, fold_J, eq_F, ne_F, eq_J, ne_J, eq_P, ne_P, db_, di_, setVals, setAll, datas, itemsD, truD, List.getElem?_cons_zero, List.getElem?_cons_succ, List.set_cons_zero, List.set_cons_succ, Option.map_some, Option.map_none, Option.some.injEq, exists_eq_left', decide_eq_true_eq, Bool.not_true, Bool.not_false, Bool.false_eq_true, if_false, if_true, true_and, and_true, decide_true, decide_false, List.length_cons, List.length_nil, mx_0, mx_1, mx_2, mx_3, mx_4, mx_5, mx_6, mx_7, mx_8, mx_9, mx_10, mx_11, mx_12, mx_13, mx_14, mx_15, mx_16, mx_17, mx_18, mx_19, mx_20, mx_21, mx_22, mx_23, mx_24, Nat.reduceAdd, Nat.reduceLeDiff, Nat.zero_add, Bool.not_eq_true', decide_eq_false_iff_not, reduceIte, ev_reprb, e_Mdraw, e_Mpick, e_Msize, e_Mless, e_Morder, e_Lplus, e_Ltimes, e_Lapart, e_Lfar_x, e_Lstream, e_Lon_curve, e_meetings, e_first_there, e_drops_meet, e_water_at, e_compareW, ap_Mdraw, ap_Mpick, ap_Msize, ap_Mless, ap_Morder, ap_Lplus, ap_Ltimes, ap_Lapart, ap_Lfar_x, ap_Lstream, ap_Lon_curve, ap_meetings, ap_first_there, ap_drops_meet, ap_water_at, ap_compareW]
      rw [if_pos h1, if_pos h2, oc_kA hv, oc_kB hv]
      generalize 1 / 2 * (x + q) = m at zm
      refine ⟨hm.w1, hb, hm.zx, hm.zy, hm.zs.mono (by decide), hm.zb.mono (by decide), zm.mono (by decide), ?_⟩
      refine rpF ((zA.add (zm.mul (zB.add (zb.neg.mul zm)))).mono (by decide)) ?_
      refine ⟨hv, hb, hm.zu, hm.zv, hm.zt.mono (by decide), hm.zb.mono (by decide), zm.mono (by decide), ?_⟩
      refine rpF ((zA.add (zm.mul (zB.add (zb.neg.mul zm)))).mono (by decide)) ?_
      simp only [wS, wE, wA, wT, wI, wO, ev_add, ev_sub, ev_mul, ev_div, ev_mod, ev_pow, ev_cat, ev_lt, ev_le, ev_gt, ev_ge, ev_eq, ev_ne, ev_eqs, ev_nes, ix_F0, ix_F1, ix_J0, ix_J1, ix_P0, ix_P1, ix_P2, ix_t0, ix_t1, ix_t2, ix_l0, ix_l1, ix_l2, tg_1, tg_F, tg_J, tg_P, tg_2, tg_3, tg_4, fold_J, eq_F, ne_F, eq_J, ne_J, eq_P, ne_P, db_, di_, setVals, setAll, datas, itemsD, truD, List.getElem?_cons_zero, List.getElem?_cons_succ, List.set_cons_zero, List.set_cons_succ, Option.map_some, Option.map_none, Option.some.injEq, exists_eq_left', decide_eq_true_eq, Bool.not_true, Bool.not_false, Bool.false_eq_true, if_false, if_true, true_and, and_true, decide_true, decide_false, List.length_cons, List.length_nil, mx_0, mx_1, mx_2, mx_3, mx_4, mx_5, mx_6, mx_7, mx_8, mx_9, mx_10, mx_11, mx_12, mx_13, mx_14, mx_15, mx_16, mx_17, mx_18, mx_19, mx_20, mx_21, mx_22, mx_23, mx_24, Nat.reduceAdd, Nat.reduceLeDiff, Nat.zero_add, Bool.not_eq_true', decide_eq_false_iff_not, reduceIte, ev_reprb]
      refine ⟨hm.w1, hb, hm.zx, hm.zy, hm.zs.mono (by decide), hm.zb.mono (by decide), zm.mono (by decide), ?_⟩
      rw [if_neg (by unfold F; simp)]
      simp only [q_Lright_6_t_2, wS, wE, wA, wT, wI, wO, ev_add, ev_sub, ev_mul, ev_div, ev_mod, ev_pow, ev_cat, ev_lt, ev_le, ev_gt, ev_ge, ev_eq, ev_ne, ev_eqs, ev_nes, ix_F0, ix_F1, ix_J0, ix_J1, ix_P0, ix_P1, ix_P2, ix_t0, ix_t1, ix_t2, ix_l0, ix_l1, ix_l2, tg_1, tg_F, tg_J, tg_P, tg_2, tg_3, tg_4, fold_J, eq_F, ne_F, eq_J, ne_J, eq_P, ne_P, db_, di_, setVals, setAll, datas, itemsD, truD, List.getElem?_cons_zero, List.getElem?_cons_succ, List.set_cons_zero, List.set_cons_succ, Option.map_some, Option.map_none, Option.some.injEq, exists_eq_left', decide_eq_true_eq, Bool.not_true, Bool.not_false, Bool.false_eq_true, if_false, if_true, true_and, and_true, decide_true, decide_false, List.length_cons, List.length_nil, mx_0, mx_1, mx_2, mx_3, mx_4, mx_5, mx_6, mx_7, mx_8, mx_9, mx_10, mx_11, mx_12, mx_13, mx_14, mx_15, mx_16, mx_17, mx_18, mx_19, mx_20, mx_21, mx_22, mx_23, mx_24, Nat.reduceAdd, Nat.reduceLeDiff, Nat.zero_add, Bool.not_eq_true', decide_eq_false_iff_not, reduceIte, ev_reprb, e_Mdraw, e_Mpick, e_Msize, e_Mless, e_Morder, e_Lplus, e_Ltimes, e_Lapart, e_Lfar_x, e_Lstream, e_Lon_curve, e_meetings, e_first_there, e_drops_meet, e_water_at, e_compareW, ap_Mdraw, ap_Mpick, ap_Msize, ap_Mless, ap_Morder, ap_Lplus, ap_Ltimes, ap_Lapart, ap_Lfar_x, ap_Lstream, ap_Lon_curve, ap_meetings, ap_first_there, ap_drops_meet, ap_water_at, ap_compareW]
      refine rp1 (by simp) (al1 tl_none (al1 tl_none al0)) ?_
      have e0 : (PyData.list [.none, .none]).shown = Str.ofString "[None, None]" := by decide +kernel
      simp only [wS, wE, wA, wT, wI, wO, ev_add, ev_sub, ev_mul, ev_div, ev_mod, ev_pow, ev_cat, ev_lt, ev_le, ev_gt, ev_ge, ev_eq, ev_ne, ev_eqs, ev_nes, ix_F0, ix_F1, ix_J0, ix_J1, ix_P0, ix_P1, ix_P2, ix_t0, ix_t1, ix_t2, ix_l0, ix_l1, ix_l2, tg_1, tg_F, tg_J, tg_P, tg_2, tg_3, tg_4, fold_J, eq_F, ne_F, eq_J, ne_J, eq_P, ne_P, db_, di_, setVals, setAll, datas, itemsD, truD, List.getElem?_cons_zero, List.getElem?_cons_succ, List.set_cons_zero, List.set_cons_succ, Option.map_some, Option.map_none, Option.some.injEq, exists_eq_left', decide_eq_true_eq, Bool.not_true, Bool.not_false, Bool.false_eq_true, if_false, if_true, true_and, and_true, decide_true, decide_false, List.length_cons, List.length_nil, mx_0, mx_1, mx_2, mx_3, mx_4, mx_5, mx_6, mx_7, mx_8, mx_9, mx_10, mx_11, mx_12, mx_13, mx_14, mx_15, mx_16, mx_17, mx_18, mx_19, mx_20, mx_21, mx_22, mx_23, mx_24, Nat.reduceAdd, Nat.reduceLeDiff, Nat.zero_add, Bool.not_eq_true', decide_eq_false_iff_not, reduceIte, ev_reprb]
      rw [if_pos e0]
      refine ⟨hm, ?_⟩
      rw [dm, decide_eq_true (by omega)]
      exact hq
    · rw [if_neg c1]
      simp only [q_Lright_7, wS, wE, wA, wT, wI, wO, ev_add, ev_sub, ev_mul, ev_div, ev_mod, ev_pow, ev_cat, ev_lt, ev_le, ev_gt, ev_ge, ev_eq, ev_ne, ev_eqs, ev_nes, ix_F0, ix_F1, ix_J0, ix_J1, ix_P0, ix_P1, ix_P2, ix_t0, ix_t1, ix_t2, ix_l0, ix_l1, ix_l2, tg_1, tg_F, tg_J, tg_P, tg_2, tg_3, tg_4, fold_J, eq_F, ne_F, eq_J, ne_J, eq_P, ne_P, db_, di_, setVals, setAll, datas, itemsD, truD, List.getElem?_cons_zero, List.getElem?_cons_succ, List.set_cons_zero, List.set_cons_succ, Option.map_some, Option.map_none, Option.some.injEq, exists_eq_left', decide_eq_true_eq, Bool.not_true, Bool.not_false, Bool.false_eq_true, if_false, if_true, true_and, and_true, decide_true, decide_false, List.length_cons, List.length_nil, mx_0, mx_1, mx_2, mx_3, mx_4, mx_5, mx_6, mx_7, mx_8, mx_9, mx_10, mx_11, mx_12, mx_13, mx_14, mx_15, mx_16, mx_17, mx_18, mx_19, mx_20, mx_21, mx_22, mx_23, mx_24, Nat.reduceAdd, Nat.reduceLeDiff, Nat.zero_add, Bool.not_eq_true', decide_eq_false_iff_not, reduceIte, ev_reprb]
      by_cases c2 : sgQ (q - x) * w < 0
      · rw [if_pos c2]
        have m1 : mpS x y w s b q (ocY x y w s b q) (-w) ((-w : Int) * ocS x w s b q) b = some [] := by
          rw [mp_same hv, f1.1, if_pos (by omega)]
        have m2 : mpS q (ocY x y w s b q) (-w) ((-w : Int) * ocS x w s b q) b x y w s b = some [] := by
          rw [mp_same' hv, f2.1, if_pos (by omega)]
        rw [m1, m2]
        simp only [msD, List.map]
        refine rp1 (by simp) (al1 tl_t0 (al1 tl_t0 al0)) ?_
        have e0 : (PyData.list [.tuple [], .tuple []]).shown = Str.ofString "[(), ()]" := by decide +kernel
        simp only [wS, wE, wA, wT, wI, wO, ev_add, ev_sub, ev_mul, ev_div, ev_mod, ev_pow, ev_cat, ev_lt, ev_le, ev_gt, ev_ge, ev_eq, ev_ne, ev_eqs, ev_nes, ix_F0, ix_F1, ix_J0, ix_J1, ix_P0, ix_P1, ix_P2, ix_t0, ix_t1, ix_t2, ix_l0, ix_l1, ix_l2, tg_1, tg_F, tg_J, tg_P, tg_2, tg_3, tg_4, fold_J, eq_F, ne_F, eq_J, ne_J, eq_P, ne_P, db_, di_, setVals, setAll, datas, itemsD, truD, List.getElem?_cons_zero, List.getElem?_cons_succ, List.set_cons_zero, List.set_cons_succ, Option.map_some, Option.map_none, Option.some.injEq, exists_eq_left', decide_eq_true_eq, Bool.not_true, Bool.not_false, Bool.false_eq_true, if_false, if_true, true_and, and_true, decide_true, decide_false, List.length_cons, List.length_nil, mx_0, mx_1, mx_2, mx_3, mx_4, mx_5, mx_6, mx_7, mx_8, mx_9, mx_10, mx_11, mx_12, mx_13, mx_14, mx_15, mx_16, mx_17, mx_18, mx_19, mx_20, mx_21, mx_22, mx_23, mx_24, Nat.reduceAdd, Nat.reduceLeDiff, Nat.zero_add, Bool.not_eq_true', decide_eq_false_iff_not, reduceIte, ev_reprb]
        rw [if_pos e0]
        simp only [e_Mdraw, e_Mpick, e_Msize, e_Mless, e_Morder, e_Lplus, e_Ltimes, e_Lapart, e_Lfar_x, e_Lstream, e_Lon_curve, e_meetings, e_first_there, e_drops_meet, e_water_at, e_compareW, ap_Mdraw, ap_Mpick, ap_Msize, ap_Mless, ap_Morder, ap_Lplus, ap_Ltimes, ap_Lapart, ap_Lfar_x, ap_Lstream, ap_Lon_curve, ap_meetings, ap_first_there, ap_drops_meet, ap_water_at, ap_compareW]
        refine ⟨hm, ?_⟩
        rw [dm, decide_eq_false (by omega)]
        exact hq
      · rw [if_neg c2]
        have c3 : sgQ (q - x) * w = 0 := by omega
        have eq : q = x := by
          rcases tri (q - x) with h | h | h
          · rw [sg_neg h] at c3; rcases hw with rfl | rfl <;> cases c3
          · grind
          · rw [sg_pos h] at c3; rcases hw with rfl | rfl <;> cases c3
        subst eq
        have m1 : mpS q y w s b q (ocY q y w s b q) (-w) ((-w : Int) * ocS q w s b q) b = some [(q, 0, 0)] := by
          rw [mp_same hv, f1.1, if_neg (by omega), if_pos (by omega), f1.2 rfl]
          rfl
        have m2 : mpS q (ocY q y w s b q) (-w) ((-w : Int) * ocS q w s b q) b q y w s b = some [(q, 0, 0)] := by
          rw [mp_same' hv, f2.1, if_neg (by omega), if_pos (by omega), f2.2 rfl]
          rfl
        rw [oc_kA hv, oc_kB hv]
        rw [m1, m2]
        simp only [msD, List.map, at_begin]
        simp only [q_Lright_8, wS, wE, wA, wT, wI, wO, ev_add, ev_sub, ev_mul, ev_div, ev_mod, ev_pow, ev_cat, ev_lt, ev_le, ev_gt, ev_ge, ev_eq, ev_ne, ev_eqs, ev_nes, ix_F0, ix_F1, ix_J0, ix_J1, ix_P0, ix_P1, ix_P2, ix_t0, ix_t1, ix_t2, ix_l0, ix_l1, ix_l2, tg_1, tg_F, tg_J, tg_P, tg_2, tg_3, tg_4, fold_J, eq_F, ne_F, eq_J, ne_J, eq_P, ne_P, db_, di_, setVals, setAll, datas, itemsD, truD, List.getElem?_cons_zero, List.getElem?_cons_succ, List.set_cons_zero, List.set_cons_succ, Option.map_some, Option.map_none, Option.some.injEq, exists_eq_left', decide_eq_true_eq, Bool.not_true, Bool.not_false, Bool.false_eq_true, if_false, if_true, true_and, and_true, decide_true, decide_false, List.length_cons, List.length_nil, mx_0, mx_1, mx_2, mx_3, mx_4, mx_5, mx_6, mx_7, mx_8, mx_9, mx_10, mx_11, mx_12, mx_13, mx_14, mx_15, mx_16, mx_17, mx_18, mx_19, mx_20, mx_21, mx_22, mx_23, mx_24, Nat.reduceAdd, Nat.reduceLeDiff, Nat.zero_add, Bool.not_eq_true', decide_eq_false_iff_not, reduceIte, ev_reprb, e_Mdraw, e_Mpick, e_Msize, e_Mless, e_Morder, e_Lplus, e_Ltimes, e_Lapart, e_Lfar_x, e_Lstream, e_Lon_curve, e_meetings, e_first_there, e_drops_meet, e_water_at, e_compareW, ap_Mdraw, ap_Mpick, ap_Msize, ap_Mless, ap_Morder, ap_Lplus, ap_Ltimes, ap_Lapart, ap_Lfar_x, ap_Lstream, ap_Lon_curve, ap_meetings, ap_first_there, ap_drops_meet, ap_water_at, ap_compareW, ix_ST0]
        refine ⟨(zx.pt zy).mono (by decide), ?_⟩
        simp only [q_Lright_9, wS, wE, wA, wT, wI, wO, ev_add, ev_sub, ev_mul, ev_div, ev_mod, ev_pow, ev_cat, ev_lt, ev_le, ev_gt, ev_ge, ev_eq, ev_ne, ev_eqs, ev_nes, ix_F0, ix_F1, ix_J0, ix_J1, ix_P0, ix_P1, ix_P2, ix_t0, ix_t1, ix_t2, ix_l0, ix_l1, ix_l2, tg_1, tg_F, tg_J, tg_P, tg_2, tg_3, tg_4, fold_J, eq_F, ne_F, eq_J, ne_J, eq_P, ne_P, db_, di_, setVals, setAll, datas, itemsD, truD, List.getElem?_cons_zero, List.getElem?_cons_succ, List.set_cons_zero, List.set_cons_succ, Option.map_some, Option.map_none, Option.some.injEq, exists_eq_left', decide_eq_true_eq, Bool.not_true, Bool.not_false, Bool.false_eq_true, if_false, if_true, true_and, and_true, decide_true, decide_false, List.length_cons, List.length_nil, mx_0, mx_1, mx_2, mx_3, mx_4, mx_5, mx_6, mx_7, mx_8, mx_9, mx_10, mx_11, mx_12, mx_13, mx_14, mx_15, mx_16, mx_17, mx_18, mx_19, mx_20, mx_21, mx_22, mx_23, mx_24, Nat.reduceAdd, Nat.reduceLeDiff, Nat.zero_add, Bool.not_eq_true', decide_eq_false_iff_not, reduceIte, ev_reprb]
        have td : Shw 52000 4 (.tuple [.tuple [SUt (q, 0, 0), SUt (y, 0, 0)]]) := by
          have t2 : ∀ {z : Rat}, Zf 4 z → Shw 16000 2 (SUt (z, 0, 0)) := fun zz => tl_SU (zz.mono (by decide)) (.inl rfl) (zl0.mono (by decide))
          exact (shw_tuple (k := 3) (al1 ((shw_tuple (k := 2) (al1 (t2 zx) (al1 (t2 zy) al0))).mono (n' := 40000) (by simp) (by decide)) al0)).mono (by simp) (by decide)
        simp only [q_Lright_10, wS, wE, wA, wT, wI, wO, ev_add, ev_sub, ev_mul, ev_div, ev_mod, ev_pow, ev_cat, ev_lt, ev_le, ev_gt, ev_ge, ev_eq, ev_ne, ev_eqs, ev_nes, ix_F0, ix_F1, ix_J0, ix_J1, ix_P0, ix_P1, ix_P2, ix_t0, ix_t1, ix_t2, ix_l0, ix_l1, ix_l2, tg_1, tg_F, tg_J, tg_P, tg_2, tg_3, tg_4, fold_J, eq_F, ne_F, eq_J, ne_J, eq_P, ne_P, db_, di_, setVals, setAll, datas, itemsD, truD, List.getElem?_cons_zero, List.getElem?_cons_succ, List.set_cons_zero, List.set_cons_succ, Option.map_some, Option.map_none, Option.some.injEq, exists_eq_left', decide_eq_true_eq, Bool.not_true, Bool.not_false, Bool.false_eq_true, if_false, if_true, true_and, and_true, decide_true, decide_false, List.length_cons, List.length_nil, mx_0, mx_1, mx_2, mx_3, mx_4, mx_5, mx_6, mx_7, mx_8, mx_9, mx_10, mx_11, mx_12, mx_13, mx_14, mx_15, mx_16, mx_17, mx_18, mx_19, mx_20, mx_21, mx_22, mx_23, mx_24, Nat.reduceAdd, Nat.reduceLeDiff, Nat.zero_add, Bool.not_eq_true', decide_eq_false_iff_not, reduceIte, ev_reprb]
        refine rpG (shw_list (al1 td (al1 td al0))) (by unfold sizeLine; simp) (by decide) ?_
        refine rpG (shw_list (al1 td (al1 td al0))) (by unfold sizeLine; simp) (by decide) ?_
        simp only [wS, wE, wA, wT, wI, wO, ev_add, ev_sub, ev_mul, ev_div, ev_mod, ev_pow, ev_cat, ev_lt, ev_le, ev_gt, ev_ge, ev_eq, ev_ne, ev_eqs, ev_nes, ix_F0, ix_F1, ix_J0, ix_J1, ix_P0, ix_P1, ix_P2, ix_t0, ix_t1, ix_t2, ix_l0, ix_l1, ix_l2, tg_1, tg_F, tg_J, tg_P, tg_2, tg_3, tg_4, fold_J, eq_F, ne_F, eq_J, ne_J, eq_P, ne_P, db_, di_, setVals, setAll, datas, itemsD, truD, List.getElem?_cons_zero, List.getElem?_cons_succ, List.set_cons_zero, List.set_cons_succ, Option.map_some, Option.map_none, Option.some.injEq, exists_eq_left', decide_eq_true_eq, Bool.not_true, Bool.not_false, Bool.false_eq_true, if_false, if_true, true_and, and_true, decide_true, decide_false, List.length_cons, List.length_nil, mx_0, mx_1, mx_2, mx_3, mx_4, mx_5, mx_6, mx_7, mx_8, mx_9, mx_10, mx_11, mx_12, mx_13, mx_14, mx_15, mx_16, mx_17, mx_18, mx_19, mx_20, mx_21, mx_22, mx_23, mx_24, Nat.reduceAdd, Nat.reduceLeDiff, Nat.zero_add, Bool.not_eq_true', decide_eq_false_iff_not, reduceIte, ev_reprb]
        simp only [q_Lright_11, wS, wE, wA, wT, wI, wO, ev_add, ev_sub, ev_mul, ev_div, ev_mod, ev_pow, ev_cat, ev_lt, ev_le, ev_gt, ev_ge, ev_eq, ev_ne, ev_eqs, ev_nes, ix_F0, ix_F1, ix_J0, ix_J1, ix_P0, ix_P1, ix_P2, ix_t0, ix_t1, ix_t2, ix_l0, ix_l1, ix_l2, tg_1, tg_F, tg_J, tg_P, tg_2, tg_3, tg_4, fold_J, eq_F, ne_F, eq_J, ne_J, eq_P, ne_P, db_, di_, setVals, setAll, datas, itemsD, truD, List.getElem?_cons_zero, List.getElem?_cons_succ, List.set_cons_zero, List.set_cons_succ, Option.map_some, Option.map_none, Option.some.injEq, exists_eq_left', decide_eq_true_eq, Bool.not_true, Bool.not_false, Bool.false_eq_true, if_false, if_true, true_and, and_true, decide_true, decide_false, List.length_cons, List.length_nil, mx_0, mx_1, mx_2, mx_3, mx_4, mx_5, mx_6, mx_7, mx_8, mx_9, mx_10, mx_11, mx_12, mx_13, mx_14, mx_15, mx_16, mx_17, mx_18, mx_19, mx_20, mx_21, mx_22, mx_23, mx_24, Nat.reduceAdd, Nat.reduceLeDiff, Nat.zero_add, Bool.not_eq_true', decide_eq_false_iff_not, reduceIte, ev_reprb, e_Mdraw, e_Mpick, e_Msize, e_Mless, e_Morder, e_Lplus, e_Ltimes, e_Lapart, e_Lfar_x, e_Lstream, e_Lon_curve, e_meetings, e_first_there, e_drops_meet, e_water_at, e_compareW, ap_Mdraw, ap_Mpick, ap_Msize, ap_Mless, ap_Morder, ap_Lplus, ap_Ltimes, ap_Lapart, ap_Lfar_x, ap_Lstream, ap_Lon_curve, ap_meetings, ap_first_there, ap_drops_meet, ap_water_at, ap_compareW]
        refine ⟨hm, [(q, 0, 0)], (q, 0, 0), m1, by decide, rfl, ?_⟩
        have z1 : b * (q * q) - b * (q * q) = 0 := by grind
        have z2 : -2 * (b * q) - -2 * (b * q) = 0 := by grind
        have z3 : b - b = 0 := by grind
        have e1 : frT q b q b (q, 0, 0) = 0 := by
          unfold frT
          rw [z1, z2, z3]
          exact sAt_nought (q, 0, 0)
        rw [e1]
        have e2 : fwD 0 = Str.ofString "both" := rfl
        rw [if_pos e2]
        refine ⟨hm', ?_⟩
        have e3 : dmB q (ocY q y w s b q) (-w) ((-w : Int) * ocS q w s b q) b q y w s b = true := by
          unfold dmB
          have : ocY q y w s b q = y := by unfold ocY kA kB; grind
          exact decide_eq_true (Or.inl ⟨by grind, by grind⟩)
        rw [e3]
        exact hq
theorem sem_Lright (e_Mdraw : Φ 0 = sp_Mdraw) (e_Mpick : Φ 1 = sp_Mpick) (e_Msize : Φ 2 = sp_Msize) (e_Mless : Φ 59 = sp_Mless) (e_Morder : Φ 93 = sp_Morder) (e_Lplus : Φ 223 = sp_Lplus) (e_Ltimes : Φ 224 = sp_Ltimes) (e_Lapart : Φ 230 = sp_Lapart) (e_Lfar_x : Φ 236 = sp_Lfar_x) (e_Lstream : Φ 238 = sp_Lstream) (e_Lon_curve : Φ 244 = sp_Lon_curve) (e_meetings : Φ 263 = sp_meetings) (e_first_there : Φ 264 = sp_first_there) (e_drops_meet : Φ 267 = sp_drops_meet) (e_water_at : Φ 272 = sp_water_at) (e_compareW : Φ 67 = sp_compareW) : ∀ ds Q, sp_Lright ds Q → wS Φ rs_Lright { nx := fun _ => Q (.d .none), rt := Q } (startD ["x0", "x1", "x2", "x3", "x4", "x5", "x6", "x7", "x8", "x9", "x10"] ds) := by
  rintro ds Q ⟨rfl, hq⟩
  show wS Φ rs_Lright _ [some (.val .vat), none, none, none, none, none, none, none, none, none, none]
  rw [q_Lright]
  simp only [q_Lright_0, wS, wE, wA, wT, wI, wO, ev_add, ev_sub, ev_mul, ev_div, ev_mod, ev_pow, ev_cat, ev_lt, ev_le, ev_gt, ev_ge, ev_eq, ev_ne, ev_eqs, ev_nes, ix_F0, ix_F1, ix_J0, ix_J1, ix_P0, ix_P1, ix_P2, ix_t0, ix_t1, ix_t2, ix_l0, ix_l1, ix_l2, tg_1, tg_F, tg_J, tg_P, tg_2, tg_3, tg_4, fold_J, eq_F, ne_F, eq_J, ne_J, eq_P, ne_P, db_, di_, setVals, setAll, datas, itemsD, truD, List.getElem?_cons_zero, List.getElem?_cons_succ, List.set_cons_zero, List.set_cons_succ, Option.map_some, Option.map_none, Option.some.injEq, exists_eq_left', decide_eq_true_eq, Bool.not_true, Bool.not_false, Bool.false_eq_true, if_false, if_true, true_and, and_true, decide_true, decide_false, List.length_cons, List.length_nil, mx_0, mx_1, mx_2, mx_3, mx_4, mx_5, mx_6, mx_7, mx_8, mx_9, mx_10, mx_11, mx_12, mx_13, mx_14, mx_15, mx_16, mx_17, mx_18, mx_19, mx_20, mx_21, mx_22, mx_23, mx_24, Nat.reduceAdd, Nat.reduceLeDiff, Nat.zero_add, Bool.not_eq_true', decide_eq_false_iff_not, reduceIte, ev_reprb, e_Mdraw, e_Mpick, e_Msize, e_Mless, e_Morder, e_Lplus, e_Ltimes, e_Lapart, e_Lfar_x, e_Lstream, e_Lon_curve, e_meetings, e_first_there, e_drops_meet, e_water_at, e_compareW, ap_Mdraw, ap_Mpick, ap_Msize, ap_Mless, ap_Morder, ap_Lplus, ap_Ltimes, ap_Lapart, ap_Lfar_x, ap_Lstream, ap_Lon_curve, ap_meetings, ap_first_there, ap_drops_meet, ap_water_at, ap_compareW]
  intro x y w s b hw hb zx zy zs zb
  simp only [q_Lright_1, wS, wE, wA, wT, wI, wO, ev_add, ev_sub, ev_mul, ev_div, ev_mod, ev_pow, ev_cat, ev_lt, ev_le, ev_gt, ev_ge, ev_eq, ev_ne, ev_eqs, ev_nes, ix_F0, ix_F1, ix_J0, ix_J1, ix_P0, ix_P1, ix_P2, ix_t0, ix_t1, ix_t2, ix_l0, ix_l1, ix_l2, tg_1, tg_F, tg_J, tg_P, tg_2, tg_3, tg_4, fold_J, eq_F, ne_F, eq_J, ne_J, eq_P, ne_P, db_, di_, setVals, setAll, datas, itemsD, truD, List.getElem?_cons_zero, List.getElem?_cons_succ, List.set_cons_zero, List.set_cons_succ, Option.map_some, Option.map_none, Option.some.injEq, exists_eq_left', decide_eq_true_eq, Bool.not_true, Bool.not_false, Bool.false_eq_true, if_false, if_true, true_and, and_true, decide_true, decide_false, List.length_cons, List.length_nil, mx_0, mx_1, mx_2, mx_3, mx_4, mx_5, mx_6, mx_7, mx_8, mx_9, mx_10, mx_11, mx_12, mx_13, mx_14, mx_15, mx_16, mx_17, mx_18, mx_19, mx_20, mx_21, mx_22, mx_23, mx_24, Nat.reduceAdd, Nat.reduceLeDiff, Nat.zero_add, Bool.not_eq_true', decide_eq_false_iff_not, reduceIte, ev_reprb, e_Mdraw, e_Mpick, e_Msize, e_Mless, e_Morder, e_Lplus, e_Ltimes, e_Lapart, e_Lfar_x, e_Lstream, e_Lon_curve, e_meetings, e_first_there, e_drops_meet, e_water_at, e_compareW, ap_Mdraw, ap_Mpick, ap_Msize, ap_Mless, ap_Morder, ap_Lplus, ap_Ltimes, ap_Lapart, ap_Lfar_x, ap_Lstream, ap_Lon_curve, ap_meetings, ap_first_there, ap_drops_meet, ap_water_at, ap_compareW, ix_ST0]
  refine ⟨(zx.pt zy).mono (by decide), ?_⟩
  simp only [q_Lright_2, wS, wE, wA, wT, wI, wO, ev_add, ev_sub, ev_mul, ev_div, ev_mod, ev_pow, ev_cat, ev_lt, ev_le, ev_gt, ev_ge, ev_eq, ev_ne, ev_eqs, ev_nes, ix_F0, ix_F1, ix_J0, ix_J1, ix_P0, ix_P1, ix_P2, ix_t0, ix_t1, ix_t2, ix_l0, ix_l1, ix_l2, tg_1, tg_F, tg_J, tg_P, tg_2, tg_3, tg_4, fold_J, eq_F, ne_F, eq_J, ne_J, eq_P, ne_P, db_, di_, setVals, setAll, datas, itemsD, truD, List.getElem?_cons_zero, List.getElem?_cons_succ, List.set_cons_zero, List.set_cons_succ, Option.map_some, Option.map_none, Option.some.injEq, exists_eq_left', decide_eq_true_eq, Bool.not_true, Bool.not_false, Bool.false_eq_true, if_false, if_true, true_and, and_true, decide_true, decide_false, List.length_cons, List.length_nil, mx_0, mx_1, mx_2, mx_3, mx_4, mx_5, mx_6, mx_7, mx_8, mx_9, mx_10, mx_11, mx_12, mx_13, mx_14, mx_15, mx_16, mx_17, mx_18, mx_19, mx_20, mx_21, mx_22, mx_23, mx_24, Nat.reduceAdd, Nat.reduceLeDiff, Nat.zero_add, Bool.not_eq_true', decide_eq_false_iff_not, reduceIte, ev_reprb, e_Mdraw, e_Mpick, e_Msize, e_Mless, e_Morder, e_Lplus, e_Ltimes, e_Lapart, e_Lfar_x, e_Lstream, e_Lon_curve, e_meetings, e_first_there, e_drops_meet, e_water_at, e_compareW, ap_Mdraw, ap_Mpick, ap_Msize, ap_Mless, ap_Morder, ap_Lplus, ap_Ltimes, ap_Lapart, ap_Lfar_x, ap_Lstream, ap_Lon_curve, ap_meetings, ap_first_there, ap_drops_meet, ap_water_at, ap_compareW]
  refine ⟨hw, zx.mono (by decide), zy.mono (by decide), fun z z0 zz => ?_⟩
  intro u u0 zu
  refine ⟨by walk_at "sz", by walk_at "sz", fun t t0 zt => ⟨by walk_at "sz", by walk_at "sz", ?_⟩⟩
  refine ⟨_, rfl, by simp, by simp, fun X hX => ?_⟩
  simp only [List.mem_cons, List.not_mem_nil, or_false] at hX
  rcases hX with rfl | rfl | rfl | rfl
  · exact tail_85 e_Mdraw e_Mpick e_Msize e_Mless e_Morder e_Lplus e_Ltimes e_Lapart e_Lfar_x e_Lstream e_Lon_curve e_meetings e_first_there e_drops_meet e_water_at e_compareW hq hw hb zx zy zs zb ((zx.add ((zf_w hw).mul zz)).mono (by decide))
  · exact tail_85 e_Mdraw e_Mpick e_Msize e_Mless e_Morder e_Lplus e_Ltimes e_Lapart e_Lfar_x e_Lstream e_Lon_curve e_meetings e_first_there e_drops_meet e_water_at e_compareW hq hw hb zx zy zs zb (zx.mono (by decide))
  · exact tail_85 e_Mdraw e_Mpick e_Msize e_Mless e_Morder e_Lplus e_Ltimes e_Lapart e_Lfar_x e_Lstream e_Lon_curve e_meetings e_first_there e_drops_meet e_water_at e_compareW hq hw hb zx zy zs zb ((zx.sub zu).mono (by decide))
  · exact tail_85 e_Mdraw e_Mpick e_Msize e_Mless e_Morder e_Lplus e_Ltimes e_Lapart e_Lfar_x e_Lstream e_Lon_curve e_meetings e_first_there e_drops_meet e_water_at e_compareW hq hw hb zx zy zs zb ((zx.add zt).mono (by decide))

end
section
variable {Φ : Nat → PSp}
theorem sem_Mlaw (e : Φ 36 = sp_Lright) (e1 : Φ 196 = sp_Lwell) (e2 : Φ 235 = sp_Lrounds) : ∀ ds Q, sp_Mlaw ds Q → wS Φ rs_Mlaw { nx := fun _ => Q (.d .none), rt := Q } (startD ["a", "b"] ds) := law2 (by decide) (by decide) (by decide) e e1 e2
end
def topS (i : Nat) : Stmt := PySem.Challenge.pw_spoutlines_k85_whole_streams_on_one_curv.main.body.getD i (.Pass ⟨0, 0, 0, 0⟩)
abbrev st_Lcommon : Stmt := topS 65
def cc_Lcommon : CC := { N := ["_law_numbers", "_law_found", "_law_number", "_law_one", "_law_two", "_law_step"], sc := defScope st_Lcommon, fn := fun _ => true, fs := [], kb := [], ms := [], bs := ["range", "abs", "int"], ap := [], gs := [] }
theorem c_Lcommon : cSs 60 cc_Lcommon (defBody st_Lcommon) = some rs_Lcommon := by kernel_rfl
theorem sc_Lcommon : FnScope cc_Lcommon.N ["_law_numbers"] cc_Lcommon.sc := ⟨rfl, rfl, rfl, by decide +kernel, rfl, by decide +kernel, by decide +kernel⟩
abbrev st_Llean : Stmt := topS 66
def cc_Llean : CC := { N := ["_law_numbers", "_law_by", "_law_number"], sc := defScope st_Llean, fn := fun _ => true, fs := [("_law_common", 218)], kb := [], ms := [], bs := ["max", "tuple"], ap := [], gs := [] }
theorem c_Llean : cSs 60 cc_Llean (defBody st_Llean) = some rs_Llean := by kernel_rfl
theorem sc_Llean : FnScope cc_Llean.N ["_law_numbers"] cc_Llean.sc := ⟨rfl, rfl, rfl, by decide +kernel, rfl, by decide +kernel, by decide +kernel⟩
abbrev st_Lpoint : Stmt := topS 77
def cc_Lpoint : CC := { N := ["_law_x", "_law_y"], sc := defScope st_Lpoint, fn := fun _ => true, fs := [("_law_lean", 219)], kb := [], ms := [], bs := [], ap := [], gs := [] }
theorem c_Lpoint : cSs 60 cc_Lpoint (defBody st_Lpoint) = some rs_Lpoint := by kernel_rfl
theorem sc_Lpoint : FnScope cc_Lpoint.N ["_law_x", "_law_y"] cc_Lpoint.sc := ⟨rfl, rfl, rfl, by decide +kernel, rfl, by decide +kernel, by decide +kernel⟩
abbrev st_Mdraw : Stmt := topS 62
def cc_Mdraw : CC := { N := ["_law_well_here", "_law_many", "_law_digit", "_law_mixed"], sc := defScope st_Mdraw, fn := fun _ => true, fs := [], kb := [], ms := [], bs := ["divmod", "int"], ap := [], gs := [] }
theorem c_Mdraw : cSs 60 cc_Mdraw (defBody st_Mdraw) = some rs_Mdraw := by kernel_rfl
theorem sc_Mdraw : FnScope cc_Mdraw.N ["_law_well_here", "_law_many"] cc_Mdraw.sc := ⟨rfl, rfl, rfl, by decide +kernel, rfl, by decide +kernel, by decide +kernel⟩
abbrev st_Mpick : Stmt := topS 64
def cc_Mpick : CC := { N := ["_law_well_here", "_law_some"], sc := defScope st_Mpick, fn := fun _ => true, fs := [("_law_draw", 0)], kb := [], ms := [], bs := ["len"], ap := [], gs := [] }
theorem c_Mpick : cSs 60 cc_Mpick (defBody st_Mpick) = some rs_Mpick := by kernel_rfl
theorem sc_Mpick : FnScope cc_Mpick.N ["_law_well_here", "_law_some"] cc_Mpick.sc := ⟨rfl, rfl, rfl, by decide +kernel, rfl, by decide +kernel, by decide +kernel⟩
abbrev st_Lratio : Stmt := topS 67
def cc_Lratio : CC := { N := ["_law_n", "_law_m"], sc := defScope st_Lratio, fn := fun _ => true, fs := [("_law_lean", 219)], kb := [], ms := [], bs := [], ap := [], gs := [] }
theorem c_Lratio : cSs 60 cc_Lratio (defBody st_Lratio) = some rs_Lratio := by kernel_rfl
theorem sc_Lratio : FnScope cc_Lratio.N ["_law_n", "_law_m"] cc_Lratio.sc := ⟨rfl, rfl, rfl, by decide +kernel, rfl, by decide +kernel, by decide +kernel⟩
abbrev st_Msize : Stmt := topS 74
def cc_Msize : CC := { N := ["_law_well_here", "_law_way"], sc := defScope st_Msize, fn := fun _ => true, fs := [("_law_draw", 0), ("_law_ratio", 220), ("_law_pick", 1)], kb := [], ms := [], bs := [], ap := [], gs := [] }
theorem c_Msize : cSs 60 cc_Msize (defBody st_Msize) = some rs_Msize := by kernel_rfl
theorem sc_Msize : FnScope cc_Msize.N ["_law_well_here"] cc_Msize.sc := ⟨rfl, rfl, rfl, by decide +kernel, rfl, by decide +kernel, by decide +kernel⟩
abbrev st_Lpart : Stmt := topS 75
def cc_Lpart : CC := { N := ["_law_well_here", "_law_size_here"], sc := defScope st_Lpart, fn := fun _ => true, fs := [("_law_pick", 1), ("_law_size", 2), ("_law_draw", 0)], kb := [], ms := [], bs := [], ap := [], gs := [] }
theorem c_Lpart : cSs 60 cc_Lpart (defBody st_Lpart) = some rs_Lpart := by kernel_rfl
theorem sc_Lpart : FnScope cc_Lpart.N ["_law_well_here"] cc_Lpart.sc := ⟨rfl, rfl, rfl, by decide +kernel, rfl, by decide +kernel, by decide +kernel⟩
abbrev st_Mjet : Stmt := topS 76
def cc_Mjet : CC := { N := ["_law_well_here", "_law_way"], sc := defScope st_Mjet, fn := fun _ => true, fs := [("_law_draw", 0), ("_law_pick", 1), ("_law_part", 221), ("_law_size", 2)], kb := [], ms := [], bs := [], ap := [], gs := [] }
theorem c_Mjet : cSs 60 cc_Mjet (defBody st_Mjet) = some rs_Mjet := by kernel_rfl
theorem sc_Mjet : FnScope cc_Mjet.N ["_law_well_here"] cc_Mjet.sc := ⟨rfl, rfl, rfl, by decide +kernel, rfl, by decide +kernel, by decide +kernel⟩
abbrev st_Lstream : Stmt := topS 79
def cc_Lstream : CC := { N := ["_law_well_here", "_law_point_here"], sc := defScope st_Lstream, fn := fun _ => true, fs := [("_law_point", 237), ("_law_part", 221), ("_law_jet", 68), ("_law_draw", 0)], kb := [], ms := [], bs := [], ap := [], gs := [] }
theorem c_Lstream : cSs 60 cc_Lstream (defBody st_Lstream) = some rs_Lstream := by kernel_rfl
theorem sc_Lstream : FnScope cc_Lstream.N ["_law_well_here"] cc_Lstream.sc := ⟨rfl, rfl, rfl, by decide +kernel, rfl, by decide +kernel, by decide +kernel⟩
abbrev st_Lapart : Stmt := topS 73
def cc_Lapart : CC := { N := ["_law_place"], sc := defScope st_Lapart, fn := fun _ => true, fs := [("_law_ratio", 220)], kb := [], ms := [], bs := [], ap := [], gs := [] }
theorem c_Lapart : cSs 60 cc_Lapart (defBody st_Lapart) = some rs_Lapart := by kernel_rfl
theorem sc_Lapart : FnScope cc_Lapart.N ["_law_place"] cc_Lapart.sc := ⟨rfl, rfl, rfl, by decide +kernel, rfl, by decide +kernel, by decide +kernel⟩
abbrev st_Lplus : Stmt := topS 68
def cc_Lplus : CC := { N := ["_law_one", "_law_two"], sc := defScope st_Lplus, fn := fun _ => true, fs := [("_law_ratio", 220)], kb := [], ms := [], bs := [], ap := [], gs := [] }
theorem c_Lplus : cSs 60 cc_Lplus (defBody st_Lplus) = some rs_Lplus := by kernel_rfl
theorem sc_Lplus : FnScope cc_Lplus.N ["_law_one", "_law_two"] cc_Lplus.sc := ⟨rfl, rfl, rfl, by decide +kernel, rfl, by decide +kernel, by decide +kernel⟩
abbrev st_Mless : Stmt := topS 69
def cc_Mless : CC := { N := ["_law_one", "_law_two"], sc := defScope st_Mless, fn := fun _ => true, fs := [("_law_ratio", 220)], kb := [], ms := [], bs := [], ap := [], gs := [] }
theorem c_Mless : cSs 60 cc_Mless (defBody st_Mless) = some rs_Mless := by kernel_rfl
theorem sc_Mless : FnScope cc_Mless.N ["_law_one", "_law_two"] cc_Mless.sc := ⟨rfl, rfl, rfl, by decide +kernel, rfl, by decide +kernel, by decide +kernel⟩
abbrev st_Ltimes : Stmt := topS 70
def cc_Ltimes : CC := { N := ["_law_one", "_law_two"], sc := defScope st_Ltimes, fn := fun _ => true, fs := [("_law_ratio", 220)], kb := [], ms := [], bs := [], ap := [], gs := [] }
theorem c_Ltimes : cSs 60 cc_Ltimes (defBody st_Ltimes) = some rs_Ltimes := by kernel_rfl
theorem sc_Ltimes : FnScope cc_Ltimes.N ["_law_one", "_law_two"] cc_Ltimes.sc := ⟨rfl, rfl, rfl, by decide +kernel, rfl, by decide +kernel, by decide +kernel⟩
abbrev st_Lcurve : Stmt := topS 78
def cc_Lcurve : CC := { N := ["_law_stream_here", "_law_point_here", "_law_way", "_law_jet_here", "_law_x", "_law_y", "_law_slope", "_law_bend", "_law_b", "_law_a"], sc := defScope st_Lcurve, fn := fun _ => true, fs := [("_law_apart", 230), ("_law_plus", 223), ("_law_less", 59), ("_law_times", 224)], kb := [], ms := [], bs := [], ap := [], gs := [] }
theorem c_Lcurve : cSs 60 cc_Lcurve (defBody st_Lcurve) = some rs_Lcurve := by kernel_rfl
theorem sc_Lcurve : FnScope cc_Lcurve.N ["_law_stream_here"] cc_Lcurve.sc := ⟨rfl, rfl, rfl, by decide +kernel, rfl, by decide +kernel, by decide +kernel⟩
abbrev st_Lon_curve : Stmt := topS 81
def cc_Lon_curve : CC := { N := ["_law_stream_here", "_law_x", "_law_way", "_law_a", "_law_b", "_law_c", "_law_slope", "_law_y"], sc := defScope st_Lon_curve, fn := fun _ => true, fs := [("_law_curve", 243), ("_law_plus", 223), ("_law_times", 224), ("_law_point", 237)], kb := [], ms := [], bs := [], ap := [], gs := [] }
theorem c_Lon_curve : cSs 60 cc_Lon_curve (defBody st_Lon_curve) = some rs_Lon_curve := by kernel_rfl
theorem sc_Lon_curve : FnScope cc_Lon_curve.N ["_law_stream_here", "_law_x", "_law_way"] cc_Lon_curve.sc := ⟨rfl, rfl, rfl, by decide +kernel, rfl, by decide +kernel, by decide +kernel⟩
abbrev st_is_whole : Stmt := topS 3
def cc_is_whole : CC := { N := ["value"], sc := defScope st_is_whole, fn := fun _ => true, fs := [], kb := [], ms := [], bs := ["isinstance", "int", "bool"], ap := [], gs := [] }
theorem c_is_whole : cSs 60 cc_is_whole (defBody st_is_whole) = some rs_is_whole := by kernel_rfl
theorem sc_is_whole : FnScope cc_is_whole.N ["value"] cc_is_whole.sc := ⟨rfl, rfl, rfl, by decide +kernel, rfl, by decide +kernel, by decide +kernel⟩
abbrev st_is_point : Stmt := topS 27
def cc_is_point : CC := { N := ["value", "right", "up", "unit"], sc := defScope st_is_point, fn := fun _ => true, fs := [("is_whole", 10)], kb := [], ms := [("gcd", 2, .gcd2), ("gcd", 3, .gcd3)], bs := ["isinstance", "tuple", "len"], ap := [], gs := [] }
theorem c_is_point : cSs 60 cc_is_point (defBody st_is_point) = some rs_is_point := by kernel_rfl
theorem sc_is_point : FnScope cc_is_point.N ["value"] cc_is_point.sc := ⟨rfl, rfl, rfl, by decide +kernel, rfl, by decide +kernel, by decide +kernel⟩
abbrev st_is_fraction : Stmt := topS 20
def cc_is_fraction : CC := { N := ["value", "upper", "lower"], sc := defScope st_is_fraction, fn := fun _ => true, fs := [("is_whole", 10)], kb := [], ms := [("gcd", 2, .gcd2), ("gcd", 3, .gcd3)], bs := ["isinstance", "tuple", "len"], ap := [], gs := [] }
theorem c_is_fraction : cSs 60 cc_is_fraction (defBody st_is_fraction) = some rs_is_fraction := by kernel_rfl
theorem sc_is_fraction : FnScope cc_is_fraction.N ["value"] cc_is_fraction.sc := ⟨rfl, rfl, rfl, by decide +kernel, rfl, by decide +kernel, by decide +kernel⟩
abbrev st_is_jet : Stmt := topS 40
def cc_is_jet : CC := { N := ["value", "slope", "bend"], sc := defScope st_is_jet, fn := fun _ => true, fs := [("is_fraction", 11)], kb := [], ms := [], bs := ["isinstance", "tuple", "len"], ap := [], gs := [] }
theorem c_is_jet : cSs 60 cc_is_jet (defBody st_is_jet) = some rs_is_jet := by kernel_rfl
theorem sc_is_jet : FnScope cc_is_jet.N ["value"] cc_is_jet.sc := ⟨rfl, rfl, rfl, by decide +kernel, rfl, by decide +kernel, by decide +kernel⟩
abbrev st_is_stream : Stmt := topS 49
def cc_is_stream : CC := { N := ["value", "point", "way", "jet"], sc := defScope st_is_stream, fn := fun _ => true, fs := [("is_point", 18), ("is_whole", 10), ("is_jet", 72)], kb := [], ms := [], bs := ["isinstance", "tuple", "len"], ap := [], gs := [] }
theorem c_is_stream : cSs 60 cc_is_stream (defBody st_is_stream) = some rs_is_stream := by kernel_rfl
theorem sc_is_stream : FnScope cc_is_stream.N ["value"] cc_is_stream.sc := ⟨rfl, rfl, rfl, by decide +kernel, rfl, by decide +kernel, by decide +kernel⟩
abbrev st_check_stream : Stmt := topS 50
def cc_check_stream : CC := { N := ["value"], sc := defScope st_check_stream, fn := fun _ => true, fs := [("is_stream", 256)], kb := [], ms := [], bs := [], ap := [], gs := [] }
theorem c_check_stream : cSs 60 cc_check_stream (defBody st_check_stream) = some rs_check_stream := by kernel_rfl
theorem sc_check_stream : FnScope cc_check_stream.N ["value"] cc_check_stream.sc := ⟨rfl, rfl, rfl, by decide +kernel, rfl, by decide +kernel, by decide +kernel⟩
abbrev st_reduced : Stmt := topS 5
def cc_reduced : CC := { N := ["upper", "lower", "common"], sc := defScope st_reduced, fn := fun _ => true, fs := [], kb := [], ms := [("gcd", 2, .gcd2), ("gcd", 3, .gcd3)], bs := [], ap := [], gs := [] }
theorem c_reduced : cSs 60 cc_reduced (defBody st_reduced) = some rs_reduced := by kernel_rfl
theorem sc_reduced : FnScope cc_reduced.N ["upper", "lower"] cc_reduced.sc := ⟨rfl, rfl, rfl, by decide +kernel, rfl, by decide +kernel, by decide +kernel⟩
abbrev st_quotient : Stmt := topS 9
def cc_quotient : CC := { N := ["one", "other", "upper", "lower"], sc := defScope st_quotient, fn := fun _ => true, fs := [("reduced", 33)], kb := [], ms := [], bs := [], ap := [], gs := [] }
theorem c_quotient : cSs 60 cc_quotient (defBody st_quotient) = some rs_quotient := by kernel_rfl
theorem sc_quotient : FnScope cc_quotient.N ["one", "other"] cc_quotient.sc := ⟨rfl, rfl, rfl, by decide +kernel, rfl, by decide +kernel, by decide +kernel⟩
abbrev st_sign : Stmt := topS 4
def cc_sign : CC := { N := ["number"], sc := defScope st_sign, fn := fun _ => true, fs := [], kb := [], ms := [], bs := [], ap := [], gs := [] }
theorem c_sign : cSs 60 cc_sign (defBody st_sign) = some rs_sign := by kernel_rfl
theorem sc_sign : FnScope cc_sign.N ["number"] cc_sign.sc := ⟨rfl, rfl, rfl, by decide +kernel, rfl, by decide +kernel, by decide +kernel⟩
abbrev st_times : Stmt := topS 8
def cc_times : CC := { N := ["one", "other"], sc := defScope st_times, fn := fun _ => true, fs := [("reduced", 33)], kb := [], ms := [], bs := [], ap := [], gs := [] }
theorem c_times : cSs 60 cc_times (defBody st_times) = some rs_times := by kernel_rfl
theorem sc_times : FnScope cc_times.N ["one", "other"] cc_times.sc := ⟨rfl, rfl, rfl, by decide +kernel, rfl, by decide +kernel, by decide +kernel⟩
abbrev st_minus : Stmt := topS 7
def cc_minus : CC := { N := ["one", "other"], sc := defScope st_minus, fn := fun _ => true, fs := [("reduced", 33)], kb := [], ms := [], bs := [], ap := [], gs := [] }
theorem c_minus : cSs 60 cc_minus (defBody st_minus) = some rs_minus := by kernel_rfl
theorem sc_minus : FnScope cc_minus.N ["one", "other"] cc_minus.sc := ⟨rfl, rfl, rfl, by decide +kernel, rfl, by decide +kernel, by decide +kernel⟩
abbrev st_sign_with_root : Stmt := topS 12
def cc_sign_with_root : CC := { N := ["part", "factor", "fraction", "part_sign", "root_sign", "squared"], sc := defScope st_sign_with_root, fn := fun _ => true, fs := [("sign", 50), ("times", 51), ("minus", 65)], kb := [], ms := [], bs := [], ap := [], gs := [] }
theorem c_sign_with_root : cSs 60 cc_sign_with_root (defBody st_sign_with_root) = some rs_sign_with_root := by kernel_rfl
theorem sc_sign_with_root : FnScope cc_sign_with_root.N ["part", "factor", "fraction"] cc_sign_with_root.sc := ⟨rfl, rfl, rfl, by decide +kernel, rfl, by decide +kernel, by decide +kernel⟩
abbrev st_spout_of : Stmt := topS 51
def cc_spout_of : CC := { N := ["stream", "right", "up", "unit"], sc := defScope st_spout_of, fn := fun _ => true, fs := [("reduced", 33)], kb := [], ms := [], bs := [], ap := [], gs := [] }
theorem c_spout_of : cSs 60 cc_spout_of (defBody st_spout_of) = some rs_spout_of := by kernel_rfl
theorem sc_spout_of : FnScope cc_spout_of.N ["stream"] cc_spout_of.sc := ⟨rfl, rfl, rfl, by decide +kernel, rfl, by decide +kernel, by decide +kernel⟩
abbrev st_negative : Stmt := topS 10
def cc_negative : CC := { N := ["fraction"], sc := defScope st_negative, fn := fun _ => true, fs := [], kb := [], ms := [], bs := [], ap := [], gs := [] }
theorem c_negative : cSs 60 cc_negative (defBody st_negative) = some rs_negative := by kernel_rfl
theorem sc_negative : FnScope cc_negative.N ["fraction"] cc_negative.sc := ⟨rfl, rfl, rfl, by decide +kernel, rfl, by decide +kernel, by decide +kernel⟩
abbrev st_drops_meet : Stmt := topS 59
def cc_drops_meet : CC := { N := ["stream", "other", "right", "up", "other_right", "other_up", "ahead", "higher", "_", "way", "slope", "bend", "other_way", "other_slope", "other_bend", "rate", "to_right", "upward", "aside"], sc := defScope st_drops_meet, fn := fun _ => true, fs := [("check_stream", 257), ("quotient", 82), ("sign_with_root", 66), ("spout_of", 258), ("minus", 65), ("negative", 76), ("times", 51), ("sign", 50)], kb := [], ms := [], bs := [], ap := [], gs := [] }
theorem c_drops_meet : cSs 60 cc_drops_meet (defBody st_drops_meet) = some rs_drops_meet := by kernel_rfl
theorem sc_drops_meet : FnScope cc_drops_meet.N ["stream", "other"] cc_drops_meet.sc := ⟨rfl, rfl, rfl, by decide +kernel, rfl, by decide +kernel, by decide +kernel⟩
abbrev st_Lfar_x : Stmt := topS 80
def cc_Lfar_x : CC := { N := ["_law_well_here", "_law_stream_here", "_law_x"], sc := defScope st_Lfar_x, fn := fun _ => true, fs := [("_law_apart", 230), ("_law_plus", 223), ("_law_less", 59), ("_law_size", 2)], kb := [], ms := [], bs := [], ap := [], gs := [] }
theorem c_Lfar_x : cSs 60 cc_Lfar_x (defBody st_Lfar_x) = some rs_Lfar_x := by kernel_rfl
theorem sc_Lfar_x : FnScope cc_Lfar_x.N ["_law_well_here", "_law_stream_here"] cc_Lfar_x.sc := ⟨rfl, rfl, rfl, by decide +kernel, rfl, by decide +kernel, by decide +kernel⟩
abbrev st_square_root : Stmt := topS 11
def cc_square_root : CC := { N := ["fraction", "upper", "lower"], sc := defScope st_square_root, fn := fun _ => true, fs := [], kb := [], ms := [("isqrt", 1, .isqrt)], bs := [], ap := [], gs := [] }
theorem c_square_root : cSs 60 cc_square_root (defBody st_square_root) = some rs_square_root := by kernel_rfl
theorem sc_square_root : FnScope cc_square_root.N ["fraction"] cc_square_root.sc := ⟨rfl, rfl, rfl, by decide +kernel, rfl, by decide +kernel, by decide +kernel⟩
abbrev st_is_surd : Stmt := topS 21
def cc_is_surd : CC := { N := ["value", "part", "way", "square"], sc := defScope st_is_surd, fn := fun _ => true, fs := [("is_fraction", 11), ("is_whole", 10), ("square_root", 45)], kb := [], ms := [], bs := ["isinstance", "tuple", "len"], ap := [], gs := [] }
theorem c_is_surd : cSs 60 cc_is_surd (defBody st_is_surd) = some rs_is_surd := by kernel_rfl
theorem sc_is_surd : FnScope cc_is_surd.N ["value"] cc_is_surd.sc := ⟨rfl, rfl, rfl, by decide +kernel, rfl, by decide +kernel, by decide +kernel⟩
abbrev st_check_surd : Stmt := topS 23
def cc_check_surd : CC := { N := ["value"], sc := defScope st_check_surd, fn := fun _ => true, fs := [("is_surd", 46)], kb := [], ms := [], bs := [], ap := [], gs := [] }
theorem c_check_surd : cSs 60 cc_check_surd (defBody st_check_surd) = some rs_check_surd := by kernel_rfl
theorem sc_check_surd : FnScope cc_check_surd.N ["value"] cc_check_surd.sc := ⟨rfl, rfl, rfl, by decide +kernel, rfl, by decide +kernel, by decide +kernel⟩
abbrev st_plus : Stmt := topS 6
def cc_plus : CC := { N := ["one", "other"], sc := defScope st_plus, fn := fun _ => true, fs := [("reduced", 33)], kb := [], ms := [], bs := [], ap := [], gs := [] }
theorem c_plus : cSs 60 cc_plus (defBody st_plus) = some rs_plus := by kernel_rfl
theorem sc_plus : FnScope cc_plus.N ["one", "other"] cc_plus.sc := ⟨rfl, rfl, rfl, by decide +kernel, rfl, by decide +kernel, by decide +kernel⟩
abbrev st_compare : Stmt := topS 25
def cc_compare : CC := { N := ["surd", "other", "part", "way", "square", "other_part", "other_way", "other_square", "rest", "rest_sign", "squares"], sc := defScope st_compare, fn := fun _ => true, fs := [("check_surd", 47), ("minus", 65), ("sign_with_root", 66), ("sign", 50), ("plus", 48), ("times", 51)], kb := [], ms := [], bs := [], ap := [], gs := [] }
theorem c_compare : cSs 60 cc_compare (defBody st_compare) = some rs_compare := by kernel_rfl
theorem sc_compare : FnScope cc_compare.N ["surd", "other"] cc_compare.sc := ⟨rfl, rfl, rfl, by decide +kernel, rfl, by decide +kernel, by decide +kernel⟩
abbrev st_later_begin : Stmt := topS 43
def cc_later_begin : CC := { N := ["one", "other"], sc := defScope st_later_begin, fn := fun _ => true, fs := [("compare", 67)], kb := [], ms := [], bs := [], ap := [], gs := [] }
theorem c_later_begin : cSs 60 cc_later_begin (defBody st_later_begin) = some rs_later_begin := by kernel_rfl
theorem sc_later_begin : FnScope cc_later_begin.N ["one", "other"] cc_later_begin.sc := ⟨rfl, rfl, rfl, by decide +kernel, rfl, by decide +kernel, by decide +kernel⟩
abbrev st_earlier_end : Stmt := topS 44
def cc_earlier_end : CC := { N := ["one", "other"], sc := defScope st_earlier_end, fn := fun _ => true, fs := [("compare", 67)], kb := [], ms := [], bs := [], ap := [], gs := [] }
theorem c_earlier_end : cSs 60 cc_earlier_end (defBody st_earlier_end) = some rs_earlier_end := by kernel_rfl
theorem sc_earlier_end : FnScope cc_earlier_end.N ["one", "other"] cc_earlier_end.sc := ⟨rfl, rfl, rfl, by decide +kernel, rfl, by decide +kernel, by decide +kernel⟩
abbrev st_order_of : Stmt := topS 45
def cc_order_of : CC := { N := ["low", "high"], sc := defScope st_order_of, fn := fun _ => true, fs := [("compare", 67)], kb := [], ms := [], bs := [], ap := [], gs := [] }
theorem c_order_of : cSs 60 cc_order_of (defBody st_order_of) = some rs_order_of := by kernel_rfl
theorem sc_order_of : FnScope cc_order_of.N ["low", "high"] cc_order_of.sc := ⟨rfl, rfl, rfl, by decide +kernel, rfl, by decide +kernel, by decide +kernel⟩
abbrev st_common : Stmt := topS 46
def cc_common : CC := { N := ["stretches", "low", "high", "stretch"], sc := defScope st_common, fn := fun _ => true, fs := [("later_begin", 156), ("earlier_end", 157), ("order_of", 158)], kb := [], ms := [], bs := [], ap := [], gs := [("ENDLESS", (.tuple [.none, .none]))] }
theorem c_common : cSs 60 cc_common (defBody st_common) = some rs_common := by kernel_rfl
theorem sc_common : FnScope cc_common.N ["stretches"] cc_common.sc := ⟨rfl, rfl, rfl, by decide +kernel, rfl, by decide +kernel, by decide +kernel⟩
abbrev st_difference : Stmt := topS 36
def cc_difference : CC := { N := ["one", "other"], sc := defScope st_difference, fn := fun _ => true, fs := [("minus", 65)], kb := [], ms := [], bs := [], ap := [], gs := [] }
theorem c_difference : cSs 60 cc_difference (defBody st_difference) = some rs_difference := by kernel_rfl
theorem sc_difference : FnScope cc_difference.N ["one", "other"] cc_difference.sc := ⟨rfl, rfl, rfl, by decide +kernel, rfl, by decide +kernel, by decide +kernel⟩
abbrev st_fall_of : Stmt := topS 53
def cc_fall_of : CC := { N := ["stream", "begin", "bend"], sc := defScope st_fall_of, fn := fun _ => true, fs := [("times", 51), ("spout_of", 258)], kb := [], ms := [], bs := [], ap := [], gs := [] }
theorem c_fall_of : cSs 60 cc_fall_of (defBody st_fall_of) = some rs_fall_of := by kernel_rfl
theorem sc_fall_of : FnScope cc_fall_of.N ["stream"] cc_fall_of.sc := ⟨rfl, rfl, rfl, by decide +kernel, rfl, by decide +kernel, by decide +kernel⟩
abbrev st_water_of : Stmt := topS 54
def cc_water_of : CC := { N := ["stream", "begin", "height", "rise"], sc := defScope st_water_of, fn := fun _ => true, fs := [("spout_of", 258), ("times", 51), ("difference", 162), ("fall_of", 259), ("minus", 65)], kb := [], ms := [], bs := [], ap := [], gs := [] }
theorem c_water_of : cSs 60 cc_water_of (defBody st_water_of) = some rs_water_of := by kernel_rfl
theorem sc_water_of : FnScope cc_water_of.N ["stream"] cc_water_of.sc := ⟨rfl, rfl, rfl, by decide +kernel, rfl, by decide +kernel, by decide +kernel⟩
abbrev st_as_surd : Stmt := topS 30
def cc_as_surd : CC := { N := ["fraction"], sc := defScope st_as_surd, fn := fun _ => true, fs := [], kb := [], ms := [], bs := [], ap := [], gs := [("ZERO", (.tuple [(.int 0), (.int 1)]))] }
theorem c_as_surd : cSs 60 cc_as_surd (defBody st_as_surd) = some rs_as_surd := by kernel_rfl
theorem sc_as_surd : FnScope cc_as_surd.N ["fraction"] cc_as_surd.sc := ⟨rfl, rfl, rfl, by decide +kernel, rfl, by decide +kernel, by decide +kernel⟩
abbrev st_stretch_of : Stmt := topS 52
def cc_stretch_of : CC := { N := ["stream", "begin"], sc := defScope st_stretch_of, fn := fun _ => true, fs := [("as_surd", 94), ("spout_of", 258)], kb := [], ms := [], bs := [], ap := [], gs := [] }
theorem c_stretch_of : cSs 60 cc_stretch_of (defBody st_stretch_of) = some rs_stretch_of := by kernel_rfl
theorem sc_stretch_of : FnScope cc_stretch_of.N ["stream"] cc_stretch_of.sc := ⟨rfl, rfl, rfl, by decide +kernel, rfl, by decide +kernel, by decide +kernel⟩
abbrev st_check_fraction : Stmt := topS 22
def cc_check_fraction : CC := { N := ["value"], sc := defScope st_check_fraction, fn := fun _ => true, fs := [("is_fraction", 11)], kb := [], ms := [], bs := [], ap := [], gs := [] }
theorem c_check_fraction : cSs 60 cc_check_fraction (defBody st_check_fraction) = some rs_check_fraction := by kernel_rfl
theorem sc_check_fraction : FnScope cc_check_fraction.N ["value"] cc_check_fraction.sc := ⟨rfl, rfl, rfl, by decide +kernel, rfl, by decide +kernel, by decide +kernel⟩
abbrev st_surd_of : Stmt := topS 24
def cc_surd_of : CC := { N := ["part", "factor", "fraction", "root"], sc := defScope st_surd_of, fn := fun _ => true, fs := [("check_fraction", 13), ("square_root", 45), ("sign", 50), ("times", 51), ("plus", 48)], kb := [], ms := [], bs := [], ap := [], gs := [] }
theorem c_surd_of : cSs 60 cc_surd_of (defBody st_surd_of) = some rs_surd_of := by kernel_rfl
theorem sc_surd_of : FnScope cc_surd_of.N ["part", "factor", "fraction"] cc_surd_of.sc := ⟨rfl, rfl, rfl, by decide +kernel, rfl, by decide +kernel, by decide +kernel⟩
abbrev st_zeros : Stmt := topS 37
def cc_zeros : CC := { N := ["polynomial", "constant", "growth", "square", "inside", "middle", "to_each"], sc := defScope st_zeros, fn := fun _ => true, fs := [("minus", 65), ("quotient", 82), ("times", 51), ("negative", 76), ("surd_of", 52), ("as_surd", 94), ("sign", 50)], kb := [], ms := [], bs := [], ap := [], gs := [("ZERO", (.tuple [(.int 0), (.int 1)]))] }
theorem c_zeros : cSs 60 cc_zeros (defBody st_zeros) = some rs_zeros := by kernel_rfl
theorem sc_zeros : FnScope cc_zeros.N ["polynomial"] cc_zeros.sc := ⟨rfl, rfl, rfl, by decide +kernel, rfl, by decide +kernel, by decide +kernel⟩
abbrev st_is_within : Stmt := topS 38
def cc_is_within : CC := { N := ["number", "low", "high"], sc := defScope st_is_within, fn := fun _ => true, fs := [("compare", 67)], kb := [], ms := [], bs := [], ap := [], gs := [] }
theorem c_is_within : cSs 60 cc_is_within (defBody st_is_within) = some rs_is_within := by kernel_rfl
theorem sc_is_within : FnScope cc_is_within.N ["number", "low", "high"] cc_is_within.sc := ⟨rfl, rfl, rfl, by decide +kernel, rfl, by decide +kernel, by decide +kernel⟩
abbrev st_meeting_places : Stmt := topS 56
def cc_meeting_places : CC := { N := ["stream", "other", "both", "gap", "zero"], sc := defScope st_meeting_places, fn := fun _ => true, fs := [("common", 159), ("difference", 162), ("water_of", 260), ("stretch_of", 261), ("zeros", 95), ("is_within", 177), ("order_of", 158)], kb := [], ms := [], bs := [], ap := [], gs := [("NOUGHT", (.tuple [(.tuple [(.int 0), (.int 1)]), (.tuple [(.int 0), (.int 1)]), (.tuple [(.int 0), (.int 1)])]))] }
theorem c_meeting_places : cSs 60 cc_meeting_places (defBody st_meeting_places) = some rs_meeting_places := by kernel_rfl
theorem sc_meeting_places : FnScope cc_meeting_places.N ["stream", "other"] cc_meeting_places.sc := ⟨rfl, rfl, rfl, by decide +kernel, rfl, by decide +kernel, by decide +kernel⟩
abbrev st_value_at : Stmt := topS 32
def cc_value_at : CC := { N := ["polynomial", "number", "constant", "growth", "square"], sc := defScope st_value_at, fn := fun _ => true, fs := [("plus", 48), ("times", 51)], kb := [], ms := [], bs := [], ap := [], gs := [] }
theorem c_value_at : cSs 60 cc_value_at (defBody st_value_at) = some rs_value_at := by kernel_rfl
theorem sc_value_at : FnScope cc_value_at.N ["polynomial", "number"] cc_value_at.sc := ⟨rfl, rfl, rfl, by decide +kernel, rfl, by decide +kernel, by decide +kernel⟩
abbrev st_growth_at : Stmt := topS 35
def cc_growth_at : CC := { N := ["polynomial", "number"], sc := defScope st_growth_at, fn := fun _ => true, fs := [("plus", 48), ("times", 51)], kb := [], ms := [], bs := [], ap := [], gs := [] }
theorem c_growth_at : cSs 60 cc_growth_at (defBody st_growth_at) = some rs_growth_at := by kernel_rfl
theorem sc_growth_at : FnScope cc_growth_at.N ["polynomial", "number"] cc_growth_at.sc := ⟨rfl, rfl, rfl, by decide +kernel, rfl, by decide +kernel, by decide +kernel⟩
abbrev st_halves_at : Stmt := topS 33
def cc_halves_at : CC := { N := ["polynomial", "number", "part", "way", "inside", "value"], sc := defScope st_halves_at, fn := fun _ => true, fs := [("plus", 48), ("value_at", 75), ("times", 51), ("growth_at", 178)], kb := [], ms := [], bs := [], ap := [], gs := [] }
theorem c_halves_at : cSs 60 cc_halves_at (defBody st_halves_at) = some rs_halves_at := by kernel_rfl
theorem sc_halves_at : FnScope cc_halves_at.N ["polynomial", "number"] cc_halves_at.sc := ⟨rfl, rfl, rfl, by decide +kernel, rfl, by decide +kernel, by decide +kernel⟩
abbrev st_surd_at : Stmt := topS 34
def cc_surd_at : CC := { N := ["polynomial", "number", "part", "factor"], sc := defScope st_surd_at, fn := fun _ => true, fs := [("halves_at", 179), ("surd_of", 52)], kb := [], ms := [], bs := [], ap := [], gs := [] }
theorem c_surd_at : cSs 60 cc_surd_at (defBody st_surd_at) = some rs_surd_at := by kernel_rfl
theorem sc_surd_at : FnScope cc_surd_at.N ["polynomial", "number"] cc_surd_at.sc := ⟨rfl, rfl, rfl, by decide +kernel, rfl, by decide +kernel, by decide +kernel⟩
abbrev st_meetings : Stmt := topS 57
def cc_meetings : CC := { N := ["stream", "other", "found", "right"], sc := defScope st_meetings, fn := fun _ => true, fs := [("check_stream", 257), ("meeting_places", 262), ("surd_at", 181), ("water_of", 260)], kb := [], ms := [], bs := ["tuple"], ap := [], gs := [] }
theorem c_meetings : cSs 60 cc_meetings (defBody st_meetings) = some rs_meetings := by kernel_rfl
theorem sc_meetings : FnScope cc_meetings.N ["stream", "other"] cc_meetings.sc := ⟨rfl, rfl, rfl, by decide +kernel, rfl, by decide +kernel, by decide +kernel⟩
abbrev st_Lsign : Stmt := topS 72
def cc_Lsign : CC := { N := ["_law_number"], sc := defScope st_Lsign, fn := fun _ => true, fs := [], kb := [], ms := [], bs := ["int"], ap := [], gs := [] }
theorem c_Lsign : cSs 60 cc_Lsign (defBody st_Lsign) = some rs_Lsign := by kernel_rfl
theorem sc_Lsign : FnScope cc_Lsign.N ["_law_number"] cc_Lsign.sc := ⟨rfl, rfl, rfl, by decide +kernel, rfl, by decide +kernel, by decide +kernel⟩
abbrev st_Morder : Stmt := topS 71
def cc_Morder : CC := { N := ["_law_one", "_law_two"], sc := defScope st_Morder, fn := fun _ => true, fs := [("_law_sign", 193)], kb := [], ms := [], bs := [], ap := [], gs := [] }
theorem c_Morder : cSs 60 cc_Morder (defBody st_Morder) = some rs_Morder := by kernel_rfl
theorem sc_Morder : FnScope cc_Morder.N ["_law_one", "_law_two"] cc_Morder.sc := ⟨rfl, rfl, rfl, by decide +kernel, rfl, by decide +kernel, by decide +kernel⟩
abbrev st_surd_sign : Stmt := topS 31
def cc_surd_sign : CC := { N := ["surd", "part", "way", "square"], sc := defScope st_surd_sign, fn := fun _ => true, fs := [("sign_with_root", 66)], kb := [], ms := [], bs := [], ap := [], gs := [] }
theorem c_surd_sign : cSs 60 cc_surd_sign (defBody st_surd_sign) = some rs_surd_sign := by kernel_rfl
theorem sc_surd_sign : FnScope cc_surd_sign.N ["surd"] cc_surd_sign.sc := ⟨rfl, rfl, rfl, by decide +kernel, rfl, by decide +kernel, by decide +kernel⟩
abbrev st_first_there : Stmt := topS 58
def cc_first_there : CC := { N := ["stream", "other", "index", "found"], sc := defScope st_first_there, fn := fun _ => true, fs := [("check_stream", 257), ("meeting_places", 262), ("surd_sign", 96), ("is_whole", 10), ("surd_at", 181), ("difference", 162), ("fall_of", 259)], kb := [], ms := [], bs := ["len"], ap := [], gs := [], ds := [("FIRST_WORDS", [(.int (-1), (.str (Str.ofString "first"))), (.int 0, (.str (Str.ofString "both"))), (.int 1, (.str (Str.ofString "other")))])] }
theorem c_first_there : cSs 60 cc_first_there (defBody st_first_there) = some rs_first_there := by kernel_rfl
theorem sc_first_there : FnScope cc_first_there.N ["stream", "other", "index"] cc_first_there.sc := ⟨rfl, rfl, rfl, by decide +kernel, rfl, by decide +kernel, by decide +kernel⟩
abbrev st_water_at : Stmt := topS 55
def cc_water_at : CC := { N := ["stream", "fraction", "low", "high"], sc := defScope st_water_at, fn := fun _ => true, fs := [("check_stream", 257), ("check_fraction", 13), ("stretch_of", 261), ("is_within", 177), ("value_at", 75), ("as_surd", 94), ("water_of", 260)], kb := [], ms := [], bs := [], ap := [], gs := [] }
theorem c_water_at : cSs 60 cc_water_at (defBody st_water_at) = some rs_water_at := by kernel_rfl
theorem sc_water_at : FnScope cc_water_at.N ["stream", "fraction"] cc_water_at.sc := ⟨rfl, rfl, rfl, by decide +kernel, rfl, by decide +kernel, by decide +kernel⟩
abbrev st_Lright : Stmt := topS 82
def cc_Lright : CC := { N := ["_law_well_here", "_law_one", "_law_begin", "_law_x", "_law_two", "_law_told", "_law_way", "_law_same", "_law_half", "_law_point_here", "_law_due"], sc := defScope st_Lright, fn := fun _ => true, fs := [("_law_stream", 238), ("_law_pick", 1), ("_law_on_curve", 244), ("_law_apart", 230), ("drops_meet", 267), ("_law_times", 224), ("_law_far_x", 236), ("_law_less", 59), ("_law_plus", 223), ("meetings", 263), ("_law_order", 93), ("first_there", 264), ("_law_size", 2), ("_law_draw", 0), ("water_at", 272)], kb := [("meetings", 0, ["stream", "other"], [0, 1])], ms := [], bs := ["repr"], ap := [], gs := [] }
theorem c_Lright : cSs 60 cc_Lright (defBody st_Lright) = some rs_Lright := by kernel_rfl
theorem sc_Lright : FnScope cc_Lright.N ["_law_well_here"] cc_Lright.sc := ⟨rfl, rfl, rfl, by decide +kernel, rfl, by decide +kernel, by decide +kernel⟩
abbrev st_Lwell : Stmt := topS 61
def cc_Lwell : CC := { N := ["_law_script", "_law_turn", "_law_stirred", "_law_cell", "_law_own", "_law_great"], sc := defScope st_Lwell, fn := fun _ => true, fs := [], kb := [], ms := [], bs := ["int", "abs", "len"], ap := [1000], gs := [] }
theorem c_Lwell : cSs 60 cc_Lwell (defBody st_Lwell) = some rs_Lwell := by kernel_rfl
theorem sc_Lwell : FnScope cc_Lwell.N ["_law_script", "_law_turn"] cc_Lwell.sc := ⟨rfl, rfl, rfl, by decide +kernel, rfl, by decide +kernel, by decide +kernel⟩
abbrev st_Lrounds : Stmt := topS 63
def cc_Lrounds : CC := { N := ["_law_script", "_law_least", "_law_most"], sc := defScope st_Lrounds, fn := fun _ => true, fs := [], kb := [], ms := [], bs := ["max", "min", "len"], ap := [], gs := [] }
theorem c_Lrounds : cSs 60 cc_Lrounds (defBody st_Lrounds) = some rs_Lrounds := by kernel_rfl
theorem sc_Lrounds : FnScope cc_Lrounds.N ["_law_script", "_law_least", "_law_most"] cc_Lrounds.sc := ⟨rfl, rfl, rfl, by decide +kernel, rfl, by decide +kernel, by decide +kernel⟩
abbrev st_Mlaw : Stmt := topS 83
def cc_Mlaw : CC := { N := ["_law_script", "_law_turn"], sc := defScope st_Mlaw, fn := fun _ => true, fs := [("_law_right", 36), ("_law_well", 196), ("_law_rounds", 235)], kb := [], ms := [], bs := ["all", "range"], ap := [], gs := [] }
theorem c_Mlaw : cSs 60 cc_Mlaw (defBody st_Mlaw) = some rs_Mlaw := by kernel_rfl
theorem sc_Mlaw : FnScope cc_Mlaw.N ["_law_script"] cc_Mlaw.sc := ⟨rfl, rfl, rfl, by decide +kernel, rfl, by decide +kernel, by decide +kernel⟩
def Phi : Nat → PSp
  | 0 => sp_Mdraw
  | 1 => sp_Mpick
  | 2 => sp_Msize
  | 10 => sp_is_whole
  | 11 => sp_is_fraction
  | 13 => sp_check_fraction
  | 18 => sp_is_point
  | 33 => sp_reduced
  | 36 => sp_Lright
  | 38 => sp_Mlaw
  | 45 => sp_square_root
  | 46 => sp_is_surd
  | 47 => sp_check_surd
  | 48 => sp_plus
  | 50 => sp_sign
  | 51 => sp_times
  | 52 => sp_surd_of
  | 59 => sp_Mless
  | 65 => sp_pminus
  | 66 => sp_sign_with_root
  | 67 => sp_compareW
  | 68 => sp_Mjet
  | 72 => sp_is_jet
  | 75 => sp_value_at
  | 76 => sp_negative
  | 82 => sp_quotient
  | 93 => sp_Morder
  | 94 => sp_as_surd
  | 95 => sp_zeros
  | 96 => sp_surd_sign
  | 156 => sp_later_begin
  | 157 => sp_earlier_end
  | 158 => sp_order_of
  | 159 => sp_common
  | 162 => sp_difference
  | 177 => sp_is_within
  | 178 => sp_growth_at
  | 179 => sp_halves_at
  | 181 => sp_surd_at
  | 193 => sp_Lsign
  | 196 => sp_Lwell
  | 218 => sp_Lcommon
  | 219 => sp_Llean
  | 220 => sp_Lratio
  | 221 => sp_Lpart
  | 223 => sp_Lplus
  | 224 => sp_Ltimes
  | 230 => sp_Lapart
  | 235 => sp_Lrounds
  | 236 => sp_Lfar_x
  | 237 => sp_Lpoint
  | 238 => sp_Lstream
  | 243 => sp_Lcurve
  | 244 => sp_Lon_curve
  | 256 => sp_is_stream
  | 257 => sp_check_stream
  | 258 => sp_spout_of
  | 259 => sp_fall_of
  | 260 => sp_water_of
  | 261 => sp_stretch_of
  | 262 => sp_meeting_places
  | 263 => sp_meetings
  | 264 => sp_first_there
  | 267 => sp_drops_meet
  | 272 => sp_water_at
  | _ => fun _ _ => False
theorem len_Mdraw {ds : List DV} {Q : DV → Prop} (h : Phi 0 ds Q) : ds.length = 2 := by
  have h : sp_Mdraw ds Q := h
  obtain ⟨_, rfl, _⟩ := h
  rfl
theorem sem_Mdraw_ : ∀ ds Q, Phi 0 ds Q → wS Phi rs_Mdraw { nx := fun _ => Q (.d .none), rt := Q } (startD cc_Mdraw.N ds) := sem_Mdraw
theorem len_Mpick {ds : List DV} {Q : DV → Prop} (h : Phi 1 ds Q) : ds.length = 2 := by
  have h : sp_Mpick ds Q := h
  obtain ⟨_, rfl, _⟩ := h
  rfl
theorem sem_Mpick_ : ∀ ds Q, Phi 1 ds Q → wS Phi rs_Mpick { nx := fun _ => Q (.d .none), rt := Q } (startD cc_Mpick.N ds) := sem_Mpick rfl
theorem len_Msize {ds : List DV} {Q : DV → Prop} (h : Phi 2 ds Q) : ds.length = 1 := by
  have h : sp_Msize ds Q := h
  obtain ⟨rfl, _⟩ := h
  rfl
theorem sem_Msize_ : ∀ ds Q, Phi 2 ds Q → wS Phi rs_Msize { nx := fun _ => Q (.d .none), rt := Q } (startD cc_Msize.N ds) := sem_Msize rfl rfl rfl
theorem len_is_whole {ds : List DV} {Q : DV → Prop} (h : Phi 10 ds Q) : ds.length = 1 := by
  have h : sp_is_whole ds Q := h
  obtain ⟨_, rfl, _⟩ := h
  rfl
theorem sem_is_whole_ : ∀ ds Q, Phi 10 ds Q → wS Phi rs_is_whole { nx := fun _ => Q (.d .none), rt := Q } (startD cc_is_whole.N ds) := sem_is_whole
theorem len_is_fraction {ds : List DV} {Q : DV → Prop} (h : Phi 11 ds Q) : ds.length = 1 := by
  have h : sp_is_fraction ds Q := h
  obtain ⟨_, rfl, _⟩ := h
  rfl
theorem sem_is_fraction_ : ∀ ds Q, Phi 11 ds Q → wS Phi rs_is_fraction { nx := fun _ => Q (.d .none), rt := Q } (startD cc_is_fraction.N ds) := sem_is_fraction rfl
theorem len_check_fraction {ds : List DV} {Q : DV → Prop} (h : Phi 13 ds Q) : ds.length = 1 := by
  have h : sp_check_fraction ds Q := h
  obtain ⟨_, rfl, _⟩ := h
  rfl
theorem sem_check_fraction_ : ∀ ds Q, Phi 13 ds Q → wS Phi rs_check_fraction { nx := fun _ => Q (.d .none), rt := Q } (startD cc_check_fraction.N ds) := sem_check_fraction rfl
theorem len_is_point {ds : List DV} {Q : DV → Prop} (h : Phi 18 ds Q) : ds.length = 1 := by
  have h : sp_is_point ds Q := h
  obtain ⟨_, rfl, _⟩ := h
  rfl
theorem sem_is_point_ : ∀ ds Q, Phi 18 ds Q → wS Phi rs_is_point { nx := fun _ => Q (.d .none), rt := Q } (startD cc_is_point.N ds) := sem_is_point rfl
theorem len_reduced {ds : List DV} {Q : DV → Prop} (h : Phi 33 ds Q) : ds.length = 2 := by
  have h : sp_reduced ds Q := h
  obtain ⟨_, _, rfl, _⟩ := h
  rfl
theorem sem_reduced_ : ∀ ds Q, Phi 33 ds Q → wS Phi rs_reduced { nx := fun _ => Q (.d .none), rt := Q } (startD cc_reduced.N ds) := sem_reduced
theorem len_Lright {ds : List DV} {Q : DV → Prop} (h : Phi 36 ds Q) : ds.length = 1 := by
  have h : sp_Lright ds Q := h
  obtain ⟨rfl, _⟩ := h
  rfl
theorem sem_Lright_ : ∀ ds Q, Phi 36 ds Q → wS Phi rs_Lright { nx := fun _ => Q (.d .none), rt := Q } (startD cc_Lright.N ds) := sem_Lright rfl rfl rfl rfl rfl rfl rfl rfl rfl rfl rfl rfl rfl rfl rfl rfl
theorem len_Mlaw {ds : List DV} {Q : DV → Prop} (h : Phi 38 ds Q) : ds.length = 1 := by
  have h : sp_Mlaw ds Q := h
  obtain ⟨_, rfl, _⟩ := h
  rfl
theorem sem_Mlaw_ : ∀ ds Q, Phi 38 ds Q → wS Phi rs_Mlaw { nx := fun _ => Q (.d .none), rt := Q } (startD cc_Mlaw.N ds) := sem_Mlaw rfl rfl rfl
theorem len_square_root {ds : List DV} {Q : DV → Prop} (h : Phi 45 ds Q) : ds.length = 1 := by
  have h : sp_square_root ds Q := h
  obtain ⟨_, rfl, _⟩ := h
  rfl
theorem sem_square_root_ : ∀ ds Q, Phi 45 ds Q → wS Phi rs_square_root { nx := fun _ => Q (.d .none), rt := Q } (startD cc_square_root.N ds) := sem_square_root
theorem len_is_surd {ds : List DV} {Q : DV → Prop} (h : Phi 46 ds Q) : ds.length = 1 := by
  have h : sp_is_surd ds Q := h
  obtain ⟨_, _, _, rfl, _⟩ := h
  rfl
theorem sem_is_surd_ : ∀ ds Q, Phi 46 ds Q → wS Phi rs_is_surd { nx := fun _ => Q (.d .none), rt := Q } (startD cc_is_surd.N ds) := sem_is_surd rfl rfl rfl
theorem len_check_surd {ds : List DV} {Q : DV → Prop} (h : Phi 47 ds Q) : ds.length = 1 := by
  have h : sp_check_surd ds Q := h
  obtain ⟨_, _, _, rfl, _⟩ := h
  rfl
theorem sem_check_surd_ : ∀ ds Q, Phi 47 ds Q → wS Phi rs_check_surd { nx := fun _ => Q (.d .none), rt := Q } (startD cc_check_surd.N ds) := sem_check_surd rfl
theorem len_plus {ds : List DV} {Q : DV → Prop} (h : Phi 48 ds Q) : ds.length = 2 := by
  have h : sp_plus ds Q := h
  obtain ⟨_, _, rfl, _⟩ := h
  rfl
theorem sem_plus_ : ∀ ds Q, Phi 48 ds Q → wS Phi rs_plus { nx := fun _ => Q (.d .none), rt := Q } (startD cc_plus.N ds) := sem_plus rfl
theorem len_sign {ds : List DV} {Q : DV → Prop} (h : Phi 50 ds Q) : ds.length = 1 := by
  have h : sp_sign ds Q := h
  obtain ⟨_, rfl, _⟩ := h
  rfl
theorem sem_sign_ : ∀ ds Q, Phi 50 ds Q → wS Phi rs_sign { nx := fun _ => Q (.d .none), rt := Q } (startD cc_sign.N ds) := sem_sign
theorem len_times {ds : List DV} {Q : DV → Prop} (h : Phi 51 ds Q) : ds.length = 2 := by
  have h : sp_times ds Q := h
  obtain ⟨_, _, rfl, _⟩ := h
  rfl
theorem sem_times_ : ∀ ds Q, Phi 51 ds Q → wS Phi rs_times { nx := fun _ => Q (.d .none), rt := Q } (startD cc_times.N ds) := sem_times rfl
theorem len_surd_of {ds : List DV} {Q : DV → Prop} (h : Phi 52 ds Q) : ds.length = 3 := by
  have h : sp_surd_of ds Q := h
  obtain ⟨_, _, _, rfl, _⟩ := h
  rfl
theorem sem_surd_of_ : ∀ ds Q, Phi 52 ds Q → wS Phi rs_surd_of { nx := fun _ => Q (.d .none), rt := Q } (startD cc_surd_of.N ds) := sem_surd_of rfl rfl rfl rfl rfl
theorem len_Mless {ds : List DV} {Q : DV → Prop} (h : Phi 59 ds Q) : ds.length = 2 := by
  have h : sp_Mless ds Q := h
  obtain ⟨_, _, rfl, _⟩ := h
  rfl
theorem sem_Mless_ : ∀ ds Q, Phi 59 ds Q → wS Phi rs_Mless { nx := fun _ => Q (.d .none), rt := Q } (startD cc_Mless.N ds) := sem_Mless rfl
theorem len_minus {ds : List DV} {Q : DV → Prop} (h : Phi 65 ds Q) : ds.length = 2 := by
  have h : sp_pminus ds Q := h
  obtain ⟨_, _, rfl, _⟩ := h
  rfl
theorem sem_minus_ : ∀ ds Q, Phi 65 ds Q → wS Phi rs_minus { nx := fun _ => Q (.d .none), rt := Q } (startD cc_minus.N ds) := sem_pminus rfl
theorem len_sign_with_root {ds : List DV} {Q : DV → Prop} (h : Phi 66 ds Q) : ds.length = 3 := by
  have h : sp_sign_with_root ds Q := h
  obtain ⟨_, _, _, rfl, _⟩ := h
  rfl
theorem sem_sign_with_root_ : ∀ ds Q, Phi 66 ds Q → wS Phi rs_sign_with_root { nx := fun _ => Q (.d .none), rt := Q } (startD cc_sign_with_root.N ds) := sem_sign_with_root rfl rfl rfl
theorem len_compare {ds : List DV} {Q : DV → Prop} (h : Phi 67 ds Q) : ds.length = 2 := by
  have h : sp_compareW ds Q := h
  obtain ⟨_, _, _, _, _, _, rfl, _⟩ := h
  rfl
theorem sem_compare_ : ∀ ds Q, Phi 67 ds Q → wS Phi rs_compare { nx := fun _ => Q (.d .none), rt := Q } (startD cc_compare.N ds) := sem_compareW rfl rfl rfl rfl rfl rfl
theorem len_Mjet {ds : List DV} {Q : DV → Prop} (h : Phi 68 ds Q) : ds.length = 1 := by
  have h : sp_Mjet ds Q := h
  obtain ⟨rfl, _⟩ := h
  rfl
theorem sem_Mjet_ : ∀ ds Q, Phi 68 ds Q → wS Phi rs_Mjet { nx := fun _ => Q (.d .none), rt := Q } (startD cc_Mjet.N ds) := sem_Mjet rfl rfl rfl rfl
theorem len_is_jet {ds : List DV} {Q : DV → Prop} (h : Phi 72 ds Q) : ds.length = 1 := by
  have h : sp_is_jet ds Q := h
  obtain ⟨_, rfl, _⟩ := h
  rfl
theorem sem_is_jet_ : ∀ ds Q, Phi 72 ds Q → wS Phi rs_is_jet { nx := fun _ => Q (.d .none), rt := Q } (startD cc_is_jet.N ds) := sem_is_jet rfl
theorem len_value_at {ds : List DV} {Q : DV → Prop} (h : Phi 75 ds Q) : ds.length = 2 := by
  have h : sp_value_at ds Q := h
  obtain ⟨_, _, _, _, rfl, _⟩ := h
  rfl
theorem sem_value_at_ : ∀ ds Q, Phi 75 ds Q → wS Phi rs_value_at { nx := fun _ => Q (.d .none), rt := Q } (startD cc_value_at.N ds) := sem_value_at rfl rfl
theorem len_negative {ds : List DV} {Q : DV → Prop} (h : Phi 76 ds Q) : ds.length = 1 := by
  have h : sp_negative ds Q := h
  obtain ⟨_, rfl, _⟩ := h
  rfl
theorem sem_negative_ : ∀ ds Q, Phi 76 ds Q → wS Phi rs_negative { nx := fun _ => Q (.d .none), rt := Q } (startD cc_negative.N ds) := sem_negative
theorem len_quotient {ds : List DV} {Q : DV → Prop} (h : Phi 82 ds Q) : ds.length = 2 := by
  have h : sp_quotient ds Q := h
  obtain ⟨_, _, rfl, _⟩ := h
  rfl
theorem sem_quotient_ : ∀ ds Q, Phi 82 ds Q → wS Phi rs_quotient { nx := fun _ => Q (.d .none), rt := Q } (startD cc_quotient.N ds) := sem_quotient rfl
theorem len_Morder {ds : List DV} {Q : DV → Prop} (h : Phi 93 ds Q) : ds.length = 2 := by
  have h : sp_Morder ds Q := h
  obtain ⟨_, _, rfl, _⟩ := h
  rfl
theorem sem_Morder_ : ∀ ds Q, Phi 93 ds Q → wS Phi rs_Morder { nx := fun _ => Q (.d .none), rt := Q } (startD cc_Morder.N ds) := sem_Morder rfl
theorem len_as_surd {ds : List DV} {Q : DV → Prop} (h : Phi 94 ds Q) : ds.length = 1 := by
  have h : sp_as_surd ds Q := h
  obtain ⟨_, rfl, _⟩ := h
  rfl
theorem sem_as_surd_ : ∀ ds Q, Phi 94 ds Q → wS Phi rs_as_surd { nx := fun _ => Q (.d .none), rt := Q } (startD cc_as_surd.N ds) := sem_as_surd
theorem len_zeros {ds : List DV} {Q : DV → Prop} (h : Phi 95 ds Q) : ds.length = 1 := by
  have h : sp_zeros ds Q := h
  obtain ⟨_, _, _, rfl, _⟩ := h
  rfl
theorem sem_zeros_ : ∀ ds Q, Phi 95 ds Q → wS Phi rs_zeros { nx := fun _ => Q (.d .none), rt := Q } (startD cc_zeros.N ds) := sem_zeros rfl rfl rfl rfl rfl rfl rfl
theorem len_surd_sign {ds : List DV} {Q : DV → Prop} (h : Phi 96 ds Q) : ds.length = 1 := by
  have h : sp_surd_sign ds Q := h
  obtain ⟨_, _, _, rfl, _⟩ := h
  rfl
theorem sem_surd_sign_ : ∀ ds Q, Phi 96 ds Q → wS Phi rs_surd_sign { nx := fun _ => Q (.d .none), rt := Q } (startD cc_surd_sign.N ds) := sem_surd_sign rfl
theorem len_later_begin {ds : List DV} {Q : DV → Prop} (h : Phi 156 ds Q) : ds.length = 2 := by
  have h : sp_later_begin ds Q := h
  obtain ⟨_, _, rfl, _⟩ := h
  rfl
theorem sem_later_begin_ : ∀ ds Q, Phi 156 ds Q → wS Phi rs_later_begin { nx := fun _ => Q (.d .none), rt := Q } (startD cc_later_begin.N ds) := sem_later_begin rfl
theorem len_earlier_end {ds : List DV} {Q : DV → Prop} (h : Phi 157 ds Q) : ds.length = 2 := by
  have h : sp_earlier_end ds Q := h
  obtain ⟨_, _, rfl, _⟩ := h
  rfl
theorem sem_earlier_end_ : ∀ ds Q, Phi 157 ds Q → wS Phi rs_earlier_end { nx := fun _ => Q (.d .none), rt := Q } (startD cc_earlier_end.N ds) := sem_earlier_end rfl
theorem len_order_of {ds : List DV} {Q : DV → Prop} (h : Phi 158 ds Q) : ds.length = 2 := by
  have h : sp_order_of ds Q := h
  obtain ⟨_, _, rfl, _⟩ := h
  rfl
theorem sem_order_of_ : ∀ ds Q, Phi 158 ds Q → wS Phi rs_order_of { nx := fun _ => Q (.d .none), rt := Q } (startD cc_order_of.N ds) := sem_order_of rfl
theorem len_common {ds : List DV} {Q : DV → Prop} (h : Phi 159 ds Q) : ds.length = 1 := by
  have h : sp_common ds Q := h
  obtain ⟨_, rfl, _⟩ := h
  rfl
theorem sem_common_ : ∀ ds Q, Phi 159 ds Q → wS Phi rs_common { nx := fun _ => Q (.d .none), rt := Q } (startD cc_common.N ds) := sem_common rfl rfl rfl
theorem len_difference {ds : List DV} {Q : DV → Prop} (h : Phi 162 ds Q) : ds.length = 2 := by
  have h : sp_difference ds Q := h
  obtain ⟨_, _, _, _, _, _, rfl, _⟩ := h
  rfl
theorem sem_difference_ : ∀ ds Q, Phi 162 ds Q → wS Phi rs_difference { nx := fun _ => Q (.d .none), rt := Q } (startD cc_difference.N ds) := sem_difference rfl
theorem len_is_within {ds : List DV} {Q : DV → Prop} (h : Phi 177 ds Q) : ds.length = 3 := by
  have h : sp_is_within ds Q := h
  obtain ⟨_, _, _, _, _, rfl, _⟩ := h
  rfl
theorem sem_is_within_ : ∀ ds Q, Phi 177 ds Q → wS Phi rs_is_within { nx := fun _ => Q (.d .none), rt := Q } (startD cc_is_within.N ds) := sem_is_within rfl
theorem len_growth_at {ds : List DV} {Q : DV → Prop} (h : Phi 178 ds Q) : ds.length = 2 := by
  have h : sp_growth_at ds Q := h
  obtain ⟨_, _, _, _, rfl, _⟩ := h
  rfl
theorem sem_growth_at_ : ∀ ds Q, Phi 178 ds Q → wS Phi rs_growth_at { nx := fun _ => Q (.d .none), rt := Q } (startD cc_growth_at.N ds) := sem_growth_at rfl rfl
theorem len_halves_at {ds : List DV} {Q : DV → Prop} (h : Phi 179 ds Q) : ds.length = 2 := by
  have h : sp_halves_at ds Q := h
  obtain ⟨_, _, _, _, _, _, rfl, _⟩ := h
  rfl
theorem sem_halves_at_ : ∀ ds Q, Phi 179 ds Q → wS Phi rs_halves_at { nx := fun _ => Q (.d .none), rt := Q } (startD cc_halves_at.N ds) := sem_halves_at rfl rfl rfl rfl
theorem len_surd_at {ds : List DV} {Q : DV → Prop} (h : Phi 181 ds Q) : ds.length = 2 := by
  have h : sp_surd_at ds Q := h
  obtain ⟨_, _, _, _, _, _, rfl, _⟩ := h
  rfl
theorem sem_surd_at_ : ∀ ds Q, Phi 181 ds Q → wS Phi rs_surd_at { nx := fun _ => Q (.d .none), rt := Q } (startD cc_surd_at.N ds) := sem_surd_at rfl rfl
theorem len_Lsign {ds : List DV} {Q : DV → Prop} (h : Phi 193 ds Q) : ds.length = 1 := by
  have h : sp_Lsign ds Q := h
  obtain ⟨_, rfl, _⟩ := h
  rfl
theorem sem_Lsign_ : ∀ ds Q, Phi 193 ds Q → wS Phi rs_Lsign { nx := fun _ => Q (.d .none), rt := Q } (startD cc_Lsign.N ds) := sem_Lsign
theorem len_Lwell {ds : List DV} {Q : DV → Prop} (h : Phi 196 ds Q) : ds.length = 2 := by
  have h : sp_Lwell ds Q := h
  obtain ⟨_, _, rfl, _⟩ := h
  rfl
theorem sem_Lwell_ : ∀ ds Q, Phi 196 ds Q → wS Phi rs_Lwell { nx := fun _ => Q (.d .none), rt := Q } (startD cc_Lwell.N ds) := sem_Lwell
theorem len_Lcommon {ds : List DV} {Q : DV → Prop} (h : Phi 218 ds Q) : ds.length = 1 := by
  have h : sp_Lcommon ds Q := h
  rcases h with ⟨_, _, rfl, _⟩ | ⟨_, _, _, rfl, _⟩ <;> rfl
theorem sem_Lcommon_ : ∀ ds Q, Phi 218 ds Q → wS Phi rs_Lcommon { nx := fun _ => Q (.d .none), rt := Q } (startD cc_Lcommon.N ds) := sem_Lcommon
theorem len_Llean {ds : List DV} {Q : DV → Prop} (h : Phi 219 ds Q) : ds.length = 1 := by
  have h : sp_Llean ds Q := h
  rcases h with ⟨_, _, rfl, _⟩ | ⟨_, _, _, rfl, _⟩ <;> rfl
theorem sem_Llean_ : ∀ ds Q, Phi 219 ds Q → wS Phi rs_Llean { nx := fun _ => Q (.d .none), rt := Q } (startD cc_Llean.N ds) := sem_Llean rfl
theorem len_Lratio {ds : List DV} {Q : DV → Prop} (h : Phi 220 ds Q) : ds.length = 2 := by
  have h : sp_Lratio ds Q := h
  obtain ⟨_, _, rfl, _⟩ := h
  rfl
theorem sem_Lratio_ : ∀ ds Q, Phi 220 ds Q → wS Phi rs_Lratio { nx := fun _ => Q (.d .none), rt := Q } (startD cc_Lratio.N ds) := sem_Lratio rfl
theorem len_Lpart {ds : List DV} {Q : DV → Prop} (h : Phi 221 ds Q) : ds.length = 1 := by
  have h : sp_Lpart ds Q := h
  obtain ⟨rfl, _⟩ := h
  rfl
theorem sem_Lpart_ : ∀ ds Q, Phi 221 ds Q → wS Phi rs_Lpart { nx := fun _ => Q (.d .none), rt := Q } (startD cc_Lpart.N ds) := sem_Lpart rfl rfl rfl
theorem len_Lplus {ds : List DV} {Q : DV → Prop} (h : Phi 223 ds Q) : ds.length = 2 := by
  have h : sp_Lplus ds Q := h
  obtain ⟨_, _, rfl, _⟩ := h
  rfl
theorem sem_Lplus_ : ∀ ds Q, Phi 223 ds Q → wS Phi rs_Lplus { nx := fun _ => Q (.d .none), rt := Q } (startD cc_Lplus.N ds) := sem_Lplus rfl
theorem len_Ltimes {ds : List DV} {Q : DV → Prop} (h : Phi 224 ds Q) : ds.length = 2 := by
  have h : sp_Ltimes ds Q := h
  obtain ⟨_, _, rfl, _⟩ := h
  rfl
theorem sem_Ltimes_ : ∀ ds Q, Phi 224 ds Q → wS Phi rs_Ltimes { nx := fun _ => Q (.d .none), rt := Q } (startD cc_Ltimes.N ds) := sem_Ltimes rfl
theorem len_Lapart {ds : List DV} {Q : DV → Prop} (h : Phi 230 ds Q) : ds.length = 1 := by
  have h : sp_Lapart ds Q := h
  obtain ⟨_, _, rfl, _⟩ := h
  rfl
theorem sem_Lapart_ : ∀ ds Q, Phi 230 ds Q → wS Phi rs_Lapart { nx := fun _ => Q (.d .none), rt := Q } (startD cc_Lapart.N ds) := sem_Lapart rfl
theorem len_Lrounds {ds : List DV} {Q : DV → Prop} (h : Phi 235 ds Q) : ds.length = 3 := by
  have h : sp_Lrounds ds Q := h
  obtain ⟨_, _, _, rfl, _⟩ := h
  rfl
theorem sem_Lrounds_ : ∀ ds Q, Phi 235 ds Q → wS Phi rs_Lrounds { nx := fun _ => Q (.d .none), rt := Q } (startD cc_Lrounds.N ds) := sem_Lrounds
theorem len_Lfar_x {ds : List DV} {Q : DV → Prop} (h : Phi 236 ds Q) : ds.length = 2 := by
  have h : sp_Lfar_x ds Q := h
  obtain ⟨_, _, _, _, _, rfl, _⟩ := h
  rfl
theorem sem_Lfar_x_ : ∀ ds Q, Phi 236 ds Q → wS Phi rs_Lfar_x { nx := fun _ => Q (.d .none), rt := Q } (startD cc_Lfar_x.N ds) := sem_Lfar_x rfl rfl rfl rfl
theorem len_Lpoint {ds : List DV} {Q : DV → Prop} (h : Phi 237 ds Q) : ds.length = 2 := by
  have h : sp_Lpoint ds Q := h
  obtain ⟨_, _, rfl, _⟩ := h
  rfl
theorem sem_Lpoint_ : ∀ ds Q, Phi 237 ds Q → wS Phi rs_Lpoint { nx := fun _ => Q (.d .none), rt := Q } (startD cc_Lpoint.N ds) := sem_Lpoint rfl
theorem len_Lstream {ds : List DV} {Q : DV → Prop} (h : Phi 238 ds Q) : ds.length = 1 := by
  have h : sp_Lstream ds Q := h
  obtain ⟨rfl, _⟩ := h
  rfl
theorem sem_Lstream_ : ∀ ds Q, Phi 238 ds Q → wS Phi rs_Lstream { nx := fun _ => Q (.d .none), rt := Q } (startD cc_Lstream.N ds) := sem_Lstream rfl rfl rfl rfl
theorem len_Lcurve {ds : List DV} {Q : DV → Prop} (h : Phi 243 ds Q) : ds.length = 1 := by
  have h : sp_Lcurve ds Q := h
  obtain ⟨_, _, _, _, _, rfl, _⟩ := h
  rfl
theorem sem_Lcurve_ : ∀ ds Q, Phi 243 ds Q → wS Phi rs_Lcurve { nx := fun _ => Q (.d .none), rt := Q } (startD cc_Lcurve.N ds) := sem_Lcurve rfl rfl rfl rfl
theorem len_Lon_curve {ds : List DV} {Q : DV → Prop} (h : Phi 244 ds Q) : ds.length = 3 := by
  have h : sp_Lon_curve ds Q := h
  obtain ⟨_, _, _, _, _, _, _, rfl, _⟩ := h
  rfl
theorem sem_Lon_curve_ : ∀ ds Q, Phi 244 ds Q → wS Phi rs_Lon_curve { nx := fun _ => Q (.d .none), rt := Q } (startD cc_Lon_curve.N ds) := sem_Lon_curve rfl rfl rfl rfl
theorem len_is_stream {ds : List DV} {Q : DV → Prop} (h : Phi 256 ds Q) : ds.length = 1 := by
  have h : sp_is_stream ds Q := h
  obtain ⟨_, _, _, _, _, rfl, _⟩ := h
  rfl
theorem sem_is_stream_ : ∀ ds Q, Phi 256 ds Q → wS Phi rs_is_stream { nx := fun _ => Q (.d .none), rt := Q } (startD cc_is_stream.N ds) := sem_is_stream rfl rfl rfl
theorem len_check_stream {ds : List DV} {Q : DV → Prop} (h : Phi 257 ds Q) : ds.length = 1 := by
  have h : sp_check_stream ds Q := h
  obtain ⟨_, _, _, _, _, rfl, _⟩ := h
  rfl
theorem sem_check_stream_ : ∀ ds Q, Phi 257 ds Q → wS Phi rs_check_stream { nx := fun _ => Q (.d .none), rt := Q } (startD cc_check_stream.N ds) := sem_check_stream rfl
theorem len_spout_of {ds : List DV} {Q : DV → Prop} (h : Phi 258 ds Q) : ds.length = 1 := by
  have h : sp_spout_of ds Q := h
  obtain ⟨_, _, _, _, _, rfl, _⟩ := h
  rfl
theorem sem_spout_of_ : ∀ ds Q, Phi 258 ds Q → wS Phi rs_spout_of { nx := fun _ => Q (.d .none), rt := Q } (startD cc_spout_of.N ds) := sem_spout_of rfl
theorem len_fall_of {ds : List DV} {Q : DV → Prop} (h : Phi 259 ds Q) : ds.length = 1 := by
  have h : sp_fall_of ds Q := h
  obtain ⟨_, _, _, _, _, rfl, _⟩ := h
  rfl
theorem sem_fall_of_ : ∀ ds Q, Phi 259 ds Q → wS Phi rs_fall_of { nx := fun _ => Q (.d .none), rt := Q } (startD cc_fall_of.N ds) := sem_fall_of rfl rfl
theorem len_water_of {ds : List DV} {Q : DV → Prop} (h : Phi 260 ds Q) : ds.length = 1 := by
  have h : sp_water_of ds Q := h
  obtain ⟨_, _, _, _, _, rfl, _⟩ := h
  rfl
theorem sem_water_of_ : ∀ ds Q, Phi 260 ds Q → wS Phi rs_water_of { nx := fun _ => Q (.d .none), rt := Q } (startD cc_water_of.N ds) := sem_water_of rfl rfl rfl rfl rfl
theorem len_stretch_of {ds : List DV} {Q : DV → Prop} (h : Phi 261 ds Q) : ds.length = 1 := by
  have h : sp_stretch_of ds Q := h
  obtain ⟨_, _, _, _, _, rfl, _⟩ := h
  rfl
theorem sem_stretch_of_ : ∀ ds Q, Phi 261 ds Q → wS Phi rs_stretch_of { nx := fun _ => Q (.d .none), rt := Q } (startD cc_stretch_of.N ds) := sem_stretch_of rfl rfl
theorem len_meeting_places {ds : List DV} {Q : DV → Prop} (h : Phi 262 ds Q) : ds.length = 2 := by
  have h : sp_meeting_places ds Q := h
  obtain ⟨_, _, _, _, _, _, _, _, _, _, rfl, _⟩ := h
  rfl
theorem sem_meeting_places_ : ∀ ds Q, Phi 262 ds Q → wS Phi rs_meeting_places { nx := fun _ => Q (.d .none), rt := Q } (startD cc_meeting_places.N ds) := sem_meeting_places rfl rfl rfl rfl rfl rfl rfl
theorem len_meetings {ds : List DV} {Q : DV → Prop} (h : Phi 263 ds Q) : ds.length = 2 := by
  have h : sp_meetings ds Q := h
  obtain ⟨_, _, _, _, _, _, _, _, _, _, rfl, _⟩ := h
  rfl
theorem sem_meetings_ : ∀ ds Q, Phi 263 ds Q → wS Phi rs_meetings { nx := fun _ => Q (.d .none), rt := Q } (startD cc_meetings.N ds) := sem_meetings rfl rfl rfl rfl
theorem len_first_there {ds : List DV} {Q : DV → Prop} (h : Phi 264 ds Q) : ds.length = 3 := by
  have h : sp_first_there ds Q := h
  obtain ⟨_, _, _, _, _, _, _, _, _, _, _, rfl, _⟩ := h
  rfl
theorem sem_first_there_ : ∀ ds Q, Phi 264 ds Q → wS Phi rs_first_there { nx := fun _ => Q (.d .none), rt := Q } (startD cc_first_there.N ds) := sem_first_there rfl rfl rfl rfl rfl rfl rfl
theorem len_drops_meet {ds : List DV} {Q : DV → Prop} (h : Phi 267 ds Q) : ds.length = 2 := by
  have h : sp_drops_meet ds Q := h
  obtain ⟨_, _, _, _, _, _, _, _, _, _, rfl, _⟩ := h
  rfl
theorem sem_drops_meet_ : ∀ ds Q, Phi 267 ds Q → wS Phi rs_drops_meet { nx := fun _ => Q (.d .none), rt := Q } (startD cc_drops_meet.N ds) := sem_drops_meet rfl rfl rfl rfl rfl rfl rfl rfl
theorem len_water_at {ds : List DV} {Q : DV → Prop} (h : Phi 272 ds Q) : ds.length = 2 := by
  have h : sp_water_at ds Q := h
  obtain ⟨_, _, _, _, _, _, rfl, _⟩ := h
  rfl
theorem sem_water_at_ : ∀ ds Q, Phi 272 ds Q → wS Phi rs_water_at { nx := fun _ => Q (.d .none), rt := Q } (startD cc_water_at.N ds) := sem_water_at rfl rfl rfl rfl rfl rfl rfl
section
variable {P : Program} {w : World} {K : Fg} {mg : Str → Option Value} {base : Heap}
structure Txt (w : World) (K : Fg) (mg : Str → Option Value) : Prop where
  f_Lcommon : ∃ (f : Addr) (fd : FuncData), mg "_law_common" = some (.ref f) ∧ Fun K "_law_common" "_law_common" st_Lcommon f fd
  f_Llean : ∃ (f : Addr) (fd : FuncData), mg "_law_lean" = some (.ref f) ∧ Fun K "_law_lean" "_law_lean" st_Llean f fd
  f_Lpoint : ∃ (f : Addr) (fd : FuncData), mg "_law_point" = some (.ref f) ∧ Fun K "_law_point" "_law_point" st_Lpoint f fd
  f_Mdraw : ∃ (f : Addr) (fd : FuncData), mg "_law_draw" = some (.ref f) ∧ Fun K "_law_draw" "_law_draw" st_Mdraw f fd
  f_Mpick : ∃ (f : Addr) (fd : FuncData), mg "_law_pick" = some (.ref f) ∧ Fun K "_law_pick" "_law_pick" st_Mpick f fd
  f_Lratio : ∃ (f : Addr) (fd : FuncData), mg "_law_ratio" = some (.ref f) ∧ Fun K "_law_ratio" "_law_ratio" st_Lratio f fd
  f_Msize : ∃ (f : Addr) (fd : FuncData), mg "_law_size" = some (.ref f) ∧ Fun K "_law_size" "_law_size" st_Msize f fd
  f_Lpart : ∃ (f : Addr) (fd : FuncData), mg "_law_part" = some (.ref f) ∧ Fun K "_law_part" "_law_part" st_Lpart f fd
  f_Mjet : ∃ (f : Addr) (fd : FuncData), mg "_law_jet" = some (.ref f) ∧ Fun K "_law_jet" "_law_jet" st_Mjet f fd
  f_Lstream : ∃ (f : Addr) (fd : FuncData), mg "_law_stream" = some (.ref f) ∧ Fun K "_law_stream" "_law_stream" st_Lstream f fd
  f_Lapart : ∃ (f : Addr) (fd : FuncData), mg "_law_apart" = some (.ref f) ∧ Fun K "_law_apart" "_law_apart" st_Lapart f fd
  f_Lplus : ∃ (f : Addr) (fd : FuncData), mg "_law_plus" = some (.ref f) ∧ Fun K "_law_plus" "_law_plus" st_Lplus f fd
  f_Mless : ∃ (f : Addr) (fd : FuncData), mg "_law_less" = some (.ref f) ∧ Fun K "_law_less" "_law_less" st_Mless f fd
  f_Ltimes : ∃ (f : Addr) (fd : FuncData), mg "_law_times" = some (.ref f) ∧ Fun K "_law_times" "_law_times" st_Ltimes f fd
  f_Lcurve : ∃ (f : Addr) (fd : FuncData), mg "_law_curve" = some (.ref f) ∧ Fun K "_law_curve" "_law_curve" st_Lcurve f fd
  f_Lon_curve : ∃ (f : Addr) (fd : FuncData), mg "_law_on_curve" = some (.ref f) ∧ Fun K "_law_on_curve" "_law_on_curve" st_Lon_curve f fd
  f_is_whole : ∃ (f : Addr) (fd : FuncData), mg "is_whole" = some (.ref f) ∧ Fun K "is_whole" "is_whole" st_is_whole f fd
  f_is_point : ∃ (f : Addr) (fd : FuncData), mg "is_point" = some (.ref f) ∧ Fun K "is_point" "is_point" st_is_point f fd
  f_is_fraction : ∃ (f : Addr) (fd : FuncData), mg "is_fraction" = some (.ref f) ∧ Fun K "is_fraction" "is_fraction" st_is_fraction f fd
  f_is_jet : ∃ (f : Addr) (fd : FuncData), mg "is_jet" = some (.ref f) ∧ Fun K "is_jet" "is_jet" st_is_jet f fd
  f_is_stream : ∃ (f : Addr) (fd : FuncData), mg "is_stream" = some (.ref f) ∧ Fun K "is_stream" "is_stream" st_is_stream f fd
  f_check_stream : ∃ (f : Addr) (fd : FuncData), mg "check_stream" = some (.ref f) ∧ Fun K "check_stream" "check_stream" st_check_stream f fd
  f_reduced : ∃ (f : Addr) (fd : FuncData), mg "reduced" = some (.ref f) ∧ Fun K "reduced" "reduced" st_reduced f fd
  f_quotient : ∃ (f : Addr) (fd : FuncData), mg "quotient" = some (.ref f) ∧ Fun K "quotient" "quotient" st_quotient f fd
  f_sign : ∃ (f : Addr) (fd : FuncData), mg "sign" = some (.ref f) ∧ Fun K "sign" "sign" st_sign f fd
  f_times : ∃ (f : Addr) (fd : FuncData), mg "times" = some (.ref f) ∧ Fun K "times" "times" st_times f fd
  f_minus : ∃ (f : Addr) (fd : FuncData), mg "minus" = some (.ref f) ∧ Fun K "minus" "minus" st_minus f fd
  f_sign_with_root : ∃ (f : Addr) (fd : FuncData), mg "sign_with_root" = some (.ref f) ∧ Fun K "sign_with_root" "sign_with_root" st_sign_with_root f fd
  f_spout_of : ∃ (f : Addr) (fd : FuncData), mg "spout_of" = some (.ref f) ∧ Fun K "spout_of" "spout_of" st_spout_of f fd
  f_negative : ∃ (f : Addr) (fd : FuncData), mg "negative" = some (.ref f) ∧ Fun K "negative" "negative" st_negative f fd
  f_drops_meet : ∃ (f : Addr) (fd : FuncData), mg "drops_meet" = some (.ref f) ∧ Fun K "drops_meet" "drops_meet" st_drops_meet f fd
  f_Lfar_x : ∃ (f : Addr) (fd : FuncData), mg "_law_far_x" = some (.ref f) ∧ Fun K "_law_far_x" "_law_far_x" st_Lfar_x f fd
  f_square_root : ∃ (f : Addr) (fd : FuncData), mg "square_root" = some (.ref f) ∧ Fun K "square_root" "square_root" st_square_root f fd
  f_is_surd : ∃ (f : Addr) (fd : FuncData), mg "is_surd" = some (.ref f) ∧ Fun K "is_surd" "is_surd" st_is_surd f fd
  f_check_surd : ∃ (f : Addr) (fd : FuncData), mg "check_surd" = some (.ref f) ∧ Fun K "check_surd" "check_surd" st_check_surd f fd
  f_plus : ∃ (f : Addr) (fd : FuncData), mg "plus" = some (.ref f) ∧ Fun K "plus" "plus" st_plus f fd
  f_compare : ∃ (f : Addr) (fd : FuncData), mg "compare" = some (.ref f) ∧ Fun K "compare" "compare" st_compare f fd
  f_later_begin : ∃ (f : Addr) (fd : FuncData), mg "later_begin" = some (.ref f) ∧ Fun K "later_begin" "later_begin" st_later_begin f fd
  f_earlier_end : ∃ (f : Addr) (fd : FuncData), mg "earlier_end" = some (.ref f) ∧ Fun K "earlier_end" "earlier_end" st_earlier_end f fd
  f_order_of : ∃ (f : Addr) (fd : FuncData), mg "order_of" = some (.ref f) ∧ Fun K "order_of" "order_of" st_order_of f fd
  f_common : ∃ (f : Addr) (fd : FuncData), mg "common" = some (.ref f) ∧ Fun K "common" "common" st_common f fd
  f_difference : ∃ (f : Addr) (fd : FuncData), mg "difference" = some (.ref f) ∧ Fun K "difference" "difference" st_difference f fd
  f_fall_of : ∃ (f : Addr) (fd : FuncData), mg "fall_of" = some (.ref f) ∧ Fun K "fall_of" "fall_of" st_fall_of f fd
  f_water_of : ∃ (f : Addr) (fd : FuncData), mg "water_of" = some (.ref f) ∧ Fun K "water_of" "water_of" st_water_of f fd
  f_as_surd : ∃ (f : Addr) (fd : FuncData), mg "as_surd" = some (.ref f) ∧ Fun K "as_surd" "as_surd" st_as_surd f fd
  f_stretch_of : ∃ (f : Addr) (fd : FuncData), mg "stretch_of" = some (.ref f) ∧ Fun K "stretch_of" "stretch_of" st_stretch_of f fd
  f_check_fraction : ∃ (f : Addr) (fd : FuncData), mg "check_fraction" = some (.ref f) ∧ Fun K "check_fraction" "check_fraction" st_check_fraction f fd
  f_surd_of : ∃ (f : Addr) (fd : FuncData), mg "surd_of" = some (.ref f) ∧ Fun K "surd_of" "surd_of" st_surd_of f fd
  f_zeros : ∃ (f : Addr) (fd : FuncData), mg "zeros" = some (.ref f) ∧ Fun K "zeros" "zeros" st_zeros f fd
  f_is_within : ∃ (f : Addr) (fd : FuncData), mg "is_within" = some (.ref f) ∧ Fun K "is_within" "is_within" st_is_within f fd
  f_meeting_places : ∃ (f : Addr) (fd : FuncData), mg "meeting_places" = some (.ref f) ∧ Fun K "meeting_places" "meeting_places" st_meeting_places f fd
  f_value_at : ∃ (f : Addr) (fd : FuncData), mg "value_at" = some (.ref f) ∧ Fun K "value_at" "value_at" st_value_at f fd
  f_growth_at : ∃ (f : Addr) (fd : FuncData), mg "growth_at" = some (.ref f) ∧ Fun K "growth_at" "growth_at" st_growth_at f fd
  f_halves_at : ∃ (f : Addr) (fd : FuncData), mg "halves_at" = some (.ref f) ∧ Fun K "halves_at" "halves_at" st_halves_at f fd
  f_surd_at : ∃ (f : Addr) (fd : FuncData), mg "surd_at" = some (.ref f) ∧ Fun K "surd_at" "surd_at" st_surd_at f fd
  f_meetings : ∃ (f : Addr) (fd : FuncData), mg "meetings" = some (.ref f) ∧ Fun K "meetings" "meetings" st_meetings f fd
  f_Lsign : ∃ (f : Addr) (fd : FuncData), mg "_law_sign" = some (.ref f) ∧ Fun K "_law_sign" "_law_sign" st_Lsign f fd
  f_Morder : ∃ (f : Addr) (fd : FuncData), mg "_law_order" = some (.ref f) ∧ Fun K "_law_order" "_law_order" st_Morder f fd
  f_surd_sign : ∃ (f : Addr) (fd : FuncData), mg "surd_sign" = some (.ref f) ∧ Fun K "surd_sign" "surd_sign" st_surd_sign f fd
  f_first_there : ∃ (f : Addr) (fd : FuncData), mg "first_there" = some (.ref f) ∧ Fun K "first_there" "first_there" st_first_there f fd
  f_water_at : ∃ (f : Addr) (fd : FuncData), mg "water_at" = some (.ref f) ∧ Fun K "water_at" "water_at" st_water_at f fd
  f_Lright : ∃ (f : Addr) (fd : FuncData), mg "_law_right" = some (.ref f) ∧ Fun K "_law_right" "_law_right" st_Lright f fd
  f_Lwell : ∃ (f : Addr) (fd : FuncData), mg "_law_well" = some (.ref f) ∧ Fun K "_law_well" "_law_well" st_Lwell f fd
  f_Lrounds : ∃ (f : Addr) (fd : FuncData), mg "_law_rounds" = some (.ref f) ∧ Fun K "_law_rounds" "_law_rounds" st_Lrounds f fd
  f_Mlaw : ∃ (f : Addr) (fd : FuncData), mg "law" = some (.ref f) ∧ Fun K "law" "law" st_Mlaw f fd
  b_range : mg "range" = none
  b_abs : mg "abs" = none
  b_int : mg "int" = none
  b_max : mg "max" = none
  b_tuple : mg "tuple" = none
  b_divmod : mg "divmod" = none
  b_len : mg "len" = none
  b_isinstance : mg "isinstance" = none
  b_bool : mg "bool" = none
  b_repr : mg "repr" = none
  b_min : mg "min" = none
  b_all : mg "all" = none
  g_ENDLESS : ∃ (v : V) (u : Value), mg "ENDLESS" = some u ∧ RelV v u ∧ ∀ W : Wd, R K W v (.tuple [.none, .none])
  g_ZERO : ∃ (v : V) (u : Value), mg "ZERO" = some u ∧ RelV v u ∧ ∀ W : Wd, R K W v (.tuple [(.int 0), (.int 1)])
  g_NOUGHT : ∃ (v : V) (u : Value), mg "NOUGHT" = some u ∧ RelV v u ∧ ∀ W : Wd, R K W v (.tuple [(.tuple [(.int 0), (.int 1)]), (.tuple [(.int 0), (.int 1)]), (.tuple [(.int 0), (.int 1)])])
  d_FIRST_WORDS : ∃ a : Addr, mg "FIRST_WORDS" = some (.ref a) ∧ KTab w.params K a [(.int (-1), (.str (Str.ofString "first"))), (.int 0, (.str (Str.ofString "both"))), (.int 1, (.str (Str.ofString "other")))]
  m_gcd : mg "gcd" = some (.builtin "math.gcd")
  m_isqrt : mg "isqrt" = some (.builtin "math.isqrt")
theorem ff_Lcommon (T : Txt w K mg) : FF P w K mg base Phi 1 st_Lcommon ["_law_numbers"] "_law_common" 218 := by
  obtain ⟨f, fd, hg, F⟩ := T.f_Lcommon
  exact ff_of (lv := 0) F hg sc_Lcommon rfl rfl (glo (fn0) (fn0) (fn0) ((fa T.b_range (fa T.b_abs (fa T.b_int fn0)))) (fn0) (fn0)) c_Lcommon (fun _ _ _ _ _ _ us hl => match us, hl with | [_], _ => rfl) (fun ds Q h => len_Lcommon h) (fun ds Q h => sem_Lcommon_ ds Q h)
theorem ff_Llean (T : Txt w K mg) : FF P w K mg base Phi 2 st_Llean ["_law_numbers"] "_law_lean" 219 := by
  obtain ⟨f, fd, hg, F⟩ := T.f_Llean
  exact ff_of (lv := 1) F hg sc_Llean rfl rfl (glo ((fa ((ff_Lcommon T).g (by decide)) fn0)) (fn0) (fn0) ((fa T.b_max (fa T.b_tuple fn0))) (fn0) (fn0)) c_Llean (fun _ _ _ _ _ _ us hl => match us, hl with | [_], _ => rfl) (fun ds Q h => len_Llean h) (fun ds Q h => sem_Llean_ ds Q h)
theorem ff_Lpoint (T : Txt w K mg) : FF P w K mg base Phi 3 st_Lpoint ["_law_x", "_law_y"] "_law_point" 237 := by
  obtain ⟨f, fd, hg, F⟩ := T.f_Lpoint
  exact ff_of (lv := 2) F hg sc_Lpoint rfl rfl (glo ((fa ((ff_Llean T).g (by decide)) fn0)) (fn0) (fn0) (fn0) (fn0) (fn0)) c_Lpoint (fun _ _ _ _ _ _ us hl => match us, hl with | [_, _], _ => rfl) (fun ds Q h => len_Lpoint h) (fun ds Q h => sem_Lpoint_ ds Q h)
theorem ff_Mdraw (T : Txt w K mg) : FF P w K mg base Phi 1 st_Mdraw ["_law_well_here", "_law_many"] "_law_draw" 0 := by
  obtain ⟨f, fd, hg, F⟩ := T.f_Mdraw
  exact ff_of (lv := 0) F hg sc_Mdraw rfl rfl (glo (fn0) (fn0) (fn0) ((fa T.b_divmod (fa T.b_int fn0))) (fn0) (fn0)) c_Mdraw (fun _ _ _ _ _ _ us hl => match us, hl with | [_, _], _ => rfl) (fun ds Q h => len_Mdraw h) (fun ds Q h => sem_Mdraw_ ds Q h)
theorem ff_Mpick (T : Txt w K mg) : FF P w K mg base Phi 2 st_Mpick ["_law_well_here", "_law_some"] "_law_pick" 1 := by
  obtain ⟨f, fd, hg, F⟩ := T.f_Mpick
  exact ff_of (lv := 1) F hg sc_Mpick rfl rfl (glo ((fa ((ff_Mdraw T).g (by decide)) fn0)) (fn0) (fn0) ((fa T.b_len fn0)) (fn0) (fn0)) c_Mpick (fun _ _ _ _ _ _ us hl => match us, hl with | [_, _], _ => rfl) (fun ds Q h => len_Mpick h) (fun ds Q h => sem_Mpick_ ds Q h)
theorem ff_Lratio (T : Txt w K mg) : FF P w K mg base Phi 3 st_Lratio ["_law_n", "_law_m"] "_law_ratio" 220 := by
  obtain ⟨f, fd, hg, F⟩ := T.f_Lratio
  exact ff_of (lv := 2) F hg sc_Lratio rfl rfl (glo ((fa ((ff_Llean T).g (by decide)) fn0)) (fn0) (fn0) (fn0) (fn0) (fn0)) c_Lratio (fun _ _ _ _ _ _ us hl => match us, hl with | [_, _], _ => rfl) (fun ds Q h => len_Lratio h) (fun ds Q h => sem_Lratio_ ds Q h)
theorem ff_Msize (T : Txt w K mg) : FF P w K mg base Phi 4 st_Msize ["_law_well_here"] "_law_size" 2 := by
  obtain ⟨f, fd, hg, F⟩ := T.f_Msize
  exact ff_of (lv := 3) F hg sc_Msize rfl rfl (glo ((fa ((ff_Mdraw T).g (by decide)) (fa ((ff_Lratio T).g (by decide)) (fa ((ff_Mpick T).g (by decide)) fn0)))) (fn0) (fn0) (fn0) (fn0) (fn0)) c_Msize (fun _ _ _ _ _ _ us hl => match us, hl with | [_], _ => rfl) (fun ds Q h => len_Msize h) (fun ds Q h => sem_Msize_ ds Q h)
theorem ff_Lpart (T : Txt w K mg) : FF P w K mg base Phi 5 st_Lpart ["_law_well_here"] "_law_part" 221 := by
  obtain ⟨f, fd, hg, F⟩ := T.f_Lpart
  exact ff_of (lv := 4) F hg sc_Lpart rfl rfl (glo ((fa ((ff_Mpick T).g (by decide)) (fa ((ff_Msize T).g (by decide)) (fa ((ff_Mdraw T).g (by decide)) fn0)))) (fn0) (fn0) (fn0) (fn0) (fn0)) c_Lpart (fun _ _ _ _ _ _ us hl => match us, hl with | [_], _ => rfl) (fun ds Q h => len_Lpart h) (fun ds Q h => sem_Lpart_ ds Q h)
theorem ff_Mjet (T : Txt w K mg) : FF P w K mg base Phi 6 st_Mjet ["_law_well_here"] "_law_jet" 68 := by
  obtain ⟨f, fd, hg, F⟩ := T.f_Mjet
  exact ff_of (lv := 5) F hg sc_Mjet rfl rfl (glo ((fa ((ff_Mdraw T).g (by decide)) (fa ((ff_Mpick T).g (by decide)) (fa ((ff_Lpart T).g (by decide)) (fa ((ff_Msize T).g (by decide)) fn0))))) (fn0) (fn0) (fn0) (fn0) (fn0)) c_Mjet (fun _ _ _ _ _ _ us hl => match us, hl with | [_], _ => rfl) (fun ds Q h => len_Mjet h) (fun ds Q h => sem_Mjet_ ds Q h)
theorem ff_Lstream (T : Txt w K mg) : FF P w K mg base Phi 7 st_Lstream ["_law_well_here"] "_law_stream" 238 := by
  obtain ⟨f, fd, hg, F⟩ := T.f_Lstream
  exact ff_of (lv := 6) F hg sc_Lstream rfl rfl (glo ((fa ((ff_Lpoint T).g (by decide)) (fa ((ff_Lpart T).g (by decide)) (fa ((ff_Mjet T).g (by decide)) (fa ((ff_Mdraw T).g (by decide)) fn0))))) (fn0) (fn0) (fn0) (fn0) (fn0)) c_Lstream (fun _ _ _ _ _ _ us hl => match us, hl with | [_], _ => rfl) (fun ds Q h => len_Lstream h) (fun ds Q h => sem_Lstream_ ds Q h)
theorem ff_Lapart (T : Txt w K mg) : FF P w K mg base Phi 4 st_Lapart ["_law_place"] "_law_apart" 230 := by
  obtain ⟨f, fd, hg, F⟩ := T.f_Lapart
  exact ff_of (lv := 3) F hg sc_Lapart rfl rfl (glo ((fa ((ff_Lratio T).g (by decide)) fn0)) (fn0) (fn0) (fn0) (fn0) (fn0)) c_Lapart (fun _ _ _ _ _ _ us hl => match us, hl with | [_], _ => rfl) (fun ds Q h => len_Lapart h) (fun ds Q h => sem_Lapart_ ds Q h)
theorem ff_Lplus (T : Txt w K mg) : FF P w K mg base Phi 4 st_Lplus ["_law_one", "_law_two"] "_law_plus" 223 := by
  obtain ⟨f, fd, hg, F⟩ := T.f_Lplus
  exact ff_of (lv := 3) F hg sc_Lplus rfl rfl (glo ((fa ((ff_Lratio T).g (by decide)) fn0)) (fn0) (fn0) (fn0) (fn0) (fn0)) c_Lplus (fun _ _ _ _ _ _ us hl => match us, hl with | [_, _], _ => rfl) (fun ds Q h => len_Lplus h) (fun ds Q h => sem_Lplus_ ds Q h)
theorem ff_Mless (T : Txt w K mg) : FF P w K mg base Phi 4 st_Mless ["_law_one", "_law_two"] "_law_less" 59 := by
  obtain ⟨f, fd, hg, F⟩ := T.f_Mless
  exact ff_of (lv := 3) F hg sc_Mless rfl rfl (glo ((fa ((ff_Lratio T).g (by decide)) fn0)) (fn0) (fn0) (fn0) (fn0) (fn0)) c_Mless (fun _ _ _ _ _ _ us hl => match us, hl with | [_, _], _ => rfl) (fun ds Q h => len_Mless h) (fun ds Q h => sem_Mless_ ds Q h)
theorem ff_Ltimes (T : Txt w K mg) : FF P w K mg base Phi 4 st_Ltimes ["_law_one", "_law_two"] "_law_times" 224 := by
  obtain ⟨f, fd, hg, F⟩ := T.f_Ltimes
  exact ff_of (lv := 3) F hg sc_Ltimes rfl rfl (glo ((fa ((ff_Lratio T).g (by decide)) fn0)) (fn0) (fn0) (fn0) (fn0) (fn0)) c_Ltimes (fun _ _ _ _ _ _ us hl => match us, hl with | [_, _], _ => rfl) (fun ds Q h => len_Ltimes h) (fun ds Q h => sem_Ltimes_ ds Q h)
theorem ff_Lcurve (T : Txt w K mg) : FF P w K mg base Phi 5 st_Lcurve ["_law_stream_here"] "_law_curve" 243 := by
  obtain ⟨f, fd, hg, F⟩ := T.f_Lcurve
  exact ff_of (lv := 4) F hg sc_Lcurve rfl rfl (glo ((fa ((ff_Lapart T).g (by decide)) (fa ((ff_Lplus T).g (by decide)) (fa ((ff_Mless T).g (by decide)) (fa ((ff_Ltimes T).g (by decide)) fn0))))) (fn0) (fn0) (fn0) (fn0) (fn0)) c_Lcurve (fun _ _ _ _ _ _ us hl => match us, hl with | [_], _ => rfl) (fun ds Q h => len_Lcurve h) (fun ds Q h => sem_Lcurve_ ds Q h)
theorem ff_Lon_curve (T : Txt w K mg) : FF P w K mg base Phi 6 st_Lon_curve ["_law_stream_here", "_law_x", "_law_way"] "_law_on_curve" 244 := by
  obtain ⟨f, fd, hg, F⟩ := T.f_Lon_curve
  exact ff_of (lv := 5) F hg sc_Lon_curve rfl rfl (glo ((fa ((ff_Lcurve T).g (by decide)) (fa ((ff_Lplus T).g (by decide)) (fa ((ff_Ltimes T).g (by decide)) (fa ((ff_Lpoint T).g (by decide)) fn0))))) (fn0) (fn0) (fn0) (fn0) (fn0)) c_Lon_curve (fun _ _ _ _ _ _ us hl => match us, hl with | [_, _, _], _ => rfl) (fun ds Q h => len_Lon_curve h) (fun ds Q h => sem_Lon_curve_ ds Q h)
theorem ff_is_whole (T : Txt w K mg) : FF P w K mg base Phi 1 st_is_whole ["value"] "is_whole" 10 := by
  obtain ⟨f, fd, hg, F⟩ := T.f_is_whole
  exact ff_of (lv := 0) F hg sc_is_whole rfl rfl (glo (fn0) (fn0) (fn0) ((fa T.b_isinstance (fa T.b_int (fa T.b_bool fn0)))) (fn0) (fn0)) c_is_whole (fun _ _ _ _ _ _ us hl => match us, hl with | [_], _ => rfl) (fun ds Q h => len_is_whole h) (fun ds Q h => sem_is_whole_ ds Q h)
theorem ff_is_point (T : Txt w K mg) : FF P w K mg base Phi 2 st_is_point ["value"] "is_point" 18 := by
  obtain ⟨f, fd, hg, F⟩ := T.f_is_point
  exact ff_of (lv := 1) F hg sc_is_point rfl rfl (glo ((fa ((ff_is_whole T).g (by decide)) fn0)) (fn0) ((fa ⟨T.m_gcd, by decide, ⟨_, rfl⟩⟩ (fa ⟨T.m_gcd, by decide, ⟨_, rfl⟩⟩ fn0))) ((fa T.b_isinstance (fa T.b_tuple (fa T.b_len fn0)))) (fn0) (fn0)) c_is_point (fun _ _ _ _ _ _ us hl => match us, hl with | [_], _ => rfl) (fun ds Q h => len_is_point h) (fun ds Q h => sem_is_point_ ds Q h)
theorem ff_is_fraction (T : Txt w K mg) : FF P w K mg base Phi 2 st_is_fraction ["value"] "is_fraction" 11 := by
  obtain ⟨f, fd, hg, F⟩ := T.f_is_fraction
  exact ff_of (lv := 1) F hg sc_is_fraction rfl rfl (glo ((fa ((ff_is_whole T).g (by decide)) fn0)) (fn0) ((fa ⟨T.m_gcd, by decide, ⟨_, rfl⟩⟩ (fa ⟨T.m_gcd, by decide, ⟨_, rfl⟩⟩ fn0))) ((fa T.b_isinstance (fa T.b_tuple (fa T.b_len fn0)))) (fn0) (fn0)) c_is_fraction (fun _ _ _ _ _ _ us hl => match us, hl with | [_], _ => rfl) (fun ds Q h => len_is_fraction h) (fun ds Q h => sem_is_fraction_ ds Q h)
theorem ff_is_jet (T : Txt w K mg) : FF P w K mg base Phi 3 st_is_jet ["value"] "is_jet" 72 := by
  obtain ⟨f, fd, hg, F⟩ := T.f_is_jet
  exact ff_of (lv := 2) F hg sc_is_jet rfl rfl (glo ((fa ((ff_is_fraction T).g (by decide)) fn0)) (fn0) (fn0) ((fa T.b_isinstance (fa T.b_tuple (fa T.b_len fn0)))) (fn0) (fn0)) c_is_jet (fun _ _ _ _ _ _ us hl => match us, hl with | [_], _ => rfl) (fun ds Q h => len_is_jet h) (fun ds Q h => sem_is_jet_ ds Q h)
theorem ff_is_stream (T : Txt w K mg) : FF P w K mg base Phi 4 st_is_stream ["value"] "is_stream" 256 := by
  obtain ⟨f, fd, hg, F⟩ := T.f_is_stream
  exact ff_of (lv := 3) F hg sc_is_stream rfl rfl (glo ((fa ((ff_is_point T).g (by decide)) (fa ((ff_is_whole T).g (by decide)) (fa ((ff_is_jet T).g (by decide)) fn0)))) (fn0) (fn0) ((fa T.b_isinstance (fa T.b_tuple (fa T.b_len fn0)))) (fn0) (fn0)) c_is_stream (fun _ _ _ _ _ _ us hl => match us, hl with | [_], _ => rfl) (fun ds Q h => len_is_stream h) (fun ds Q h => sem_is_stream_ ds Q h)
theorem ff_check_stream (T : Txt w K mg) : FF P w K mg base Phi 5 st_check_stream ["value"] "check_stream" 257 := by
  obtain ⟨f, fd, hg, F⟩ := T.f_check_stream
  exact ff_of (lv := 4) F hg sc_check_stream rfl rfl (glo ((fa ((ff_is_stream T).g (by decide)) fn0)) (fn0) (fn0) (fn0) (fn0) (fn0)) c_check_stream (fun _ _ _ _ _ _ us hl => match us, hl with | [_], _ => rfl) (fun ds Q h => len_check_stream h) (fun ds Q h => sem_check_stream_ ds Q h)
theorem ff_reduced (T : Txt w K mg) : FF P w K mg base Phi 1 st_reduced ["upper", "lower"] "reduced" 33 := by
  obtain ⟨f, fd, hg, F⟩ := T.f_reduced
  exact ff_of (lv := 0) F hg sc_reduced rfl rfl (glo (fn0) (fn0) ((fa ⟨T.m_gcd, by decide, ⟨_, rfl⟩⟩ (fa ⟨T.m_gcd, by decide, ⟨_, rfl⟩⟩ fn0))) (fn0) (fn0) (fn0)) c_reduced (fun _ _ _ _ _ _ us hl => match us, hl with | [_, _], _ => rfl) (fun ds Q h => len_reduced h) (fun ds Q h => sem_reduced_ ds Q h)
theorem ff_quotient (T : Txt w K mg) : FF P w K mg base Phi 2 st_quotient ["one", "other"] "quotient" 82 := by
  obtain ⟨f, fd, hg, F⟩ := T.f_quotient
  exact ff_of (lv := 1) F hg sc_quotient rfl rfl (glo ((fa ((ff_reduced T).g (by decide)) fn0)) (fn0) (fn0) (fn0) (fn0) (fn0)) c_quotient (fun _ _ _ _ _ _ us hl => match us, hl with | [_, _], _ => rfl) (fun ds Q h => len_quotient h) (fun ds Q h => sem_quotient_ ds Q h)
theorem ff_sign (T : Txt w K mg) : FF P w K mg base Phi 1 st_sign ["number"] "sign" 50 := by
  obtain ⟨f, fd, hg, F⟩ := T.f_sign
  exact ff_of (lv := 0) F hg sc_sign rfl rfl (glo (fn0) (fn0) (fn0) (fn0) (fn0) (fn0)) c_sign (fun _ _ _ _ _ _ us hl => match us, hl with | [_], _ => rfl) (fun ds Q h => len_sign h) (fun ds Q h => sem_sign_ ds Q h)
theorem ff_times (T : Txt w K mg) : FF P w K mg base Phi 2 st_times ["one", "other"] "times" 51 := by
  obtain ⟨f, fd, hg, F⟩ := T.f_times
  exact ff_of (lv := 1) F hg sc_times rfl rfl (glo ((fa ((ff_reduced T).g (by decide)) fn0)) (fn0) (fn0) (fn0) (fn0) (fn0)) c_times (fun _ _ _ _ _ _ us hl => match us, hl with | [_, _], _ => rfl) (fun ds Q h => len_times h) (fun ds Q h => sem_times_ ds Q h)
theorem ff_minus (T : Txt w K mg) : FF P w K mg base Phi 2 st_minus ["one", "other"] "minus" 65 := by
  obtain ⟨f, fd, hg, F⟩ := T.f_minus
  exact ff_of (lv := 1) F hg sc_minus rfl rfl (glo ((fa ((ff_reduced T).g (by decide)) fn0)) (fn0) (fn0) (fn0) (fn0) (fn0)) c_minus (fun _ _ _ _ _ _ us hl => match us, hl with | [_, _], _ => rfl) (fun ds Q h => len_minus h) (fun ds Q h => sem_minus_ ds Q h)
theorem ff_sign_with_root (T : Txt w K mg) : FF P w K mg base Phi 3 st_sign_with_root ["part", "factor", "fraction"] "sign_with_root" 66 := by
  obtain ⟨f, fd, hg, F⟩ := T.f_sign_with_root
  exact ff_of (lv := 2) F hg sc_sign_with_root rfl rfl (glo ((fa ((ff_sign T).g (by decide)) (fa ((ff_times T).g (by decide)) (fa ((ff_minus T).g (by decide)) fn0)))) (fn0) (fn0) (fn0) (fn0) (fn0)) c_sign_with_root (fun _ _ _ _ _ _ us hl => match us, hl with | [_, _, _], _ => rfl) (fun ds Q h => len_sign_with_root h) (fun ds Q h => sem_sign_with_root_ ds Q h)
theorem ff_spout_of (T : Txt w K mg) : FF P w K mg base Phi 2 st_spout_of ["stream"] "spout_of" 258 := by
  obtain ⟨f, fd, hg, F⟩ := T.f_spout_of
  exact ff_of (lv := 1) F hg sc_spout_of rfl rfl (glo ((fa ((ff_reduced T).g (by decide)) fn0)) (fn0) (fn0) (fn0) (fn0) (fn0)) c_spout_of (fun _ _ _ _ _ _ us hl => match us, hl with | [_], _ => rfl) (fun ds Q h => len_spout_of h) (fun ds Q h => sem_spout_of_ ds Q h)
theorem ff_negative (T : Txt w K mg) : FF P w K mg base Phi 1 st_negative ["fraction"] "negative" 76 := by
  obtain ⟨f, fd, hg, F⟩ := T.f_negative
  exact ff_of (lv := 0) F hg sc_negative rfl rfl (glo (fn0) (fn0) (fn0) (fn0) (fn0) (fn0)) c_negative (fun _ _ _ _ _ _ us hl => match us, hl with | [_], _ => rfl) (fun ds Q h => len_negative h) (fun ds Q h => sem_negative_ ds Q h)
theorem ff_drops_meet (T : Txt w K mg) : FF P w K mg base Phi 6 st_drops_meet ["stream", "other"] "drops_meet" 267 := by
  obtain ⟨f, fd, hg, F⟩ := T.f_drops_meet
  exact ff_of (lv := 5) F hg sc_drops_meet rfl rfl (glo ((fa ((ff_check_stream T).g (by decide)) (fa ((ff_quotient T).g (by decide)) (fa ((ff_sign_with_root T).g (by decide)) (fa ((ff_spout_of T).g (by decide)) (fa ((ff_minus T).g (by decide)) (fa ((ff_negative T).g (by decide)) (fa ((ff_times T).g (by decide)) (fa ((ff_sign T).g (by decide)) fn0))))))))) (fn0) (fn0) (fn0) (fn0) (fn0)) c_drops_meet (fun _ _ _ _ _ _ us hl => match us, hl with | [_, _], _ => rfl) (fun ds Q h => len_drops_meet h) (fun ds Q h => sem_drops_meet_ ds Q h)
theorem ff_Lfar_x (T : Txt w K mg) : FF P w K mg base Phi 5 st_Lfar_x ["_law_well_here", "_law_stream_here"] "_law_far_x" 236 := by
  obtain ⟨f, fd, hg, F⟩ := T.f_Lfar_x
  exact ff_of (lv := 4) F hg sc_Lfar_x rfl rfl (glo ((fa ((ff_Lapart T).g (by decide)) (fa ((ff_Lplus T).g (by decide)) (fa ((ff_Mless T).g (by decide)) (fa ((ff_Msize T).g (by decide)) fn0))))) (fn0) (fn0) (fn0) (fn0) (fn0)) c_Lfar_x (fun _ _ _ _ _ _ us hl => match us, hl with | [_, _], _ => rfl) (fun ds Q h => len_Lfar_x h) (fun ds Q h => sem_Lfar_x_ ds Q h)
theorem ff_square_root (T : Txt w K mg) : FF P w K mg base Phi 1 st_square_root ["fraction"] "square_root" 45 := by
  obtain ⟨f, fd, hg, F⟩ := T.f_square_root
  exact ff_of (lv := 0) F hg sc_square_root rfl rfl (glo (fn0) (fn0) ((fa ⟨T.m_isqrt, by decide, ⟨_, rfl⟩⟩ fn0)) (fn0) (fn0) (fn0)) c_square_root (fun _ _ _ _ _ _ us hl => match us, hl with | [_], _ => rfl) (fun ds Q h => len_square_root h) (fun ds Q h => sem_square_root_ ds Q h)
theorem ff_is_surd (T : Txt w K mg) : FF P w K mg base Phi 3 st_is_surd ["value"] "is_surd" 46 := by
  obtain ⟨f, fd, hg, F⟩ := T.f_is_surd
  exact ff_of (lv := 2) F hg sc_is_surd rfl rfl (glo ((fa ((ff_is_fraction T).g (by decide)) (fa ((ff_is_whole T).g (by decide)) (fa ((ff_square_root T).g (by decide)) fn0)))) (fn0) (fn0) ((fa T.b_isinstance (fa T.b_tuple (fa T.b_len fn0)))) (fn0) (fn0)) c_is_surd (fun _ _ _ _ _ _ us hl => match us, hl with | [_], _ => rfl) (fun ds Q h => len_is_surd h) (fun ds Q h => sem_is_surd_ ds Q h)
theorem ff_check_surd (T : Txt w K mg) : FF P w K mg base Phi 4 st_check_surd ["value"] "check_surd" 47 := by
  obtain ⟨f, fd, hg, F⟩ := T.f_check_surd
  exact ff_of (lv := 3) F hg sc_check_surd rfl rfl (glo ((fa ((ff_is_surd T).g (by decide)) fn0)) (fn0) (fn0) (fn0) (fn0) (fn0)) c_check_surd (fun _ _ _ _ _ _ us hl => match us, hl with | [_], _ => rfl) (fun ds Q h => len_check_surd h) (fun ds Q h => sem_check_surd_ ds Q h)
theorem ff_plus (T : Txt w K mg) : FF P w K mg base Phi 2 st_plus ["one", "other"] "plus" 48 := by
  obtain ⟨f, fd, hg, F⟩ := T.f_plus
  exact ff_of (lv := 1) F hg sc_plus rfl rfl (glo ((fa ((ff_reduced T).g (by decide)) fn0)) (fn0) (fn0) (fn0) (fn0) (fn0)) c_plus (fun _ _ _ _ _ _ us hl => match us, hl with | [_, _], _ => rfl) (fun ds Q h => len_plus h) (fun ds Q h => sem_plus_ ds Q h)
theorem ff_compare (T : Txt w K mg) : FF P w K mg base Phi 5 st_compare ["surd", "other"] "compare" 67 := by
  obtain ⟨f, fd, hg, F⟩ := T.f_compare
  exact ff_of (lv := 4) F hg sc_compare rfl rfl (glo ((fa ((ff_check_surd T).g (by decide)) (fa ((ff_minus T).g (by decide)) (fa ((ff_sign_with_root T).g (by decide)) (fa ((ff_sign T).g (by decide)) (fa ((ff_plus T).g (by decide)) (fa ((ff_times T).g (by decide)) fn0))))))) (fn0) (fn0) (fn0) (fn0) (fn0)) c_compare (fun _ _ _ _ _ _ us hl => match us, hl with | [_, _], _ => rfl) (fun ds Q h => len_compare h) (fun ds Q h => sem_compare_ ds Q h)
theorem ff_later_begin (T : Txt w K mg) : FF P w K mg base Phi 6 st_later_begin ["one", "other"] "later_begin" 156 := by
  obtain ⟨f, fd, hg, F⟩ := T.f_later_begin
  exact ff_of (lv := 5) F hg sc_later_begin rfl rfl (glo ((fa ((ff_compare T).g (by decide)) fn0)) (fn0) (fn0) (fn0) (fn0) (fn0)) c_later_begin (fun _ _ _ _ _ _ us hl => match us, hl with | [_, _], _ => rfl) (fun ds Q h => len_later_begin h) (fun ds Q h => sem_later_begin_ ds Q h)
theorem ff_earlier_end (T : Txt w K mg) : FF P w K mg base Phi 6 st_earlier_end ["one", "other"] "earlier_end" 157 := by
  obtain ⟨f, fd, hg, F⟩ := T.f_earlier_end
  exact ff_of (lv := 5) F hg sc_earlier_end rfl rfl (glo ((fa ((ff_compare T).g (by decide)) fn0)) (fn0) (fn0) (fn0) (fn0) (fn0)) c_earlier_end (fun _ _ _ _ _ _ us hl => match us, hl with | [_, _], _ => rfl) (fun ds Q h => len_earlier_end h) (fun ds Q h => sem_earlier_end_ ds Q h)
theorem ff_order_of (T : Txt w K mg) : FF P w K mg base Phi 6 st_order_of ["low", "high"] "order_of" 158 := by
  obtain ⟨f, fd, hg, F⟩ := T.f_order_of
  exact ff_of (lv := 5) F hg sc_order_of rfl rfl (glo ((fa ((ff_compare T).g (by decide)) fn0)) (fn0) (fn0) (fn0) (fn0) (fn0)) c_order_of (fun _ _ _ _ _ _ us hl => match us, hl with | [_, _], _ => rfl) (fun ds Q h => len_order_of h) (fun ds Q h => sem_order_of_ ds Q h)
theorem ff_common (T : Txt w K mg) : FF P w K mg base Phi 7 st_common ["stretches"] "common" 159 := by
  obtain ⟨f, fd, hg, F⟩ := T.f_common
  exact ff_of (lv := 6) F hg sc_common rfl rfl (glo ((fa ((ff_later_begin T).g (by decide)) (fa ((ff_earlier_end T).g (by decide)) (fa ((ff_order_of T).g (by decide)) fn0)))) (fn0) (fn0) (fn0) ((fa T.g_ENDLESS fn0)) (fn0)) c_common (fun _ _ _ _ _ _ us hl => match us, hl with | [_], _ => rfl) (fun ds Q h => len_common h) (fun ds Q h => sem_common_ ds Q h)
theorem ff_difference (T : Txt w K mg) : FF P w K mg base Phi 3 st_difference ["one", "other"] "difference" 162 := by
  obtain ⟨f, fd, hg, F⟩ := T.f_difference
  exact ff_of (lv := 2) F hg sc_difference rfl rfl (glo ((fa ((ff_minus T).g (by decide)) fn0)) (fn0) (fn0) (fn0) (fn0) (fn0)) c_difference (fun _ _ _ _ _ _ us hl => match us, hl with | [_, _], _ => rfl) (fun ds Q h => len_difference h) (fun ds Q h => sem_difference_ ds Q h)
theorem ff_fall_of (T : Txt w K mg) : FF P w K mg base Phi 3 st_fall_of ["stream"] "fall_of" 259 := by
  obtain ⟨f, fd, hg, F⟩ := T.f_fall_of
  exact ff_of (lv := 2) F hg sc_fall_of rfl rfl (glo ((fa ((ff_times T).g (by decide)) (fa ((ff_spout_of T).g (by decide)) fn0))) (fn0) (fn0) (fn0) (fn0) (fn0)) c_fall_of (fun _ _ _ _ _ _ us hl => match us, hl with | [_], _ => rfl) (fun ds Q h => len_fall_of h) (fun ds Q h => sem_fall_of_ ds Q h)
theorem ff_water_of (T : Txt w K mg) : FF P w K mg base Phi 4 st_water_of ["stream"] "water_of" 260 := by
  obtain ⟨f, fd, hg, F⟩ := T.f_water_of
  exact ff_of (lv := 3) F hg sc_water_of rfl rfl (glo ((fa ((ff_spout_of T).g (by decide)) (fa ((ff_times T).g (by decide)) (fa ((ff_difference T).g (by decide)) (fa ((ff_fall_of T).g (by decide)) (fa ((ff_minus T).g (by decide)) fn0)))))) (fn0) (fn0) (fn0) (fn0) (fn0)) c_water_of (fun _ _ _ _ _ _ us hl => match us, hl with | [_], _ => rfl) (fun ds Q h => len_water_of h) (fun ds Q h => sem_water_of_ ds Q h)
theorem ff_as_surd (T : Txt w K mg) : FF P w K mg base Phi 1 st_as_surd ["fraction"] "as_surd" 94 := by
  obtain ⟨f, fd, hg, F⟩ := T.f_as_surd
  exact ff_of (lv := 0) F hg sc_as_surd rfl rfl (glo (fn0) (fn0) (fn0) (fn0) ((fa T.g_ZERO fn0)) (fn0)) c_as_surd (fun _ _ _ _ _ _ us hl => match us, hl with | [_], _ => rfl) (fun ds Q h => len_as_surd h) (fun ds Q h => sem_as_surd_ ds Q h)
theorem ff_stretch_of (T : Txt w K mg) : FF P w K mg base Phi 3 st_stretch_of ["stream"] "stretch_of" 261 := by
  obtain ⟨f, fd, hg, F⟩ := T.f_stretch_of
  exact ff_of (lv := 2) F hg sc_stretch_of rfl rfl (glo ((fa ((ff_as_surd T).g (by decide)) (fa ((ff_spout_of T).g (by decide)) fn0))) (fn0) (fn0) (fn0) (fn0) (fn0)) c_stretch_of (fun _ _ _ _ _ _ us hl => match us, hl with | [_], _ => rfl) (fun ds Q h => len_stretch_of h) (fun ds Q h => sem_stretch_of_ ds Q h)
theorem ff_check_fraction (T : Txt w K mg) : FF P w K mg base Phi 3 st_check_fraction ["value"] "check_fraction" 13 := by
  obtain ⟨f, fd, hg, F⟩ := T.f_check_fraction
  exact ff_of (lv := 2) F hg sc_check_fraction rfl rfl (glo ((fa ((ff_is_fraction T).g (by decide)) fn0)) (fn0) (fn0) (fn0) (fn0) (fn0)) c_check_fraction (fun _ _ _ _ _ _ us hl => match us, hl with | [_], _ => rfl) (fun ds Q h => len_check_fraction h) (fun ds Q h => sem_check_fraction_ ds Q h)
theorem ff_surd_of (T : Txt w K mg) : FF P w K mg base Phi 4 st_surd_of ["part", "factor", "fraction"] "surd_of" 52 := by
  obtain ⟨f, fd, hg, F⟩ := T.f_surd_of
  exact ff_of (lv := 3) F hg sc_surd_of rfl rfl (glo ((fa ((ff_check_fraction T).g (by decide)) (fa ((ff_square_root T).g (by decide)) (fa ((ff_sign T).g (by decide)) (fa ((ff_times T).g (by decide)) (fa ((ff_plus T).g (by decide)) fn0)))))) (fn0) (fn0) (fn0) (fn0) (fn0)) c_surd_of (fun _ _ _ _ _ _ us hl => match us, hl with | [_, _, _], _ => rfl) (fun ds Q h => len_surd_of h) (fun ds Q h => sem_surd_of_ ds Q h)
theorem ff_zeros (T : Txt w K mg) : FF P w K mg base Phi 5 st_zeros ["polynomial"] "zeros" 95 := by
  obtain ⟨f, fd, hg, F⟩ := T.f_zeros
  exact ff_of (lv := 4) F hg sc_zeros rfl rfl (glo ((fa ((ff_minus T).g (by decide)) (fa ((ff_quotient T).g (by decide)) (fa ((ff_times T).g (by decide)) (fa ((ff_negative T).g (by decide)) (fa ((ff_surd_of T).g (by decide)) (fa ((ff_as_surd T).g (by decide)) (fa ((ff_sign T).g (by decide)) fn0)))))))) (fn0) (fn0) (fn0) ((fa T.g_ZERO fn0)) (fn0)) c_zeros (fun _ _ _ _ _ _ us hl => match us, hl with | [_], _ => rfl) (fun ds Q h => len_zeros h) (fun ds Q h => sem_zeros_ ds Q h)
theorem ff_is_within (T : Txt w K mg) : FF P w K mg base Phi 6 st_is_within ["number", "low", "high"] "is_within" 177 := by
  obtain ⟨f, fd, hg, F⟩ := T.f_is_within
  exact ff_of (lv := 5) F hg sc_is_within rfl rfl (glo ((fa ((ff_compare T).g (by decide)) fn0)) (fn0) (fn0) (fn0) (fn0) (fn0)) c_is_within (fun _ _ _ _ _ _ us hl => match us, hl with | [_, _, _], _ => rfl) (fun ds Q h => len_is_within h) (fun ds Q h => sem_is_within_ ds Q h)
theorem ff_meeting_places (T : Txt w K mg) : FF P w K mg base Phi 8 st_meeting_places ["stream", "other"] "meeting_places" 262 := by
  obtain ⟨f, fd, hg, F⟩ := T.f_meeting_places
  exact ff_of (lv := 7) F hg sc_meeting_places rfl rfl (glo ((fa ((ff_common T).g (by decide)) (fa ((ff_difference T).g (by decide)) (fa ((ff_water_of T).g (by decide)) (fa ((ff_stretch_of T).g (by decide)) (fa ((ff_zeros T).g (by decide)) (fa ((ff_is_within T).g (by decide)) (fa ((ff_order_of T).g (by decide)) fn0)))))))) (fn0) (fn0) (fn0) ((fa T.g_NOUGHT fn0)) (fn0)) c_meeting_places (fun _ _ _ _ _ _ us hl => match us, hl with | [_, _], _ => rfl) (fun ds Q h => len_meeting_places h) (fun ds Q h => sem_meeting_places_ ds Q h)
theorem ff_value_at (T : Txt w K mg) : FF P w K mg base Phi 3 st_value_at ["polynomial", "number"] "value_at" 75 := by
  obtain ⟨f, fd, hg, F⟩ := T.f_value_at
  exact ff_of (lv := 2) F hg sc_value_at rfl rfl (glo ((fa ((ff_plus T).g (by decide)) (fa ((ff_times T).g (by decide)) fn0))) (fn0) (fn0) (fn0) (fn0) (fn0)) c_value_at (fun _ _ _ _ _ _ us hl => match us, hl with | [_, _], _ => rfl) (fun ds Q h => len_value_at h) (fun ds Q h => sem_value_at_ ds Q h)
theorem ff_growth_at (T : Txt w K mg) : FF P w K mg base Phi 3 st_growth_at ["polynomial", "number"] "growth_at" 178 := by
  obtain ⟨f, fd, hg, F⟩ := T.f_growth_at
  exact ff_of (lv := 2) F hg sc_growth_at rfl rfl (glo ((fa ((ff_plus T).g (by decide)) (fa ((ff_times T).g (by decide)) fn0))) (fn0) (fn0) (fn0) (fn0) (fn0)) c_growth_at (fun _ _ _ _ _ _ us hl => match us, hl with | [_, _], _ => rfl) (fun ds Q h => len_growth_at h) (fun ds Q h => sem_growth_at_ ds Q h)
theorem ff_halves_at (T : Txt w K mg) : FF P w K mg base Phi 4 st_halves_at ["polynomial", "number"] "halves_at" 179 := by
  obtain ⟨f, fd, hg, F⟩ := T.f_halves_at
  exact ff_of (lv := 3) F hg sc_halves_at rfl rfl (glo ((fa ((ff_plus T).g (by decide)) (fa ((ff_value_at T).g (by decide)) (fa ((ff_times T).g (by decide)) (fa ((ff_growth_at T).g (by decide)) fn0))))) (fn0) (fn0) (fn0) (fn0) (fn0)) c_halves_at (fun _ _ _ _ _ _ us hl => match us, hl with | [_, _], _ => rfl) (fun ds Q h => len_halves_at h) (fun ds Q h => sem_halves_at_ ds Q h)
theorem ff_surd_at (T : Txt w K mg) : FF P w K mg base Phi 5 st_surd_at ["polynomial", "number"] "surd_at" 181 := by
  obtain ⟨f, fd, hg, F⟩ := T.f_surd_at
  exact ff_of (lv := 4) F hg sc_surd_at rfl rfl (glo ((fa ((ff_halves_at T).g (by decide)) (fa ((ff_surd_of T).g (by decide)) fn0))) (fn0) (fn0) (fn0) (fn0) (fn0)) c_surd_at (fun _ _ _ _ _ _ us hl => match us, hl with | [_, _], _ => rfl) (fun ds Q h => len_surd_at h) (fun ds Q h => sem_surd_at_ ds Q h)
theorem ff_meetings (T : Txt w K mg) : FF P w K mg base Phi 9 st_meetings ["stream", "other"] "meetings" 263 := by
  obtain ⟨f, fd, hg, F⟩ := T.f_meetings
  exact ff_of (lv := 8) F hg sc_meetings rfl rfl (glo ((fa ((ff_check_stream T).g (by decide)) (fa ((ff_meeting_places T).g (by decide)) (fa ((ff_surd_at T).g (by decide)) (fa ((ff_water_of T).g (by decide)) fn0))))) (fn0) (fn0) ((fa T.b_tuple fn0)) (fn0) (fn0)) c_meetings (fun _ _ _ _ _ _ us hl => match us, hl with | [_, _], _ => rfl) (fun ds Q h => len_meetings h) (fun ds Q h => sem_meetings_ ds Q h)
theorem ff_Lsign (T : Txt w K mg) : FF P w K mg base Phi 1 st_Lsign ["_law_number"] "_law_sign" 193 := by
  obtain ⟨f, fd, hg, F⟩ := T.f_Lsign
  exact ff_of (lv := 0) F hg sc_Lsign rfl rfl (glo (fn0) (fn0) (fn0) ((fa T.b_int fn0)) (fn0) (fn0)) c_Lsign (fun _ _ _ _ _ _ us hl => match us, hl with | [_], _ => rfl) (fun ds Q h => len_Lsign h) (fun ds Q h => sem_Lsign_ ds Q h)
theorem ff_Morder (T : Txt w K mg) : FF P w K mg base Phi 2 st_Morder ["_law_one", "_law_two"] "_law_order" 93 := by
  obtain ⟨f, fd, hg, F⟩ := T.f_Morder
  exact ff_of (lv := 1) F hg sc_Morder rfl rfl (glo ((fa ((ff_Lsign T).g (by decide)) fn0)) (fn0) (fn0) (fn0) (fn0) (fn0)) c_Morder (fun _ _ _ _ _ _ us hl => match us, hl with | [_, _], _ => rfl) (fun ds Q h => len_Morder h) (fun ds Q h => sem_Morder_ ds Q h)
theorem ff_surd_sign (T : Txt w K mg) : FF P w K mg base Phi 4 st_surd_sign ["surd"] "surd_sign" 96 := by
  obtain ⟨f, fd, hg, F⟩ := T.f_surd_sign
  exact ff_of (lv := 3) F hg sc_surd_sign rfl rfl (glo ((fa ((ff_sign_with_root T).g (by decide)) fn0)) (fn0) (fn0) (fn0) (fn0) (fn0)) c_surd_sign (fun _ _ _ _ _ _ us hl => match us, hl with | [_], _ => rfl) (fun ds Q h => len_surd_sign h) (fun ds Q h => sem_surd_sign_ ds Q h)
theorem ff_first_there (T : Txt w K mg) : FF P w K mg base Phi 9 st_first_there ["stream", "other", "index"] "first_there" 264 := by
  obtain ⟨f, fd, hg, F⟩ := T.f_first_there
  exact ff_of (lv := 8) F hg sc_first_there rfl rfl (glo ((fa ((ff_check_stream T).g (by decide)) (fa ((ff_meeting_places T).g (by decide)) (fa ((ff_surd_sign T).g (by decide)) (fa ((ff_is_whole T).g (by decide)) (fa ((ff_surd_at T).g (by decide)) (fa ((ff_difference T).g (by decide)) (fa ((ff_fall_of T).g (by decide)) fn0)))))))) (fn0) (fn0) ((fa T.b_len fn0)) (fn0) ((fa T.d_FIRST_WORDS fn0))) c_first_there (fun _ _ _ _ _ _ us hl => match us, hl with | [_, _, _], _ => rfl) (fun ds Q h => len_first_there h) (fun ds Q h => sem_first_there_ ds Q h)
theorem ff_water_at (T : Txt w K mg) : FF P w K mg base Phi 7 st_water_at ["stream", "fraction"] "water_at" 272 := by
  obtain ⟨f, fd, hg, F⟩ := T.f_water_at
  exact ff_of (lv := 6) F hg sc_water_at rfl rfl (glo ((fa ((ff_check_stream T).g (by decide)) (fa ((ff_check_fraction T).g (by decide)) (fa ((ff_stretch_of T).g (by decide)) (fa ((ff_is_within T).g (by decide)) (fa ((ff_value_at T).g (by decide)) (fa ((ff_as_surd T).g (by decide)) (fa ((ff_water_of T).g (by decide)) fn0)))))))) (fn0) (fn0) (fn0) (fn0) (fn0)) c_water_at (fun _ _ _ _ _ _ us hl => match us, hl with | [_, _], _ => rfl) (fun ds Q h => len_water_at h) (fun ds Q h => sem_water_at_ ds Q h)
theorem ff_Lright (T : Txt w K mg) : FF P w K mg base Phi 10 st_Lright ["_law_well_here"] "_law_right" 36 := by
  obtain ⟨f, fd, hg, F⟩ := T.f_Lright
  exact ff_of (lv := 9) F hg sc_Lright rfl rfl (glo ((fa ((ff_Lstream T).g (by decide)) (fa ((ff_Mpick T).g (by decide)) (fa ((ff_Lon_curve T).g (by decide)) (fa ((ff_Lapart T).g (by decide)) (fa ((ff_drops_meet T).g (by decide)) (fa ((ff_Ltimes T).g (by decide)) (fa ((ff_Lfar_x T).g (by decide)) (fa ((ff_Mless T).g (by decide)) (fa ((ff_Lplus T).g (by decide)) (fa ((ff_meetings T).g (by decide)) (fa ((ff_Morder T).g (by decide)) (fa ((ff_first_there T).g (by decide)) (fa ((ff_Msize T).g (by decide)) (fa ((ff_Mdraw T).g (by decide)) (fa ((ff_water_at T).g (by decide)) fn0)))))))))))))))) ((fa ((ff_meetings T).k (by decide) rfl fun _ _ _ _ _ _ us ws h1 h2 => match us, ws, h1, h2 with | [], [_, _], _, _ => rfl) fn0)) (fn0) ((fa T.b_repr fn0)) (fn0) (fn0)) c_Lright (fun _ _ _ _ _ _ us hl => match us, hl with | [_], _ => rfl) (fun ds Q h => len_Lright h) (fun ds Q h => sem_Lright_ ds Q h)
theorem ff_Lwell (T : Txt w K mg) : FF P w K mg base Phi 1 st_Lwell ["_law_script", "_law_turn"] "_law_well" 196 := by
  obtain ⟨f, fd, hg, F⟩ := T.f_Lwell
  exact ff_of (lv := 0) F hg sc_Lwell rfl rfl (glo (fn0) (fn0) (fn0) ((fa T.b_int (fa T.b_abs (fa T.b_len fn0)))) (fn0) (fn0)) c_Lwell (fun _ _ _ _ _ _ us hl => match us, hl with | [_, _], _ => rfl) (fun ds Q h => len_Lwell h) (fun ds Q h => sem_Lwell_ ds Q h)
theorem ff_Lrounds (T : Txt w K mg) : FF P w K mg base Phi 1 st_Lrounds ["_law_script", "_law_least", "_law_most"] "_law_rounds" 235 := by
  obtain ⟨f, fd, hg, F⟩ := T.f_Lrounds
  exact ff_of (lv := 0) F hg sc_Lrounds rfl rfl (glo (fn0) (fn0) (fn0) ((fa T.b_max (fa T.b_min (fa T.b_len fn0)))) (fn0) (fn0)) c_Lrounds (fun _ _ _ _ _ _ us hl => match us, hl with | [_, _, _], _ => rfl) (fun ds Q h => len_Lrounds h) (fun ds Q h => sem_Lrounds_ ds Q h)
theorem ff_Mlaw (T : Txt w K mg) : FF P w K mg base Phi 11 st_Mlaw ["_law_script"] "law" 38 := by
  obtain ⟨f, fd, hg, F⟩ := T.f_Mlaw
  exact ff_of (lv := 10) F hg sc_Mlaw rfl rfl (glo ((fa ((ff_Lright T).g (by decide)) (fa ((ff_Lwell T).g (by decide)) (fa ((ff_Lrounds T).g (by decide)) fn0)))) (fn0) (fn0) ((fa T.b_all (fa T.b_range fn0))) (fn0) (fn0)) c_Mlaw (fun _ _ _ _ _ _ us hl => match us, hl with | [_], _ => rfl) (fun ds Q h => len_Mlaw h) (fun ds Q h => sem_Mlaw_ ds Q h)
end
theorem all_mk {P : Program} {w : World} {K : Fg} {h : Heap} {mg : Str → Option Value} {fa : Addr} (X : K.In h) (G : h.Ns mainGlobals mg) (hfa : mg "law" = some (.ref fa))
  {f0 f1 f2 f3 f4 f5 f6 f7 f8 f9 f10 f11 f12 f13 f14 f15 f16 f17 f18 f19 f20 f21 f22 f23 f24 f25 f26 f27 f28 f29 f30 f31 f32 f33 f34 f35 f36 f37 f38 f39 f40 f41 f42 f43 f44 f45 f46 f47 f48 f49 f50 f51 f52 f53 f54 f55 f56 f57 f58 f59 f60 f61 f62 f63 f64 : Addr} {od0 an0 od1 an1 od2 an2 od3 an3 od4 an4 od5 an5 od6 an6 od7 an7 od8 an8 od9 an9 od10 an10 od11 an11 od12 an12 od13 an13 od14 an14 od15 an15 od16 an16 od17 an17 od18 an18 od19 an19 od20 an20 od21 an21 od22 an22 od23 an23 od24 an24 od25 an25 od26 an26 od27 an27 od28 an28 od29 an29 od30 an30 od31 an31 od32 an32 od33 an33 od34 an34 od35 an35 od36 an36 od37 an37 od38 an38 od39 an39 od40 an40 od41 an41 od42 an42 od43 an43 od44 an44 od45 an45 od46 an46 od47 an47 od48 an48 od49 an49 od50 an50 od51 an51 od52 an52 od53 an53 od54 an54 od55 an55 od56 an56 od57 an57 od58 an58 od59 an59 od60 an60 od61 an61 od62 an62 od63 an63 od64 an64 : Option Addr} {sl0 sl1 sl2 sl3 sl4 sl5 sl6 sl7 sl8 sl9 sl10 sl11 sl12 sl13 sl14 sl15 sl16 sl17 sl18 sl19 sl20 sl21 sl22 sl23 sl24 sl25 sl26 sl27 sl28 sl29 sl30 sl31 sl32 sl33 sl34 sl35 sl36 sl37 sl38 sl39 sl40 sl41 sl42 sl43 sl44 sl45 sl46 sl47 sl48 sl49 sl50 sl51 sl52 sl53 sl54 sl55 sl56 sl57 sl58 sl59 sl60 sl61 sl62 sl63 sl64 : Array (Option Value)} {oc0 kV0 dc0 pm0 cd0 ct0 oc1 kV1 dc1 pm1 cd1 ct1 oc2 kV2 dc2 pm2 cd2 ct2 oc3 kV3 dc3 pm3 cd3 ct3 oc4 kV4 dc4 pm4 cd4 ct4 oc5 kV5 dc5 pm5 cd5 ct5 oc6 kV6 dc6 pm6 cd6 ct6 oc7 kV7 dc7 pm7 cd7 ct7 oc8 kV8 dc8 pm8 cd8 ct8 oc9 kV9 dc9 pm9 cd9 ct9 oc10 kV10 dc10 pm10 cd10 ct10 oc11 kV11 dc11 pm11 cd11 ct11 oc12 kV12 dc12 pm12 cd12 ct12 oc13 kV13 dc13 pm13 cd13 ct13 oc14 kV14 dc14 pm14 cd14 ct14 oc15 kV15 dc15 pm15 cd15 ct15 oc16 kV16 dc16 pm16 cd16 ct16 oc17 kV17 dc17 pm17 cd17 ct17 oc18 kV18 dc18 pm18 cd18 ct18 oc19 kV19 dc19 pm19 cd19 ct19 oc20 kV20 dc20 pm20 cd20 ct20 oc21 kV21 dc21 pm21 cd21 ct21 oc22 kV22 dc22 pm22 cd22 ct22 oc23 kV23 dc23 pm23 cd23 ct23 oc24 kV24 dc24 pm24 cd24 ct24 oc25 kV25 dc25 pm25 cd25 ct25 oc26 kV26 dc26 pm26 cd26 ct26 oc27 kV27 dc27 pm27 cd27 ct27 oc28 kV28 dc28 pm28 cd28 ct28 oc29 kV29 dc29 pm29 cd29 ct29 oc30 kV30 dc30 pm30 cd30 ct30 oc31 kV31 dc31 pm31 cd31 ct31 oc32 kV32 dc32 pm32 cd32 ct32 oc33 kV33 dc33 pm33 cd33 ct33 oc34 kV34 dc34 pm34 cd34 ct34 oc35 kV35 dc35 pm35 cd35 ct35 oc36 kV36 dc36 pm36 cd36 ct36 oc37 kV37 dc37 pm37 cd37 ct37 oc38 kV38 dc38 pm38 cd38 ct38 oc39 kV39 dc39 pm39 cd39 ct39 oc40 kV40 dc40 pm40 cd40 ct40 oc41 kV41 dc41 pm41 cd41 ct41 oc42 kV42 dc42 pm42 cd42 ct42 oc43 kV43 dc43 pm43 cd43 ct43 oc44 kV44 dc44 pm44 cd44 ct44 oc45 kV45 dc45 pm45 cd45 ct45 oc46 kV46 dc46 pm46 cd46 ct46 oc47 kV47 dc47 pm47 cd47 ct47 oc48 kV48 dc48 pm48 cd48 ct48 oc49 kV49 dc49 pm49 cd49 ct49 oc50 kV50 dc50 pm50 cd50 ct50 oc51 kV51 dc51 pm51 cd51 ct51 oc52 kV52 dc52 pm52 cd52 ct52 oc53 kV53 dc53 pm53 cd53 ct53 oc54 kV54 dc54 pm54 cd54 ct54 oc55 kV55 dc55 pm55 cd55 ct55 oc56 kV56 dc56 pm56 cd56 ct56 oc57 kV57 dc57 pm57 cd57 ct57 oc58 kV58 dc58 pm58 cd58 ct58 oc59 kV59 dc59 pm59 cd59 ct59 oc60 kV60 dc60 pm60 cd60 ct60 oc61 kV61 dc61 pm61 cd61 ct61 oc62 kV62 dc62 pm62 cd62 ct62 oc63 kV63 dc63 pm63 cd63 ct63 oc64 kV64 dc64 pm64 cd64 ct64 : Value} {gA1 : Addr} {gD1 : Option Addr} {gN1 : Nat} {gS1 : Array (Option Value)} {tk2 : Tok} {tk3 : Tok} {gA4 : Addr} {gD4 : Option Addr} {gN4 : Nat} {gS4 : Array (Option Value)} {tk5 : Tok} {tk6 : Tok} {gA7 : Addr} {gD7 : Option Addr} {gN7 : Nat} {gS7 : Array (Option Value)} {tk8 : Tok} {tk9 : Tok} {gA10 : Addr} {gD10 : Option Addr} {gN10 : Nat} {gS10 : Array (Option Value)} {tk11 : Tok} {tk12 : Tok} {gA13 : Addr} {gD13 : Option Addr} {gN13 : Nat} {gS13 : Array (Option Value)} {gA14 : Addr} {gD14 : Option Addr} {gN14 : Nat} {gS14 : Array (Option Value)} {gA15 : Addr} {gN15 : Nat} {tk16 : Tok} {gH16 : Int} {tk17 : Tok} {tk18 : Tok} {gH18 : Int} {tk19 : Tok} {tk20 : Tok} {gH20 : Int} {tk21 : Tok}
  (a0 : PySem.W.nsIn K mainGlobals "_law_common" = some (some (.ref f0))) (l0 : K.lookup f0 = some ⟨oc0, od0, .func (PySem.W.fnOf "_law_common" "_law_common" (defArgs st_Lcommon) (defBody st_Lcommon) (defScope st_Lcommon) .none kV0 dc0 pm0 an0 cd0 ct0), sl0⟩) (c0 : PySem.W.codeIn K cd0 "_law_common" = true) (k0 : PySem.W.keepIn K (.ref f0) = true)
  (a1 : PySem.W.nsIn K mainGlobals "_law_lean" = some (some (.ref f1))) (l1 : K.lookup f1 = some ⟨oc1, od1, .func (PySem.W.fnOf "_law_lean" "_law_lean" (defArgs st_Llean) (defBody st_Llean) (defScope st_Llean) .none kV1 dc1 pm1 an1 cd1 ct1), sl1⟩) (c1 : PySem.W.codeIn K cd1 "_law_lean" = true) (k1 : PySem.W.keepIn K (.ref f1) = true)
  (a2 : PySem.W.nsIn K mainGlobals "_law_point" = some (some (.ref f2))) (l2 : K.lookup f2 = some ⟨oc2, od2, .func (PySem.W.fnOf "_law_point" "_law_point" (defArgs st_Lpoint) (defBody st_Lpoint) (defScope st_Lpoint) .none kV2 dc2 pm2 an2 cd2 ct2), sl2⟩) (c2 : PySem.W.codeIn K cd2 "_law_point" = true) (k2 : PySem.W.keepIn K (.ref f2) = true)
  (a3 : PySem.W.nsIn K mainGlobals "_law_draw" = some (some (.ref f3))) (l3 : K.lookup f3 = some ⟨oc3, od3, .func (PySem.W.fnOf "_law_draw" "_law_draw" (defArgs st_Mdraw) (defBody st_Mdraw) (defScope st_Mdraw) .none kV3 dc3 pm3 an3 cd3 ct3), sl3⟩) (c3 : PySem.W.codeIn K cd3 "_law_draw" = true) (k3 : PySem.W.keepIn K (.ref f3) = true)
  (a4 : PySem.W.nsIn K mainGlobals "_law_pick" = some (some (.ref f4))) (l4 : K.lookup f4 = some ⟨oc4, od4, .func (PySem.W.fnOf "_law_pick" "_law_pick" (defArgs st_Mpick) (defBody st_Mpick) (defScope st_Mpick) .none kV4 dc4 pm4 an4 cd4 ct4), sl4⟩) (c4 : PySem.W.codeIn K cd4 "_law_pick" = true) (k4 : PySem.W.keepIn K (.ref f4) = true)
  (a5 : PySem.W.nsIn K mainGlobals "_law_ratio" = some (some (.ref f5))) (l5 : K.lookup f5 = some ⟨oc5, od5, .func (PySem.W.fnOf "_law_ratio" "_law_ratio" (defArgs st_Lratio) (defBody st_Lratio) (defScope st_Lratio) .none kV5 dc5 pm5 an5 cd5 ct5), sl5⟩) (c5 : PySem.W.codeIn K cd5 "_law_ratio" = true) (k5 : PySem.W.keepIn K (.ref f5) = true)
  (a6 : PySem.W.nsIn K mainGlobals "_law_size" = some (some (.ref f6))) (l6 : K.lookup f6 = some ⟨oc6, od6, .func (PySem.W.fnOf "_law_size" "_law_size" (defArgs st_Msize) (defBody st_Msize) (defScope st_Msize) .none kV6 dc6 pm6 an6 cd6 ct6), sl6⟩) (c6 : PySem.W.codeIn K cd6 "_law_size" = true) (k6 : PySem.W.keepIn K (.ref f6) = true)
  (a7 : PySem.W.nsIn K mainGlobals "_law_part" = some (some (.ref f7))) (l7 : K.lookup f7 = some ⟨oc7, od7, .func (PySem.W.fnOf "_law_part" "_law_part" (defArgs st_Lpart) (defBody st_Lpart) (defScope st_Lpart) .none kV7 dc7 pm7 an7 cd7 ct7), sl7⟩) (c7 : PySem.W.codeIn K cd7 "_law_part" = true) (k7 : PySem.W.keepIn K (.ref f7) = true)
  (a8 : PySem.W.nsIn K mainGlobals "_law_jet" = some (some (.ref f8))) (l8 : K.lookup f8 = some ⟨oc8, od8, .func (PySem.W.fnOf "_law_jet" "_law_jet" (defArgs st_Mjet) (defBody st_Mjet) (defScope st_Mjet) .none kV8 dc8 pm8 an8 cd8 ct8), sl8⟩) (c8 : PySem.W.codeIn K cd8 "_law_jet" = true) (k8 : PySem.W.keepIn K (.ref f8) = true)
  (a9 : PySem.W.nsIn K mainGlobals "_law_stream" = some (some (.ref f9))) (l9 : K.lookup f9 = some ⟨oc9, od9, .func (PySem.W.fnOf "_law_stream" "_law_stream" (defArgs st_Lstream) (defBody st_Lstream) (defScope st_Lstream) .none kV9 dc9 pm9 an9 cd9 ct9), sl9⟩) (c9 : PySem.W.codeIn K cd9 "_law_stream" = true) (k9 : PySem.W.keepIn K (.ref f9) = true)
  (a10 : PySem.W.nsIn K mainGlobals "_law_apart" = some (some (.ref f10))) (l10 : K.lookup f10 = some ⟨oc10, od10, .func (PySem.W.fnOf "_law_apart" "_law_apart" (defArgs st_Lapart) (defBody st_Lapart) (defScope st_Lapart) .none kV10 dc10 pm10 an10 cd10 ct10), sl10⟩) (c10 : PySem.W.codeIn K cd10 "_law_apart" = true) (k10 : PySem.W.keepIn K (.ref f10) = true)
  (a11 : PySem.W.nsIn K mainGlobals "_law_plus" = some (some (.ref f11))) (l11 : K.lookup f11 = some ⟨oc11, od11, .func (PySem.W.fnOf "_law_plus" "_law_plus" (defArgs st_Lplus) (defBody st_Lplus) (defScope st_Lplus) .none kV11 dc11 pm11 an11 cd11 ct11), sl11⟩) (c11 : PySem.W.codeIn K cd11 "_law_plus" = true) (k11 : PySem.W.keepIn K (.ref f11) = true)
  (a12 : PySem.W.nsIn K mainGlobals "_law_less" = some (some (.ref f12))) (l12 : K.lookup f12 = some ⟨oc12, od12, .func (PySem.W.fnOf "_law_less" "_law_less" (defArgs st_Mless) (defBody st_Mless) (defScope st_Mless) .none kV12 dc12 pm12 an12 cd12 ct12), sl12⟩) (c12 : PySem.W.codeIn K cd12 "_law_less" = true) (k12 : PySem.W.keepIn K (.ref f12) = true)
  (a13 : PySem.W.nsIn K mainGlobals "_law_times" = some (some (.ref f13))) (l13 : K.lookup f13 = some ⟨oc13, od13, .func (PySem.W.fnOf "_law_times" "_law_times" (defArgs st_Ltimes) (defBody st_Ltimes) (defScope st_Ltimes) .none kV13 dc13 pm13 an13 cd13 ct13), sl13⟩) (c13 : PySem.W.codeIn K cd13 "_law_times" = true) (k13 : PySem.W.keepIn K (.ref f13) = true)
  (a14 : PySem.W.nsIn K mainGlobals "_law_curve" = some (some (.ref f14))) (l14 : K.lookup f14 = some ⟨oc14, od14, .func (PySem.W.fnOf "_law_curve" "_law_curve" (defArgs st_Lcurve) (defBody st_Lcurve) (defScope st_Lcurve) .none kV14 dc14 pm14 an14 cd14 ct14), sl14⟩) (c14 : PySem.W.codeIn K cd14 "_law_curve" = true) (k14 : PySem.W.keepIn K (.ref f14) = true)
  (a15 : PySem.W.nsIn K mainGlobals "_law_on_curve" = some (some (.ref f15))) (l15 : K.lookup f15 = some ⟨oc15, od15, .func (PySem.W.fnOf "_law_on_curve" "_law_on_curve" (defArgs st_Lon_curve) (defBody st_Lon_curve) (defScope st_Lon_curve) .none kV15 dc15 pm15 an15 cd15 ct15), sl15⟩) (c15 : PySem.W.codeIn K cd15 "_law_on_curve" = true) (k15 : PySem.W.keepIn K (.ref f15) = true)
  (a16 : PySem.W.nsIn K mainGlobals "is_whole" = some (some (.ref f16))) (l16 : K.lookup f16 = some ⟨oc16, od16, .func (PySem.W.fnOf "is_whole" "is_whole" (defArgs st_is_whole) (defBody st_is_whole) (defScope st_is_whole) .none kV16 dc16 pm16 an16 cd16 ct16), sl16⟩) (c16 : PySem.W.codeIn K cd16 "is_whole" = true) (k16 : PySem.W.keepIn K (.ref f16) = true)
  (a17 : PySem.W.nsIn K mainGlobals "is_point" = some (some (.ref f17))) (l17 : K.lookup f17 = some ⟨oc17, od17, .func (PySem.W.fnOf "is_point" "is_point" (defArgs st_is_point) (defBody st_is_point) (defScope st_is_point) .none kV17 dc17 pm17 an17 cd17 ct17), sl17⟩) (c17 : PySem.W.codeIn K cd17 "is_point" = true) (k17 : PySem.W.keepIn K (.ref f17) = true)
  (a18 : PySem.W.nsIn K mainGlobals "is_fraction" = some (some (.ref f18))) (l18 : K.lookup f18 = some ⟨oc18, od18, .func (PySem.W.fnOf "is_fraction" "is_fraction" (defArgs st_is_fraction) (defBody st_is_fraction) (defScope st_is_fraction) .none kV18 dc18 pm18 an18 cd18 ct18), sl18⟩) (c18 : PySem.W.codeIn K cd18 "is_fraction" = true) (k18 : PySem.W.keepIn K (.ref f18) = true)
  (a19 : PySem.W.nsIn K mainGlobals "is_jet" = some (some (.ref f19))) (l19 : K.lookup f19 = some ⟨oc19, od19, .func (PySem.W.fnOf "is_jet" "is_jet" (defArgs st_is_jet) (defBody st_is_jet) (defScope st_is_jet) .none kV19 dc19 pm19 an19 cd19 ct19), sl19⟩) (c19 : PySem.W.codeIn K cd19 "is_jet" = true) (k19 : PySem.W.keepIn K (.ref f19) = true)
  (a20 : PySem.W.nsIn K mainGlobals "is_stream" = some (some (.ref f20))) (l20 : K.lookup f20 = some ⟨oc20, od20, .func (PySem.W.fnOf "is_stream" "is_stream" (defArgs st_is_stream) (defBody st_is_stream) (defScope st_is_stream) .none kV20 dc20 pm20 an20 cd20 ct20), sl20⟩) (c20 : PySem.W.codeIn K cd20 "is_stream" = true) (k20 : PySem.W.keepIn K (.ref f20) = true)
  (a21 : PySem.W.nsIn K mainGlobals "check_stream" = some (some (.ref f21))) (l21 : K.lookup f21 = some ⟨oc21, od21, .func (PySem.W.fnOf "check_stream" "check_stream" (defArgs st_check_stream) (defBody st_check_stream) (defScope st_check_stream) .none kV21 dc21 pm21 an21 cd21 ct21), sl21⟩) (c21 : PySem.W.codeIn K cd21 "check_stream" = true) (k21 : PySem.W.keepIn K (.ref f21) = true)
  (a22 : PySem.W.nsIn K mainGlobals "reduced" = some (some (.ref f22))) (l22 : K.lookup f22 = some ⟨oc22, od22, .func (PySem.W.fnOf "reduced" "reduced" (defArgs st_reduced) (defBody st_reduced) (defScope st_reduced) .none kV22 dc22 pm22 an22 cd22 ct22), sl22⟩) (c22 : PySem.W.codeIn K cd22 "reduced" = true) (k22 : PySem.W.keepIn K (.ref f22) = true)
  (a23 : PySem.W.nsIn K mainGlobals "quotient" = some (some (.ref f23))) (l23 : K.lookup f23 = some ⟨oc23, od23, .func (PySem.W.fnOf "quotient" "quotient" (defArgs st_quotient) (defBody st_quotient) (defScope st_quotient) .none kV23 dc23 pm23 an23 cd23 ct23), sl23⟩) (c23 : PySem.W.codeIn K cd23 "quotient" = true) (k23 : PySem.W.keepIn K (.ref f23) = true)
  (a24 : PySem.W.nsIn K mainGlobals "sign" = some (some (.ref f24))) (l24 : K.lookup f24 = some ⟨oc24, od24, .func (PySem.W.fnOf "sign" "sign" (defArgs st_sign) (defBody st_sign) (defScope st_sign) .none kV24 dc24 pm24 an24 cd24 ct24), sl24⟩) (c24 : PySem.W.codeIn K cd24 "sign" = true) (k24 : PySem.W.keepIn K (.ref f24) = true)
  (a25 : PySem.W.nsIn K mainGlobals "times" = some (some (.ref f25))) (l25 : K.lookup f25 = some ⟨oc25, od25, .func (PySem.W.fnOf "times" "times" (defArgs st_times) (defBody st_times) (defScope st_times) .none kV25 dc25 pm25 an25 cd25 ct25), sl25⟩) (c25 : PySem.W.codeIn K cd25 "times" = true) (k25 : PySem.W.keepIn K (.ref f25) = true)
  (a26 : PySem.W.nsIn K mainGlobals "minus" = some (some (.ref f26))) (l26 : K.lookup f26 = some ⟨oc26, od26, .func (PySem.W.fnOf "minus" "minus" (defArgs st_minus) (defBody st_minus) (defScope st_minus) .none kV26 dc26 pm26 an26 cd26 ct26), sl26⟩) (c26 : PySem.W.codeIn K cd26 "minus" = true) (k26 : PySem.W.keepIn K (.ref f26) = true)
  (a27 : PySem.W.nsIn K mainGlobals "sign_with_root" = some (some (.ref f27))) (l27 : K.lookup f27 = some ⟨oc27, od27, .func (PySem.W.fnOf "sign_with_root" "sign_with_root" (defArgs st_sign_with_root) (defBody st_sign_with_root) (defScope st_sign_with_root) .none kV27 dc27 pm27 an27 cd27 ct27), sl27⟩) (c27 : PySem.W.codeIn K cd27 "sign_with_root" = true) (k27 : PySem.W.keepIn K (.ref f27) = true)
  (a28 : PySem.W.nsIn K mainGlobals "spout_of" = some (some (.ref f28))) (l28 : K.lookup f28 = some ⟨oc28, od28, .func (PySem.W.fnOf "spout_of" "spout_of" (defArgs st_spout_of) (defBody st_spout_of) (defScope st_spout_of) .none kV28 dc28 pm28 an28 cd28 ct28), sl28⟩) (c28 : PySem.W.codeIn K cd28 "spout_of" = true) (k28 : PySem.W.keepIn K (.ref f28) = true)
  (a29 : PySem.W.nsIn K mainGlobals "negative" = some (some (.ref f29))) (l29 : K.lookup f29 = some ⟨oc29, od29, .func (PySem.W.fnOf "negative" "negative" (defArgs st_negative) (defBody st_negative) (defScope st_negative) .none kV29 dc29 pm29 an29 cd29 ct29), sl29⟩) (c29 : PySem.W.codeIn K cd29 "negative" = true) (k29 : PySem.W.keepIn K (.ref f29) = true)
  (a30 : PySem.W.nsIn K mainGlobals "drops_meet" = some (some (.ref f30))) (l30 : K.lookup f30 = some ⟨oc30, od30, .func (PySem.W.fnOf "drops_meet" "drops_meet" (defArgs st_drops_meet) (defBody st_drops_meet) (defScope st_drops_meet) .none kV30 dc30 pm30 an30 cd30 ct30), sl30⟩) (c30 : PySem.W.codeIn K cd30 "drops_meet" = true) (k30 : PySem.W.keepIn K (.ref f30) = true)
  (a31 : PySem.W.nsIn K mainGlobals "_law_far_x" = some (some (.ref f31))) (l31 : K.lookup f31 = some ⟨oc31, od31, .func (PySem.W.fnOf "_law_far_x" "_law_far_x" (defArgs st_Lfar_x) (defBody st_Lfar_x) (defScope st_Lfar_x) .none kV31 dc31 pm31 an31 cd31 ct31), sl31⟩) (c31 : PySem.W.codeIn K cd31 "_law_far_x" = true) (k31 : PySem.W.keepIn K (.ref f31) = true)
  (a32 : PySem.W.nsIn K mainGlobals "square_root" = some (some (.ref f32))) (l32 : K.lookup f32 = some ⟨oc32, od32, .func (PySem.W.fnOf "square_root" "square_root" (defArgs st_square_root) (defBody st_square_root) (defScope st_square_root) .none kV32 dc32 pm32 an32 cd32 ct32), sl32⟩) (c32 : PySem.W.codeIn K cd32 "square_root" = true) (k32 : PySem.W.keepIn K (.ref f32) = true)
  (a33 : PySem.W.nsIn K mainGlobals "is_surd" = some (some (.ref f33))) (l33 : K.lookup f33 = some ⟨oc33, od33, .func (PySem.W.fnOf "is_surd" "is_surd" (defArgs st_is_surd) (defBody st_is_surd) (defScope st_is_surd) .none kV33 dc33 pm33 an33 cd33 ct33), sl33⟩) (c33 : PySem.W.codeIn K cd33 "is_surd" = true) (k33 : PySem.W.keepIn K (.ref f33) = true)
  (a34 : PySem.W.nsIn K mainGlobals "check_surd" = some (some (.ref f34))) (l34 : K.lookup f34 = some ⟨oc34, od34, .func (PySem.W.fnOf "check_surd" "check_surd" (defArgs st_check_surd) (defBody st_check_surd) (defScope st_check_surd) .none kV34 dc34 pm34 an34 cd34 ct34), sl34⟩) (c34 : PySem.W.codeIn K cd34 "check_surd" = true) (k34 : PySem.W.keepIn K (.ref f34) = true)
  (a35 : PySem.W.nsIn K mainGlobals "plus" = some (some (.ref f35))) (l35 : K.lookup f35 = some ⟨oc35, od35, .func (PySem.W.fnOf "plus" "plus" (defArgs st_plus) (defBody st_plus) (defScope st_plus) .none kV35 dc35 pm35 an35 cd35 ct35), sl35⟩) (c35 : PySem.W.codeIn K cd35 "plus" = true) (k35 : PySem.W.keepIn K (.ref f35) = true)
  (a36 : PySem.W.nsIn K mainGlobals "compare" = some (some (.ref f36))) (l36 : K.lookup f36 = some ⟨oc36, od36, .func (PySem.W.fnOf "compare" "compare" (defArgs st_compare) (defBody st_compare) (defScope st_compare) .none kV36 dc36 pm36 an36 cd36 ct36), sl36⟩) (c36 : PySem.W.codeIn K cd36 "compare" = true) (k36 : PySem.W.keepIn K (.ref f36) = true)
  (a37 : PySem.W.nsIn K mainGlobals "later_begin" = some (some (.ref f37))) (l37 : K.lookup f37 = some ⟨oc37, od37, .func (PySem.W.fnOf "later_begin" "later_begin" (defArgs st_later_begin) (defBody st_later_begin) (defScope st_later_begin) .none kV37 dc37 pm37 an37 cd37 ct37), sl37⟩) (c37 : PySem.W.codeIn K cd37 "later_begin" = true) (k37 : PySem.W.keepIn K (.ref f37) = true)
  (a38 : PySem.W.nsIn K mainGlobals "earlier_end" = some (some (.ref f38))) (l38 : K.lookup f38 = some ⟨oc38, od38, .func (PySem.W.fnOf "earlier_end" "earlier_end" (defArgs st_earlier_end) (defBody st_earlier_end) (defScope st_earlier_end) .none kV38 dc38 pm38 an38 cd38 ct38), sl38⟩) (c38 : PySem.W.codeIn K cd38 "earlier_end" = true) (k38 : PySem.W.keepIn K (.ref f38) = true)
  (a39 : PySem.W.nsIn K mainGlobals "order_of" = some (some (.ref f39))) (l39 : K.lookup f39 = some ⟨oc39, od39, .func (PySem.W.fnOf "order_of" "order_of" (defArgs st_order_of) (defBody st_order_of) (defScope st_order_of) .none kV39 dc39 pm39 an39 cd39 ct39), sl39⟩) (c39 : PySem.W.codeIn K cd39 "order_of" = true) (k39 : PySem.W.keepIn K (.ref f39) = true)
  (a40 : PySem.W.nsIn K mainGlobals "common" = some (some (.ref f40))) (l40 : K.lookup f40 = some ⟨oc40, od40, .func (PySem.W.fnOf "common" "common" (defArgs st_common) (defBody st_common) (defScope st_common) .none kV40 dc40 pm40 an40 cd40 ct40), sl40⟩) (c40 : PySem.W.codeIn K cd40 "common" = true) (k40 : PySem.W.keepIn K (.ref f40) = true)
  (a41 : PySem.W.nsIn K mainGlobals "difference" = some (some (.ref f41))) (l41 : K.lookup f41 = some ⟨oc41, od41, .func (PySem.W.fnOf "difference" "difference" (defArgs st_difference) (defBody st_difference) (defScope st_difference) .none kV41 dc41 pm41 an41 cd41 ct41), sl41⟩) (c41 : PySem.W.codeIn K cd41 "difference" = true) (k41 : PySem.W.keepIn K (.ref f41) = true)
  (a42 : PySem.W.nsIn K mainGlobals "fall_of" = some (some (.ref f42))) (l42 : K.lookup f42 = some ⟨oc42, od42, .func (PySem.W.fnOf "fall_of" "fall_of" (defArgs st_fall_of) (defBody st_fall_of) (defScope st_fall_of) .none kV42 dc42 pm42 an42 cd42 ct42), sl42⟩) (c42 : PySem.W.codeIn K cd42 "fall_of" = true) (k42 : PySem.W.keepIn K (.ref f42) = true)
  (a43 : PySem.W.nsIn K mainGlobals "water_of" = some (some (.ref f43))) (l43 : K.lookup f43 = some ⟨oc43, od43, .func (PySem.W.fnOf "water_of" "water_of" (defArgs st_water_of) (defBody st_water_of) (defScope st_water_of) .none kV43 dc43 pm43 an43 cd43 ct43), sl43⟩) (c43 : PySem.W.codeIn K cd43 "water_of" = true) (k43 : PySem.W.keepIn K (.ref f43) = true)
  (a44 : PySem.W.nsIn K mainGlobals "as_surd" = some (some (.ref f44))) (l44 : K.lookup f44 = some ⟨oc44, od44, .func (PySem.W.fnOf "as_surd" "as_surd" (defArgs st_as_surd) (defBody st_as_surd) (defScope st_as_surd) .none kV44 dc44 pm44 an44 cd44 ct44), sl44⟩) (c44 : PySem.W.codeIn K cd44 "as_surd" = true) (k44 : PySem.W.keepIn K (.ref f44) = true)
  (a45 : PySem.W.nsIn K mainGlobals "stretch_of" = some (some (.ref f45))) (l45 : K.lookup f45 = some ⟨oc45, od45, .func (PySem.W.fnOf "stretch_of" "stretch_of" (defArgs st_stretch_of) (defBody st_stretch_of) (defScope st_stretch_of) .none kV45 dc45 pm45 an45 cd45 ct45), sl45⟩) (c45 : PySem.W.codeIn K cd45 "stretch_of" = true) (k45 : PySem.W.keepIn K (.ref f45) = true)
  (a46 : PySem.W.nsIn K mainGlobals "check_fraction" = some (some (.ref f46))) (l46 : K.lookup f46 = some ⟨oc46, od46, .func (PySem.W.fnOf "check_fraction" "check_fraction" (defArgs st_check_fraction) (defBody st_check_fraction) (defScope st_check_fraction) .none kV46 dc46 pm46 an46 cd46 ct46), sl46⟩) (c46 : PySem.W.codeIn K cd46 "check_fraction" = true) (k46 : PySem.W.keepIn K (.ref f46) = true)
  (a47 : PySem.W.nsIn K mainGlobals "surd_of" = some (some (.ref f47))) (l47 : K.lookup f47 = some ⟨oc47, od47, .func (PySem.W.fnOf "surd_of" "surd_of" (defArgs st_surd_of) (defBody st_surd_of) (defScope st_surd_of) .none kV47 dc47 pm47 an47 cd47 ct47), sl47⟩) (c47 : PySem.W.codeIn K cd47 "surd_of" = true) (k47 : PySem.W.keepIn K (.ref f47) = true)
  (a48 : PySem.W.nsIn K mainGlobals "zeros" = some (some (.ref f48))) (l48 : K.lookup f48 = some ⟨oc48, od48, .func (PySem.W.fnOf "zeros" "zeros" (defArgs st_zeros) (defBody st_zeros) (defScope st_zeros) .none kV48 dc48 pm48 an48 cd48 ct48), sl48⟩) (c48 : PySem.W.codeIn K cd48 "zeros" = true) (k48 : PySem.W.keepIn K (.ref f48) = true)
  (a49 : PySem.W.nsIn K mainGlobals "is_within" = some (some (.ref f49))) (l49 : K.lookup f49 = some ⟨oc49, od49, .func (PySem.W.fnOf "is_within" "is_within" (defArgs st_is_within) (defBody st_is_within) (defScope st_is_within) .none kV49 dc49 pm49 an49 cd49 ct49), sl49⟩) (c49 : PySem.W.codeIn K cd49 "is_within" = true) (k49 : PySem.W.keepIn K (.ref f49) = true)
  (a50 : PySem.W.nsIn K mainGlobals "meeting_places" = some (some (.ref f50))) (l50 : K.lookup f50 = some ⟨oc50, od50, .func (PySem.W.fnOf "meeting_places" "meeting_places" (defArgs st_meeting_places) (defBody st_meeting_places) (defScope st_meeting_places) .none kV50 dc50 pm50 an50 cd50 ct50), sl50⟩) (c50 : PySem.W.codeIn K cd50 "meeting_places" = true) (k50 : PySem.W.keepIn K (.ref f50) = true)
  (a51 : PySem.W.nsIn K mainGlobals "value_at" = some (some (.ref f51))) (l51 : K.lookup f51 = some ⟨oc51, od51, .func (PySem.W.fnOf "value_at" "value_at" (defArgs st_value_at) (defBody st_value_at) (defScope st_value_at) .none kV51 dc51 pm51 an51 cd51 ct51), sl51⟩) (c51 : PySem.W.codeIn K cd51 "value_at" = true) (k51 : PySem.W.keepIn K (.ref f51) = true)
  (a52 : PySem.W.nsIn K mainGlobals "growth_at" = some (some (.ref f52))) (l52 : K.lookup f52 = some ⟨oc52, od52, .func (PySem.W.fnOf "growth_at" "growth_at" (defArgs st_growth_at) (defBody st_growth_at) (defScope st_growth_at) .none kV52 dc52 pm52 an52 cd52 ct52), sl52⟩) (c52 : PySem.W.codeIn K cd52 "growth_at" = true) (k52 : PySem.W.keepIn K (.ref f52) = true)
  (a53 : PySem.W.nsIn K mainGlobals "halves_at" = some (some (.ref f53))) (l53 : K.lookup f53 = some ⟨oc53, od53, .func (PySem.W.fnOf "halves_at" "halves_at" (defArgs st_halves_at) (defBody st_halves_at) (defScope st_halves_at) .none kV53 dc53 pm53 an53 cd53 ct53), sl53⟩) (c53 : PySem.W.codeIn K cd53 "halves_at" = true) (k53 : PySem.W.keepIn K (.ref f53) = true)
  (a54 : PySem.W.nsIn K mainGlobals "surd_at" = some (some (.ref f54))) (l54 : K.lookup f54 = some ⟨oc54, od54, .func (PySem.W.fnOf "surd_at" "surd_at" (defArgs st_surd_at) (defBody st_surd_at) (defScope st_surd_at) .none kV54 dc54 pm54 an54 cd54 ct54), sl54⟩) (c54 : PySem.W.codeIn K cd54 "surd_at" = true) (k54 : PySem.W.keepIn K (.ref f54) = true)
  (a55 : PySem.W.nsIn K mainGlobals "meetings" = some (some (.ref f55))) (l55 : K.lookup f55 = some ⟨oc55, od55, .func (PySem.W.fnOf "meetings" "meetings" (defArgs st_meetings) (defBody st_meetings) (defScope st_meetings) .none kV55 dc55 pm55 an55 cd55 ct55), sl55⟩) (c55 : PySem.W.codeIn K cd55 "meetings" = true) (k55 : PySem.W.keepIn K (.ref f55) = true)
  (a56 : PySem.W.nsIn K mainGlobals "_law_sign" = some (some (.ref f56))) (l56 : K.lookup f56 = some ⟨oc56, od56, .func (PySem.W.fnOf "_law_sign" "_law_sign" (defArgs st_Lsign) (defBody st_Lsign) (defScope st_Lsign) .none kV56 dc56 pm56 an56 cd56 ct56), sl56⟩) (c56 : PySem.W.codeIn K cd56 "_law_sign" = true) (k56 : PySem.W.keepIn K (.ref f56) = true)
  (a57 : PySem.W.nsIn K mainGlobals "_law_order" = some (some (.ref f57))) (l57 : K.lookup f57 = some ⟨oc57, od57, .func (PySem.W.fnOf "_law_order" "_law_order" (defArgs st_Morder) (defBody st_Morder) (defScope st_Morder) .none kV57 dc57 pm57 an57 cd57 ct57), sl57⟩) (c57 : PySem.W.codeIn K cd57 "_law_order" = true) (k57 : PySem.W.keepIn K (.ref f57) = true)
  (a58 : PySem.W.nsIn K mainGlobals "surd_sign" = some (some (.ref f58))) (l58 : K.lookup f58 = some ⟨oc58, od58, .func (PySem.W.fnOf "surd_sign" "surd_sign" (defArgs st_surd_sign) (defBody st_surd_sign) (defScope st_surd_sign) .none kV58 dc58 pm58 an58 cd58 ct58), sl58⟩) (c58 : PySem.W.codeIn K cd58 "surd_sign" = true) (k58 : PySem.W.keepIn K (.ref f58) = true)
  (a59 : PySem.W.nsIn K mainGlobals "first_there" = some (some (.ref f59))) (l59 : K.lookup f59 = some ⟨oc59, od59, .func (PySem.W.fnOf "first_there" "first_there" (defArgs st_first_there) (defBody st_first_there) (defScope st_first_there) .none kV59 dc59 pm59 an59 cd59 ct59), sl59⟩) (c59 : PySem.W.codeIn K cd59 "first_there" = true) (k59 : PySem.W.keepIn K (.ref f59) = true)
  (a60 : PySem.W.nsIn K mainGlobals "water_at" = some (some (.ref f60))) (l60 : K.lookup f60 = some ⟨oc60, od60, .func (PySem.W.fnOf "water_at" "water_at" (defArgs st_water_at) (defBody st_water_at) (defScope st_water_at) .none kV60 dc60 pm60 an60 cd60 ct60), sl60⟩) (c60 : PySem.W.codeIn K cd60 "water_at" = true) (k60 : PySem.W.keepIn K (.ref f60) = true)
  (a61 : PySem.W.nsIn K mainGlobals "_law_right" = some (some (.ref f61))) (l61 : K.lookup f61 = some ⟨oc61, od61, .func (PySem.W.fnOf "_law_right" "_law_right" (defArgs st_Lright) (defBody st_Lright) (defScope st_Lright) .none kV61 dc61 pm61 an61 cd61 ct61), sl61⟩) (c61 : PySem.W.codeIn K cd61 "_law_right" = true) (k61 : PySem.W.keepIn K (.ref f61) = true)
  (a62 : PySem.W.nsIn K mainGlobals "_law_well" = some (some (.ref f62))) (l62 : K.lookup f62 = some ⟨oc62, od62, .func (PySem.W.fnOf "_law_well" "_law_well" (defArgs st_Lwell) (defBody st_Lwell) (defScope st_Lwell) .none kV62 dc62 pm62 an62 cd62 ct62), sl62⟩) (c62 : PySem.W.codeIn K cd62 "_law_well" = true) (k62 : PySem.W.keepIn K (.ref f62) = true)
  (a63 : PySem.W.nsIn K mainGlobals "_law_rounds" = some (some (.ref f63))) (l63 : K.lookup f63 = some ⟨oc63, od63, .func (PySem.W.fnOf "_law_rounds" "_law_rounds" (defArgs st_Lrounds) (defBody st_Lrounds) (defScope st_Lrounds) .none kV63 dc63 pm63 an63 cd63 ct63), sl63⟩) (c63 : PySem.W.codeIn K cd63 "_law_rounds" = true) (k63 : PySem.W.keepIn K (.ref f63) = true)
  (a64 : PySem.W.nsIn K mainGlobals "law" = some (some (.ref f64))) (l64 : K.lookup f64 = some ⟨oc64, od64, .func (PySem.W.fnOf "law" "law" (defArgs st_Mlaw) (defBody st_Mlaw) (defScope st_Mlaw) .none kV64 dc64 pm64 an64 cd64 ct64), sl64⟩) (c64 : PySem.W.codeIn K cd64 "law" = true) (k64 : PySem.W.keepIn K (.ref f64) = true)
  (z_range : PySem.W.nsIn K mainGlobals "range" = some none)
  (z_abs : PySem.W.nsIn K mainGlobals "abs" = some none)
  (z_int : PySem.W.nsIn K mainGlobals "int" = some none)
  (z_max : PySem.W.nsIn K mainGlobals "max" = some none)
  (z_tuple : PySem.W.nsIn K mainGlobals "tuple" = some none)
  (z_divmod : PySem.W.nsIn K mainGlobals "divmod" = some none)
  (z_len : PySem.W.nsIn K mainGlobals "len" = some none)
  (z_isinstance : PySem.W.nsIn K mainGlobals "isinstance" = some none)
  (z_bool : PySem.W.nsIn K mainGlobals "bool" = some none)
  (z_repr : PySem.W.nsIn K mainGlobals "repr" = some none)
  (z_min : PySem.W.nsIn K mainGlobals "min" = some none)
  (z_all : PySem.W.nsIn K mainGlobals "all" = some none)
  (y_gcd : PySem.W.nsIn K mainGlobals "gcd" = some (some (.builtin "math.gcd")))
  (y_isqrt : PySem.W.nsIn K mainGlobals "isqrt" = some (some (.builtin "math.isqrt")))
  (w_ENDLESS : PySem.W.nsIn K mainGlobals "ENDLESS" = some (some (.ref gA1)))
  (u1 : K.lookup gA1 = some ⟨.type "tuple", gD1, .seq #[.none, .none] gN1, gS1⟩)
  (w_ZERO : PySem.W.nsIn K mainGlobals "ZERO" = some (some (.ref gA4)))
  (u4 : K.lookup gA4 = some ⟨.type "tuple", gD4, .seq #[(.int 0 tk2), (.int 1 tk3)] gN4, gS4⟩)
  (w_NOUGHT : PySem.W.nsIn K mainGlobals "NOUGHT" = some (some (.ref gA14)))
  (u14 : K.lookup gA14 = some ⟨.type "tuple", gD14, .seq #[(.ref gA7), (.ref gA10), (.ref gA13)] gN14, gS14⟩)
  (u7 : K.lookup gA7 = some ⟨.type "tuple", gD7, .seq #[(.int 0 tk5), (.int 1 tk6)] gN7, gS7⟩)
  (u10 : K.lookup gA10 = some ⟨.type "tuple", gD10, .seq #[(.int 0 tk8), (.int 1 tk9)] gN10, gS10⟩)
  (u13 : K.lookup gA13 = some ⟨.type "tuple", gD13, .seq #[(.int 0 tk11), (.int 1 tk12)] gN13, gS13⟩)
  (w_FIRST_WORDS : PySem.W.nsIn K mainGlobals "FIRST_WORDS" = some (some (.ref gA15)))
  (u15 : K.lookup gA15 = some ⟨.type "dict", none, .dict #[⟨gH16, (.int (-1) tk16), (.str (Str.ofString "first") tk17)⟩, ⟨gH18, (.int 0 tk18), (.str (Str.ofString "both") tk19)⟩, ⟨gH20, (.int 1 tk20), (.str (Str.ofString "other") tk21)⟩] gN15, #[]⟩)
  (h16 : gH16 = hashInt (-1))
  (h18 : gH18 = hashInt 0)
  (h20 : gH20 = hashInt 1) :
  ∃ fd : FuncData, (∀ (s : Shared) (u : Value), BindsTo s fd ⟨[u], []⟩ [("_law_script", u)]) ∧ ∀ base : Heap, K.In base → base.Ns mainGlobals mg → FnP P w K mg base 11 fa fd ["_law_script"] sp_law := by
  have T : Txt w K mg := { f_Lcommon := ⟨_, _, PySem.W.mg_of X G a0, fun_mk l0 c0 k0⟩, f_Llean := ⟨_, _, PySem.W.mg_of X G a1, fun_mk l1 c1 k1⟩, f_Lpoint := ⟨_, _, PySem.W.mg_of X G a2, fun_mk l2 c2 k2⟩, f_Mdraw := ⟨_, _, PySem.W.mg_of X G a3, fun_mk l3 c3 k3⟩, f_Mpick := ⟨_, _, PySem.W.mg_of X G a4, fun_mk l4 c4 k4⟩, f_Lratio := ⟨_, _, PySem.W.mg_of X G a5, fun_mk l5 c5 k5⟩, f_Msize := ⟨_, _, PySem.W.mg_of X G a6, fun_mk l6 c6 k6⟩, f_Lpart := ⟨_, _, PySem.W.mg_of X G a7, fun_mk l7 c7 k7⟩, f_Mjet := ⟨_, _, PySem.W.mg_of X G a8, fun_mk l8 c8 k8⟩, f_Lstream := ⟨_, _, PySem.W.mg_of X G a9, fun_mk l9 c9 k9⟩, f_Lapart := ⟨_, _, PySem.W.mg_of X G a10, fun_mk l10 c10 k10⟩, f_Lplus := ⟨_, _, PySem.W.mg_of X G a11, fun_mk l11 c11 k11⟩, f_Mless := ⟨_, _, PySem.W.mg_of X G a12, fun_mk l12 c12 k12⟩, f_Ltimes := ⟨_, _, PySem.W.mg_of X G a13, fun_mk l13 c13 k13⟩, f_Lcurve := ⟨_, _, PySem.W.mg_of X G a14, fun_mk l14 c14 k14⟩, f_Lon_curve := ⟨_, _, PySem.W.mg_of X G a15, fun_mk l15 c15 k15⟩, f_is_whole := ⟨_, _, PySem.W.mg_of X G a16, fun_mk l16 c16 k16⟩, f_is_point := ⟨_, _, PySem.W.mg_of X G a17, fun_mk l17 c17 k17⟩, f_is_fraction := ⟨_, _, PySem.W.mg_of X G a18, fun_mk l18 c18 k18⟩, f_is_jet := ⟨_, _, PySem.W.mg_of X G a19, fun_mk l19 c19 k19⟩, f_is_stream := ⟨_, _, PySem.W.mg_of X G a20, fun_mk l20 c20 k20⟩, f_check_stream := ⟨_, _, PySem.W.mg_of X G a21, fun_mk l21 c21 k21⟩, f_reduced := ⟨_, _, PySem.W.mg_of X G a22, fun_mk l22 c22 k22⟩, f_quotient := ⟨_, _, PySem.W.mg_of X G a23, fun_mk l23 c23 k23⟩, f_sign := ⟨_, _, PySem.W.mg_of X G a24, fun_mk l24 c24 k24⟩, f_times := ⟨_, _, PySem.W.mg_of X G a25, fun_mk l25 c25 k25⟩, f_minus := ⟨_, _, PySem.W.mg_of X G a26, fun_mk l26 c26 k26⟩, f_sign_with_root := ⟨_, _, PySem.W.mg_of X G a27, fun_mk l27 c27 k27⟩, f_spout_of := ⟨_, _, PySem.W.mg_of X G a28, fun_mk l28 c28 k28⟩, f_negative := ⟨_, _, PySem.W.mg_of X G a29, fun_mk l29 c29 k29⟩, f_drops_meet := ⟨_, _, PySem.W.mg_of X G a30, fun_mk l30 c30 k30⟩, f_Lfar_x := ⟨_, _, PySem.W.mg_of X G a31, fun_mk l31 c31 k31⟩, f_square_root := ⟨_, _, PySem.W.mg_of X G a32, fun_mk l32 c32 k32⟩, f_is_surd := ⟨_, _, PySem.W.mg_of X G a33, fun_mk l33 c33 k33⟩, f_check_surd := ⟨_, _, PySem.W.mg_of X G a34, fun_mk l34 c34 k34⟩, f_plus := ⟨_, _, PySem.W.mg_of X G a35, fun_mk l35 c35 k35⟩, f_compare := ⟨_, _, PySem.W.mg_of X G a36, fun_mk l36 c36 k36⟩, f_later_begin := ⟨_, _, PySem.W.mg_of X G a37, fun_mk l37 c37 k37⟩, f_earlier_end := ⟨_, _, PySem.W.mg_of X G a38, fun_mk l38 c38 k38⟩, f_order_of := ⟨_, _, PySem.W.mg_of X G a39, fun_mk l39 c39 k39⟩, f_common := ⟨_, _, PySem.W.mg_of X G a40, fun_mk l40 c40 k40⟩, f_difference := ⟨_, _, PySem.W.mg_of X G a41, fun_mk l41 c41 k41⟩, f_fall_of := ⟨_, _, PySem.W.mg_of X G a42, fun_mk l42 c42 k42⟩, f_water_of := ⟨_, _, PySem.W.mg_of X G a43, fun_mk l43 c43 k43⟩, f_as_surd := ⟨_, _, PySem.W.mg_of X G a44, fun_mk l44 c44 k44⟩, f_stretch_of := ⟨_, _, PySem.W.mg_of X G a45, fun_mk l45 c45 k45⟩, f_check_fraction := ⟨_, _, PySem.W.mg_of X G a46, fun_mk l46 c46 k46⟩, f_surd_of := ⟨_, _, PySem.W.mg_of X G a47, fun_mk l47 c47 k47⟩, f_zeros := ⟨_, _, PySem.W.mg_of X G a48, fun_mk l48 c48 k48⟩, f_is_within := ⟨_, _, PySem.W.mg_of X G a49, fun_mk l49 c49 k49⟩, f_meeting_places := ⟨_, _, PySem.W.mg_of X G a50, fun_mk l50 c50 k50⟩, f_value_at := ⟨_, _, PySem.W.mg_of X G a51, fun_mk l51 c51 k51⟩, f_growth_at := ⟨_, _, PySem.W.mg_of X G a52, fun_mk l52 c52 k52⟩, f_halves_at := ⟨_, _, PySem.W.mg_of X G a53, fun_mk l53 c53 k53⟩, f_surd_at := ⟨_, _, PySem.W.mg_of X G a54, fun_mk l54 c54 k54⟩, f_meetings := ⟨_, _, PySem.W.mg_of X G a55, fun_mk l55 c55 k55⟩, f_Lsign := ⟨_, _, PySem.W.mg_of X G a56, fun_mk l56 c56 k56⟩, f_Morder := ⟨_, _, PySem.W.mg_of X G a57, fun_mk l57 c57 k57⟩, f_surd_sign := ⟨_, _, PySem.W.mg_of X G a58, fun_mk l58 c58 k58⟩, f_first_there := ⟨_, _, PySem.W.mg_of X G a59, fun_mk l59 c59 k59⟩, f_water_at := ⟨_, _, PySem.W.mg_of X G a60, fun_mk l60 c60 k60⟩, f_Lright := ⟨_, _, PySem.W.mg_of X G a61, fun_mk l61 c61 k61⟩, f_Lwell := ⟨_, _, PySem.W.mg_of X G a62, fun_mk l62 c62 k62⟩, f_Lrounds := ⟨_, _, PySem.W.mg_of X G a63, fun_mk l63 c63 k63⟩, f_Mlaw := ⟨_, _, PySem.W.mg_of X G a64, fun_mk l64 c64 k64⟩, b_range := PySem.W.mg_none_of X G z_range, b_abs := PySem.W.mg_none_of X G z_abs, b_int := PySem.W.mg_none_of X G z_int, b_max := PySem.W.mg_none_of X G z_max, b_tuple := PySem.W.mg_none_of X G z_tuple, b_divmod := PySem.W.mg_none_of X G z_divmod, b_len := PySem.W.mg_none_of X G z_len, b_isinstance := PySem.W.mg_none_of X G z_isinstance, b_bool := PySem.W.mg_none_of X G z_bool, b_repr := PySem.W.mg_none_of X G z_repr, b_min := PySem.W.mg_none_of X G z_min, b_all := PySem.W.mg_none_of X G z_all, m_gcd := PySem.W.mg_of X G y_gcd, m_isqrt := PySem.W.mg_of X G y_isqrt, g_ENDLESS := ⟨(.ref gA1), _, PySem.W.mg_of X G w_ENDLESS, rfl, fun W => (.tup (xs := [.non, .non]) (.inr ⟨_, _, _, u1, rfl, rfl, (by show 2 ≤ sizeLine; decide), (.cons rfl (.cons rfl .nil))⟩) (.cons .non (.cons .non .nil)))⟩, g_ZERO := ⟨(.ref gA4), _, PySem.W.mg_of X G w_ZERO, rfl, fun W => (.tup (xs := [(.int 0), (.int 1)]) (.inr ⟨_, _, _, u4, rfl, rfl, (by show 2 ≤ sizeLine; decide), (.cons ⟨_, rfl⟩ (.cons ⟨_, rfl⟩ .nil))⟩) (.cons (.int _) (.cons (.int _) .nil)))⟩, g_NOUGHT := ⟨(.ref gA14), _, PySem.W.mg_of X G w_NOUGHT, rfl, fun W => (.tup (xs := [(.ref gA7), (.ref gA10), (.ref gA13)]) (.inr ⟨_, _, _, u14, rfl, rfl, (by show 3 ≤ sizeLine; decide), (.cons rfl (.cons rfl (.cons rfl .nil)))⟩) (.cons (.tup (xs := [(.int 0), (.int 1)]) (.inr ⟨_, _, _, u7, rfl, rfl, (by show 2 ≤ sizeLine; decide), (.cons ⟨_, rfl⟩ (.cons ⟨_, rfl⟩ .nil))⟩) (.cons (.int _) (.cons (.int _) .nil))) (.cons (.tup (xs := [(.int 0), (.int 1)]) (.inr ⟨_, _, _, u10, rfl, rfl, (by show 2 ≤ sizeLine; decide), (.cons ⟨_, rfl⟩ (.cons ⟨_, rfl⟩ .nil))⟩) (.cons (.int _) (.cons (.int _) .nil))) (.cons (.tup (xs := [(.int 0), (.int 1)]) (.inr ⟨_, _, _, u13, rfl, rfl, (by show 2 ≤ sizeLine; decide), (.cons ⟨_, rfl⟩ (.cons ⟨_, rfl⟩ .nil))⟩) (.cons (.int _) (.cons (.int _) .nil))) .nil))))⟩, d_FIRST_WORDS := ⟨_, PySem.W.mg_of X G w_FIRST_WORDS, _, _, u15, .inl (.cons (v := (.str (Str.ofString "first"))) rfl h16 ⟨_, rfl⟩ (fun W => (.str _)) (.cons (v := (.str (Str.ofString "both"))) rfl h18 ⟨_, rfl⟩ (fun W => (.str _)) (.cons (v := (.str (Str.ofString "other"))) rfl h20 ⟨_, rfl⟩ (fun W => (.str _)) .nil)))⟩ }
  have e := hfa.symm.trans (PySem.W.mg_of X G a64)
  cases e
  have hb : ∀ (s : Shared) (u : Value), BindsTo s (PySem.W.fnOf "law" "law" (defArgs st_Mlaw) (defBody st_Mlaw) (defScope st_Mlaw) .none kV64 dc64 pm64 an64 cd64 ct64) ⟨[u], []⟩ [("_law_script", u)] := fun s u => .of_eq rfl
  refine ⟨_, hb, fun base _ _ => ?_⟩
  obtain ⟨f, fd, e1, F, H, _⟩ := (ff_Mlaw (P := P) (w := w) (base := base) T).ex
  have e2 : f = fa := by
    have := e1.symm.trans (PySem.W.mg_of X G a64)
    cases this
    rfl
  subst e2
  obtain ⟨_, _, kV, doc, pm, an, cdv, ct, osl, e3, lk, _⟩ := F.ex
  rw [l64] at lk
  cases lk
  exact H
end Pf
theorem PySem.Challenge.cw_spoutlines_k85_whole_streams_on_one_curv_holds : PySem.Challenge.rw_spoutlines_k85_whole_streams_on_one_curv.Holds := by
  w_on; o_law; k_head; (case hw => w_witness2)
  k_fill
  refine Pf.walk_P (l := PySem.Challenge.rw_spoutlines_k85_whole_streams_on_one_curv) (n := 63) (k := 11) (x := "_law_script") (sp := Pf.sp_law) rfl (by decide) rfl ⟨rfl, by decide, by decide⟩ (fun w h Y => PySem.W.kIn_of Y) ?F (fun ns hl => Pf.law_true ns hl)
  case F =>
    intro w mg fa h KX G hmg
    refine' Pf.all_mk KX G hmg ?a0 ?l0 ?c0 ?k0 ?a1 ?l1 ?c1 ?k1 ?a2 ?l2 ?c2 ?k2 ?a3 ?l3 ?c3 ?k3 ?a4 ?l4 ?c4 ?k4 ?a5 ?l5 ?c5 ?k5 ?a6 ?l6 ?c6 ?k6 ?a7 ?l7 ?c7 ?k7 ?a8 ?l8 ?c8 ?k8 ?a9 ?l9 ?c9 ?k9 ?a10 ?l10 ?c10 ?k10 ?a11 ?l11 ?c11 ?k11 ?a12 ?l12 ?c12 ?k12 ?a13 ?l13 ?c13 ?k13 ?a14 ?l14 ?c14 ?k14 ?a15 ?l15 ?c15 ?k15 ?a16 ?l16 ?c16 ?k16 ?a17 ?l17 ?c17 ?k17 ?a18 ?l18 ?c18 ?k18 ?a19 ?l19 ?c19 ?k19 ?a20 ?l20 ?c20 ?k20 ?a21 ?l21 ?c21 ?k21 ?a22 ?l22 ?c22 ?k22 ?a23 ?l23 ?c23 ?k23 ?a24 ?l24 ?c24 ?k24 ?a25 ?l25 ?c25 ?k25 ?a26 ?l26 ?c26 ?k26 ?a27 ?l27 ?c27 ?k27 ?a28 ?l28 ?c28 ?k28 ?a29 ?l29 ?c29 ?k29 ?a30 ?l30 ?c30 ?k30 ?a31 ?l31 ?c31 ?k31 ?a32 ?l32 ?c32 ?k32 ?a33 ?l33 ?c33 ?k33 ?a34 ?l34 ?c34 ?k34 ?a35 ?l35 ?c35 ?k35 ?a36 ?l36 ?c36 ?k36 ?a37 ?l37 ?c37 ?k37 ?a38 ?l38 ?c38 ?k38 ?a39 ?l39 ?c39 ?k39 ?a40 ?l40 ?c40 ?k40 ?a41 ?l41 ?c41 ?k41 ?a42 ?l42 ?c42 ?k42 ?a43 ?l43 ?c43 ?k43 ?a44 ?l44 ?c44 ?k44 ?a45 ?l45 ?c45 ?k45 ?a46 ?l46 ?c46 ?k46 ?a47 ?l47 ?c47 ?k47 ?a48 ?l48 ?c48 ?k48 ?a49 ?l49 ?c49 ?k49 ?a50 ?l50 ?c50 ?k50 ?a51 ?l51 ?c51 ?k51 ?a52 ?l52 ?c52 ?k52 ?a53 ?l53 ?c53 ?k53 ?a54 ?l54 ?c54 ?k54 ?a55 ?l55 ?c55 ?k55 ?a56 ?l56 ?c56 ?k56 ?a57 ?l57 ?c57 ?k57 ?a58 ?l58 ?c58 ?k58 ?a59 ?l59 ?c59 ?k59 ?a60 ?l60 ?c60 ?k60 ?a61 ?l61 ?c61 ?k61 ?a62 ?l62 ?c62 ?k62 ?a63 ?l63 ?c63 ?k63 ?a64 ?l64 ?c64 ?k64 ?z_range ?z_abs ?z_int ?z_max ?z_tuple ?z_divmod ?z_len ?z_isinstance ?z_bool ?z_repr ?z_min ?z_all ?y_gcd ?y_isqrt ?w_ENDLESS ?u1 ?w_ZERO ?u4 ?w_NOUGHT ?u14 ?u7 ?u10 ?u13 ?w_FIRST_WORDS ?u15 ?h16 ?h18 ?h20
    (case a0 => k_is); (case l0 => k_is); (case c0 => k_is); (case k0 => k_is); (case a1 => k_is); (case l1 => k_is); (case c1 => k_is); (case k1 => k_is)
    (case a2 => k_is); (case l2 => k_is); (case c2 => k_is); (case k2 => k_is); (case a3 => k_is); (case l3 => k_is); (case c3 => k_is); (case k3 => k_is)
    (case a4 => k_is); (case l4 => k_is); (case c4 => k_is); (case k4 => k_is); (case a5 => k_is); (case l5 => k_is); (case c5 => k_is); (case k5 => k_is)
    (case a6 => k_is); (case l6 => k_is); (case c6 => k_is); (case k6 => k_is); (case a7 => k_is); (case l7 => k_is); (case c7 => k_is); (case k7 => k_is)
    (case a8 => k_is); (case l8 => k_is); (case c8 => k_is); (case k8 => k_is); (case a9 => k_is); (case l9 => k_is); (case c9 => k_is); (case k9 => k_is)
    (case a10 => k_is); (case l10 => k_is); (case c10 => k_is); (case k10 => k_is); (case a11 => k_is); (case l11 => k_is); (case c11 => k_is); (case k11 => k_is)
    (case a12 => k_is); (case l12 => k_is); (case c12 => k_is); (case k12 => k_is); (case a13 => k_is); (case l13 => k_is); (case c13 => k_is); (case k13 => k_is)
    (case a14 => k_is); (case l14 => k_is); (case c14 => k_is); (case k14 => k_is); (case a15 => k_is); (case l15 => k_is); (case c15 => k_is); (case k15 => k_is)
    (case a16 => k_is); (case l16 => k_is); (case c16 => k_is); (case k16 => k_is); (case a17 => k_is); (case l17 => k_is); (case c17 => k_is); (case k17 => k_is)
    (case a18 => k_is); (case l18 => k_is); (case c18 => k_is); (case k18 => k_is); (case a19 => k_is); (case l19 => k_is); (case c19 => k_is); (case k19 => k_is)
    (case a20 => k_is); (case l20 => k_is); (case c20 => k_is); (case k20 => k_is); (case a21 => k_is); (case l21 => k_is); (case c21 => k_is); (case k21 => k_is)
    (case a22 => k_is); (case l22 => k_is); (case c22 => k_is); (case k22 => k_is); (case a23 => k_is); (case l23 => k_is); (case c23 => k_is); (case k23 => k_is)
    (case a24 => k_is); (case l24 => k_is); (case c24 => k_is); (case k24 => k_is); (case a25 => k_is); (case l25 => k_is); (case c25 => k_is); (case k25 => k_is)
    (case a26 => k_is); (case l26 => k_is); (case c26 => k_is); (case k26 => k_is); (case a27 => k_is); (case l27 => k_is); (case c27 => k_is); (case k27 => k_is)
    (case a28 => k_is); (case l28 => k_is); (case c28 => k_is); (case k28 => k_is); (case a29 => k_is); (case l29 => k_is); (case c29 => k_is); (case k29 => k_is)
    (case a30 => k_is); (case l30 => k_is); (case c30 => k_is); (case k30 => k_is); (case a31 => k_is); (case l31 => k_is); (case c31 => k_is); (case k31 => k_is)
    (case a32 => k_is); (case l32 => k_is); (case c32 => k_is); (case k32 => k_is); (case a33 => k_is); (case l33 => k_is); (case c33 => k_is); (case k33 => k_is)
    (case a34 => k_is); (case l34 => k_is); (case c34 => k_is); (case k34 => k_is); (case a35 => k_is); (case l35 => k_is); (case c35 => k_is); (case k35 => k_is)
    (case a36 => k_is); (case l36 => k_is); (case c36 => k_is); (case k36 => k_is); (case a37 => k_is); (case l37 => k_is); (case c37 => k_is); (case k37 => k_is)
    (case a38 => k_is); (case l38 => k_is); (case c38 => k_is); (case k38 => k_is); (case a39 => k_is); (case l39 => k_is); (case c39 => k_is); (case k39 => k_is)
    (case a40 => k_is); (case l40 => k_is); (case c40 => k_is); (case k40 => k_is); (case a41 => k_is); (case l41 => k_is); (case c41 => k_is); (case k41 => k_is)
    (case a42 => k_is); (case l42 => k_is); (case c42 => k_is); (case k42 => k_is); (case a43 => k_is); (case l43 => k_is); (case c43 => k_is); (case k43 => k_is)
    (case a44 => k_is); (case l44 => k_is); (case c44 => k_is); (case k44 => k_is); (case a45 => k_is); (case l45 => k_is); (case c45 => k_is); (case k45 => k_is)
    (case a46 => k_is); (case l46 => k_is); (case c46 => k_is); (case k46 => k_is); (case a47 => k_is); (case l47 => k_is); (case c47 => k_is); (case k47 => k_is)
    (case a48 => k_is); (case l48 => k_is); (case c48 => k_is); (case k48 => k_is); (case a49 => k_is); (case l49 => k_is); (case c49 => k_is); (case k49 => k_is)
    (case a50 => k_is); (case l50 => k_is); (case c50 => k_is); (case k50 => k_is); (case a51 => k_is); (case l51 => k_is); (case c51 => k_is); (case k51 => k_is)
    (case a52 => k_is); (case l52 => k_is); (case c52 => k_is); (case k52 => k_is); (case a53 => k_is); (case l53 => k_is); (case c53 => k_is); (case k53 => k_is)
    (case a54 => k_is); (case l54 => k_is); (case c54 => k_is); (case k54 => k_is); (case a55 => k_is); (case l55 => k_is); (case c55 => k_is); (case k55 => k_is)
    (case a56 => k_is); (case l56 => k_is); (case c56 => k_is); (case k56 => k_is); (case a57 => k_is); (case l57 => k_is); (case c57 => k_is); (case k57 => k_is)
    (case a58 => k_is); (case l58 => k_is); (case c58 => k_is); (case k58 => k_is); (case a59 => k_is); (case l59 => k_is); (case c59 => k_is); (case k59 => k_is)
    (case a60 => k_is); (case l60 => k_is); (case c60 => k_is); (case k60 => k_is); (case a61 => k_is); (case l61 => k_is); (case c61 => k_is); (case k61 => k_is)
    (case a62 => k_is); (case l62 => k_is); (case c62 => k_is); (case k62 => k_is); (case a63 => k_is); (case l63 => k_is); (case c63 => k_is); (case k63 => k_is)
    (case a64 => k_is); (case l64 => k_is); (case c64 => k_is); (case k64 => k_is); (case z_range => k_is); (case z_abs => k_is); (case z_int => k_is); (case z_max => k_is)
    (case z_tuple => k_is); (case z_divmod => k_is); (case z_len => k_is); (case z_isinstance => k_is); (case z_bool => k_is); (case z_repr => k_is); (case z_min => k_is); (case z_all => k_is)
    (case y_gcd => k_is); (case y_isqrt => k_is); (case w_ENDLESS => k_is); (case u1 => k_is); (case w_ZERO => k_is); (case u4 => k_is); (case w_NOUGHT => k_is); (case u14 => k_is)
    (case u7 => k_is); (case u10 => k_is); (case u13 => k_is); (case w_FIRST_WORDS => k_is); (case u15 => k_is); (case h16 => rfl); (case h18 => rfl); (case h20 => rfl)
