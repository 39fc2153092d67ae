import PyProof.Rows.All
import Wide.All
import OpenK.AllK
import Wide.FinOn
import HandS.ForMost
import HandS.ForExc
import HandS.IsInst
import HandS.Wide
import HandS.WideBits
import HandS.EndBits
import HandS.CallSlots
import HandS.Small
import HandS.Flow
import KE.KDictZip
import KE.KItemsList
import HandS.ListItems
import KE.BitLaws
import PySem.Challenge.RW_spreadstates_k03_counts_by_products
set_option Elab.async false
set_option linter.all false
set_option maxRecDepth 100000
set_option maxHeartbeats 1250000
namespace Sp
open PySem L2

/-! ### values, objects, heaps of the mirror -/
inductive W where
  | non | bl (b : Bool) | int (i : Int) | str (s : Str) | ref (n : Nat) | ka (a : Addr) | ty (n : String)
  deriving DecidableEq
inductive O where
  | lst (xs : List W) | tup (xs : List W) | dct (kvs : List (Key × W)) | scr (ns : List Int) | ksc (ns : List Int) | ins (cn : Str) (fs : List (Str × W)) | fdc (kvs : List (Key × W)) | stI (ks : List Int)
def O.isK : O → Bool
  | .ksc _ => true
  | _ => false
abbrev Hh := List O
abbrev Sg := List (Option W)
structure Exn where
  cls : Addr
  fs : List (Str × W)
inductive Rs (α : Type) where
  | ok (a : α) (h : Hh)
  | ex (e : Exn) (h : Hh)
abbrev FE := Sg → Hh → Option (Rs W)
abbrev FT := Sg → Hh → Option (Rs Bool)
abbrev FA := Sg → Hh → Option (Rs (List W))
abbrev FO := Sg → Hh → Option (Rs (Option Int))

/-! ### how they stand for the layer's -/
/-- where the mirror's objects stand; which of them are locked, and how they stand there -/
structure Io where
  as : List Addr
  lk : Addr → Option (Obj × List (Key × V))
instance : GetElem? Io Nat Addr (fun ι n => n < ι.as.length) where
  getElem ι n h := ι.as[n]
  getElem? ι n := ι.as[n]?
instance : HAppend Io (List Addr) Io := ⟨fun ι l => ⟨ι.as ++ l, ι.lk⟩⟩
def Io.length (ι : Io) : Nat := ι.as.length
theorem io_get (ι : Io) (n : Nat) : ι[n]? = ι.as[n]? := rfl
theorem io_app (ι : Io) (l : List Addr) (n : Nat) : (ι ++ l)[n]? = (ι.as ++ l)[n]? := rfl
structure Le (ι ι' : Io) : Prop where
  at_ : ∀ (n : Nat) (a : Addr), ι[n]? = some a → ι'[n]? = some a
  lk : ι'.lk = ι.lk
instance {ι ι' : Io} : CoeFun (Le ι ι') (fun _ => ∀ (n : Nat) (a : Addr), ι[n]? = some a → ι'[n]? = some a) := ⟨Le.at_⟩
theorem Le.refl (ι : Io) : Le ι ι := ⟨fun _ _ h => h, rfl⟩
theorem Le.trans {a b c : Io} (h : Le a b) (k : Le b c) : Le a c := ⟨fun n x e => k.at_ n x (h.at_ n x e), k.lk.trans h.lk⟩
theorem Le.apps (ι : Io) (l : List Addr) : Le ι (ι ++ l) := ⟨fun n a e => by
  rw [io_get] at e
  rw [io_app, List.getElem?_append_left (List.getElem?_eq_some_iff.mp e).1]
  exact e, rfl⟩
theorem io_last (ι : Io) (p : Addr) {n : Nat} (h : ι.length = n) : (ι ++ [p])[n]? = some p := by
  subst h
  rw [io_app]
  show (ι.as ++ [p])[ι.as.length]? = some p
  simp
theorem Le.app (ι : Io) (p : Addr) : Le ι (ι ++ [p]) := ⟨fun n a e => by
  rw [io_get] at e
  rw [io_app, List.getElem?_append_left (List.getElem?_eq_some_iff.mp e).1]
  exact e, rfl⟩
def RelW (ι : Io) : W → V → Prop
  | .non, x => x = .non
  | .bl b, x => x = .bl b
  | .int i, x => x = .int i
  | .str s, x => x = .str s
  | .ref n, x => ∃ a, ι[n]? = some a ∧ x = .ref a
  | .ka a, x => x = .ref a
  | .ty t, x => x = .ty t
theorem RelW.mono {ι ι' : Io} (h : Le ι ι') : ∀ {w : W} {x : V}, RelW ι w x → RelW ι' w x
  | .non, _, e => e
  | .bl _, _, e => e
  | .int _, _, e => e
  | .str _, _, e => e
  | .ref _, _, ⟨a, e, q⟩ => ⟨a, h _ _ e, q⟩
  | .ka _, _, e => e
  | .ty _, _, e => e
abbrev Rels (ι : Io) : List W → List V → Prop := Paired (RelW ι)

section paired
variable {α β : Type} {F : α → β → Prop}
theorem pr_get : ∀ {xs : List α} {ys : List β} {i : Nat} {x : α}, Paired F xs ys → xs[i]? = some x → ∃ y, ys[i]? = some y ∧ F x y
  | _, _, _, _, .nil, e => (by simp at e)
  | _, _, 0, _, .cons r _, e => (by simp at e; subst e; exact ⟨_, rfl, r⟩)
  | _, _, n + 1, u0, .cons _ t, e => by
    obtain ⟨u, h1, h2⟩ := pr_get (i := n) (x := u0) t (by simpa using e)
    refine ⟨u, ?_, h2⟩
    simpa using h1
theorem pr_none {xs : List α} {ys : List β} {i : Nat} (r : Paired F xs ys) (e : xs[i]? = none) : ys[i]? = none := by
  rw [List.getElem?_eq_none_iff] at e ⊢
  rw [← Paired.length r]
  exact e
theorem pr_set {x : α} {u : β} (r : F x u) : ∀ {xs : List α} {us : List β} (i : Nat), Paired F xs us → Paired F (xs.set i x) (us.set i u)
  | _, _, _, .nil => .nil
  | _, _, 0, .cons _ t => (.cons r t)
  | _, _, i + 1, .cons q t => .cons q (pr_set r i t)
theorem pr_app : ∀ {xs ys : List α} {us ws : List β}, Paired F xs us → Paired F ys ws → Paired F (xs ++ ys) (us ++ ws)
  | _, _, _, _, .nil, s => s
  | _, _, _, _, .cons r t, s => .cons r (pr_app t s)
theorem pr_take : ∀ {xs : List α} {us : List β} (n : Nat), Paired F xs us → Paired F (xs.take n) (us.take n)
  | _, _, 0, _ => .nil
  | _, _, _ + 1, .nil => .nil
  | _, _, n + 1, .cons r t => .cons r (pr_take n t)
theorem pr_drop : ∀ {xs : List α} {us : List β} (n : Nat), Paired F xs us → Paired F (xs.drop n) (us.drop n)
  | _, _, 0, r => r
  | _, _, _ + 1, .nil => .nil
  | _, _, n + 1, .cons _ t => pr_drop n t
theorem pr_rep {x : α} {u : β} (r : F x u) : ∀ n : Nat, Paired F (List.replicate n x) (List.replicate n u)
  | 0 => .nil
  | n + 1 => .cons r (pr_rep r n)
theorem pr_flat_rep {xs : List α} {us : List β} (r : Paired F xs us) : ∀ n : Nat, Paired F (List.replicate n xs).flatten (List.replicate n us).flatten
  | 0 => .nil
  | n + 1 => pr_app r (pr_flat_rep r n)
theorem pr_rev : ∀ {xs : List α} {us : List β}, Paired F xs us → Paired F xs.reverse us.reverse
  | _, _, .nil => .nil
  | _, _, .cons r t => by
    simpa only [List.reverse_cons] using pr_app (pr_rev t) (.cons r .nil)
theorem pr_mono {F' : α → β → Prop} (h : ∀ a b, F a b → F' a b) : ∀ {xs : List α} {us : List β}, Paired F xs us → Paired F' xs us
  | _, _, .nil => .nil
  | _, _, .cons r t => .cons (h _ _ r) (pr_mono h t)
theorem pr_map {γ : Type} {f : γ → α} {g : γ → β} (h : ∀ c, F (f c) (g c)) : ∀ l : List γ, Paired F (l.map f) (l.map g)
  | [] => .nil
  | c :: l => .cons (h c) (pr_map h l)
end paired
theorem Rels.mono {ι ι' : Io} (h : Le ι ι') {ws : List W} {xs : List V} (r : Rels ι ws xs) : Rels ι' ws xs := pr_mono (fun _ _ => RelW.mono h) r

def RO1 (ι : Io) : Option W → Option V → Prop
  | none, _ => True
  | some w, y => ∃ x, y = some x ∧ RelW ι w x
abbrev RS (ι : Io) : Sg → St → Prop := Paired (RO1 ι)
theorem RO1.mono {ι ι' : Io} (h : Le ι ι') : ∀ {o : Option W} {y : Option V}, RO1 ι o y → RO1 ι' o y
  | none, _, _ => trivial
  | some _, _, ⟨x, e, r⟩ => ⟨x, e, r.mono h⟩
theorem RS.mono {ι ι' : Io} (h : Le ι ι') {σ0 : Sg} {σ : St} (r : RS ι σ0 σ) : RS ι' σ0 σ := pr_mono (fun _ _ => RO1.mono h) r
theorem RS.var {ι : Io} {σ0 : Sg} {σ : St} {i : Nat} {w : W} (r : RS ι σ0 σ) (e : σ0[i]? = some (some w)) : ∃ x, σ[i]? = some (some x) ∧ RelW ι w x := by
  obtain ⟨y, h1, x, h2, h3⟩ := pr_get r e
  exact ⟨x, by rw [h1, h2], h3⟩

/-- the K-side of a list that is read -/
def KL (K : PySem.W.Frag) (a : Addr) (xs : List V) : Prop := ∃ (o : Obj) (its : Array Value) (n : Nat), K.lookup a = some o ∧ o.cls = .type "list" ∧ o.dict = none ∧ o.data = .seq its n ∧ its.size ≤ sizeLine ∧ Vals xs its.toList
abbrev PKV (ι : Io) : Key × W → Key × V → Prop := fun p q => p.1 = q.1 ∧ RelW ι p.2 q.2
abbrev PFV (ι : Io) : Str × W → Str × V → Prop := fun p q => p.1 = q.1 ∧ RelW ι p.2 q.2
def RObj (K : PySem.W.Frag) (H : Hp) (ι : Io) (a : Addr) : O → Prop
  | .lst ws => ∃ xs, Rels ι ws xs ∧ H a = some (.lst xs)
  | .tup ws => ∃ xs, Rels ι ws xs ∧ H a = some (.tup xs)
  | .dct kvs => ∃ ys, Paired (PKV ι) kvs ys ∧ H a = some (.dK ys)
  | .scr ns => ∃ o, H a = some (.frz o (.lst (ns.map V.int)))
  | .ksc ns => KL K a (ns.map V.int)
  | .ins cn fs => ∃ C dx ys, PySem.W.nsIn K mainGlobals cn = some (some (.ref C)) ∧ Paired (PFV ι) fs ys ∧ H a = some (.ins C dx ys)
  | .fdc kvs => ∃ o ys, ι.lk a = some (o, ys) ∧ Paired (PKV ι) kvs ys ∧ H a = some (.frz o (.dK ys))
  | .stI ks => ∃ S n, (∀ k, S k = true ↔ k ∈ ks) ∧ n ≤ ks.length ∧ H a = some (.set S n)
structure R (K : PySem.W.Frag) (ι : Io) (h : Hh) (H : Hp) : Prop where
  len : ι.length = h.length
  inj : ∀ (m n : Nat) (a : Addr) (o p : O), ι[m]? = some a → ι[n]? = some a → h[m]? = some o → h[n]? = some p → o.isK = false → p.isK = false → m = n
  ok : ∀ (n : Nat) (a : Addr) (o : O), ι[n]? = some a → h[n]? = some o → RObj K H ι a o
section
variable {K : PySem.W.Frag} {H : Hp} {ι ι' : Io} {a p : Addr} {o : O} {h : Hh} {u : HO}
theorem RObj.some (r : RObj K H ι a o) (hk : o.isK = false) : ∃ u, H a = some u := by
  cases o with
  | lst ws => obtain ⟨_, _, e⟩ := r; exact ⟨_, e⟩
  | tup ws => obtain ⟨_, _, e⟩ := r; exact ⟨_, e⟩
  | dct kvs => obtain ⟨_, _, e⟩ := r; exact ⟨_, e⟩
  | scr ns => obtain ⟨_, e⟩ := r; exact ⟨_, e⟩
  | ins cn fs => obtain ⟨_, _, _, _, _, e⟩ := r; exact ⟨_, e⟩
  | fdc kvs => obtain ⟨_, _, _, _, e⟩ := r; exact ⟨_, e⟩
  | stI ks => obtain ⟨_, _, _, _, e⟩ := r; exact ⟨_, e⟩
  | ksc ns => cases hk
theorem RObj.keep {H' : Hp} (r : RObj K H ι a o) (hl : Le ι ι') (hk : o.isK = false → ∀ u, H a = Option.some u → H' a = Option.some u) : RObj K H' ι' a o := by
  cases o with
  | lst ws => obtain ⟨xs, q, e⟩ := r; exact ⟨xs, q.mono hl, hk rfl _ e⟩
  | tup ws => obtain ⟨xs, q, e⟩ := r; exact ⟨xs, q.mono hl, hk rfl _ e⟩
  | dct kvs => obtain ⟨ys, q, e⟩ := r; exact ⟨ys, pr_mono (fun _ _ z => ⟨z.1, z.2.mono hl⟩) q, hk rfl _ e⟩
  | scr ns => obtain ⟨ob, e⟩ := r; exact ⟨ob, hk rfl _ e⟩
  | ins cn fs => obtain ⟨C, dx, ys, n, q, e⟩ := r; exact ⟨C, dx, ys, n, pr_mono (fun _ _ z => ⟨z.1, z.2.mono hl⟩) q, hk rfl _ e⟩
  | fdc kvs => obtain ⟨ob, ys, l, q, e⟩ := r; exact ⟨ob, ys, by rw [hl.lk]; exact l, pr_mono (fun _ _ z => ⟨z.1, z.2.mono hl⟩) q, hk rfl _ e⟩
  | stI ks => obtain ⟨S, m, h1, h2, e⟩ := r; exact ⟨S, m, h1, h2, hk rfl _ e⟩
  | ksc ns => exact r
theorem R.get {n : Nat} (r : R K ι h H) (e : h[n]? = some o) : ∃ a, ι[n]? = some a ∧ RObj K H ι a o := by
  have hn : n < ι.as.length := by
    have l := r.len
    unfold Io.length at l
    rw [l]; exact (List.getElem?_eq_some_iff.mp e).1
  have g : ι[n]? = some ι.as[n] := by rw [io_get]; exact List.getElem?_eq_getElem hn
  exact ⟨ι.as[n], g, r.ok n _ o g e⟩
theorem R.drop (r : R K ι h H) (hp : H p = none) : R K ι h (upd H p u) :=
  ⟨r.len, r.inj, fun n a o e1 e2 => (r.ok n a o e1 e2).keep (Le.refl _) fun _ v q => by rw [upd_ne (ne_of_none q hp)]; exact q⟩
theorem R.alloc (r : R K ι h H) (hp : H p = none) (ho : o.isK = false) (new : RObj K (upd H p u) (ι ++ [p]) p o) : R K (ι ++ [p]) (h ++ [o]) (upd H p u) := by
  have L : ι.as.length = h.length := r.len
  have split : ∀ (n : Nat) (b : Addr) (q : O), (ι ++ [p])[n]? = some b → (h ++ [o])[n]? = some q → (n < h.length ∧ ι[n]? = some b ∧ h[n]? = some q) ∨ (n = h.length ∧ b = p ∧ q = o) := fun n b q e1 e2 => by
    rw [io_app] at e1
    by_cases hn : n < h.length
    · rw [List.getElem?_append_left (by omega)] at e1
      rw [List.getElem?_append_left hn] at e2
      exact .inl ⟨hn, e1, e2⟩
    · have hle : n < (h ++ [o]).length := (List.getElem?_eq_some_iff.mp e2).1
      rw [List.length_append, List.length_singleton] at hle
      have e : n = h.length := by omega
      subst e
      rw [← L] at e1
      simp at e1 e2
      exact .inr ⟨rfl, e1.symm, e2.symm⟩
  have nep : ∀ (n : Nat) (b : Addr) (q : O), ι[n]? = some b → h[n]? = some q → q.isK = false → b ≠ p := fun n b q e1 e2 e3 => by
    obtain ⟨v, hv⟩ := (r.ok n b q e1 e2).some e3
    exact ne_of_none hv hp
  refine ⟨by show (ι.as ++ [p]).length = _; simp [L], fun m n a o' p' e1 e2 e3 e4 k1 k2 => ?_, fun n b q e1 e2 => ?_⟩
  · rcases split m a o' e1 e3 with ⟨h1, h2, h3⟩ | ⟨h1, h2, h3⟩
    · rcases split n a p' e2 e4 with ⟨g1, g2, g3⟩ | ⟨g1, g2, g3⟩
      · exact r.inj m n a o' p' h2 g2 h3 g3 k1 k2
      · exact absurd g2 (nep m a o' h2 h3 k1)
    · rcases split n a p' e2 e4 with ⟨g1, g2, g3⟩ | ⟨g1, g2, g3⟩
      · exact absurd h2 (nep n a p' g2 g3 k2)
      · rw [h1, g1]
  · rcases split n b q e1 e2 with ⟨h1, h2, h3⟩ | ⟨h1, h2, h3⟩
    · exact (r.ok n b q h2 h3).keep (Le.app _ _) fun hk v e => by rw [upd_ne (nep n b q h2 h3 hk)]; exact e
    · rw [h2, h3]
      exact new
theorem R.write {n : Nat} {o0 : O} (r : R K ι h H) (e1 : ι[n]? = some a) (e2 : h[n]? = some o0) (k0 : o0.isK = false) (ho : o.isK = false) (new : RObj K (upd H a u) ι a o) : R K ι (h.set n o) (upd H a u) := by
  have hn : n < h.length := (List.getElem?_eq_some_iff.mp e2).1
  have split : ∀ (m : Nat) (q : O), (h.set n o)[m]? = some q → (m = n ∧ q = o) ∨ (m ≠ n ∧ h[m]? = some q) := fun m q e => by
    by_cases hm : m = n
    · subst hm
      rw [List.getElem?_set_self hn] at e
      exact .inl ⟨rfl, (Option.some.inj e).symm⟩
    · rw [List.getElem?_set_ne (Ne.symm hm)] at e
      exact .inr ⟨hm, e⟩
  have back : ∀ (m : Nat) (q : O), (h.set n o)[m]? = some q → q.isK = false → ∃ q', h[m]? = some q' ∧ q'.isK = false := fun m q e k => by
    rcases split m q e with ⟨h1, h2⟩ | ⟨h1, h2⟩
    · rw [h1]; exact ⟨o0, e2, k0⟩
    · exact ⟨q, h2, k⟩
  refine ⟨by simp [r.len], fun i j b o' p' f1 f2 f3 f4 k1 k2 => ?_, fun m b q f1 f2 => ?_⟩
  · obtain ⟨q1, g1, g2⟩ := back i o' f3 k1
    obtain ⟨q2, g3, g4⟩ := back j p' f4 k2
    exact r.inj i j b q1 q2 f1 f2 g1 g3 g2 g4
  · rcases split m q f2 with ⟨h1, h2⟩ | ⟨h1, h2⟩
    · subst h1
      rw [e1] at f1
      cases f1
      rw [h2]
      exact new
    · refine (r.ok m b q f1 h2).keep (Le.refl _) fun hk v e => ?_
      rw [upd_ne fun z => ?_]
      · exact e
      · exact h1 (r.inj m n b q o0 f1 (z ▸ e1) h2 e2 hk k0)
end

/-! ### what is wanted of a run -/
def XRel (ι : Io) (e : Exn) (d : Addr) (H : Hp) : Prop := ∃ fs, Paired (fun (p : Str × W) (q : Str × V) => p.1 = q.1 ∧ RelW ι p.2 q.2) e.fs fs ∧ H d = some (.xd fs)
section
variable {K : PySem.W.Frag} {Wx : WX} {α β : Type} {ι ι' : Io} {σ : St}
def Aft (K : PySem.W.Frag) (Wx : WX) (ι : Io) (σ : St) (r : Option (Rs α)) (k : Io → α → Hh → Prop) : Prop :=
  match r with
  | none => False
  | some (.ok a h) => ∀ ι', Le ι ι' → k ι' a h
  | some (.ex e h) => ∀ ι' H' d, Le ι ι' → R K ι' h H' → XRel ι' e d H' → Wx (.ref e.cls) (some d) σ H'
def bnd (r : Option (Rs α)) (g : α → Hh → Option (Rs β)) : Option (Rs β) :=
  match r with
  | none => none
  | some (.ok a h) => g a h
  | some (.ex e h) => some (.ex e h)
theorem Aft.mono {r : Option (Rs α)} {k : Io → α → Hh → Prop} (l : Le ι ι') (a : Aft K Wx ι σ r k) : Aft K Wx ι' σ r k := by
  match r, a with
  | some (.ok _ _), a => exact fun ι2 l2 => a ι2 (l.trans l2)
  | some (.ex _ _), a => exact fun ι2 H' d l2 => a ι2 H' d (l.trans l2)
theorem Aft.imp {r : Option (Rs α)} {k k' : Io → α → Hh → Prop} (a : Aft K Wx ι σ r k) (f : ∀ ι' x h, Le ι ι' → k ι' x h → k' ι' x h) : Aft K Wx ι σ r k' := by
  match r, a with
  | some (.ok _ _), a => exact fun ι2 l2 => f _ _ _ l2 (a ι2 l2)
  | some (.ex _ _), a => exact a
theorem Aft.bnd {r : Option (Rs α)} {g : α → Hh → Option (Rs β)} {k : Io → β → Hh → Prop} (a : Aft K Wx ι σ (Sp.bnd r g) k) : Aft K Wx ι σ r (fun ι1 x h => Aft K Wx ι1 σ (g x h) k) := by
  match r, a with
  | some (.ok x h), a => exact fun ι2 l2 => Aft.mono l2 (show Aft K Wx ι σ (g x h) k from a)
  | some (.ex _ _), a => exact a
theorem Aft.ok {x : α} {h : Hh} {k : Io → α → Hh → Prop} (a : Aft K Wx ι σ (some (.ok x h)) k) : k ι x h := a ι (Le.refl _)
end

abbrev KE (K : PySem.W.Frag) (Q : VK) : Io → W → Hh → Prop := fun ι w h => ∀ x H', RelW ι w x → R K ι h H' → Q x H'
abbrev KT (K : PySem.W.Frag) (Q : Bool → Hp → Prop) : Io → Bool → Hh → Prop := fun ι b h => ∀ H', R K ι h H' → Q b H'
abbrev KA (K : PySem.W.Frag) (Q : List V → Hp → Prop) : Io → List W → Hh → Prop := fun ι ws h => ∀ xs H', Rels ι ws xs → R K ι h H' → Q xs H'
def SndE (K : PySem.W.Frag) (Wx : WX) (f : FE) (t : TE) : Prop := ∀ σ0 h ι σ H Q, RS ι σ0 σ → R K ι h H → Aft K Wx ι σ (f σ0 h) (KE K Q) → t σ H Q
def SndT (K : PySem.W.Frag) (Wx : WX) (f : FT) (t : TT) : Prop := ∀ σ0 h ι σ H Q, RS ι σ0 σ → R K ι h H → Aft K Wx ι σ (f σ0 h) (KT K Q) → t σ H Q
def SndA (K : PySem.W.Frag) (Wx : WX) (f : FA) (t : TA) : Prop := ∀ σ0 h ι σ H Q, RS ι σ0 σ → R K ι h H → Aft K Wx ι σ (f σ0 h) (KA K Q) → t σ H Q
def SndO (K : PySem.W.Frag) (Wx : WX) (f : FO) (t : TO) : Prop := ∀ σ0 h ι σ H Q, RS ι σ0 σ → R K ι h H → Aft K Wx ι σ (f σ0 h) (fun ι o h => ∀ H', R K ι h H' → Q o H') → t σ H Q
structure CE (X : Cx) (Wx : WX) (e : Expr) (f : FE) (t : TE) : Prop where
  p : PE X e t
  s : SndE X.K Wx f t
structure CT (X : Cx) (Wx : WX) (e : Expr) (f : FT) (t : TT) : Prop where
  p : PT X e t
  s : SndT X.K Wx f t
structure CW (X : Cx) (Wx : WX) (e : Expr) (f : FT) (t : TT) : Prop where
  p : PW X e t
  s : SndT X.K Wx f t
structure CA (X : Cx) (Wx : WX) (es : List Expr) (f : FA) (t : TA) : Prop where
  p : PA X es t
  s : SndA X.K Wx f t
structure CO (X : Cx) (Wx : WX) (e : Option Expr) (f : FO) (t : TO) : Prop where
  p : PO X e t
  s : SndO X.K Wx f t
/-- operations by values -/
abbrev F2 := W → W → Hh → Option (W × Hh)
abbrev FC := List W → Hh → Option (W × Hh)
abbrev FM := W → List W → Hh → Option (W × Hh)
def Post (K : PySem.W.Frag) (ι : Io) (r : Option (W × Hh)) (Q : VK) : Prop :=
  match r with
  | none => False
  | some (w, h) => ∀ ι' x H', Le ι ι' → RelW ι' w x → R K ι' h H' → Q x H'
def SndR (K : PySem.W.Frag) (f : F2) (r : R2) : Prop := ∀ w u h ι x y H Q, RelW ι w x → RelW ι u y → R K ι h H → Post K ι (f w u h) Q → r x y H Q
def SndC (K : PySem.W.Frag) (f : FC) (r : List V → Hp → VK → Prop) : Prop := ∀ ws h ι xs H Q, Rels ι ws xs → R K ι h H → Post K ι (f ws h) Q → r xs H Q
def SndM (K : PySem.W.Frag) (f : FM) (r : V → List V → Hp → VK → Prop) : Prop := ∀ w ws h ι x xs H Q, RelW ι w x → Rels ι ws xs → R K ι h H → Post K ι (f w ws h) Q → r x xs H Q
def toRs : Option (W × Hh) → Option (Rs W)
  | none => none
  | some (w, h) => some (.ok w h)
theorem Post.of {K : PySem.W.Frag} {Wx : WX} {ι : Io} {σ : St} {Q : VK} : ∀ {r : Option (W × Hh)}, Aft K Wx ι σ (toRs r) (KE K Q) → Post K ι r Q
  | none, a => a
  | some (_, _), a => fun ι' x H' l rx r => a ι' l x H' rx r

section rules
variable {X : Cx} {Wx : WX} {a b c e : Expr} {es : List Expr} {fa fb fc fe : FE} {fA fB : FT} {fs : FA} {ta tb tc te : TE} {tA tB' : TT} {t : TA} {pos : Pos}
/-! ### names, constants -/
def fVar (i : Nat) : FE := fun σ h => match σ[i]? with
  | some (some w) => some (.ok w h)
  | _ => none
theorem c_var (i : Nat) {x : Str} (hN : X.N[i]? = some x := by rfl) (hv : Vis X.env.scope x := by first | exact Or.inl rfl | exact Or.inr (Or.inl rfl) | exact Or.inr (Or.inr rfl)) (hd : (x == ("__debug__" : Str)) = false := by decide)
    (hcd : (x == ("__classdict__" : Str)) = false := by decide) : CE X Wx (.Name x pos) (fVar i) (tVar i) := ⟨pe_var hN hv hd hcd, fun σ0 h ι σ H Q rs r q => by
  unfold fVar at q
  split at q
  · rename_i w e
    obtain ⟨x, e1, e2⟩ := rs.var e
    exact ⟨x, e1, q.ok x H e2 r⟩
  · exact q.elim⟩
def fC (w : W) : FE := fun _ h => some (.ok w h)
theorem snd_c {w : W} {v : V} (hw : ∀ ι, RelW ι w v) : SndE X.K Wx (fC w) (tC v) := fun σ0 h ι σ H Q rs r q => q.ok v H (hw ι) r
theorem c_int {i j} : CE X Wx (.Constant (.int i) j pos) (fC (.int i)) (tC (.int i)) := ⟨pe_int, snd_c fun _ => rfl⟩
theorem c_bl {i j} : CE X Wx (.Constant (.bool i) j pos) (fC (.bl i)) (tC (.bl i)) := ⟨pe_bl, snd_c fun _ => rfl⟩
theorem c_non {j} : CE X Wx (.Constant .none j pos) (fC .non) (tC .non) := ⟨pe_non, snd_c fun _ => rfl⟩
theorem c_str {x j} : CE X Wx (.Constant (.str x) j pos) (fC (.str x)) (tC (.str x)) := ⟨pe_str, snd_c fun _ => rfl⟩
theorem c_gint {x : Str} {i : Int} (hg : Gl X x) (hm : ∃ t, X.mg x = some (.int i t)) (hd : (x == ("__debug__" : Str)) = false := by decide) : CE X Wx (.Name x pos) (fC (.int i)) (tC (.int i)) := by
  obtain ⟨t, e⟩ := hm
  exact ⟨pe_glob hg e ⟨t, rfl⟩ hd, snd_c fun _ => rfl⟩
theorem c_gref {x : Str} {f : Addr} (hg : Gl X x) (hm : X.mg x = some (.ref f)) (hd : (x == ("__debug__" : Str)) = false := by decide) : CE X Wx (.Name x pos) (fC (.ka f)) (tC (.ref f)) :=
  ⟨pe_glob hg hm rfl hd, snd_c fun _ => rfl⟩
theorem c_bty {x : Str} {n : String} (hg : Gl X x) (hm : X.mg x = none) (hv : bootBuiltins x = some (.type n)) (hn : x ≠ "__name__" := by decide) (hd : (x == ("__debug__" : Str)) = false := by decide) : CE X Wx (.Name x pos) (fC (.ty n)) (tC (.ty n)) :=
  ⟨pe_bltn hg hm hv rfl hn hd, snd_c fun _ => rfl⟩

/-! ### operators -/
def fOp (op : F2) (fa fb : FE) : FE := fun σ h => bnd (fa σ h) fun x h1 => bnd (fb σ h1) fun y h2 => toRs (op x y h2)
theorem snd_op {op : F2} {r : R2} (hr : SndR X.K op r) (ha : SndE X.K Wx fa ta) (hb : SndE X.K Wx fb tb) : SndE X.K Wx (fOp op fa fb) (tOp r ta tb) := fun σ0 h ι σ H Q rs rh q =>
  ha σ0 h ι σ H _ rs rh (q.bnd.imp fun ι1 w h1 l1 q1 x H1 rx r1 =>
    hb σ0 h1 ι1 σ H1 _ (rs.mono l1) r1 (q1.bnd.imp fun ι2 u h2 l2 q2 y H2 ry r2 => hr w u h2 ι2 x y H2 Q (rx.mono l2) ry r2 (Post.of q2)))
theorem c_op {o : Operator} {op : F2} {r : R2} (ho : OpR X (binaryOp o) r) (hr : SndR X.K op r) (ha : CE X Wx a fa ta) (hb : CE X Wx b fb tb) : CE X Wx (.BinOp a o b pos) (fOp op fa fb) (tOp r ta tb) := ⟨pe_op ho ha.p hb.p, snd_op hr ha.s hb.s⟩
theorem c_cmp {o : CmpOp} {op : F2} {r : R2} (ho : OpR X (compareOp o) r) (hr : SndR X.K op r) (ha : CE X Wx a fa ta) (hb : CE X Wx b fb tb) (hm : behindInMarks o b = false := by first | exact nobehind _ (by decide) (by decide) | rfl) :
    CE X Wx (.Compare a [o] [b] pos) (fOp op fa fb) (tOp r ta tb) := ⟨pe_cmpR ho ha.p hb.p hm, snd_op hr ha.s hb.s⟩
def fUn (op : W → Option W) (fa : FE) : FE := fun σ h => bnd (fa σ h) fun x h1 => match op x with
  | none => none
  | some y => some (.ok y h1)
/-- ints -/
def oI (C : Int → Int → Bool) (g : Int → Int → W) : F2 := fun x y h => match x, y with
  | .int i, .int j => if C i j then some (g i j, h) else none
  | _, _ => none
theorem sr_I {K : PySem.W.Frag} {C : Int → Int → Bool} {C' : Int → Int → Prop} {g : Int → Int → W} {g' : Int → Int → V} (hC : ∀ i j, C i j = true → C' i j) (hg : ∀ ι i j, RelW ι (g i j) (g' i j)) : SndR K (oI C g) (rI C' g') := by
  intro w u h ι x y H Q rx ry r q
  unfold oI at q
  split at q
  · rename_i i j
    split at q
    · rename_i hc
      obtain rfl : x = .int i := rx
      obtain rfl : y = .int j := ry
      exact ⟨i, j, rfl, rfl, hC i j hc, q ι _ H (Le.refl _) (hg ι i j) r⟩
    · exact q.elim
  · exact q.elim
theorem sr_I0 {K : PySem.W.Frag} {g : Int → Int → W} {g' : Int → Int → V} (hg : ∀ ι i j, RelW ι (g i j) (g' i j)) : SndR K (oI (fun _ _ => true) g) (rI0 g') := by
  intro w u h ι x y H Q rx ry r q
  unfold oI at q
  split at q
  · rename_i i j
    obtain rfl : x = .int i := rx
    obtain rfl : y = .int j := ry
    exact ⟨i, j, rfl, rfl, q ι _ H (Le.refl _) (hg ι i j) r⟩
  · exact q.elim
def oAdd : F2 := oI (fun _ _ => true) fun i j => .int (i + j)
def oSub : F2 := oI (fun _ _ => true) fun i j => .int (i - j)
def mulOk (i j : Int) : Bool := decide (i.natAbs < 18446744073709551616) || decide (j.natAbs < 18446744073709551616) || decide (i.natAbs.log2 + j.natAbs.log2 < 1000000)
def oMul : F2 := oI mulOk fun i j => .int (i * j)
def oFdiv : F2 := oI (fun _ j => decide (0 < j) && decide (j.natAbs.log2 < 9000)) fun i j => .int (i / j)
def oMod : F2 := oI (fun _ j => decide (0 < j)) fun i j => .int (i % j)
def powOk (i j : Int) : Bool := decide (0 ≤ j) && decide (j ≤ 1000000) && decide (i.natAbs < 18446744073709551616)
def oPow : F2 := oI powOk fun i j => .int (i ^ j.toNat)
def oShl : F2 := oI powOk fun i j => .int (i * 2 ^ j.toNat)
def oShr : F2 := oI (fun _ j => decide (0 ≤ j)) fun i j => .int (i / 2 ^ j.toNat)
def oAnd : F2 := oI (fun _ _ => true) fun i j => .int (Builtin.bitAnd i j)
def oLt : F2 := oI (fun _ _ => true) fun i j => .bl (decide (i < j))
def oLe : F2 := oI (fun _ _ => true) fun i j => .bl (decide (i ≤ j))
def oGt : F2 := oI (fun _ _ => true) fun i j => .bl (decide (j < i))
def oGe : F2 := oI (fun _ _ => true) fun i j => .bl (decide (j ≤ i))
def CMulA (i j : Int) : Prop := CMul i j ∨ CMulW i j
theorem op_mulA : OpR X (binaryOp .Mult) (rI CMulA fun i j => .int (i * j)) := opI fun _ _ _ _ _ _ _ hc q => PyProof.Rows.mul_int q (by
  rcases hc with hc | hc
  · exact hc.ok
  · exact hc.ok)
theorem c_add (ha : CE X Wx a fa ta) (hb : CE X Wx b fb tb) : CE X Wx (.BinOp a .Add b pos) (fOp oAdd fa fb) (tOp (rI0 fun i j => .int (i + j)) ta tb) := c_op op_add (sr_I0 fun _ _ _ => rfl) ha hb
theorem c_sub (ha : CE X Wx a fa ta) (hb : CE X Wx b fb tb) : CE X Wx (.BinOp a .Sub b pos) (fOp oSub fa fb) (tOp (rI0 fun i j => .int (i - j)) ta tb) := c_op op_sub (sr_I0 fun _ _ _ => rfl) ha hb
theorem mulOk_A {i j : Int} (h : mulOk i j = true) : CMulA i j := by
  unfold mulOk at h
  simp only [Bool.or_eq_true, decide_eq_true_eq] at h
  rcases h with (h | h) | h
  · exact .inl (.inl ⟨by omega, by omega⟩)
  · exact .inl (.inr ⟨by omega, by omega⟩)
  · exact .inr h
theorem c_mul (ha : CE X Wx a fa ta) (hb : CE X Wx b fb tb) : CE X Wx (.BinOp a .Mult b pos) (fOp oMul fa fb) (tOp (rI CMulA fun i j => .int (i * j)) ta tb) := c_op op_mulA (sr_I (fun _ _ h => mulOk_A h) fun _ _ _ => rfl) ha hb
theorem c_fdiv (ha : CE X Wx a fa ta) (hb : CE X Wx b fb tb) : CE X Wx (.BinOp a .FloorDiv b pos) (fOp oFdiv fa fb) (tOp (rI CDivW fun i j => .int (i / j)) ta tb) := c_op op_fdivW (sr_I (fun _ _ h => by
  rw [Bool.and_eq_true, decide_eq_true_eq, decide_eq_true_eq] at h
  exact h) fun _ _ _ => rfl) ha hb
theorem c_mod (ha : CE X Wx a fa ta) (hb : CE X Wx b fb tb) : CE X Wx (.BinOp a .Mod b pos) (fOp oMod fa fb) (tOp (rI (fun _ j => 0 < j) fun i j => .int (i % j)) ta tb) := c_op op_mod (sr_I (fun _ _ h => of_decide_eq_true h) fun _ _ _ => rfl) ha hb
theorem powOk_A {i j : Int} (h : powOk i j = true) : CPow i j := by
  simp only [powOk, Bool.and_eq_true, decide_eq_true_eq] at h
  exact ⟨h.1.1, h.1.2, h.2⟩
theorem c_pow (ha : CE X Wx a fa ta) (hb : CE X Wx b fb tb) : CE X Wx (.BinOp a .Pow b pos) (fOp oPow fa fb) (tOp (rI CPow fun i j => .int (i ^ j.toNat)) ta tb) := c_op op_pow (sr_I (fun _ _ h => powOk_A h) fun _ _ _ => rfl) ha hb
theorem c_shl (ha : CE X Wx a fa ta) (hb : CE X Wx b fb tb) : CE X Wx (.BinOp a .LShift b pos) (fOp oShl fa fb) (tOp (rI CPow fun i j => .int (i * 2 ^ j.toNat)) ta tb) := c_op op_shl (sr_I (fun _ _ h => powOk_A h) fun _ _ _ => rfl) ha hb
theorem c_shr (ha : CE X Wx a fa ta) (hb : CE X Wx b fb tb) : CE X Wx (.BinOp a .RShift b pos) (fOp oShr fa fb) (tOp (rI (fun _ j => 0 ≤ j) fun i j => .int (i / 2 ^ j.toNat)) ta tb) := c_op op_shr (sr_I (fun _ _ h => of_decide_eq_true h) fun _ _ _ => rfl) ha hb
theorem c_and (ha : CE X Wx a fa ta) (hb : CE X Wx b fb tb) : CE X Wx (.BinOp a .BitAnd b pos) (fOp oAnd fa fb) (tOp (rI0 fun i j => .int (Builtin.bitAnd i j)) ta tb) := c_op op_and (sr_I0 fun _ _ _ => rfl) ha hb
theorem c_lt (ha : CE X Wx a fa ta) (hb : CE X Wx b fb tb) : CE X Wx (.Compare a [.Lt] [b] pos) (fOp oLt fa fb) (tOp (rI0 fun i j => .bl (decide (i < j))) ta tb) := c_cmp op_lt (sr_I0 fun _ _ _ => rfl) ha hb
theorem c_le (ha : CE X Wx a fa ta) (hb : CE X Wx b fb tb) : CE X Wx (.Compare a [.LtE] [b] pos) (fOp oLe fa fb) (tOp (rI0 fun i j => .bl (decide (i ≤ j))) ta tb) := c_cmp op_le (sr_I0 fun _ _ _ => rfl) ha hb
theorem c_gt (ha : CE X Wx a fa ta) (hb : CE X Wx b fb tb) : CE X Wx (.Compare a [.Gt] [b] pos) (fOp oGt fa fb) (tOp (rI0 fun i j => .bl (decide (j < i))) ta tb) := c_cmp op_gt (sr_I0 fun _ _ _ => rfl) ha hb
theorem c_ge (ha : CE X Wx a fa ta) (hb : CE X Wx b fb tb) : CE X Wx (.Compare a [.GtE] [b] pos) (fOp oGe fa fb) (tOp (rI0 fun i j => .bl (decide (j ≤ i))) ta tb) := c_cmp op_ge (sr_I0 fun _ _ _ => rfl) ha hb
def uNeg : W → Option W
  | .int i => some (.int (-i))
  | _ => none
theorem c_neg (ha : CE X Wx a fa ta) : CE X Wx (.UnaryOp .USub a pos) (fUn uNeg fa) (tUn (rU fun i => .int (-i)) ta) := ⟨pe_un un_neg ha.p, fun σ0 h ι σ H Q rs rh q =>
  ha.s σ0 h ι σ H _ rs rh (q.bnd.imp fun ι1 w h1 l1 q1 x H1 rx r1 => by
    cases w with
    | int i =>
      obtain rfl : x = .int i := rx
      exact ⟨i, rfl, q1.ok _ H1 rfl r1⟩
    | _ => exact q1.elim)⟩
end rules
end Sp
set_option Elab.async false
set_option linter.all false
set_option maxRecDepth 100000
set_option maxHeartbeats 1250000
namespace Sp
open PySem L2
/-! ### lists, tuples as they are read -/
def lstOf (h : Hh) (n : Nat) : Option (List W) := match h[n]? with
  | some (.lst ws) => some ws
  | some (.scr ns) => some (ns.map W.int)
  | some (.ksc ns) => some (ns.map W.int)
  | _ => none
def tupOf (h : Hh) (n : Nat) : Option (List W) := match h[n]? with
  | some (.tup ws) => some ws
  | _ => none
theorem rels_ints {ι : Io} (ns : List Int) : Rels ι (ns.map W.int) (ns.map V.int) := pr_map (F := RelW ι) (f := W.int) (g := V.int) (fun _ => rfl) ns
section
variable {K : PySem.W.Frag} {H : Hp} {ι : Io} {h : Hh} {n : Nat} {ws : List W}
theorem R.lst (r : R K ι h H) (e : lstOf h n = some ws) : ∃ a xs, ι[n]? = some a ∧ Rels ι ws xs ∧ SqL K H a xs := by
  unfold lstOf at e
  split at e
  · rename_i us he
    cases e
    obtain ⟨a, ha, xs, q, hx⟩ := r.get he
    exact ⟨a, xs, ha, q, .inl (.inl hx)⟩
  · rename_i ns he
    cases e
    obtain ⟨a, ha, o, hx⟩ := r.get he
    exact ⟨a, _, ha, rels_ints ns, .inl (.inr ⟨o, hx⟩)⟩
  · rename_i ns he
    cases e
    obtain ⟨a, ha, hx⟩ := r.get he
    exact ⟨a, _, ha, rels_ints ns, .inr hx⟩
  · cases e
theorem R.tup (r : R K ι h H) (e : tupOf h n = some ws) : ∃ a xs, ι[n]? = some a ∧ Rels ι ws xs ∧ H a = some (.tup xs) := by
  unfold tupOf at e
  split at e
  · rename_i us he
    cases e
    obtain ⟨a, ha, xs, q, hx⟩ := r.get he
    exact ⟨a, xs, ha, q, hx⟩
  · cases e
theorem R.ml (r : R K ι h H) (e : h[n]? = some (.lst ws)) : ∃ a xs, ι[n]? = some a ∧ Rels ι ws xs ∧ H a = some (.lst xs) := by
  obtain ⟨a, ha, xs, q, hx⟩ := r.get e
  exact ⟨a, xs, ha, q, hx⟩
end

section rules
variable {X : Cx} {Wx : WX} {a b c e : Expr} {es : List Expr} {fa fb fc fe : FE} {fA fB : FT} {fs : FA} {ta tb tc te : TE} {tA tB' : TT} {t : TA} {pos : Pos}
/-! ### tests -/
def asB : W → Hh → Option (Rs Bool)
  | .bl b, h => some (.ok b h)
  | _, _ => none
def fTest (fe : FE) : FT := fun σ h => bnd (fe σ h) asB
theorem snd_test {t : TE} (h : SndE X.K Wx fe t) : SndT X.K Wx (fTest fe) (tTest t) := fun σ0 hh ι σ H Q rs r q =>
  h σ0 hh ι σ H _ rs r (q.bnd.imp fun ι1 w h1 l1 q1 x H1 rx r1 => by
    cases w with
    | bl k =>
      obtain rfl : x = .bl k := rx
      exact ⟨k, rfl, q1.ok H1 r1⟩
    | _ => exact q1.elim)
theorem ct_cmp {o : CmpOp} {op : F2} {r : R2} (ho : OpR X (compareOp o) r) (hr : SndR X.K op r) (ha : CE X Wx a fa ta) (hb : CE X Wx b fb tb) (hm : behindInMarks o b = false := by first | exact nobehind _ (by decide) (by decide) | rfl) :
    CT X Wx (.Compare a [o] [b] pos) (fTest (fOp op fa fb)) (tTest (tOp r ta tb)) := ⟨pt_cmpR ho ha.p hb.p hm, snd_test (snd_op hr ha.s hb.s)⟩
theorem ct_val (h : CE X Wx e fe te) (he : ∀ whole, isTrue e X.env whole = (do let v ← whole; standAt e.pos; holding [v] (truthy v)) := by intro _; rfl) : CT X Wx e (fTest fe) (tB te) := ⟨pt_val h.p he, snd_test h.s⟩
theorem ct_lt (ha : CE X Wx a fa ta) (hb : CE X Wx b fb tb) : CT X Wx (.Compare a [.Lt] [b] pos) (fTest (fOp oLt fa fb)) (tTest (tOp (rI0 fun i j => .bl (decide (i < j))) ta tb)) := ct_cmp op_lt (sr_I0 fun _ _ _ => rfl) ha hb
theorem ct_le (ha : CE X Wx a fa ta) (hb : CE X Wx b fb tb) : CT X Wx (.Compare a [.LtE] [b] pos) (fTest (fOp oLe fa fb)) (tTest (tOp (rI0 fun i j => .bl (decide (i ≤ j))) ta tb)) := ct_cmp op_le (sr_I0 fun _ _ _ => rfl) ha hb
theorem ct_gt (ha : CE X Wx a fa ta) (hb : CE X Wx b fb tb) : CT X Wx (.Compare a [.Gt] [b] pos) (fTest (fOp oGt fa fb)) (tTest (tOp (rI0 fun i j => .bl (decide (j < i))) ta tb)) := ct_cmp op_gt (sr_I0 fun _ _ _ => rfl) ha hb
theorem ct_ge (ha : CE X Wx a fa ta) (hb : CE X Wx b fb tb) : CT X Wx (.Compare a [.GtE] [b] pos) (fTest (fOp oGe fa fb)) (tTest (tOp (rI0 fun i j => .bl (decide (j ≤ i))) ta tb)) := ct_cmp op_ge (sr_I0 fun _ _ _ => rfl) ha hb
def fNot (fA : FT) : FT := fun σ h => bnd (fA σ h) fun b h1 => some (.ok (!b) h1)
theorem ct_not (h : CT X Wx a fA tA) : CT X Wx (.UnaryOp .Not a pos) (fNot fA) (tNot tA) := ⟨pt_not h.p, fun σ0 hh ι σ H Q rs r q =>
  h.s σ0 hh ι σ H _ rs r (q.bnd.imp fun ι1 b h1 l1 q1 H1 r1 => q1.ok H1 r1)⟩
def fAnd (fA fB : FT) : FT := fun σ h => bnd (fA σ h) fun b h1 => if b then fB σ h1 else some (.ok false h1)
def fOr (fA fB : FT) : FT := fun σ h => bnd (fA σ h) fun b h1 => if b then some (.ok true h1) else fB σ h1
theorem snd_and {u : TT} (hA : SndT X.K Wx fA tA) (hB : SndT X.K Wx fB u) : SndT X.K Wx (fAnd fA fB) (tAnd tA u) := fun σ0 hh ι σ H Q rs r q =>
  hA σ0 hh ι σ H _ rs r (q.bnd.imp fun ι1 b h1 l1 q1 H1 r1 => by
    cases b with
    | true => exact hB σ0 h1 ι1 σ H1 Q (rs.mono l1) r1 q1
    | false => exact q1.ok H1 r1)
theorem snd_or {u : TT} (hA : SndT X.K Wx fA tA) (hB : SndT X.K Wx fB u) : SndT X.K Wx (fOr fA fB) (tOr tA u) := fun σ0 hh ι σ H Q rs r q =>
  hA σ0 hh ι σ H _ rs r (q.bnd.imp fun ι1 b h1 l1 q1 H1 r1 => by
    cases b with
    | false => exact hB σ0 h1 ι1 σ H1 Q (rs.mono l1) r1 q1
    | true => exact q1.ok H1 r1)
theorem cw_and1 (h : CT X Wx a fA tA) : CW X Wx (.BoolOp .And [a] pos) fA tA := ⟨pw_and1 h.p, h.s⟩
theorem cw_or1 (h : CT X Wx a fA tA) : CW X Wx (.BoolOp .Or [a] pos) fA tA := ⟨pw_or1 h.p, h.s⟩
theorem cw_and {rest : List Expr} (ha : CT X Wx a fA tA) (hb : CW X Wx (.BoolOp .And (b :: rest) pos) fB tB') : CW X Wx (.BoolOp .And (a :: b :: rest) pos) (fAnd fA fB) (tAnd tA tB') := ⟨pw_and ha.p hb.p, snd_and ha.s hb.s⟩
theorem cw_or {rest : List Expr} (ha : CT X Wx a fA tA) (hb : CW X Wx (.BoolOp .Or (b :: rest) pos) fB tB') : CW X Wx (.BoolOp .Or (a :: b :: rest) pos) (fOr fA fB) (tOr tA tB') := ⟨pw_or ha.p hb.p, snd_or ha.s hb.s⟩
theorem CW.ct (h : CW X Wx a fA tA) : CT X Wx a fA tA := ⟨h.p.pt, h.s⟩
/-- as values -/
def fAndV (fa fb : FE) : FE := fun σ h => bnd (fa σ h) fun x h1 => match x with
  | .bl true => fb σ h1
  | .bl false => some (.ok (.bl false) h1)
  | _ => none
def fOrV (fa fb : FE) : FE := fun σ h => bnd (fa σ h) fun x h1 => match x with
  | .bl false => fb σ h1
  | .bl true => some (.ok (.bl true) h1)
  | _ => none
theorem c_one {op : BoolOp} (ha : CE X Wx a fa ta) : CE X Wx (.BoolOp op [a] pos) fa ta := ⟨pe_one ha.p, ha.s⟩
theorem c_andV {rest : List Expr} (ha : CE X Wx a fa ta) (hb : CE X Wx (.BoolOp .And (b :: rest) pos) fb tb) : CE X Wx (.BoolOp .And (a :: b :: rest) pos) (fAndV fa fb) (tAndV ta tb) := ⟨pe_and ha.p hb.p, fun σ0 hh ι σ H Q rs r q =>
  ha.s σ0 hh ι σ H _ rs r (q.bnd.imp fun ι1 w h1 l1 q1 x H1 rx r1 => by
    cases w with
    | bl k =>
      obtain rfl : x = .bl k := rx
      refine ⟨k, rfl, ?_⟩
      cases k with
      | true => exact hb.s σ0 h1 ι1 σ H1 Q (rs.mono l1) r1 q1
      | false => exact q1.ok (.bl false) H1 rfl r1
    | _ => exact q1.elim)⟩
theorem c_orV {rest : List Expr} (ha : CE X Wx a fa ta) (hb : CE X Wx (.BoolOp .Or (b :: rest) pos) fb tb) : CE X Wx (.BoolOp .Or (a :: b :: rest) pos) (fOrV fa fb) (tOrV ta tb) := ⟨pe_or ha.p hb.p, fun σ0 hh ι σ H Q rs r q =>
  ha.s σ0 hh ι σ H _ rs r (q.bnd.imp fun ι1 w h1 l1 q1 x H1 rx r1 => by
    cases w with
    | bl k =>
      obtain rfl : x = .bl k := rx
      refine ⟨k, rfl, ?_⟩
      cases k with
      | false => exact hb.s σ0 h1 ι1 σ H1 Q (rs.mono l1) r1 q1
      | true => exact q1.ok (.bl true) H1 rfl r1
    | _ => exact q1.elim)⟩
def uNot : W → Option W
  | .bl b => some (.bl (!b))
  | _ => none
theorem c_notV (ha : CE X Wx a fa ta) : CE X Wx (.UnaryOp .Not a pos) (fUn uNot fa) (tNotV ta) := ⟨pe_not ha.p, fun σ0 h ι σ H Q rs rh q =>
  ha.s σ0 h ι σ H _ rs rh (q.bnd.imp fun ι1 w h1 l1 q1 x H1 rx r1 => by
    cases w with
    | bl i =>
      obtain rfl : x = .bl i := rx
      exact ⟨i, rfl, q1.ok _ H1 rfl r1⟩
    | _ => exact q1.elim)⟩
def fIf (fA : FT) (fa fb : FE) : FE := fun σ h => bnd (fA σ h) fun b h1 => if b then fa σ h1 else fb σ h1
theorem c_if (hc : CT X Wx c fA tA) (ha : CE X Wx a fa ta) (hb : CE X Wx b fb tb) : CE X Wx (.IfExp c a b pos) (fIf fA fa fb) (tIf tA ta tb) := ⟨pe_ifExp hc.p ha.p hb.p, fun σ0 hh ι σ H Q rs r q =>
  hc.s σ0 hh ι σ H _ rs r (q.bnd.imp fun ι1 k h1 l1 q1 H1 r1 => by
    cases k with
    | true => exact ha.s σ0 h1 ι1 σ H1 Q (rs.mono l1) r1 q1
    | false => exact hb.s σ0 h1 ι1 σ H1 Q (rs.mono l1) r1 q1)⟩
/-- a < b < c -/
def fChain (op op' : F2) (fa fb fc : FE) : FE := fun σ h => bnd (fa σ h) fun x h1 => bnd (fb σ h1) fun y h2 => bnd (toRs (op x y h2)) fun z h3 => match z with
  | .bl true => bnd (fc σ h3) fun w h4 => toRs (op' y w h4)
  | .bl false => some (.ok (.bl false) h3)
  | _ => none
theorem snd_chain {op op' : F2} {r r' : R2} (hr : SndR X.K op r) (hr' : SndR X.K op' r') (ha : SndE X.K Wx fa ta) (hb : SndE X.K Wx fb tb) (hc : SndE X.K Wx fc tc) : SndE X.K Wx (fChain op op' fa fb fc) (tChain r r' ta tb tc) := fun σ0 h ι σ H Q rs rh q =>
  ha σ0 h ι σ H _ rs rh (q.bnd.imp fun ι1 w h1 l1 q1 x H1 rx r1 =>
    hb σ0 h1 ι1 σ H1 _ (rs.mono l1) r1 (q1.bnd.imp fun ι2 u h2 l2 q2 y H2 ry r2 => hr w u h2 ι2 x y H2 _ (rx.mono l2) ry r2 (Post.of (q2.bnd.imp fun ι3 z h3 l3 q3 zv H3 rz r3 => by
      cases z with
      | bl k =>
        obtain rfl : zv = .bl k := rz
        refine ⟨k, rfl, ?_⟩
        cases k with
        | true => exact hc σ0 h3 ι3 σ H3 _ (rs.mono (l1.trans (l2.trans l3))) r3 (q3.bnd.imp fun ι4 v h4 l4 q4 xv H4 rv r4 => hr' u v h4 ι4 y xv H4 Q (ry.mono (l3.trans l4)) rv r4 (Post.of q4))
        | false => exact q3.ok (.bl false) H3 rfl r3
      | _ => exact q3.elim))))
theorem c_chain {o o' : CmpOp} {op op' : F2} {r r' : R2} (ho : OpR X (compareOp o) r) (ho' : OpR X (compareOp o') r') (hr : SndR X.K op r) (hr' : SndR X.K op' r') (ha : CE X Wx a fa ta) (hb : CE X Wx b fb tb) (hc : CE X Wx c fc tc) (hm : lastMarks [o, o'] [b, c] = false := by with_unfolding_all rfl) :
    CE X Wx (.Compare a [o, o'] [b, c] pos) (fChain op op' fa fb fc) (tChain r r' ta tb tc) := ⟨pe_chain ho ho' ha.p hb.p hc.p hm, snd_chain hr hr' ha.s hb.s hc.s⟩
theorem ct_chain {o o' : CmpOp} {op op' : F2} {r r' : R2} (ho : OpR X (compareOp o) r) (ho' : OpR X (compareOp o') r') (hr : SndR X.K op r) (hr' : SndR X.K op' r') (ha : CE X Wx a fa ta) (hb : CE X Wx b fb tb) (hc : CE X Wx c fc tc) (hm : lastMarks [o, o'] [b, c] = false := by with_unfolding_all rfl) :
    CT X Wx (.Compare a [o, o'] [b, c] pos) (fTest (fChain op op' fa fb fc)) (tTest (tChain r r' ta tb tc)) := ⟨pt_chain ho ho' ha.p hb.p hc.p hm, snd_test (snd_chain hr hr' ha.s hb.s hc.s)⟩
theorem c_lele (ha : CE X Wx a fa ta) (hb : CE X Wx b fb tb) (hc : CE X Wx c fc tc) (hm : lastMarks [.LtE, .LtE] [b, c] = false := by with_unfolding_all rfl) : CE X Wx (.Compare a [.LtE, .LtE] [b, c] pos) (fChain oLe oLe fa fb fc) (tChain (rI0 fun i j => .bl (decide (i ≤ j))) (rI0 fun i j => .bl (decide (i ≤ j))) ta tb tc) :=
  c_chain op_le op_le (sr_I0 fun _ _ _ => rfl) (sr_I0 fun _ _ _ => rfl) ha hb hc hm
theorem ct_lele (ha : CE X Wx a fa ta) (hb : CE X Wx b fb tb) (hc : CE X Wx c fc tc) (hm : lastMarks [.LtE, .LtE] [b, c] = false := by with_unfolding_all rfl) : CT X Wx (.Compare a [.LtE, .LtE] [b, c] pos) (fTest (fChain oLe oLe fa fb fc)) (tTest (tChain (rI0 fun i j => .bl (decide (i ≤ j))) (rI0 fun i j => .bl (decide (i ≤ j))) ta tb tc)) :=
  ct_chain op_le op_le (sr_I0 fun _ _ _ => rfl) (sr_I0 fun _ _ _ => rfl) ha hb hc hm

/-! ### argument lists, displays -/
def fNil : FA := fun _ h => some (.ok [] h)
def fCons (fe : FE) (fs : FA) : FA := fun σ h => bnd (fe σ h) fun x h1 => bnd (fs σ h1) fun xs h2 => some (.ok (x :: xs) h2)
theorem ca_nil : CA X Wx [] fNil tNil := ⟨pa_nil, fun σ0 h ι σ H Q rs r q => q.ok [] H .nil r⟩
theorem snd_cons (he : SndE X.K Wx fe te) (hr : SndA X.K Wx fs t) : SndA X.K Wx (fCons fe fs) (tCons te t) := fun σ0 h ι σ H Q rs rh q =>
  he σ0 h ι σ H _ rs rh (q.bnd.imp fun ι1 w h1 l1 q1 x H1 rx r1 => hr σ0 h1 ι1 σ H1 _ (rs.mono l1) r1 (q1.bnd.imp fun ι2 us h2 l2 q2 xs H2 rxs r2 => q2.ok (x :: xs) H2 (.cons (rx.mono l2) rxs) r2))
theorem ca_cons (he : CE X Wx e fe te) (hr : CA X Wx es fs t) (hs : starEach (e :: es) X.env = (false, eval e X.env) :: starEach es X.env := by rfl) : CA X Wx (e :: es) (fCons fe fs) (tCons te t) := ⟨pa_cons he.p hr.p hs, snd_cons he.s hr.s⟩
def LIM : Nat := 16777216
theorem lim_le {n : Nat} (h : n ≤ LIM) : n ≤ sizeLine := by rw [sizeLine_eq]; exact h
theorem lim_lt {n : Nat} (h : n < LIM) : n < sizeLine := by rw [sizeLine_eq]; exact h
def al (o : O) (h : Hh) : W × Hh := (.ref h.length, h ++ [o])
theorem ref_new {K : PySem.W.Frag} {ι : Io} {h : Hh} {H : Hp} {p : Addr} (r : R K ι h H) : RelW (ι ++ [p]) (.ref h.length) (.ref p) := ⟨p, by rw [io_app, ← r.len]; show (ι.as ++ [p])[ι.as.length]? = some p; simp, rfl⟩
def fLst (fs : FA) : FE := fun σ h => bnd (fs σ h) fun xs h1 => if xs.length ≤ LIM then some (.ok (.ref h1.length) (h1 ++ [.lst xs])) else none
def fTup (fs : FA) : FE := fun σ h => bnd (fs σ h) fun xs h1 => if xs.length ≤ LIM then some (.ok (.ref h1.length) (h1 ++ [.tup xs])) else none
theorem R.newL {K : PySem.W.Frag} {ι : Io} {h : Hh} {H : Hp} {p : Addr} {ws : List W} {xs : List V} (r : R K ι h H) (hp : H p = none) (q : Rels ι ws xs) : R K (ι ++ [p]) (h ++ [.lst ws]) (upd H p (.lst xs)) :=
  r.alloc hp rfl ⟨xs, q.mono (Le.app _ _), upd_same⟩
theorem R.newT {K : PySem.W.Frag} {ι : Io} {h : Hh} {H : Hp} {p : Addr} {ws : List W} {xs : List V} (r : R K ι h H) (hp : H p = none) (q : Rels ι ws xs) : R K (ι ++ [p]) (h ++ [.tup ws]) (upd H p (.tup xs)) :=
  r.alloc hp rfl ⟨xs, q.mono (Le.app _ _), upd_same⟩
theorem c_lst (h : CA X Wx es fs t) : CE X Wx (.List es pos) (fLst fs) (tLst t) := ⟨pe_lst h.p, fun σ0 hh ι σ H Q rs r q =>
  h.s σ0 hh ι σ H _ rs r (q.bnd.imp fun ι1 ws h1 l1 q1 xs H1 rx r1 => by
    split at q1
    · rename_i hl
      exact ⟨lim_le (by rw [← Paired.length rx]; exact hl), fun p hp => q1 _ (Le.app _ p) _ _ (ref_new r1) (r1.newL hp rx)⟩
    · exact q1.elim)⟩
theorem c_tup {x1} (h : CA X Wx es fs t) : CE X Wx (.Tuple es x1 pos) (fTup fs) (tTup t) := ⟨pe_tup h.p, fun σ0 hh ι σ H Q rs r q =>
  h.s σ0 hh ι σ H _ rs r (q.bnd.imp fun ι1 ws h1 l1 q1 xs H1 rx r1 => by
    split at q1
    · rename_i hl
      exact ⟨lim_le (by rw [← Paired.length rx]; exact hl), fun p hp => q1 _ (Le.app _ p) _ _ (ref_new r1) (r1.newT hp rx)⟩
    · exact q1.elim)⟩

/-! ### calls of defs -/
abbrev FN := List W → Hh → Option (Rs W)
def spOf (K : PySem.W.Frag) (m : FN) : L2.Sp := fun vs H Q E => ∃ ι h ws, Rels ι ws vs ∧ R K ι h H ∧ Aft K (fun c d _ H => E c d H) ι [] (m ws h) (KE K Q)
theorem aft_wx {K : PySem.W.Frag} {Wx Wx' : WX} {α : Type} {ι : Io} {σ σ' : St} {r : Option (Rs α)} {k : Io → α → Hh → Prop} (hw : ∀ c d H, Wx c d σ H → Wx' c d σ' H) (a : Aft K Wx ι σ r k) : Aft K Wx' ι σ' r k := by
  match r, a with
  | some (.ok _ _), a => exact a
  | some (.ex _ _), a => exact fun ι' H' d l r x => hw _ _ _ (a ι' H' d l r x)
def fCall (m : FN) (dvs : List W) (fs : FA) : FE := fun σ h => bnd (fs σ h) fun ws h1 => m (ws ++ dvs) h1
theorem c_call {k : Nat} {f : Addr} {fd : FuncData} {ps : List Str} {m : FN} {dws : List W} {dvs : List V} {ds : List Value} {x : Str} {p : Pos} {K : PySem.W.Frag} (F : FnOk X.prog X.w X.K X.mg X.base (L2.CX X.prog X.w) k f fd ps (spOf K m)) (hr : Room k X.A)
    (hg : Gl X x) (hm : X.mg x = some (.ref f)) (hk : PySem.W.keepIn X.K (.ref f) = true) (hb : Binds X.K fd ps ds) (hd : Vals dvs ds) (hdw : ∀ ι, Rels ι dws dvs) (hx : ∀ σ, PassesAt (L2.CX X.prog X.w) X σ (WE Wx σ))
    (ha : CA X Wx (e :: es) fs t) (hdb : (x == ("__debug__" : Str)) = false := by decide) (he : starEach (e :: es) X.env = (false, eval e X.env) :: starEach es X.env := by rfl) (hpl : (backTo pos (starEach es X.env)).any (·.1) = false := by rfl) (hK : X.K = K := by rfl) :
    CE X Wx (.Call (.Name x p) (e :: es) [] pos) (fCall m dws fs) (tCallSD (spOf K m) dvs (WE Wx) t) := by
  subst hK
  exact ⟨pe_callSD F hr hg hm hk hb hd hx ha.p hdb he hpl, fun σ0 h ι σ H Q rs r q =>
  ha.s σ0 h ι σ H _ rs r (q.bnd.imp fun ι1 ws h1 l1 q1 xs H1 rxs r1 => ⟨ι1, h1, ws ++ dws, pr_app rxs (hdw ι1), r1, aft_wx (fun _ _ _ z => z) q1⟩)⟩
/-- f(e, .., k = v) -/
def fCallK (m : FN) (gW : List W → List W → List W) (fs gs : FA) : FE := fun σ h => bnd (fs σ h) fun ws h1 => bnd (gs σ h1) fun us h2 => m (gW ws us) h2
structure CK (X : Cx) (Wx : WX) (kws : List Keyword) (f : FA) (t : TA) : Prop where
  p : PK X kws t
  s : SndA X.K Wx f t
theorem ck_nil : CK X Wx [] fNil tNil := ⟨pk_nil, fun σ0 h ι σ H Q rs r q => q.ok [] H .nil r⟩
theorem ck_cons {nm : Option Str} {kpos : Pos} {kws : List Keyword} (he : CE X Wx e fe te) (hr : CK X Wx kws fs t) : CK X Wx (⟨nm, e, kpos⟩ :: kws) (fCons fe fs) (tCons te t) := ⟨pk_cons he.p hr.p, snd_cons he.s hr.s⟩
theorem c_callK (E : XK) {k : Nat} {f : Addr} {fd : FuncData} {ps ks : List Str} {m : FN} {g : List Value → List Value → List Value} {gV : List V → List V → List V} {gW : List W → List W → List W} {kws : List Keyword} {fk : FA} {tk : TA} {x : Str} {p : Pos} {K : PySem.W.Frag} (F : FnOk X.prog X.w X.K X.mg X.base (L2.CX X.prog X.w) k f fd ps (spOf K m)) (hr : Room k X.A)
    (hg : Gl X x) (hm : X.mg x = some (.ref f)) (hk : PySem.W.keepIn X.K (.ref f) = true) (hb : KBinds X.K fd ps ks g gV) (hgW : ∀ ι ws us xs ys, Rels ι ws xs → Rels ι us ys → Rels ι (gW ws us) (gV xs ys))
    (hx : Passes (L2.CX X.prog X.w) X E) (hE : ∀ c d σ H, Wx c d σ H → E c d H) (ha : CA X Wx (e :: es) fs t) (hkw : CK X Wx kws fk tk)
    (hall : (backToKw pos (keywordEach kws X.env)).all (·.1.isSome) = true := by rfl) (hks : (backToKw pos (keywordEach kws X.env)).filterMap (·.1) = ks := by rfl) (hdb : (x == ("__debug__" : Str)) = false := by decide) (he : starEach (e :: es) X.env = (false, eval e X.env) :: starEach es X.env := by rfl)
    (hpl : ((backTo pos (starEach (e :: es) X.env)).any (·.1) || (backToKw pos (keywordEach kws X.env)).any (·.1.isNone)) = false := by rfl) (hK : X.K = K := by rfl) :
    CE X Wx (.Call (.Name x p) (e :: es) kws pos) (fCallK m gW fs fk) (tCallK (spOf K m) gV E t tk) := by
  subst hK
  exact ⟨pe_callK F hr hg hm hk hb hx ha.p hkw.p hall hks hdb he hpl, fun σ0 h ι σ H Q rs r q =>
  ha.s σ0 h ι σ H _ rs r (q.bnd.imp fun ι1 ws h1 l1 q1 xs H1 rxs r1 => hkw.s σ0 h1 ι1 σ H1 _ (rs.mono l1) r1 (q1.bnd.imp fun ι2 us h2 l2 q2 ys H2 rys r2 =>
    ⟨ι2, h2, gW ws us, hgW ι2 ws us xs ys (rxs.mono l2) rys, r2, aft_wx (fun _ _ _ z => hE _ _ _ _ z) q2⟩))⟩

/-! ### calls of built-ins -/
def fCB (fc : FC) (fs : FA) : FE := fun σ h => bnd (fs σ h) fun ws h1 => toRs (fc ws h1)
theorem snd_cb {rc : FC} {r : List V → Hp → VK → Prop} (hr : SndC X.K rc r) (hs : SndA X.K Wx fs t) : SndE X.K Wx (fCB rc fs) (tCB r t) := fun σ0 h ι σ H Q rs rh q =>
  hs σ0 h ι σ H _ rs rh (q.bnd.imp fun ι1 ws h1 l1 q1 xs H1 rxs r1 => hr ws h1 ι1 xs H1 Q rxs r1 (Post.of q1))
theorem c_cb {id : String} {rc : FC} {r : List V → Hp → VK → Prop} {x : Str} {p : Pos} (hc : CallR X (.builtin id) r) (hr : SndC X.K rc r) (hg : Gl X x) (hm : X.mg x = none) (hv : bootBuiltins x = some (.builtin id)) (ha : CA X Wx (e :: es) fs t)
    (hn : x ≠ "__name__" := by decide) (hdb : (x == ("__debug__" : Str)) = false := by decide) (he : starEach (e :: es) X.env = (false, eval e X.env) :: starEach es X.env := by rfl) (hpl : (backTo pos (starEach es X.env)).any (·.1) = false := by rfl) :
    CE X Wx (.Call (.Name x p) (e :: es) [] pos) (fCB rc fs) (tCB r t) := ⟨pe_callB hc hg hm hv ha.p hn hdb he hpl, snd_cb hr ha.s⟩
theorem c_cty {T : String} {rc : FC} {r : List V → Hp → VK → Prop} {x : Str} {p : Pos} (hc : CallR X (.type T) r) (hr : SndC X.K rc r) (hg : Gl X x) (hm : X.mg x = none) (hv : bootBuiltins x = some (.type T)) (ha : CA X Wx (e :: es) fs t)
    (hn : x ≠ "__name__" := by decide) (hdb : (x == ("__debug__" : Str)) = false := by decide) (he : starEach (e :: es) X.env = (false, eval e X.env) :: starEach es X.env := by rfl) (hpl : (backTo pos (starEach es X.env)).any (·.1) = false := by rfl) :
    CE X Wx (.Call (.Name x p) (e :: es) [] pos) (fCB rc fs) (tCB r t) := ⟨pe_callTy hc hg hm hv ha.p hn hdb he hpl, snd_cb hr ha.s⟩
/-- len of a list, a tuple -/
def seqOf (h : Hh) (n : Nat) : Option (List W) := match lstOf h n with
  | some ws => some ws
  | none => tupOf h n
theorem R.seq {K : PySem.W.Frag} {H : Hp} {ι : Io} {h : Hh} {n : Nat} {ws : List W} (r : R K ι h H) (e : seqOf h n = some ws) : ∃ a xs, ι[n]? = some a ∧ Rels ι ws xs ∧ (SqL K H a xs ∨ SqT K H a xs) := by
  unfold seqOf at e
  split at e
  · rename_i us he
    cases e
    obtain ⟨a, xs, h1, h2, h3⟩ := r.lst he
    exact ⟨a, xs, h1, h2, .inl h3⟩
  · obtain ⟨a, xs, h1, h2, h3⟩ := r.tup e
    exact ⟨a, xs, h1, h2, .inr (.inl (.inl h3))⟩
theorem rels1 {ι : Io} {w : W} {xs : List V} (r : Rels ι [w] xs) : ∃ x, xs = [x] ∧ RelW ι w x := by
  cases r with
  | cons r q => cases q; exact ⟨_, rfl, r⟩
theorem rels2 {ι : Io} {w u : W} {xs : List V} (r : Rels ι [w, u] xs) : ∃ x y, xs = [x, y] ∧ RelW ι w x ∧ RelW ι u y := by
  cases r with
  | cons r q =>
    cases q with
    | cons q z => cases z; exact ⟨_, _, rfl, r, q⟩
theorem ref_at {ι : Io} {n : Nat} {x : V} {a : Addr} (r : RelW ι (.ref n) x) (e : ι[n]? = some a) : x = .ref a := by
  obtain ⟨b, h1, h2⟩ := r
  rw [h1] at e
  cases e
  exact h2
def bLen : FC := fun ws h => match ws with
  | [.ref n] => (seqOf h n).map fun xs => (.int xs.length, h)
  | _ => none
theorem sc_len {K : PySem.W.Frag} : SndC K bLen (fun xs H Q => ∃ p ys, xs = [.ref p] ∧ (SqL K H p ys ∨ SqT K H p ys) ∧ Q (.int ys.length) H) := by
  intro ws h ι xs H Q rx r q
  unfold bLen at q
  split at q
  · rename_i n
    cases e : seqOf h n with
    | none => rw [e] at q; exact q.elim
    | some us =>
      rw [e] at q
      obtain ⟨a, ys, h1, h2, h3⟩ := r.seq e
      obtain ⟨x, rfl, rx'⟩ := rels1 rx
      rw [ref_at rx' h1]
      exact ⟨a, ys, rfl, h3, by rw [← Paired.length h2]; exact q ι _ H (Le.refl _) rfl r⟩
  · exact q.elim
def bMax2 : FC := fun ws h => match ws with
  | [.int i, .int j] => some (.int (if j > i then j else i), h)
  | _ => none
def bMin2 : FC := fun ws h => match ws with
  | [.int i, .int j] => some (.int (if j < i then j else i), h)
  | _ => none
theorem sc_max2 {K : PySem.W.Frag} : SndC K bMax2 (fun xs H Q => ∃ i j, xs = [.int i, .int j] ∧ Q (.int (if j > i then j else i)) H) := by
  intro ws h ι xs H Q rx r q
  unfold bMax2 at q
  split at q
  · rename_i i j
    obtain ⟨x, y, rfl, r1, r2⟩ := rels2 rx
    obtain rfl : x = .int i := r1
    obtain rfl : y = .int j := r2
    exact ⟨i, j, rfl, q ι _ H (Le.refl _) rfl r⟩
  · exact q.elim
theorem sc_min2 {K : PySem.W.Frag} : SndC K bMin2 (fun xs H Q => ∃ i j, xs = [.int i, .int j] ∧ Q (.int (if j < i then j else i)) H) := by
  intro ws h ι xs H Q rx r q
  unfold bMin2 at q
  split at q
  · rename_i i j
    obtain ⟨x, y, rfl, r1, r2⟩ := rels2 rx
    obtain rfl : x = .int i := r1
    obtain rfl : y = .int j := r2
    exact ⟨i, j, rfl, q ι _ H (Le.refl _) rfl r⟩
  · exact q.elim
def bInt : FC := fun ws h => match ws with
  | [.int i] => some (.int i, h)
  | [.bl k] => some (.int (if k then 1 else 0), h)
  | _ => none
theorem sc_int {K : PySem.W.Frag} : SndC K bInt (fun xs H Q => (∃ i, xs = [.int i] ∧ Q (.int i) H) ∨ ∃ k, xs = [.bl k] ∧ Q (.int (if k then 1 else 0)) H) := by
  intro ws h ι xs H Q rx r q
  unfold bInt at q
  split at q
  · rename_i i
    obtain ⟨x, rfl, r1⟩ := rels1 rx
    obtain rfl : x = .int i := r1
    exact .inl ⟨i, rfl, q ι _ H (Le.refl _) rfl r⟩
  · rename_i k
    obtain ⟨x, rfl, r1⟩ := rels1 rx
    obtain rfl : x = .bl k := r1
    exact .inr ⟨k, rfl, q ι _ H (Le.refl _) rfl r⟩
  · exact q.elim
/-- list(a list or tuple) -/
def bList : FC := fun ws h => match ws with
  | [.ref n] => (seqOf h n).map fun xs => (.ref h.length, h ++ [.lst xs])
  | _ => none
theorem sc_list {K : PySem.W.Frag} : SndC K bList (fun xs H Q => ∃ p ys, xs = [.ref p] ∧ (SqL K H p ys ∨ SqT K H p ys) ∧ ∀ l, H l = none → Q (.ref l) (upd H l (.lst ys))) := by
  intro ws h ι xs H Q rx r q
  unfold bList at q
  split at q
  · rename_i n
    cases e : seqOf h n with
    | none => rw [e] at q; exact q.elim
    | some us =>
      rw [e] at q
      obtain ⟨a, ys, h1, h2, h3⟩ := r.seq e
      obtain ⟨x, rfl, rx'⟩ := rels1 rx
      rw [ref_at rx' h1]
      exact ⟨a, ys, rfl, h3, fun l hl => q _ _ _ (Le.app _ l) (ref_new r) (r.newL hl h2)⟩
  · exact q.elim
/-- sum of ints -/
def intsOf : List W → Option (List Int)
  | [] => some []
  | .int i :: ws => (intsOf ws).map (i :: ·)
  | _ :: _ => none
theorem intsOf_eq : ∀ {ws : List W} {ns : List Int}, intsOf ws = some ns → ws = ns.map W.int
  | [], ns, e => by cases e; rfl
  | .int i :: ws, ns, e => by
    unfold intsOf at e
    cases q : intsOf ws with
    | none => (rw [q] at e; cases e)
    | some ms =>
      rw [q] at e
      cases e
      rw [List.map_cons, intsOf_eq q]
  | .non :: _, _, e => by cases e
  | .bl _ :: _, _, e => by cases e
  | .str _ :: _, _, e => by cases e
  | .ref _ :: _, _, e => by cases e
  | .ka _ :: _, _, e => by cases e
  | .ty _ :: _, _, e => by cases e
theorem intsOf_map (ns : List Int) : intsOf (ns.map W.int) = some ns := by
  induction ns with
  | nil => rfl
  | cons n ns ih => rw [List.map_cons]; unfold intsOf; rw [ih]; rfl
theorem rels_ints_eq {ι : Io} : ∀ {ns : List Int} {xs : List V}, Rels ι (ns.map W.int) xs → xs = ns.map V.int
  | [], _, .nil => rfl
  | _ :: _, _, .cons r t => by
    rw [List.map_cons, rels_ints_eq t]
    rw [show _ = V.int _ from r]
def bSum : FC := fun ws h => match ws with
  | [.ref n] => match lstOf h n with
    | some us => (intsOf us).map fun ns => (.int ns.sum, h)
    | none => none
  | _ => none
theorem sc_sum {K : PySem.W.Frag} : SndC K bSum (rSum K) := by
  intro ws h ι xs H Q rx r q
  unfold bSum at q
  split at q
  · rename_i n
    split at q
    · rename_i us e
      cases e2 : intsOf us with
      | none => rw [e2] at q; exact q.elim
      | some ns =>
        rw [e2] at q
        obtain ⟨a, ys, h1, h2, h3⟩ := r.lst e
        obtain ⟨x, rfl, rx'⟩ := rels1 rx
        rw [ref_at rx' h1]
        rw [intsOf_eq e2] at h2
        have e3 := rels_ints_eq h2
        subst e3
        exact ⟨a, ns, rfl, h3, q ι _ H (Le.refl _) rfl r⟩
    · exact q.elim
  · exact q.elim
end rules
end Sp
set_option Elab.async false
set_option linter.all false
set_option maxRecDepth 100000
set_option maxHeartbeats 1250000
namespace Sp
open PySem L2
section rules
variable {X : Cx} {Wx : WX} {a b c e : Expr} {es : List Expr} {fa fb fc fe : FE} {fA fB : FT} {fs : FA} {ta tb tc te : TE} {tA tB' : TT} {t : TA} {pos : Pos}
/-! ### subscripts -/
theorem pr_atI {α β : Type} {F : α → β → Prop} {xs : List α} {ys : List β} {i : Int} {x : α} (r : Paired F xs ys) (e : atI xs i = some x) : ∃ y, atI ys i = some y ∧ F x y := by
  unfold atI at e ⊢
  rw [← Paired.length r]
  cases q : ixN xs.length i with
  | none => (rw [q] at e; cases e)
  | some j =>
    rw [q] at e
    exact pr_get r e
def oIx : F2 := fun x y h => match x, y with
  | .ref n, .int i => match seqOf h n with
    | some ws => (atI ws i).map fun w => (w, h)
    | none => none
  | _, _ => none
theorem sr_ix {K : PySem.W.Frag} : SndR K oIx (fun x y H Q => rIxL K x y H Q ∨ rIxT K x y H Q) := by
  intro w u h ι x y H Q rx ry r q
  unfold oIx at q
  split at q
  · rename_i n i
    split at q
    · rename_i ws e
      cases e2 : atI ws i with
      | none => rw [e2] at q; exact q.elim
      | some z =>
        rw [e2] at q
        obtain ⟨a, ys, h1, h2, h3⟩ := r.seq e
        obtain ⟨v, h4, h5⟩ := pr_atI h2 e2
        rw [ref_at rx h1]
        obtain rfl : y = .int i := ry
        have fin : Q v H := q ι _ H (Le.refl _) h5 r
        rcases h3 with h3 | h3
        · exact .inl ⟨a, ys, i, v, rfl, rfl, h3, h4, fin⟩
        · exact .inr ⟨a, ys, i, v, rfl, rfl, h3, h4, fin⟩
    · exact q.elim
  · exact q.elim
theorem c_ix (ha : CE X Wx a fa ta) (hb : CE X Wx b fb tb) (hs : PlainIx b := by exact fun _ _ => rfl) : CE X Wx (.Subscript a b pos) (fOp oIx fa fb) (tOp (fun x y H Q => rIxL X.K x y H Q ∨ rIxT X.K x y H Q) ta tb) :=
  ⟨pe_ix (ix_list.or ix_tup) ha.p hb.p hs, snd_op sr_ix ha.s hb.s⟩
/-! ### slices of lists -/
def cutW (xs : List W) (lo hi : Option Int) : List W := (xs.drop (HT.sIx xs.length 0 lo)).take (HT.sIx xs.length xs.length hi - HT.sIx xs.length 0 lo)
def fNoPart : FO := fun _ h => some (.ok none h)
def fPart (fe : FE) : FO := fun σ h => bnd (fe σ h) fun w h1 => match w with
  | .int i => some (.ok (some i) h1)
  | _ => none
theorem co_none : CO X Wx none fNoPart tNoPart := ⟨po_none, fun σ0 h ι σ H Q rs r q => q.ok H r⟩
theorem co_some (h : CE X Wx e fe te) : CO X Wx (some e) (fPart fe) (tPart te) := ⟨po_some h.p, fun σ0 hh ι σ H Q rs r q =>
  h.s σ0 hh ι σ H _ rs r (q.bnd.imp fun ι1 w h1 l1 q1 x H1 rx r1 => by
    cases w with
    | int i =>
      obtain rfl : x = .int i := rx
      exact ⟨i, rfl, q1.ok H1 r1⟩
    | _ => exact q1.elim)⟩
def fSl (fe : FE) (fl fh : FO) : FE := fun σ h => bnd (fe σ h) fun x h1 => bnd (fl σ h1) fun lo h2 => bnd (fh σ h2) fun hi h3 => match x with
  | .ref n => match lstOf h3 n with
    | some ws => some (.ok (.ref h3.length) (h3 ++ [.lst (cutW ws lo hi)]))
    | none => none
  | _ => none
theorem rels_cut {ι : Io} {ws : List W} {xs : List V} {lo hi : Option Int} (r : Rels ι ws xs) : Rels ι (cutW ws lo hi) (cutV xs lo hi) := by
  unfold cutW cutV
  rw [← Paired.length r]
  exact pr_take _ (pr_drop _ r)
theorem c_sl {lo hi : Option Expr} {fl fh : FO} {tl th : TO} {p2 : Pos} (he : CE X Wx e fe te) (hl : CO X Wx lo fl tl) (hh : CO X Wx hi fh th) : CE X Wx (.Subscript e (.Slice lo hi none p2) pos) (fSl fe fl fh) (tSl (rSlL X.K) te tl th) :=
  ⟨pe_slice sl_list he.p hl.p hh.p, fun σ0 h ι σ H Q rs r q =>
    he.s σ0 h ι σ H _ rs r (q.bnd.imp fun ι1 w h1 l1 q1 x H1 rx r1 => hl.s σ0 h1 ι1 σ H1 _ (rs.mono l1) r1 (q1.bnd.imp fun ι2 lo h2 l2 q2 H2 r2 => hh.s σ0 h2 ι2 σ H2 _ (rs.mono (l1.trans l2)) r2 (q2.bnd.imp fun ι3 hi h3 l3 q3 H3 r3 => by
      cases w with
      | ref n =>
        cases e1 : lstOf h3 n with
        | none => simp only [e1] at q3; exact q3.elim
        | some ws =>
          simp only [e1] at q3
          obtain ⟨a, xs, g1, g2, g3⟩ := r3.lst e1
          rw [ref_at (rx.mono (l2.trans l3)) g1]
          exact ⟨a, xs, rfl, g3, fun p hp => q3 _ (Le.app _ p) _ _ (ref_new r3) (r3.newL hp (rels_cut g2))⟩
      | _ => exact q3.elim)))⟩
/-! ### methods -/
def fBM (m : FM) (fo : FE) (fs : FA) : FE := fun σ h => bnd (fo σ h) fun x h1 => bnd (fs σ h1) fun ws h2 => toRs (m x ws h2)
def mAppend : FM := fun x ws h => match x, ws with
  | .ref n, [w] => match h[n]? with
    | some (.lst xs) => if xs.length < LIM then some (.non, h.set n (.lst (xs ++ [w]))) else none
    | _ => none
  | _, _ => none
/-- ahead of the arguments the receiver must be a list (kept to be one) -/
def fApp (fo : FE) (fs : FA) : FE := fun σ h => bnd (fo σ h) fun x h1 => match x with
  | .ref n => match h1[n]? with
    | some (.lst _) => bnd (fs σ h1) fun ws h2 => toRs (mAppend x ws h2)
    | _ => none
  | _ => none
theorem sm_append {K : PySem.W.Frag} : SndM K mAppend rAppend := by
  intro w ws h ι x xs H Q rx rxs r q
  unfold mAppend at q
  split at q
  · rename_i n w
    split at q
    · rename_i ys e
      split at q
      · rename_i hl
        obtain ⟨a, zs, h1, h2, h3⟩ := r.ml e
        obtain ⟨y, rfl, ry⟩ := rels1 rxs
        rw [ref_at rx h1]
        refine ⟨a, zs, y, rfl, rfl, h3, lim_lt (by rw [← Paired.length h2]; exact hl), ?_⟩
        exact q ι _ _ (Le.refl _) rfl (r.write h1 e rfl rfl ⟨_, pr_app h2 (.cons ry .nil), upd_same⟩)
      · exact q.elim
    · exact q.elim
  · exact q.elim
theorem c_append {o : Expr} {apos cpos : Pos} {fo : FE} {to : TE} (ho : CE X Wx o fo to) (ha : CA X Wx (e :: es) fs t)
    (hbase : attributeBase o "append" X.env (eval o X.env) = eval o X.env := by rfl) (hfew : ((backTo cpos (starEach (e :: es) X.env)).all (fun x => !x.1) && (backToKw cpos (keywordEach [] X.env)).all (fun x => x.1.isSome) && decide ((e :: es).length + ([] : List Keyword).length +
      (if ([] : List Keyword).isEmpty then 0 else 1) < 30)) = true := by rfl) (hline : (apos.endLine == cpos.line) = true := by rfl)
    (hs : starEach (e :: es) X.env = (false, eval e X.env) :: starEach es X.env := by rfl) (hplain : (backTo cpos (starEach es X.env)).any (·.1) = false := by rfl) :
    CE X Wx (.Call (.Attribute o "append" apos) (e :: es) [] cpos) (fApp fo fs) (tBM X.K "list" rAppend to t) :=
  ⟨pe_bm PySem.F.plainAttrs_list PySem.F.slot_list_append PySem.F.type_list_append mt_append ho.p ha.p hbase hfew hline hs hplain, fun σ0 h ι σ H Q rs r q =>
    ho.s σ0 h ι σ H _ rs r (q.bnd.imp fun ι1 w h1 l1 q1 x H1 rx r1 => by
      cases w with
      | ref n =>
        cases e1 : h1[n]? with
        | none => simp only [e1] at q1; exact q1.elim
        | some ob =>
          cases ob with
          | lst ys =>
            simp only [e1] at q1
            obtain ⟨a, zs, g1, g2, g3⟩ := r1.ml e1
            refine ⟨?_, ?_⟩
            · rw [ref_at rx g1]
              exact .inl ⟨rfl, zs, SqL.of g3⟩
            · exact ha.s σ0 h1 ι1 σ H1 _ (rs.mono l1) r1 (q1.bnd.imp fun ι2 ws h2 l2 q2 xs H2 rxs r2 => sm_append (.ref n) ws h2 ι2 x xs H2 Q (rx.mono l2) rxs r2 (Post.of q2))
          | _ => simp only [e1] at q1; exact q1.elim
      | _ => exact q1.elim)⟩

/-! ### == of data -/
def allO {α β : Type} (f : α → Option β) : List α → Option (List β)
  | [] => some []
  | x :: xs => match f x with
    | none => none
    | some y => (allO f xs).map (y :: ·)
def dat : Nat → Hh → W → Option PyData
  | 0, _, _ => none
  | f + 1, h, w => match w with
    | .non => some .none
    | .bl b => some (.bool b)
    | .int i => some (.int i)
    | .str s => some (.str s)
    | .ref n => match lstOf h n with
      | some ws => (allO (dat f h) ws).map .list
      | none => match tupOf h n with
        | some ws => (allO (dat f h) ws).map .tuple
        | none => none
    | _ => none
theorem dp_all {K : PySem.W.Frag} {H : Hp} {ι : Io} {g : W → Option PyData} (hg : ∀ w x d, RelW ι w x → g w = some d → Dp K H x d) : ∀ {ws : List W} {xs : List V} {ds : List PyData}, Rels ι ws xs → allO g ws = some ds → DpAll K H xs ds
  | _, _, _, .nil, e => by cases e; exact .nil
  | w :: ws, _, ds, .cons r t, e => by
    unfold allO at e
    cases q : g w with
    | none => (rw [q] at e; cases e)
    | some d =>
      rw [q] at e
      cases q2 : allO g ws with
      | none => rw [q2] at e; cases e
      | some es =>
        rw [q2] at e
        cases e
        exact .cons (hg _ _ _ r q) (dp_all hg t q2)
theorem dat_dp {K : PySem.W.Frag} {H : Hp} {ι : Io} {h : Hh} (r : R K ι h H) : ∀ (f : Nat) (w : W) (x : V) (d : PyData), RelW ι w x → dat f h w = some d → Dp K H x d
  | 0, _, _, _, _, e => by cases e
  | f + 1, w, x, d, rx, e => by
    unfold dat at e
    split at e
    · cases e; rw [show x = .non from rx]; exact .non
    · cases e; rw [show x = .bl _ from rx]; exact .bl _
    · cases e; rw [show x = .int _ from rx]; exact .int _
    · cases e; rw [show x = .str _ from rx]; exact .str _
    · rename_i n
      split at e
      · rename_i ws e1
        obtain ⟨a, xs, g1, g2, g3⟩ := r.lst e1
        rw [ref_at rx g1]
        cases q : allO (dat f h) ws with
        | none => (rw [q] at e; cases e)
        | some ds =>
          rw [q] at e
          cases e
          exact .lst g3 (dp_all (fun w x d => dat_dp r f w x d) g2 q)
      · split at e
        · rename_i ws e1
          obtain ⟨a, xs, g1, g2, g3⟩ := r.tup e1
          rw [ref_at rx g1]
          cases q : allO (dat f h) ws with
          | none => (rw [q] at e; cases e)
          | some ds =>
            rw [q] at e
            cases e
            exact .tup (.inl (.inl g3)) (dp_all (fun w x d => dat_dp r f w x d) g2 q)
        · cases e
    · cases e
def oEqB (neg : Bool) : F2 := fun x y h => match dat 70 h x, dat 70 h y with
  | some d, some e => if SeqAt.shaped d && SeqAt.shaped e then some (.bl (if neg then !PyData.eqv d e else PyData.eqv d e), h) else none
  | _, _ => none
theorem oEqB_ok {K : PySem.W.Frag} {neg : Bool} {w u : W} {h : Hh} {ι : Io} {x y : V} {H : Hp} {Q : VK} (rx : RelW ι w x) (ry : RelW ι u y) (r : R K ι h H) (q : Post K ι (oEqB neg w u h) Q) :
    ∃ d e, Dp K H x d ∧ Dp K H y e ∧ SeqAt.shaped d = true ∧ SeqAt.shaped e = true ∧ Q (.bl (if neg then !PyData.eqv d e else PyData.eqv d e)) H := by
  unfold oEqB at q
  split at q
  · rename_i d e e1 e2
    split at q
    · rename_i hc
      rw [Bool.and_eq_true] at hc
      exact ⟨d, e, dat_dp r 70 w x d rx e1, dat_dp r 70 u y e ry e2, hc.1, hc.2, q ι _ H (Le.refl _) rfl r⟩
    · exact q.elim
  · exact q.elim
theorem sr_eq {K : PySem.W.Frag} : SndR K (oEqB false) (rEqD K) := fun w u h ι x y H Q rx ry r q => oEqB_ok rx ry r q
theorem sr_ne {K : PySem.W.Frag} : SndR K (oEqB true) (rNeD K) := fun w u h ι x y H Q rx ry r q => oEqB_ok rx ry r q
theorem c_eq (hu : X.A.units + 64 < cLine) (ha : CE X Wx a fa ta) (hb : CE X Wx b fb tb) : CE X Wx (.Compare a [.Eq] [b] pos) (fOp (oEqB false) fa fb) (tOp (rEqD X.K) ta tb) := c_cmp (op_eqD hu) sr_eq ha hb
theorem c_ne (hu : X.A.units + 64 < cLine) (ha : CE X Wx a fa ta) (hb : CE X Wx b fb tb) : CE X Wx (.Compare a [.NotEq] [b] pos) (fOp (oEqB true) fa fb) (tOp (rNeD X.K) ta tb) := c_cmp (op_neD hu) sr_ne ha hb
theorem ct_eq (hu : X.A.units + 64 < cLine) (ha : CE X Wx a fa ta) (hb : CE X Wx b fb tb) : CT X Wx (.Compare a [.Eq] [b] pos) (fTest (fOp (oEqB false) fa fb)) (tTest (tOp (rEqD X.K) ta tb)) := ct_cmp (op_eqD hu) sr_eq ha hb
theorem ct_ne (hu : X.A.units + 64 < cLine) (ha : CE X Wx a fa ta) (hb : CE X Wx b fb tb) : CT X Wx (.Compare a [.NotEq] [b] pos) (fTest (fOp (oEqB true) fa fb)) (tTest (tOp (rNeD X.K) ta tb)) := ct_cmp (op_neD hu) sr_ne ha hb

/-! ### isinstance -/
def tyOf (h : Hh) : W → Option String
  | .non => some "NoneType"
  | .bl _ => some "bool"
  | .int _ => some "int"
  | .str _ => some "str"
  | .ref n => match h[n]? with
    | some (.lst _) => (some "list")
    | some (.scr _) => some "list"
    | some (.ksc _) => some "list"
    | some (.tup _) => (some "tuple")
    | some (.dct _) => some "dict"
    | some (.ins _ _) => none
    | some (.fdc _) => none
    | some (.stI _) => none
    | none => none
  | _ => none
theorem tyOf_ok {K : PySem.W.Frag} {ι : Io} {h : Hh} {H : Hp} {w : W} {x : V} {n : String} (r : R K ι h H) (rx : RelW ι w x) (e : tyOf h w = some n) : TyX K H x (.type n) := by
  unfold tyOf at e
  split at e
  · cases e; rw [show x = .non from rx]; exact .base .non
  · cases e; rw [show x = .bl _ from rx]; exact .base (.bl _)
  · cases e; rw [show x = .int _ from rx]; exact .base (.int _)
  · cases e; rw [show x = .str _ from rx]; exact .base (.str _)
  · split at e
    · rename_i e1
      cases e
      obtain ⟨a, g1, xs, g2, g3⟩ := r.get e1
      rw [ref_at rx g1]; exact .base (.lst g3)
    · rename_i e1
      cases e
      obtain ⟨a, g1, o, g3⟩ := r.get e1
      rw [ref_at rx g1]; exact .base (.frz g3)
    · rename_i e1
      cases e
      obtain ⟨a, g1, o, its, n, g3, g4, _⟩ := r.get e1
      rw [ref_at rx g1]; exact .kList g3 g4
    · rename_i e1
      cases e
      obtain ⟨a, g1, xs, g2, g3⟩ := r.get e1
      rw [ref_at rx g1]; exact .base (.tup g3)
    · rename_i e1
      cases e
      obtain ⟨a, g1, xs, g2, g3⟩ := r.get e1
      rw [ref_at rx g1]; exact .base (.dK g3)
    all_goals cases e
  · cases e
def isTy (a b : String) : Bool := a == b || (a == "bool" && b == "int")
def tyNames : List String := ["NoneType", "bool", "int", "str", "list", "tuple", "dict"]
theorem tyOf_mem {h : Hh} {w : W} {n : String} (e : tyOf h w = some n) : n ∈ tyNames := by
  unfold tyOf at e
  split at e <;> first | (cases e <;> decide) | (split at e <;> cases e <;> decide)
def bIsi : FC := fun ws h => match ws with
  | [w, .ty b] => if tyNames.contains b then (tyOf h w).map fun a => (.bl (isTy a b), h) else none
  | _ => none
theorem kit_all : ∀ a ∈ tyNames, ∀ b ∈ tyNames, kitB a b = some (isTy a b) := by decide +kernel
theorem sc_isi {K : PySem.W.Frag} : SndC K bIsi (rIsi K) := by
  intro ws h ι xs H Q rx r q
  unfold bIsi at q
  split at q
  · rename_i w b
    split at q
    · rename_i hb
      cases e : tyOf h w with
      | none => rw [e] at q; exact q.elim
      | some n =>
        rw [e] at q
        obtain ⟨x, y, rfl, r1, r2⟩ := rels2 rx
        obtain rfl : y = .ty b := r2
        refine ⟨x, .ty b, .type n, .type b, isTy n b, rfl, .ty b, tyOf_ok r r1 e, kit_ty (kit_all n (tyOf_mem e) b (by simpa using hb)), ?_⟩
        exact q ι _ H (Le.refl _) rfl r
    · exact q.elim
  · exact q.elim
end rules

/-! ### targets -/
inductive Yv where
  | one (w : W)
  | pair (a b : W)
def YR (ι : Io) (H : Hp) : Yv → V → Prop
  | .one w, x => RelW ι w x
  | .pair a b, x => ∃ T xa xb, x = .ref T ∧ H T = some (.tup [xa, xb]) ∧ RelW ι a xa ∧ RelW ι b xb
abbrev As := List (Nat × W)
abbrev PAs (ι : Io) : Nat × W → Nat × V → Prop := fun p q => p.1 = q.1 ∧ RelW ι p.2 q.2
def setW (σ : Sg) (as : As) : Sg := as.foldl (fun σ p => σ.set p.1 (some p.2)) σ
def setV (σ : St) (as : List (Nat × V)) : St := as.foldl (fun σ p => σ.set p.1 (some p.2)) σ
theorem rs_set {ι : Io} : ∀ {as : As} {xs : List (Nat × V)} {σ0 : Sg} {σ : St}, RS ι σ0 σ → Paired (PAs ι) as xs → RS ι (setW σ0 as) (setV σ xs)
  | _, _, _, _, r, .nil => r
  | (i, w) :: as, _, σ0, σ, r, .cons (b := (j, x)) (l₂ := xs) q t => by
    obtain ⟨q1, q2⟩ := q
    subst q1
    have z : RS ι (σ0.set i (some w)) (σ.set i (some x)) := pr_set (F := RO1 ι) (x := some w) (u := some x) ⟨x, rfl, q2⟩ i r
    show RS ι (setW (σ0.set i (some w)) as) (setV (σ.set i (some x)) xs)
    exact rs_set z t
abbrev TGt := Yv → Hh → Option As
abbrev TGts := List W → Hh → Option As
def SndG (K : PySem.W.Frag) (g : TGt) (t : TG) : Prop := ∀ y h ι σ H x Q, R K ι h H → YR ι H y x → (match g y h with | none => False | some as => ∀ xs, Paired (PAs ι) as xs → Q (setV σ xs) H) → t x σ H Q
def SndGs (K : PySem.W.Frag) (g : TGts) (t : TGs) : Prop := ∀ ws h ι σ H xs Q, R K ι h H → Rels ι ws xs → (match g ws h with | none => False | some as => ∀ ys, Paired (PAs ι) as ys → Q (setV σ ys) H) → t xs σ H Q
structure CG (X : Cx) (e : Expr) (g : TGt) (t : TG) : Prop where
  p : PG X e t
  s : SndG X.K g t
structure CGs (X : Cx) (es : List Expr) (g : TGts) (t : TGs) : Prop where
  p : PGs X es t
  s : SndGs X.K g t
section
variable {X : Cx} {pos : Pos} {e : Expr} {es : List Expr}
def gtName (i : Nat) : TGt := fun y _ => match y with
  | .one w => some [(i, w)]
  | _ => none
theorem cg_name (i : Nat) {x : Str} (hN : X.N.Nodup) (hi : X.N[i]? = some x := by rfl) (hx : Loc X.env.scope x := by first | exact Or.inl rfl | exact Or.inr rfl) (hf : X.fn x = true ∨ X.env.scope.names.lookup x = some .local := by first | exact .inl rfl | exact .inr rfl | assumption) : CG X (.Name x pos) (gtName i) (gName i) :=
  ⟨pg_name hN hi hx hf, fun y h ι σ H x Q r ry q => by
    cases y with
    | one w => exact q [(i, x)] (.cons ⟨rfl, ry⟩ .nil)
    | pair _ _ => exact q.elim⟩
def gtsNil : TGts := fun ws _ => match ws with
  | [] => some []
  | _ => none
def gtsCons (g : TGt) (gs : TGts) : TGts := fun ws h => match ws with
  | [] => none
  | w :: ws => match g (.one w) h, gs ws h with
    | some as, some bs => some (as ++ bs)
    | _, _ => none
theorem setV_app (σ : St) (a b : List (Nat × V)) : setV σ (a ++ b) = setV (setV σ a) b := by unfold setV; rw [List.foldl_append]
theorem cgs_nil : CGs X [] gtsNil gNil := ⟨pgs_nil, fun ws h ι σ H xs Q r rx q => by
  cases rx with
  | nil => exact ⟨rfl, q [] .nil⟩
  | cons _ _ => exact q.elim⟩
theorem cgs_cons {g : TGt} {gs : TGts} {t : TG} {u : TGs} (h1 : CG X e g t) (h2 : CGs X es gs u) (hs : (assignEach (e :: es) X.env).map (·.2) = assign e X.env :: (assignEach es X.env).map (·.2) := by rfl) : CGs X (e :: es) (gtsCons g gs) (gCons t u) :=
  ⟨pgs_cons h1.p h2.p hs, fun ws h ι σ H xs Q r rx q => by
    cases rx with
    | nil => exact q.elim
    | @cons w x ws' xs' r1 r2 =>
      unfold gtsCons at q
      simp only at q
      split at q
      · exact q.elim
      · rename_i as e1
        split at e1
        · rename_i a1 b1 ea eb
          cases e1
          refine ⟨x, xs', rfl, h1.s (.one w) h ι σ H x _ r r1 ?_⟩
          rw [ea]
          intro ys py
          refine h2.s ws' h ι (setV σ ys) H xs' Q r r2 ?_
          rw [eb]
          intro zs pz
          rw [← setV_app]
          exact q _ (pr_app py pz)
        · cases e1⟩
def gtTup (n : Nat) (gs : TGts) : TGt := fun y h => match y with
  | .one (.ref m) => match tupOf h m with
    | some ws => if ws.length = n then gs ws h else none
    | none => none
  | .pair a b => if n = 2 then gs [a, b] h else none
  | _ => none
theorem cg_tup {k n : Nat} {gs : TGts} {t : TGs} (hc : X.calm = true) (h : CGs X es gs t) (hn : (assignEach es X.env).length = n := by rfl) (hst : (assignEach es X.env).findIdx? (·.1) = none := by rfl) : CG X (.Tuple es k pos) (gtTup n gs) (gTup X.K n t) :=
  ⟨pg_tup hc h.p hn hst, fun y hh ι σ H x Q r ry q => by
    cases y with
    | pair a b =>
      obtain ⟨T, xa, xb, rfl, hT, ra, rb⟩ := ry
      unfold gtTup at q
      simp only at q
      by_cases e : n = 2
      · subst e
        rw [if_pos rfl] at q
        exact ⟨T, _, rfl, .inl (.inl hT), rfl, h.s [a, b] hh ι σ H [xa, xb] Q r (.cons ra (.cons rb .nil)) q⟩
      · rw [if_neg e] at q
        exact q.elim
    | one w =>
      cases w with
      | ref m =>
        unfold gtTup at q
        simp only at q
        cases e1 : tupOf hh m with
        | none => rw [e1] at q; exact q.elim
        | some ws =>
          rw [e1] at q
          simp only at q
          obtain ⟨a, xs, g1, g2, g3⟩ := r.tup e1
          by_cases e : ws.length = n
          · rw [if_pos e] at q
            exact ⟨a, xs, ref_at ry g1, .inl (.inl g3), by rw [← Paired.length g2]; exact e, h.s ws hh ι σ H xs Q r g2 q⟩
          · rw [if_neg e] at q
            exact q.elim
      | _ => exact q.elim⟩
end
end Sp
set_option Elab.async false
set_option linter.all false
set_option maxRecDepth 100000
set_option maxHeartbeats 1250000
namespace Sp
open PySem L2
/-! ### statements -/
inductive Out where
  | nx (σ : Sg) (h : Hh) | rt (w : W) (h : Hh) | bk (σ : Sg) (h : Hh) | ct (σ : Sg) (h : Hh) | ex (e : Exn) (σ : Sg) (h : Hh)
abbrev FS := Sg → Hh → Option Out
section
variable {K : PySem.W.Frag} {Wx : WX} {α : Type} {ι ι' : Io} {D : Ends}
abbrev KS (K : PySem.W.Frag) (ι : Io) (σ0 : Sg) (h : Hh) (N : St → Hp → Prop) : Prop := ∀ ι' σ H, Le ι ι' → RS ι' σ0 σ → R K ι' h H → N σ H
def AftS (K : PySem.W.Frag) (Wx : WX) (ι : Io) (r : Option Out) (D : Ends) : Prop :=
  match r with
  | none => False
  | some (.nx σ0 h) => KS K ι σ0 h D.nx
  | some (.bk σ0 h) => KS K ι σ0 h D.bk
  | some (.ct σ0 h) => KS K ι σ0 h D.ct
  | some (.rt w h) => ∀ ι' x H, Le ι ι' → RelW ι' w x → R K ι' h H → D.rt x H
  | some (.ex e σ0 h) => ∀ ι' σ H d, Le ι ι' → RS ι' σ0 σ → R K ι' h H → XRel ι' e d H → Wx (.ref e.cls) (some d) σ H
theorem AftS.mono {r : Option Out} (l : Le ι ι') (a : AftS K Wx ι r D) : AftS K Wx ι' r D := by
  match r, a with
  | some (.nx _ _), a => exact fun ι2 σ H l2 => a ι2 σ H (l.trans l2)
  | some (.bk _ _), a => exact fun ι2 σ H l2 => a ι2 σ H (l.trans l2)
  | some (.ct _ _), a => exact fun ι2 σ H l2 => a ι2 σ H (l.trans l2)
  | some (.rt _ _), a => exact fun ι2 x H l2 => a ι2 x H (l.trans l2)
  | some (.ex _ _ _), a => exact fun ι2 σ H d l2 => a ι2 σ H d (l.trans l2)
def bndS (r : Option (Rs α)) (σ : Sg) (g : α → Hh → Option Out) : Option Out :=
  match r with
  | none => none
  | some (.ok a h) => g a h
  | some (.ex e h) => some (.ex e σ h)
theorem AftS.bnd {r : Option (Rs α)} {σ0 : Sg} {σ : St} {g : α → Hh → Option Out} (rs : RS ι σ0 σ) (a : AftS K Wx ι (bndS r σ0 g) D) : Aft K Wx ι σ r (fun ι1 x h => AftS K Wx ι1 (g x h) D) := by
  match r, a with
  | some (.ok x h), a => exact fun ι2 l2 => AftS.mono l2 (show AftS K Wx ι (g x h) D from a)
  | some (.ex _ _), a => exact fun ι' H' d l r x => a ι' σ H' d l (rs.mono l) r x
end
def SndS (K : PySem.W.Frag) (Wx : WX) (f : FS) (t : TS) : Prop := ∀ σ0 h ι σ H D, RS ι σ0 σ → R K ι h H → AftS K Wx ι (f σ0 h) D → t D σ H
structure CS (X : Cx) (Wx : WX) (st : Stmt) (f : FS) (t : TS) : Prop where
  p : PS X st t
  s : SndS X.K Wx f t
structure CSs (X : Cx) (Wx : WX) (st : List Stmt) (f : FS) (t : TS) : Prop where
  p : PSs X st t
  s : SndS X.K Wx f t
section rules
variable {X : Cx} {Wx : WX} {a b c e o i : Expr} {es : List Expr} {fa fb fc fe fo fi : FE} {fA fB : FT} {fs : FA} {ta tb tc te to ti : TE} {tA tB' : TT} {t : TA} {pos : Pos} {st : Stmt} {rest body orelse : List Stmt} {f1 f2 : FS} {t1 t2 : TS} {g : TG} {gt : TGt}
def fSkip : FS := fun σ h => some (.nx σ h)
def fSeq (f1 f2 : FS) : FS := fun σ h => match f1 σ h with
  | some (.nx σ1 h1) => f2 σ1 h1
  | r => r
theorem css_nil : CSs X Wx [] fSkip tNext := ⟨pss_nil, fun σ0 h ι σ H D rs r q => q ι σ H (Le.refl _) rs r⟩
theorem css_one (h : CS X Wx st f1 t1) : CSs X Wx [st] f1 t1 := ⟨pss_one h.p, h.s⟩
theorem css_cons (h1 : CS X Wx st f1 t1) (h2 : CSs X Wx rest f2 t2) : CSs X Wx (st :: rest) (fSeq f1 f2) (tSeq t1 t2) := ⟨pss_cons h1.p h2.p, fun σ0 h ι σ H D rs r q => by
  refine h1.s σ0 h ι σ H _ rs r ?_
  unfold fSeq at q
  match e : f1 σ0 h with
  | none => rw [e] at q; exact q
  | some (.nx σ1 h1') =>
    rw [e] at q
    exact fun ι' σ' H' l rs' r' => h2.s σ1 h1' ι' σ' H' D rs' r' (AftS.mono l q)
  | some (.bk _ _) => rw [e] at q; exact q
  | some (.ct _ _) => rw [e] at q; exact q
  | some (.rt _ _) => rw [e] at q; exact q
  | some (.ex _ _ _) => rw [e] at q; exact q⟩
theorem cs_pass : CS X Wx (.Pass pos) fSkip tNext := ⟨ps_pass, fun σ0 h ι σ H D rs r q => q ι σ H (Le.refl _) rs r⟩
def fBrk : FS := fun σ h => some (.bk σ h)
def fCnt : FS := fun σ h => some (.ct σ h)
theorem cs_break : CS X Wx (.Break pos) fBrk tBreak := ⟨ps_break, fun σ0 h ι σ H D rs r q => q ι σ H (Le.refl _) rs r⟩
theorem cs_continue : CS X Wx (.Continue pos) fCnt tCont := ⟨ps_continue, fun σ0 h ι σ H D rs r q => q ι σ H (Le.refl _) rs r⟩
theorem cs_doc {x j pos pos'} : CS X Wx (.Expr (.Constant (.str x) j pos) pos') fSkip tNext := ⟨ps_doc, fun σ0 h ι σ H D rs r q => q ι σ H (Le.refl _) rs r⟩
def fStuck : FS := fun _ _ => none
theorem cs_never : CS X Wx st fStuck tNever := ⟨ps_never, fun σ0 h ι σ H D rs r q => q⟩
theorem css_never : CSs X Wx rest fStuck tNever := ⟨pss_never, fun σ0 h ι σ H D rs r q => q⟩
def fDrop (fe : FE) : FS := fun σ h => bndS (fe σ h) σ fun _ h1 => some (.nx σ h1)
theorem cs_expr (he : CE X Wx e fe te) (hs : swapsWith e none pos.line X.env = pure false := by rfl) : CS X Wx (.Expr e pos) (fDrop fe) (tDrop te) := ⟨ps_expr he.p hs, fun σ0 h ι σ H D rs r q =>
  he.s σ0 h ι σ H _ rs r ((q.bnd rs).imp fun ι1 w h1 l1 q1 x H1 rx r1 => q1 ι1 σ H1 (Le.refl _) (rs.mono l1) r1)⟩
def fRet (fe : FE) : FS := fun σ h => bndS (fe σ h) σ fun w h1 => some (.rt w h1)
theorem cs_ret (he : CE X Wx e fe te) : CS X Wx (.Return (some e) pos) (fRet fe) (tRet te) := ⟨ps_ret he.p, fun σ0 h ι σ H D rs r q =>
  he.s σ0 h ι σ H _ rs r ((q.bnd rs).imp fun ι1 w h1 l1 q1 x H1 rx r1 => q1 ι1 x H1 (Le.refl _) rx r1)⟩
def fRetN : FS := fun _ h => some (.rt .non h)
theorem cs_retN : CS X Wx (.Return none pos) fRetN tRetN := ⟨ps_retN, fun σ0 h ι σ H D rs r q => q ι .non H (Le.refl _) rfl r⟩
def fIfS (fc : FT) (f1 f2 : FS) : FS := fun σ h => bndS (fc σ h) σ fun b h1 => if b then f1 σ h1 else f2 σ h1
theorem cs_if {p q : List Stmt} (hc : CT X Wx c fA tA) (ha : CSs X Wx p f1 t1) (hb : CSs X Wx q f2 t2) : CS X Wx (.If c p q pos) (fIfS fA f1 f2) (tIfS tA t1 t2) := ⟨ps_if hc.p ha.p hb.p, fun σ0 h ι σ H D rs r q =>
  hc.s σ0 h ι σ H _ rs r ((q.bnd rs).imp fun ι1 k h1 l1 q1 H1 r1 => by
    cases k with
    | true => exact ha.s σ0 h1 ι1 σ H1 D (rs.mono l1) r1 q1
    | false => exact hb.s σ0 h1 ι1 σ H1 D (rs.mono l1) r1 q1)⟩
/-- target = value -/
def fAsg (fe : FE) (gt : TGt) : FS := fun σ h => bndS (fe σ h) σ fun w h1 => match gt (.one w) h1 with
  | some as => some (.nx (setW σ as) h1)
  | none => none
theorem cs_asg {tg : Expr} (he : CE X Wx e fe te) (hg : CG X tg gt g) (hs : swapsWithSole [tg] e pos.line X.env = pure false := by rfl) (hw : swappedStores [tg] e X.env = pure none := by rfl)
    (h1 : (assignEach [tg] X.env).map (·.2) = [assign tg X.env] := by rfl) : CS X Wx (.Assign [tg] e pos) (fAsg fe gt) (tAsg te g) := ⟨ps_asg he.p hg.p hs hw h1, fun σ0 h ι σ H D rs r q =>
  he.s σ0 h ι σ H _ rs r ((q.bnd rs).imp fun ι1 w h1 l1 q1 x H1 rx r1 => hg.s (.one w) h1 ι1 σ H1 x _ r1 rx (by
    cases e1 : gt (.one w) h1 with
    | none => rw [e1] at q1; exact q1
    | some as =>
      rw [e1] at q1
      exact fun xs px => q1 ι1 _ H1 (Le.refl _) (rs_set (rs.mono l1) px) r1))⟩
def fSet (i : Nat) (fe : FE) : FS := fun σ h => bndS (fe σ h) σ fun w h1 => some (.nx (σ.set i (some w)) h1)
theorem rs_set1 {ι : Io} {σ0 : Sg} {σ : St} {w : W} {x : V} (r : RS ι σ0 σ) (rx : RelW ι w x) (i : Nat) : RS ι (σ0.set i (some w)) (σ.set i (some x)) := pr_set (F := RO1 ι) (x := some w) (u := some x) ⟨x, rfl, rx⟩ i r
theorem cs_set (i : Nat) {x : Str} {pos' : Pos} (hN : X.N.Nodup) (he : CE X Wx e fe te) (hi : X.N[i]? = some x := by rfl) (hx : Loc X.env.scope x := by first | exact Or.inl rfl | exact Or.inr rfl) (hf : X.fn x = true ∨ X.env.scope.names.lookup x = some .local := by first | exact .inl rfl | exact .inr rfl | assumption)
    (hs : swapsWithSole [.Name x pos'] e pos.line X.env = pure false := by rfl) (hw : swappedStores [.Name x pos'] e X.env = pure none := by rfl) (h1 : (assignEach [.Name x pos'] X.env).map (·.2) = [assign (.Name x pos') X.env] := by rfl) :
    CS X Wx (.Assign [.Name x pos'] e pos) (fSet i fe) (tAsg te (gName i)) := ⟨ps_asg he.p (pg_name hN hi hx hf) hs hw h1, fun σ0 h ι σ H D rs r q =>
  he.s σ0 h ι σ H _ rs r ((q.bnd rs).imp fun ι1 w h1 l1 q1 x H1 rx r1 => q1 ι1 _ H1 (Le.refl _) (rs_set1 (rs.mono l1) rx i) r1)⟩
/-- a, b = e1, e2 -/
def fPar (i j : Nat) (fs : FA) : FS := fun σ h => bndS (fs σ h) σ fun ws h1 => match ws with
  | [v, w] => some (.nx ((σ.set i (some v)).set j (some w)) h1)
  | _ => none
theorem cs_par (i j : Nat) {x y : Str} {px py pt pt2 : Pos} {kt k2 : Nat} (hc : X.calm = true) (hN : X.N.Nodup) (ha : CA X Wx [a, b] fs t) (hi : X.N[i]? = some x := by rfl) (hj : X.N[j]? = some y := by rfl) (hij : i ≠ j := by decide)
    (hx : X.env.scope.names.lookup x = some .local := by rfl) (hy : X.env.scope.names.lookup y = some .local := by rfl)
    (hw : swappedStores [.Tuple [.Name x px, .Name y py] kt pt] (.Tuple [a, b] k2 pt2) X.env = pure (some [x, y]) := by rfl) (hs : swapsWithSole [.Tuple [.Name x px, .Name y py] kt pt] (.Tuple [a, b] k2 pt2) pos.line X.env = pure false := by rfl) :
    CS X Wx (.Assign [.Tuple [.Name x px, .Name y py] kt pt] (.Tuple [a, b] k2 pt2) pos) (fPar i j fs) (tPar i j t) := ⟨ps_par hc hN hi hj hij hx hy ha.p hw hs, fun σ0 h ι σ H D rs r q =>
  ha.s σ0 h ι σ H _ rs r ((q.bnd rs).imp fun ι1 ws h1 l1 q1 xs H1 rx r1 => by
    match ws, rx, q1 with
    | [v, w], rx, q1 =>
      obtain ⟨xv, xw, rfl, rv, rw'⟩ := rels2 rx
      exact ⟨xv, xw, rfl, q1 ι1 _ H1 (Le.refl _) (rs_set1 (rs_set1 (rs.mono l1) rv i) rw' j) r1⟩
    | [], _, q1 => exact q1.elim
    | [_], _, q1 => exact q1.elim
    | _ :: _ :: _ :: _, _, q1 => exact q1.elim)⟩
/-- xs[i] = e -/
def stL (σ : Sg) (h3 : Hh) (x y w : W) : Option Out := match x, y with
  | .ref n, .int k => match h3[n]? with
    | some (.lst xs) => match ixN xs.length k with
      | some j => some (.nx σ (h3.set n (.lst (xs.set j w))))
      | none => none
    | _ => none
  | _, _ => none
def fSub (fe fo fi : FE) : FS := fun σ h => bndS (fe σ h) σ fun w h1 => bndS (fo σ h1) σ fun x h2 => bndS (fi σ h2) σ fun y h3 => stL σ h3 x y w
theorem setL_ok {K : PySem.W.Frag} {Wx : WX} {ι : Io} {σ0 : Sg} {σ : St} {H : Hp} {h3 : Hh} {w x y : W} {vw vx vy : V} {D : Ends} (rs : RS ι σ0 σ) (r : R K ι h3 H) (rw' : RelW ι w vw) (rx : RelW ι x vx) (ry : RelW ι y vy)
    (q : AftS K Wx ι (stL σ0 h3 x y w) D) : rSetL vx vy vw H (fun H' => D.nx σ H') := by
  unfold stL at q
  split at q
  · rename_i n k
    split at q
    · rename_i ws e
      split at q
      · rename_i j e2
        obtain ⟨a, xs, g1, g2, g3⟩ := r.ml e
        obtain rfl : vy = .int k := ry
        rw [ref_at rx g1]
        refine ⟨a, xs, k, j, rfl, rfl, g3, by rw [← Paired.length g2]; exact e2, ?_⟩
        exact q ι σ _ (Le.refl _) rs (r.write g1 e rfl rfl ⟨_, pr_set rw' j g2, upd_same⟩)
      · exact q.elim
    · exact q.elim
  · exact q.elim
theorem cs_sub {pos' : Pos} (he : CE X Wx e fe te) (ho : CE X Wx o fo to) (hi : CE X Wx i fi ti)
    (ha : ∀ v, assign (.Subscript o i pos') X.env v = (do
      let ov ← holding [v] (eval o X.env); let iv ← holding [v, ov] (eval i X.env)
      standAt pos'; holding [v, ov, iv] (setItem ov iv v); release [v, ov, iv] []) := by intro _; rfl)
    (hs : swapsWithSole [.Subscript o i pos'] e pos.line X.env = pure false := by rfl) (hw : swappedStores [.Subscript o i pos'] e X.env = pure none := by rfl)
    (h1 : (assignEach [.Subscript o i pos'] X.env).map (·.2) = [assign (.Subscript o i pos') X.env] := by rfl) :
    CS X Wx (.Assign [.Subscript o i pos'] e pos) (fSub fe fo fi) (tAsg te (gSub to ti rSetL)) := ⟨ps_asg he.p (pg_sub ho.p hi.p set_list ha) hs hw h1, fun σ0 h ι σ H D rs r q =>
  he.s σ0 h ι σ H _ rs r ((q.bnd rs).imp fun ι1 w h1 l1 q1 x H1 rx r1 => ho.s σ0 h1 ι1 σ H1 _ (rs.mono l1) r1 ((q1.bnd (rs.mono l1)).imp fun ι2 u h2 l2 q2 y H2 ry r2 =>
    hi.s σ0 h2 ι2 σ H2 _ (rs.mono (l1.trans l2)) r2 ((q2.bnd (rs.mono (l1.trans l2))).imp fun ι3 v h3 l3 q3 z H3 rz r3 => setL_ok (rs.mono (l1.trans (l2.trans l3))) r3 (rx.mono (l2.trans l3)) (ry.mono l3) rz q3)))⟩
/-- x op= e -/
def fAug (i : Nat) (op : F2) (fe : FE) : FS := fun σ h => match σ[i]? with
  | some (some x) => bndS (fe σ h) σ fun y h1 => match op x y h1 with
    | some (z, h2) => some (.nx (σ.set i (some z)) h2)
    | none => none
  | _ => none
theorem cs_aug (i : Nat) {x : Str} {op : Operator} {rop : TIp} {fop : F2} {pos' : Pos} (hN : X.N.Nodup) (ho : PIp X op rop) (hr : SndR X.K fop rop) (he : CE X Wx e fe te) (hi : X.N[i]? = some x := by rfl) (hx : Loc X.env.scope x := by first | exact Or.inl rfl | exact Or.inr rfl)
    (hf : X.fn x = true ∨ X.env.scope.names.lookup x = some .local := by first | exact .inl rfl | exact .inr rfl | assumption) : CS X Wx (.AugAssign (.Name x pos') op e pos) (fAug i fop fe) (tAug i te rop) := ⟨ps_aug hN hi hx he.p ho hf, fun σ0 h ι σ H D rs r q => by
  unfold fAug at q
  split at q
  · rename_i w e1
    obtain ⟨v, e2, rv⟩ := rs.var e1
    refine ⟨v, e2, he.s σ0 h ι σ H _ rs r ((q.bnd rs).imp fun ι1 u h1 l1 q1 y H1 ry r1 => hr w u h1 ι1 v y H1 _ (rv.mono l1) ry r1 ?_)⟩
    cases e3 : fop w u h1 with
    | none => simp only [e3] at q1; exact q1.elim
    | some p =>
      obtain ⟨z, h2⟩ := p
      simp only [e3] at q1
      exact fun ι2 zx H2 l2 rz r2 => q1 ι2 _ H2 l2 (rs_set1 (rs.mono (l1.trans l2)) rz i) r2
  · exact q.elim⟩
theorem sr_ip {K : PySem.W.Frag} {g : Int → Int → Int} : SndR K (oI (fun _ _ => true) fun i j => .int (g i j)) (ipI g) := by
  intro w u h ι x y H Q rx ry r q
  unfold oI at q
  split at q
  · rename_i i j
    obtain rfl : x = .int i := rx
    obtain rfl : y = .int j := ry
    exact ⟨i, j, rfl, rfl, q ι _ H (Le.refl _) rfl r⟩
  · exact q.elim
theorem cs_augAdd (i : Nat) {x : Str} {pos' : Pos} (hN : X.N.Nodup) (he : CE X Wx e fe te) (hi : X.N[i]? = some x := by rfl) (hx : Loc X.env.scope x := by first | exact Or.inl rfl | exact Or.inr rfl)
    (hf : X.fn x = true ∨ X.env.scope.names.lookup x = some .local := by first | exact .inl rfl | exact .inr rfl | assumption) : CS X Wx (.AugAssign (.Name x pos') .Add e pos) (fAug i oAdd fe) (tAug i te (ipI fun i j => i + j)) := cs_aug i hN ip_add sr_ip he hi hx hf
theorem cs_augSub (i : Nat) {x : Str} {pos' : Pos} (hN : X.N.Nodup) (he : CE X Wx e fe te) (hi : X.N[i]? = some x := by rfl) (hx : Loc X.env.scope x := by first | exact Or.inl rfl | exact Or.inr rfl)
    (hf : X.fn x = true ∨ X.env.scope.names.lookup x = some .local := by first | exact .inl rfl | exact .inr rfl | assumption) : CS X Wx (.AugAssign (.Name x pos') .Sub e pos) (fAug i oSub fe) (tAug i te (ipI fun i j => i - j)) := cs_aug i hN ip_sub sr_ip he hi hx hf
/-- xs[i] op= e -/
theorem get_list : PGet X (rIxL X.K) := by
  intro pins s σ H a b va vb Q I ra rb ⟨l, xs, i, z, ea, eb, seq, got, fine⟩
  subst ea eb
  cases ra
  cases rb with
  | intro t et =>
    subst et
    have ⟨its, vals, plain, few⟩ := I.list seq
    have ⟨j, ix, at_, b1, b2, b3⟩ := atI_get got
    have ⟨w, here, rel⟩ := vals.get at_
    have same := vals.length
    have line := line63
    have out : EP X pins σ Q w s := .intro z (.intro H ⟨I, rel, fine⟩)
    if h0 : 0 ≤ i then
      rw [PySem.seqIndex_of h0 b3] at ix
      cases ix
      exact PySem.wpAny_getItem_list plain.isList h0 (by omega) (by simpa using here) out
    else
      rw [PySem.seqIndex_neg (by omega) b2, same] at ix
      cases ix
      refine PySem.wpAny_getItem_list_neg plain.isList (by omega) ?_ (by omega) ?_ out
      · rw [List.size_toArray]; omega
      · simpa using here
def oIxL : F2 := fun x y h => match x, y with
  | .ref n, .int i => match lstOf h n with
    | some ws => (atI ws i).map fun w => (w, h)
    | none => none
  | _, _ => none
theorem sr_ixL {K : PySem.W.Frag} : SndR K oIxL (rIxL K) := by
  intro w u h ι x y H Q rx ry r q
  unfold oIxL at q
  split at q
  · rename_i n i
    split at q
    · rename_i ws e
      cases e2 : atI ws i with
      | none => rw [e2] at q; exact q.elim
      | some z =>
        rw [e2] at q
        obtain ⟨a, ys, h1, h2, h3⟩ := r.lst e
        obtain ⟨v, h4, h5⟩ := pr_atI h2 e2
        rw [ref_at rx h1]
        obtain rfl : y = .int i := ry
        exact ⟨a, ys, i, v, rfl, rfl, h3, h4, q ι _ H (Le.refl _) h5 r⟩
    · exact q.elim
  · exact q.elim
def fAugL (op : F2) (fo fi fe : FE) : FS := fun σ h => bndS (fo σ h) σ fun x h1 => bndS (fi σ h1) σ fun y h2 => bndS (toRs (oIxL x y h2)) σ fun v h3 => bndS (fe σ h3) σ fun u h4 => bndS (toRs (op v u h4)) σ fun z h5 => stL σ h5 x y z
theorem cs_augL {op : Operator} {rop : TIp} {fop : F2} {tpos : Pos} (hp : PIp X op rop) (hr : SndR X.K fop rop) (ho : CE X Wx o fo to) (hi : CE X Wx i fi ti) (he : CE X Wx e fe te)
    (ha : ∀ ov iv new, augStore i ov iv new = (do holding [new, ov, iv] (setItem ov iv new); release [new, ov, iv] []; pure .next) := by intros; rfl) : CS X Wx (.AugAssign (.Subscript o i tpos) op e pos) (fAugL fop fo fi fe) (tAugS to ti te (rIxL X.K) rop rSetL) :=
  ⟨ps_augS ho.p hi.p get_list he.p hp set_list ha, fun σ0 h ι σ H D rs r q =>
    ho.s σ0 h ι σ H _ rs r ((q.bnd rs).imp fun ι1 x h1 l1 q1 xv H1 rx r1 => hi.s σ0 h1 ι1 σ H1 _ (rs.mono l1) r1 ((q1.bnd (rs.mono l1)).imp fun ι2 y h2 l2 q2 yv H2 ry r2 =>
      sr_ixL x y h2 ι2 xv yv H2 _ (rx.mono l2) ry r2 (Post.of ((q2.bnd (rs.mono (l1.trans l2))).imp fun ι3 v h3 l3 q3 vv H3 rv r3 =>
        he.s σ0 h3 ι3 σ H3 _ (rs.mono (l1.trans (l2.trans l3))) r3 ((q3.bnd (rs.mono (l1.trans (l2.trans l3)))).imp fun ι4 u h4 l4 q4 uv H4 ru r4 =>
          hr v u h4 ι4 vv uv H4 _ (rv.mono l4) ru r4 (Post.of ((q4.bnd (rs.mono (l1.trans (l2.trans (l3.trans l4))))).imp fun ι5 z h5 l5 q5 zv H5 rz r5 =>
            setL_ok (rs.mono (l1.trans (l2.trans (l3.trans (l4.trans l5))))) r5 rz (rx.mono (l2.trans (l3.trans (l4.trans l5)))) (ry.mono (l3.trans (l4.trans l5))) q5)))))))⟩

/-! ### loops -/
structure FIt where
  fuel : Nat
  nxt : Nat → Hh → Option (Option Yv)
abbrev FI := Sg → Hh → Option (Rs FIt)
def RJ (K : PySem.W.Frag) (ι : Io) (J : FIt) (J' : It) : Prop := ∀ i h ι' H, Le ι ι' → R K ι' h H → match J.nxt i h with
  | none => True
  | some none => J'.stop i H
  | some (some y) => J'.go i H ∧ ∀ x H', J'.yld i H x H' → R K ι' h H' ∧ YR ι' H' y x
def SndI (K : PySem.W.Frag) (Wx : WX) (f : FI) (w : TI) : Prop := ∀ σ0 h ι σ H (Q : It → Hp → Prop), RS ι σ0 σ → R K ι h H → Aft K Wx ι σ (f σ0 h) (fun ι' J h' => ∀ H' J', R K ι' h' H' → RJ K ι' J J' → Q J' H') → w σ H Q
structure CI (X : Cx) (Wx : WX) (tg e : Expr) (f : FI) (w : TI) : Prop where
  p : PI X tg e w
  s : SndI X.K Wx f w
def nxtL (n : Nat) (i : Nat) (h : Hh) : Option (Option Yv) := (lstOf h n).map fun xs => (xs[i]?).map Yv.one
def nxtT (n : Nat) (i : Nat) (h : Hh) : Option (Option Yv) := (tupOf h n).map fun xs => (xs[i]?).map Yv.one
def fiList (fe : FE) : FI := fun σ h => bnd (fe σ h) fun w h1 => match w with
  | .ref n => (lstOf h1 n).map fun xs => .ok ⟨xs.length + 1, nxtL n⟩ h1
  | _ => none
theorem ci_list {tg : Expr} (he : CE X Wx e fe te) : CI X Wx tg e (fiList fe) (iList X.K te) := ⟨pi_list he.p, fun σ0 h ι σ H Q rs r q =>
  he.s σ0 h ι σ H _ rs r (q.bnd.imp fun ι1 w h1 l1 q1 x H1 rx r1 => by
    cases w with
    | ref n =>
      cases e1 : lstOf h1 n with
      | none => simp only [e1] at q1; exact q1.elim
      | some ws =>
        simp only [e1] at q1
        obtain ⟨a, xs, g1, g2, g3⟩ := r1.lst e1
        refine ⟨a, ref_at rx g1, ⟨xs, g3⟩, ?_⟩
        refine q1.ok H1 (Itl X.K a) r1 fun i h2 ι2 H2 l2 r2 => ?_
        show match nxtL n i h2 with | none => True | some none => _ | some (some y) => _
        unfold nxtL
        cases e2 : lstOf h2 n with
        | none => trivial
        | some us =>
          obtain ⟨b, ys, k1, k2, k3⟩ := r2.lst e2
          rw [l2 n a g1] at k1
          cases k1
          cases e3 : us[i]? with
          | none =>
            simp only [Option.map_some, e3, Option.map_none]
            exact ⟨ys, k3, by have := pr_none k2 e3; exact List.getElem?_eq_none_iff.mp this⟩
          | some u =>
            simp only [Option.map_some, e3]
            obtain ⟨y, k4, k5⟩ := pr_get k2 e3
            refine ⟨⟨ys, y, k3, k4⟩, fun x' H' yl => ?_⟩
            obtain ⟨rfl, yl⟩ := yl
            have := yl ys k3
            rw [k4] at this
            cases this
            exact ⟨r2, k5⟩
    | _ => exact q1.elim)⟩
def fiTup (fe : FE) : FI := fun σ h => bnd (fe σ h) fun w h1 => match w with
  | .ref n => (tupOf h1 n).map fun xs => .ok ⟨xs.length + 1, nxtT n⟩ h1
  | _ => none
theorem ci_tup {tg : Expr} (he : CE X Wx e fe te) : CI X Wx tg e (fiTup fe) (iTup X.K te) := ⟨pi_tup he.p, fun σ0 h ι σ H Q rs r q =>
  he.s σ0 h ι σ H _ rs r (q.bnd.imp fun ι1 w h1 l1 q1 x H1 rx r1 => by
    cases w with
    | ref n =>
      cases e1 : tupOf h1 n with
      | none => simp only [e1] at q1; exact q1.elim
      | some ws =>
        simp only [e1] at q1
        obtain ⟨a, xs, g1, g2, g3⟩ := r1.tup e1
        refine ⟨a, ref_at rx g1, ⟨xs, .inl (.inl g3)⟩, ?_⟩
        refine q1.ok H1 (Itt X.K a) r1 fun i h2 ι2 H2 l2 r2 => ?_
        show match nxtT n i h2 with | none => True | some none => _ | some (some y) => _
        unfold nxtT
        cases e2 : tupOf h2 n with
        | none => trivial
        | some us =>
          obtain ⟨b, ys, k1, k2, k3⟩ := r2.tup e2
          rw [l2 n a g1] at k1
          cases k1
          cases e3 : us[i]? with
          | none =>
            simp only [Option.map_some, e3, Option.map_none]
            exact ⟨ys, .inl (.inl k3), by have := pr_none k2 e3; exact List.getElem?_eq_none_iff.mp this⟩
          | some u =>
            simp only [Option.map_some, e3]
            obtain ⟨y, k4, k5⟩ := pr_get k2 e3
            refine ⟨⟨ys, y, .inl (.inl k3), k4⟩, fun x' H' yl => ?_⟩
            obtain ⟨rfl, yl⟩ := yl
            have := yl ys (.inl (.inl k3))
            rw [k4] at this
            cases this
            exact ⟨r2, k5⟩
    | _ => exact q1.elim)⟩
def nxtR (lo : Int) (n : Nat) (i : Nat) (_ : Hh) : Option (Option Yv) := some (if i < n then some (.one (.int (lo + i))) else none)
theorem rj_range {K : PySem.W.Frag} {ι : Io} {lo : Int} {n f : Nat} : RJ K ι ⟨f, nxtR lo n⟩ (Itr lo n) := fun i h ι2 H2 l2 r2 => by
  show match nxtR lo n i h with | none => True | some none => _ | some (some y) => _
  unfold nxtR
  by_cases hi : i < n
  · rw [if_pos hi]
    exact ⟨hi, fun x H' y => by obtain ⟨rfl, rfl⟩ := y; exact ⟨r2, rfl⟩⟩
  · rw [if_neg hi]
    exact Nat.le_of_not_lt hi
def rngOk (j : Int) : Bool := decide (-4611686018427387904 ≤ j) && decide (j < 4611686018427387904)
theorem rngOk_iff {j : Int} (h : rngOk j = true) : -(2 ^ 62) ≤ j ∧ j < 2 ^ 62 := by
  unfold rngOk at h
  rw [Bool.and_eq_true, decide_eq_true_eq, decide_eq_true_eq] at h
  exact h
def fiRng1 (fs : FA) : FI := fun σ h => bnd (fs σ h) fun ws h1 => match ws with
  | [.int j] => if rngOk j then some (.ok ⟨j.toNat + 1, nxtR 0 j.toNat⟩ h1) else none
  | _ => none
theorem ci_rng1 {tg : Expr} {p : Pos} (hg : Gl X "range") (hm : X.mg "range" = none) (ha : CA X Wx [a] fs t) (hs : starEach [a] X.env = [(false, eval a X.env)] := by rfl) : CI X Wx tg (.Call (.Name "range" p) [a] [] pos) (fiRng1 fs) (iRng1 t) := ⟨pi_range1 hg hm ha.p hs, fun σ0 h ι σ H Q rs r q =>
  ha.s σ0 h ι σ H _ rs r (q.bnd.imp fun ι1 ws h1 l1 q1 xs H1 rx r1 => by
    split at q1
    · rename_i j
      split at q1
      · rename_i hj
        obtain ⟨x, rfl, rx'⟩ := rels1 rx
        obtain rfl : x = .int j := rx'
        obtain ⟨h2, h3⟩ := rngOk_iff hj
        exact ⟨j, rfl, h2, h3, q1.ok H1 _ r1 rj_range⟩
      · exact q1.elim
    · exact q1.elim)⟩
def fiRng2 (fs : FA) : FI := fun σ h => bnd (fs σ h) fun ws h1 => match ws with
  | [.int i, .int j] => if rngOk i && rngOk j then some (.ok ⟨(j - i).toNat + 1, nxtR i (j - i).toNat⟩ h1) else none
  | _ => none
theorem ci_rng2 {tg : Expr} {p : Pos} (hg : Gl X "range") (hm : X.mg "range" = none) (ha : CA X Wx [a, b] fs t) (hs : starEach [a, b] X.env = [(false, eval a X.env), (false, eval b X.env)] := by rfl) (hs2 : starEach [b] X.env = [(false, eval b X.env)] := by rfl) :
    CI X Wx tg (.Call (.Name "range" p) [a, b] [] pos) (fiRng2 fs) (iRng2 t) := ⟨pi_range2 hg hm ha.p hs hs2, fun σ0 h ι σ H Q rs r q =>
  ha.s σ0 h ι σ H _ rs r (q.bnd.imp fun ι1 ws h1 l1 q1 xs H1 rx r1 => by
    split at q1
    · rename_i i j
      split at q1
      · rename_i hj
        rw [Bool.and_eq_true] at hj
        obtain ⟨x, y, rfl, rx', ry'⟩ := rels2 rx
        obtain rfl : x = .int i := rx'
        obtain rfl : y = .int j := ry'
        obtain ⟨h2, h3⟩ := rngOk_iff hj.1
        obtain ⟨h4, h5⟩ := rngOk_iff hj.2
        exact ⟨i, j, rfl, ⟨h2, h3, h4, h5⟩, q1.ok H1 _ r1 rj_range⟩
      · exact q1.elim
    · exact q1.elim)⟩
def nxtE (n : Nat) (i : Nat) (h : Hh) : Option (Option Yv) := (lstOf h n).map fun xs => (xs[i]?).map (Yv.pair (.int i))
def fiEnum (fs : FA) : FI := fun σ h => bnd (fs σ h) fun ws h1 => match ws with
  | [.ref n] => (lstOf h1 n).map fun xs => .ok ⟨xs.length + 1, nxtE n⟩ h1
  | _ => none
theorem ci_enum {p tpos : Pos} {elts : List Expr} {kk : Nat} (hg : Gl X "enumerate") (hm : X.mg "enumerate" = none) (ha : CA X Wx [e] fs t) (hs : starEach [e] X.env = [(false, eval e X.env)] := by rfl) :
    CI X Wx (.Tuple elts kk tpos) (.Call (.Name "enumerate" p) [e] [] pos) (fiEnum fs) (iEnum X.K t) := ⟨pi_enum hg hm ha.p hs, fun σ0 h ι σ H Q rs r q =>
  ha.s σ0 h ι σ H _ rs r (q.bnd.imp fun ι1 ws h1 l1 q1 xs H1 rx r1 => by
    split at q1
    · rename_i n
      cases e1 : lstOf h1 n with
      | none => simp only [e1] at q1; exact q1.elim
      | some ws =>
        simp only [e1] at q1
        obtain ⟨a, ys, g1, g2, g3⟩ := r1.lst e1
        obtain ⟨x, rfl, rx'⟩ := rels1 rx
        rw [ref_at rx' g1]
        refine ⟨a, ys, rfl, g3, ?_⟩
        refine q1.ok H1 (Ite X.K a) r1 fun i h2 ι2 H2 l2 r2 => ?_
        show match nxtE n i h2 with | none => True | some none => _ | some (some y) => _
        unfold nxtE
        cases e2 : lstOf h2 n with
        | none => trivial
        | some us =>
          obtain ⟨b, zs, k1, k2, k3⟩ := r2.lst e2
          rw [l2 n a g1] at k1
          cases k1
          cases e3 : us[i]? with
          | none =>
            simp only [Option.map_some, e3, Option.map_none]
            exact ⟨zs, k3, by have := pr_none k2 e3; exact List.getElem?_eq_none_iff.mp this⟩
          | some u =>
            simp only [Option.map_some, e3]
            obtain ⟨y, k4, k5⟩ := pr_get k2 e3
            refine ⟨⟨zs, y, k3, k4⟩, fun x' H' yl => ?_⟩
            obtain ⟨T, x'', rfl, hT, rfl, yl⟩ := yl
            have := yl zs k3
            rw [k4] at this
            cases this
            exact ⟨r2.drop hT, T, _, _, rfl, upd_same, rfl, k5⟩
    · exact q1.elim)⟩
def nxtZ (n m : Nat) (i : Nat) (h : Hh) : Option (Option Yv) := match lstOf h n, lstOf h m with
  | some xs, some ys => match xs[i]?, ys[i]? with
    | some x, some y => some (some (.pair x y))
    | _, _ => some none
  | _, _ => none
def fiZip (fs : FA) : FI := fun σ h => bnd (fs σ h) fun ws h1 => match ws with
  | [.ref n, .ref m] => match lstOf h1 n, lstOf h1 m with
    | some xs, some ys => some (.ok ⟨xs.length + 1, nxtZ n m⟩ h1)
    | _, _ => none
  | _ => none
theorem ci_zip {p tpos : Pos} {elts : List Expr} {kk : Nat} (h0 : PI X (.Tuple elts kk tpos) (.Call (.Name "zip" p) [a, b] [] pos) (iZip X.K t)) (ha : CA X Wx [a, b] fs t) :
    CI X Wx (.Tuple elts kk tpos) (.Call (.Name "zip" p) [a, b] [] pos) (fiZip fs) (iZip X.K t) := ⟨h0, fun σ0 h ι σ H Q rs r q =>
  ha.s σ0 h ι σ H _ rs r (q.bnd.imp fun ι1 ws h1 l1 q1 xs H1 rx r1 => by
    split at q1
    · rename_i n m
      split at q1
      · rename_i us vs e1 e1'
        obtain ⟨a, ys, g1, g2, g3⟩ := r1.lst e1
        obtain ⟨a', ys', g1', g2', g3'⟩ := r1.lst e1'
        obtain ⟨x, x', rfl, rx1, rx2⟩ := rels2 rx
        rw [ref_at rx1 g1, ref_at rx2 g1']
        refine ⟨a, a', ys, ys', rfl, g3, g3', ?_⟩
        refine q1.ok H1 (Itz X.K a a') r1 fun i h2 ι2 H2 l2 r2 => ?_
        show match nxtZ n m i h2 with | none => True | some none => _ | some (some y) => _
        unfold nxtZ
        cases e2 : lstOf h2 n with
        | none => trivial
        | some us2 =>
          cases e2' : lstOf h2 m with
          | none => trivial
          | some vs2 =>
            obtain ⟨b, zs, k1, k2, k3⟩ := r2.lst e2
            obtain ⟨b', zs', k1', k2', k3'⟩ := r2.lst e2'
            rw [l2 n a g1] at k1
            cases k1
            rw [l2 m a' g1'] at k1'
            cases k1'
            simp only
            cases e3 : us2[i]? with
            | none => exact ⟨zs, zs', k3, k3', .inl (List.getElem?_eq_none_iff.mp (pr_none k2 e3))⟩
            | some u =>
              cases e3' : vs2[i]? with
              | none => exact ⟨zs, zs', k3, k3', .inr (List.getElem?_eq_none_iff.mp (pr_none k2' e3'))⟩
              | some u' =>
                obtain ⟨y, k4, k5⟩ := pr_get k2 e3
                obtain ⟨y', k4', k5'⟩ := pr_get k2' e3'
                refine ⟨⟨zs, zs', y, y', k3, k3', k4, k4'⟩, fun xx H' yl => ?_⟩
                obtain ⟨T, z1, z2, rfl, hT, rfl, yl1, yl2⟩ := yl
                have q1 := yl1 zs k3
                have q2 := yl2 zs' k3'
                rw [k4] at q1
                rw [k4'] at q2
                cases q1
                cases q2
                exact ⟨r2.drop hT, T, _, _, rfl, upd_same, k5, k5'⟩
      · exact q1.elim
    · exact q1.elim)⟩

def loopF (nxt : Nat → Hh → Option (Option Yv)) (gt : TGt) (fb : FS) : Nat → Nat → Sg → Hh → Option Out
  | 0, _, _, _ => none
  | fuel + 1, i, σ, h => match nxt i h with
    | none => none
    | some none => some (.nx σ h)
    | some (some y) => match gt y h with
      | none => none
      | some as => match fb (setW σ as) h with
        | some (.nx σ1 h1) => loopF nxt gt fb fuel (i + 1) σ1 h1
        | some (.ct σ1 h1) => loopF nxt gt fb fuel (i + 1) σ1 h1
        | some (.bk σ1 h1) => some (.nx σ1 h1)
        | r => r
def fFor (fi : FI) (gt : TGt) (fb : FS) : FS := fun σ h => bndS (fi σ h) σ fun J h1 => loopF J.nxt gt fb J.fuel 0 σ h1
theorem cs_for {tg iter : Expr} {fi : FI} {wi : TI} (hp : PassesOwn (model X.prog X.w) X.A X.env X.xe) (hc : X.calm = true) (hi : CI X Wx tg iter fi wi) (hg : CG X tg gt g) (hb : CSs X Wx body f1 t1)
    (hs : ∀ x, foldedSetIterable iter X.env x = pure x := by intro _; rfl) : CS X Wx (.For tg iter body [] pos) (fFor fi gt f1) (tFor wi g t1) := ⟨ps_for hp hc hi.p hg.p hb.p hs, fun σ0 h ι σ H D rs r q =>
  hi.s σ0 h ι σ H _ rs r ((q.bnd rs).imp fun ι1 J h1 l1 q1 H1 J' r1 rj => by
    refine ⟨fun i m σ H => ∃ ι2 σ2 h2, Le ι1 ι2 ∧ RS ι2 σ2 σ ∧ R X.K ι2 h2 H ∧ AftS X.K Wx ι2 (loopF J.nxt gt f1 m i σ2 h2) D, ⟨J.fuel, ι1, σ0, h1, Le.refl _, rs.mono l1, r1, q1⟩, ?_⟩
    rintro i m σ' H' ⟨ι2, σ2, h2, l2, rs2, r2, q2⟩
    cases m with
    | zero => exact q2.elim
    | succ m =>
      unfold loopF at q2
      have j := rj i h2 ι2 H' l2 r2
      match e : J.nxt i h2 with
      | none => rw [e] at q2; exact q2.elim
      | some none =>
        rw [e] at q2 j
        exact .inl ⟨j, q2 ι2 σ' H' (Le.refl _) rs2 r2⟩
      | some (some y) =>
        rw [e] at q2 j
        refine .inr ⟨j.1, fun σ H => ∃ ι2 σ2 h2, Le ι1 ι2 ∧ RS ι2 σ2 σ ∧ R X.K ι2 h2 H ∧ AftS X.K Wx ι2 (loopF J.nxt gt f1 m (i + 1) σ2 h2) D, fun σ'' H'' w => ⟨m, Nat.lt_succ_self _, w⟩, fun x H'' yl => ?_⟩
        obtain ⟨r3, ry⟩ := j.2 x H'' yl
        refine hg.s y h2 ι2 σ' H'' x _ r3 ry ?_
        match e2 : gt y h2 with
        | none => simp only [e2] at q2; exact q2.elim
        | some as =>
          simp only [e2] at q2
          intro xs px
          refine hb.s (setW σ2 as) h2 ι2 (setV σ' xs) H'' _ (rs_set rs2 px) r3 ?_
          match e3 : f1 (setW σ2 as) h2 with
          | none => rw [e3] at q2; exact q2.elim
          | some (.nx σ4 h4) =>
            rw [e3] at q2
            exact fun ι5 σ5 H5 l5 rs5 r5 => ⟨ι5, σ4, h4, l2.trans l5, rs5, r5, AftS.mono l5 q2⟩
          | some (.ct σ4 h4) =>
            rw [e3] at q2
            exact fun ι5 σ5 H5 l5 rs5 r5 => ⟨ι5, σ4, h4, l2.trans l5, rs5, r5, AftS.mono l5 q2⟩
          | some (.bk σ4 h4) => rw [e3] at q2; exact q2
          | some (.rt w h4) => rw [e3] at q2; exact q2
          | some (.ex w σ4 h4) => rw [e3] at q2; exact q2)⟩
def whileF (fc : FT) (fb : FS) : Nat → Sg → Hh → Option Out
  | 0, _, _ => none
  | fuel + 1, σ, h => bndS (fc σ h) σ fun b h1 => if b then (match fb σ h1 with
      | some (.nx σ1 h2) => whileF fc fb fuel σ1 h2
      | some (.ct σ1 h2) => whileF fc fb fuel σ1 h2
      | some (.bk σ1 h2) => some (.nx σ1 h2)
      | r => r) else some (.nx σ h1)
def fWhile (fuel : Nat) (fc : FT) (fb : FS) : FS := fun σ h => whileF fc fb fuel σ h
theorem cs_while (fuel : Nat) (hp : PassesOwn (model X.prog X.w) X.A X.env X.xe) (hc : CT X Wx c fA tA) (hb : CSs X Wx body f1 t1) : CS X Wx (.While c body [] pos) (fWhile fuel fA f1) (tWhile tA t1) := ⟨ps_while hp hc.p hb.p, fun σ0 h ι σ H D rs r q => by
  refine ⟨fun m σ H => ∃ ι2 σ2 h2, Le ι ι2 ∧ RS ι2 σ2 σ ∧ R X.K ι2 h2 H ∧ AftS X.K Wx ι2 (whileF fA f1 m σ2 h2) D, ⟨fuel, ι, σ0, h, Le.refl _, rs, r, q⟩, ?_⟩
  rintro m σ' H' ⟨ι2, σ2, h2, l2, rs2, r2, q2⟩
  cases m with
  | zero => exact q2.elim
  | succ m =>
    unfold whileF at q2
    refine hc.s σ2 h2 ι2 σ' H' _ rs2 r2 ((q2.bnd rs2).imp fun ι3 k h3 l3 q3 H3 r3 => ?_)
    cases k with
    | false => exact q3 ι3 σ' H3 (Le.refl _) (rs2.mono l3) r3
    | true =>
      refine ⟨fun σ H => ∃ ι2 σ2 h2, Le ι ι2 ∧ RS ι2 σ2 σ ∧ R X.K ι2 h2 H ∧ AftS X.K Wx ι2 (whileF fA f1 m σ2 h2) D, fun σ'' H'' w => ⟨m, Nat.lt_succ_self _, w⟩, ?_⟩
      refine hb.s σ2 h3 ι3 σ' H3 _ (rs2.mono l3) r3 ?_
      rw [if_pos rfl] at q3
      match e3 : f1 σ2 h3 with
      | none => rw [e3] at q3; exact q3.elim
      | some (.nx σ4 h4) =>
        rw [e3] at q3
        exact fun ι5 σ5 H5 l5 rs5 r5 => ⟨ι5, σ4, h4, l2.trans (l3.trans l5), rs5, r5, AftS.mono l5 q3⟩
      | some (.ct σ4 h4) =>
        rw [e3] at q3
        exact fun ι5 σ5 H5 l5 rs5 r5 => ⟨ι5, σ4, h4, l2.trans (l3.trans l5), rs5, r5, AftS.mono l5 q3⟩
      | some (.bk σ4 h4) => rw [e3] at q3; exact q3
      | some (.rt w h4) => rw [e3] at q3; exact q3
      | some (.ex w σ4 h4) => rw [e3] at q3; exact q3⟩
end rules
end Sp
set_option Elab.async false
set_option linter.all false
set_option maxRecDepth 100000
set_option maxHeartbeats 1250000
namespace Sp
open PySem PySem.Spec L2
/-! ### comprehensions -/
abbrev WF : WX := fun _ _ _ _ => False
theorem passF {X : Cx} (σ : St) : PassesAt (L2.CX X.prog X.w) X σ (WE WF σ) := fun _ _ _ _ _ _ c => by
  obtain ⟨_, _, _, _, _, _, _, _, _, _, _, _, q⟩ := c
  exact q.elim
def wipeW (σ : Sg) : List Nat → Sg
  | [] => σ
  | v :: vs => (wipeW σ vs).set v none
theorem rs_wipe {ι : Io} {σ0 : Sg} {σ : St} (r : RS ι σ0 σ) : ∀ vs : List Nat, RS ι (wipeW σ0 vs) (wipe σ vs)
  | [] => r
  | v :: vs => pr_set (F := RO1 ι) (x := none) (u := none) trivial v (rs_wipe r vs)
theorem wipe_set {x : Option V} {i : Nat} : ∀ {vs : List Nat} {σ : St}, i ∈ vs → wipe (σ.set i x) vs = wipe σ vs
  | v :: vs, σ, h => by
    show (wipe (σ.set i x) vs).set v none = (wipe σ vs).set v none
    by_cases hv : i ∈ vs
    · rw [wipe_set hv]
    · have e : i = v := by
        exact (List.mem_cons.mp h).resolve_right hv
      subst e
      have comm : ∀ (vs : List Nat) (σ : St), i ∉ vs → wipe (σ.set i x) vs = (wipe σ vs).set i x := by
        intro vs
        induction vs with
        | nil => intro σ _; rfl
        | cons v vs ih =>
          intro σ hn
          show (wipe (σ.set i x) vs).set v none = ((wipe σ vs).set v none).set i x
          rw [ih σ (fun z => hn (List.mem_cons_of_mem _ z))]
          exact List.set_comm _ _ (fun z => hn (by rw [z]; exact List.mem_cons_self))
      rw [comm vs σ hv, List.set_set]
theorem wipe_setV {vs : List Nat} : ∀ {xs : List (Nat × V)} {σ : St}, (∀ p ∈ xs, p.1 ∈ vs) → wipe (setV σ xs) vs = wipe σ vs
  | [], _, _ => rfl
  | p :: xs, σ, h => by
    show wipe (setV (σ.set p.1 (some p.2)) xs) vs = wipe σ vs
    rw [wipe_setV (xs := xs) fun q hq => h q (List.mem_cons_of_mem _ hq), wipe_set (h p List.mem_cons_self)]
theorem wipe_wipe {σ : St} {vs : List Nat} : ∀ {us : List Nat}, (∀ u ∈ us, u ∈ vs) → wipe (wipe σ us) vs = wipe σ vs
  | [], _ => rfl
  | u :: us, h => by
    show wipe ((wipe σ us).set u none) vs = wipe σ vs
    rw [wipe_set (h u List.mem_cons_self), wipe_wipe (us := us) fun q hq => h q (List.mem_cons_of_mem _ hq)]
def lcF (nxt : Nat → Hh → Option (Option Yv)) (gt : TGt) (vs : List Nat) (ft : FT) (fe : FE) (d : Nat) : Nat → Nat → Sg → Hh → Option Hh
  | 0, _, _, _ => none
  | fuel + 1, i, σ, h => match nxt i h with
    | none => none
    | some none => some h
    | some (some y) => match gt y h with
      | none => none
      | some as => if (as.all fun p => vs.contains p.1) = true then (match ft (setW σ as) h with
        | some (.ok true h1) => (match fe (setW σ as) h1 with
          | some (.ok w h2) => (match h2[d]? with
            | some (.lst acc) => if acc.length < LIM then lcF nxt gt vs ft fe d fuel (i + 1) σ (h2.set d (.lst (acc ++ [w]))) else none
            | _ => none)
          | _ => none)
        | some (.ok false h1) => lcF nxt gt vs ft fe d fuel (i + 1) σ h1
        | _ => none) else none
def fLc (fi : FI) (gt : TGt) (vs : List Nat) (ft : FT) (fe : FE) : FE := fun σ h => bnd (fi σ h) fun J h1 => match lcF J.nxt gt vs ft fe h1.length J.fuel 0 (wipeW σ vs) (h1 ++ [.lst []]) with
  | some h2 => some (.ok (.ref h1.length) h2)
  | none => none
structure CTs (X : Cx) (Wx : WX) (ifs : List Expr) (f : FT) (t : TT) : Prop where
  p : PTs X ifs t
  s : SndT X.K Wx f t
def fYes : FT := fun _ h => some (.ok true h)
theorem cts_nil {X : Cx} {Wx : WX} : CTs X Wx [] fYes tYes := ⟨pts_nil, fun σ0 h ι σ H Q rs r q => q.ok H r⟩
theorem cts_one {X : Cx} {Wx : WX} {c : Expr} {f : FT} {t : TT} (h : CT X Wx c f t) : CTs X Wx [c] f t := ⟨pts_one h.p, h.s⟩
theorem and_of_all {α : Type} {f : α → Bool} {x : α} {l : List α} (h : (x :: l).all f = true) : f x = true ∧ l.all f = true := by simpa using h
theorem aft_of {K : PySem.W.Frag} {Wx : WX} {α : Type} {ι : Io} {σ : St} {x : α} {h : Hh} {k : Io → α → Hh → Prop} (hk : ∀ ι', Le ι ι' → k ι' x h) : Aft K Wx ι σ (some (.ok x h)) k := hk
theorem snd_lc {K : PySem.W.Frag} {Wx : WX} {fi : FI} {wi : TI} {gt : TGt} {g : TG} {vs : List Nat} {ft : FT} {tt : TT} {fe : FE} {te : TE} (hi : SndI K Wx fi wi) (hg : SndG K gt g) (ht : SndT K WF ft tt) (he : SndE K WF fe te) :
    SndE K Wx (fLc fi gt vs ft fe) (tLc wi g tt te vs) := fun σ0 h ι σ H Q rs r q =>
  hi σ0 h ι σ H _ rs r (q.bnd.imp fun ι1 J h1 l1 q1 H1 J' r1 rj D hD => by
    have rD : R K (ι1 ++ [D]) (h1 ++ [.lst []]) (upd H1 D (.lst [])) := r1.newL hD .nil
    have dD : (ι1 ++ [D])[h1.length]? = some D := by rw [io_app, ← r1.len]; show (ι1.as ++ [D])[ι1.as.length]? = some D; simp
    match e0 : lcF J.nxt gt vs ft fe h1.length J.fuel 0 (wipeW σ0 vs) (h1 ++ [.lst []]) with
    | none => rw [e0] at q1; exact q1.elim
    | some hE =>
      rw [e0] at q1
      refine ⟨fun i m H => ∃ ι2 h2, Le (ι1 ++ [D]) ι2 ∧ R K ι2 h2 H ∧ lcF J.nxt gt vs ft fe h1.length m i (wipeW σ0 vs) h2 = some hE, ⟨J.fuel, ι1 ++ [D], h1 ++ [.lst []], Le.refl _, rD, e0⟩, ?_⟩
      rintro i m H' ⟨ι2, h2, l2, r2, e2⟩
      have l12 : Le ι1 ι2 := (Le.app ι1 D).trans l2
      cases m with
      | zero => cases e2
      | succ m =>
        unfold lcF at e2
        have j := rj i h2 ι2 H' l12 r2
        match e : J.nxt i h2 with
        | none => (rw [e] at e2; cases e2)
        | some none =>
          rw [e] at e2 j
          cases e2
          exact .inl ⟨j, q1 ι2 l12 (.ref D) H' ⟨D, l2 _ _ dD, rfl⟩ r2⟩
        | some (some y) =>
          rw [e] at e2 j
          refine .inr ⟨j.1, fun H => ∃ ι2 h2, Le (ι1 ++ [D]) ι2 ∧ R K ι2 h2 H ∧ lcF J.nxt gt vs ft fe h1.length m (i + 1) (wipeW σ0 vs) h2 = some hE, fun H'' w => ⟨m, Nat.lt_succ_self _, w⟩, fun x H'' yl => ?_⟩
          obtain ⟨r3, ry⟩ := j.2 x H'' yl
          refine hg y h2 ι2 (wipe σ vs) H'' x _ r3 ry ?_
          match e3 : gt y h2 with
          | none => simp only [e3] at e2; cases e2
          | some as =>
            simp only [e3] at e2
            by_cases hv : (as.all fun p => vs.contains p.1) = true
            · rw [if_pos hv] at e2
              intro xs px
              have rs3 : RS ι2 (setW (wipeW σ0 vs) as) (setV (wipe σ vs) xs) := rs_set ((rs_wipe rs vs).mono (l1.trans l12)) px
              have hxs : ∀ p ∈ xs, p.1 ∈ vs := by
                have gen : ∀ {as : As} {xs : List (Nat × V)}, Paired (PAs ι2) as xs → (as.all fun p => vs.contains p.1) = true → ∀ p ∈ xs, p.1 ∈ vs := by
                  intro as xs pp
                  induction pp with
                  | nil => intro _ p hp; cases hp
                  | cons ab _ ih =>
                    intro hall p hp
                    have hall := and_of_all hall
                    rcases List.mem_cons.mp hp with z | z
                    · rw [z, ← ab.1]; simpa using hall.1
                    · exact ih hall.2 p z
                exact gen px hv
              refine ⟨by rw [wipe_setV hxs, wipe_wipe fun _ h => h], ?_⟩
              refine ht _ h2 ι2 _ H'' _ rs3 r3 ?_
              match e4 : ft (setW (wipeW σ0 vs) as) h2 with
              | none => rw [e4] at e2; cases e2
              | some (.ex _ _) => rw [e4] at e2; cases e2
              | some (.ok false h3) =>
                rw [e4] at e2
                refine aft_of fun ι3 l3 H3 r3' => ?_
                exact ⟨ι3, h3, l2.trans l3, r3', e2⟩
              | some (.ok true h3) =>
                rw [e4] at e2
                refine aft_of fun ι3 l3 H3 r3' => ?_
                show te _ H3 _
                refine he _ h3 ι3 _ H3 _ (rs3.mono l3) r3' ?_
                simp only at e2
                match e5 : fe (setW (wipeW σ0 vs) as) h3 with
                | none => rw [e5] at e2; cases e2
                | some (.ex _ _) => rw [e5] at e2; cases e2
                | some (.ok w h4) =>
                  rw [e5] at e2
                  refine aft_of fun ι4 l4 yv H4 ryv r4 => ?_
                  simp only at e2
                  match e6 : h4[h1.length]? with
                  | none => rw [e6] at e2; cases e2
                  | some (.lst acc) =>
                    rw [e6] at e2
                    simp only at e2
                    split at e2
                    · rename_i hl
                      obtain ⟨a, xs', g1, g2, g3⟩ := r4.ml e6
                      have l24 : Le (ι1 ++ [D]) ι4 := l2.trans (l3.trans l4)
                      rw [l24 _ _ dD] at g1
                      cases g1
                      exact ⟨xs', g3, lim_lt (by rw [← Paired.length g2]; exact hl), ι4, _, l24, r4.write (o := .lst (acc ++ [w])) (l24 _ _ dD) e6 rfl rfl ⟨_, pr_app g2 (.cons ryv .nil), upd_same⟩, e2⟩
                    · cases e2
                  | some (.tup _) => rw [e6] at e2; cases e2
                  | some (.dct _) => rw [e6] at e2; cases e2
                  | some (.scr _) => rw [e6] at e2; cases e2
                  | some (.ksc _) => rw [e6] at e2; cases e2
                  | some (.ins _ _) => rw [e6] at e2; cases e2
                  | some (.fdc _) => rw [e6] at e2; cases e2
                  | some (.stI _) => rw [e6] at e2; cases e2
            · rw [if_neg hv] at e2
              cases e2)
section rules
abbrev Dp (α : Type) := Shared → Hp → Addr → List (Str × Addr) → List Addr → α
abbrev dp0 {α : Type} (g : Dp α) : α := g {} (fun _ => none) 0 [] []
variable {X : Cx} {Wx : WX} {fe : FE} {te : Dp TE} {pos spos : Pos} {elt tg iter : Expr} {ifs : List Expr} {scope : Scope} {fi : FI} {wi : TI} {gt : TGt} {g : Dp TG} {ft : FT} {tt : Dp TT}
theorem c_lc (own : List (Str × Nat)) (hc : X.calm = true) (hN : X.N.Nodup) (hi : CI X Wx tg iter fi wi) (ok : BlkOk X.N X.env.scope scope own)
    (hg : ∀ (s : Shared) (H : Hp) (C : Addr) (cl : List (Str × Addr)) (fp : List Addr), CG (X.blk s H scope (compEnvC scope cl C X.env) fp) tg gt (g s H C cl fp))
    (ht : ∀ (s : Shared) (H : Hp) (C : Addr) (cl : List (Str × Addr)) (fp : List Addr), CTs (X.blk s H scope (compEnvC scope cl C X.env) fp) WF ifs ft (tt s H C cl fp))
    (he : ∀ (s : Shared) (H : Hp) (C : Addr) (cl : List (Str × Addr)) (fp : List Addr), CE (X.blk s H scope (compEnvC scope cl C X.env) fp) WF elt fe (te s H C cl fp))
    (hs : ∀ x, foldedSetIterable iter X.env x = pure x := by intro _; rfl)
    (hge : ∀ s H C cl fp, g s H C cl fp = dp0 g := by intros; rfl) (hte : ∀ s H C cl fp, tt s H C cl fp = dp0 tt := by intros; rfl) (hee : ∀ s H C cl fp, te s H C cl fp = dp0 te := by intros; rfl) :
    CE X Wx (.ListComp elt [⟨tg, iter, ifs, 0⟩] scope pos) (fLc fi gt (own.map (·.2)) ft fe) (tLc wi (dp0 g) (dp0 tt) (dp0 te) (own.map (·.2))) :=
  ⟨pe_lc hc hN hi.p ok (fun s H C cl fp => hge s H C cl fp ▸ (hg s H C cl fp).p) (fun s H C cl fp => hte s H C cl fp ▸ (ht s H C cl fp).p) (fun s H C cl fp => hee s H C cl fp ▸ (he s H C cl fp).p) hs,
    snd_lc hi.s (hg {} (fun _ => none) 0 [] []).s (ht {} (fun _ => none) 0 [] []).s (he {} (fun _ => none) 0 [] []).s⟩
theorem cs_setLc (i : Nat) (own : List (Str × Nat)) {y : Str} {py : Pos} (hc : X.calm = true) (hN : X.N.Nodup) (hi : CI X Wx tg iter fi wi) (ok : BlkOk X.N X.env.scope scope own)
    (hg : ∀ (s : Shared) (H : Hp) (C : Addr) (cl : List (Str × Addr)) (fp : List Addr), CG (X.blk s H scope (compEnvC scope cl C X.env) fp) tg gt (g s H C cl fp))
    (ht : ∀ (s : Shared) (H : Hp) (C : Addr) (cl : List (Str × Addr)) (fp : List Addr), CTs (X.blk s H scope (compEnvC scope cl C X.env) fp) WF ifs ft (tt s H C cl fp))
    (he : ∀ (s : Shared) (H : Hp) (C : Addr) (cl : List (Str × Addr)) (fp : List Addr), CE (X.blk s H scope (compEnvC scope cl C X.env) fp) WF elt fe (te s H C cl fp))
    (hsw : swapsWith (.ListComp elt [⟨tg, iter, ifs, 0⟩] scope pos) (some (.Name y py)) spos.line X.env = pure true)
    (hy : X.N[i]? = some y := by rfl) (hyl : X.env.scope.names.lookup y = some .local := by rfl)
    (hs : ∀ x, foldedSetIterable iter X.env x = pure x := by intro _; rfl)
    (hge : ∀ s H C cl fp, g s H C cl fp = dp0 g := by intros; rfl) (hte : ∀ s H C cl fp, tt s H C cl fp = dp0 tt := by intros; rfl) (hee : ∀ s H C cl fp, te s H C cl fp = dp0 te := by intros; rfl) :
    CS X Wx (.Assign [.Name y py] (.ListComp elt [⟨tg, iter, ifs, 0⟩] scope pos) spos) (fSet i (fLc fi gt (own.map (·.2)) ft fe)) (tAsg (tLc wi (dp0 g) (dp0 tt) (dp0 te) (own.map (·.2))) (gName i)) :=
  ⟨ps_setLc hc hN hy hyl hsw hi.p ok (fun s H C cl fp => hge s H C cl fp ▸ (hg s H C cl fp).p) (fun s H C cl fp => hte s H C cl fp ▸ (ht s H C cl fp).p) (fun s H C cl fp => hee s H C cl fp ▸ (he s H C cl fp).p) hs,
    fun σ0 h ι σ H D rs r q => snd_lc hi.s (hg {} (fun _ => none) 0 [] []).s (ht {} (fun _ => none) 0 [] []).s (he {} (fun _ => none) 0 [] []).s σ0 h ι σ H _ rs r
      ((q.bnd rs).imp fun ι1 w h1 l1 q1 x H1 rx r1 => q1 ι1 _ H1 (Le.refl _) (rs_set1 (rs.mono l1) rx i) r1)⟩
end rules

/-! ### defs -/
def startW (N : Nat) (ws : List W) : Sg := ws.map some ++ List.replicate (N - ws.length) none
def outR : Option Out → Option (Rs W)
  | some (.nx _ h) => some (.ok .non h)
  | some (.rt w h) => some (.ok w h)
  | some (.ex e _ h) => some (.ex e h)
  | _ => none
@[irreducible] def runF (n N : Nat) (f : FS) : FN := fun ws h => if ws.length = n then outR (f (startW N ws) h) else none
theorem rs_start {ι : Io} {N : List Str} {ws : List W} {vs : List V} (r : Rels ι ws vs) : RS ι (startW N.length ws) (L2.start N vs) := by
  unfold startW L2.start
  rw [Paired.length r]
  refine pr_app ?_ (pr_rep (F := RO1 ι) (x := none) (u := none) trivial _)
  have gen : ∀ {ws : List W} {vs : List V}, Rels ι ws vs → Paired (RO1 ι) (ws.map some) (vs.map some) := by
    intro ws vs rr
    induction rr with
    | nil => exact .nil
    | cons a _ ih => exact .cons ⟨_, rfl, a⟩ ih
  exact gen r
theorem len_ok {K : PySem.W.Frag} {n N : Nat} {f : FS} : ∀ vs H Q E, spOf K (runF n N f) vs H Q E → vs.length = n := by
  rintro vs H Q E ⟨ι, h, ws, r, _, a⟩
  unfold runF at a
  split at a
  · rename_i hl
    rw [← Paired.length r]; exact hl
  · exact a.elim
theorem fn_ok {P : Program} {w : World} {K : PySem.W.Frag} {mg : Str → Option Value} {base : Heap} {x qual : Str} {st : Stmt} {f : Addr} {fd : FuncData} {N ps : List Str} {k : Nat} {fb : FS} (F : Fun K x qual st f fd) (S : FnScope N ps (defScope st))
    (hb : ∀ (cdv : Value) (A : Around) (outer : List Env) (s : Shared) (H : Hp) (E : XK), Room k (A.deeper (PyProof.Rows.envOfC qual (defScope st) s.heap.objs.size f cdv)) →
      ∃ t, CSs (cxOf (L2.CX P w) P w K mg base N qual (defScope st) f cdv A outer s H E) (fun c d _ H => E c d H) (defBody st) fb t) :
    FnOk P w K mg base (L2.CX P w) (k + 1) f fd ps (spOf K (runF ps.length N.length fb)) := by
  refine F.okX S len_ok fun cdv A outer s H vs Q E hr h => ?_
  obtain ⟨ι, hh, ws, rw', r, a⟩ := h
  obtain ⟨t, c⟩ := hb cdv A outer s H E hr
  refine ⟨t, c.p, c.s (startW N.length ws) hh ι (L2.start N vs) H _ (rs_start rw') r ?_⟩
  unfold runF at a
  split at a
  · rename_i hl
    match e : fb (startW N.length ws) hh with
    | none => rw [e] at a; exact a.elim
    | some (.nx _ h1) => rw [e] at a; exact fun ι' σ' H' l _ r' => a ι' l .non H' rfl r'
    | some (.rt u h1) => rw [e] at a; exact fun ι' x' H' l rx r' => a ι' l x' H' rx r'
    | some (.bk _ h1) => rw [e] at a; exact a.elim
    | some (.ct _ h1) => rw [e] at a; exact a.elim
    | some (.ex u _ h1) => rw [e] at a; exact fun ι' σ' H' d l _ r' x' => a ι' H' d l r' x'
  · exact a.elim
/-- another mirror of the same def -/
theorem fn_imp {P : Program} {w : World} {K : PySem.W.Frag} {mg : Str → Option Value} {base : Heap} {CX : CXT} {k : Nat} {f : Addr} {fd : FuncData} {ps : List Str} {m m' : FN} (F : FnOk P w K mg base CX k f fd ps (spOf K m)) (h : ∀ ws h r, m' ws h = some r → m ws h = some r) : FnOk P w K mg base CX k f fd ps (spOf K m') :=
  F.imp fun vs H Q E ⟨ι, hh, ws, a1, a2, a3⟩ => ⟨ι, hh, ws, a1, a2, by
    match e : m' ws hh with
    | none => rw [e] at a3; exact a3.elim
    | some r => rw [e] at a3; rw [h _ _ _ e]; exact a3⟩
/-- the end: the law gives True for every script -/
theorem law_end {K : PySem.W.Frag} {m : FN} {n : Nat} (h : ∀ (ns : List Int) (o : O), ns.length ≤ n → (∀ z ∈ ns, Builtin.Int.intBits z ≤ 1048576) → (o = .scr ns ∨ o = .ksc ns) → ∃ h', m [.ref 0] [o] = some (.ok (.bl true) h'))
    (H : Hp) (a : Addr) (ns : List Int) (hl : ns.length ≤ n) (hb : ∀ z ∈ ns, Builtin.Int.intBits z ≤ 1048576) (hO : Only H) (hS : SqL K H a (ns.map V.int)) : spOf K m [.ref a] H (fun v _ => v = .bl true) fun _ _ _ => False := by
  have fin : ∀ o, (o = .scr ns ∨ o = .ksc ns) → RObj K H ⟨[a], fun _ => none⟩ a o → spOf K m [.ref a] H (fun v _ => v = .bl true) fun _ _ _ => False := fun o ho hr => by
    obtain ⟨h', e⟩ := h ns o hl hb ho
    refine ⟨⟨[a], fun _ => none⟩, [o], [.ref 0], .cons ⟨a, rfl, rfl⟩ .nil, ⟨rfl, fun i j b p q e1 e2 _ _ _ _ => ?_, fun i b p e1 e2 => ?_⟩, ?_⟩
    · rename_i z1 z2 _ _
      have h1 : i < 1 := (List.getElem?_eq_some_iff.mp z1).1
      have h2 : j < 1 := (List.getElem?_eq_some_iff.mp z2).1
      omega
    · have h1 : i < 1 := (List.getElem?_eq_some_iff.mp e2).1
      have h2 : i = 0 := by omega
      subst h2
      have e3 : a = b := Option.some.inj e1
      have e4 : o = p := Option.some.inj e2
      subst e3 e4
      exact hr
    · rw [e]
      exact fun ι' l x H' rx _ => rx
  rcases hS with (hS | ⟨o, hS⟩) | hS
  · rcases hO a with z | ⟨o, xs, z⟩
    · rw [z] at hS; cases hS
    · rw [z] at hS; cases hS
  · exact fin (.scr ns) (.inl rfl) ⟨o, hS⟩
  · exact fin (.ksc ns) (.inr rfl) hS
theorem walk_law {l : PySem.W.OpenLaw} {n k : Nat} {q : Program} {loose : List Str} {XP : (Str → Option Value) → Heap → Prop} {YP : World → Heap → Prop} {d : DefRec} {K : Params → PySem.W.Frag} {m : FN} {x : Str}
    (hm : ∀ (ns : List Int) (o : O), ns.length ≤ n → (∀ z ∈ ns, Builtin.Int.intBits z ≤ 1048576) → (o = .scr ns ∨ o = .ksc ns) → ∃ h', m [.ref 0] [o] = some (.ok (.bl true) h')) (hn : l.most = some n) (hn2 : n ≤ sizeLine) (hdf : d.params.defaults = []) (hr : Room k callerA) (hY : ∀ (w : World) (h : Heap), YP w h → (K w.params).In h) (F : ∀ (w : World) (mg : Str → Option Value) (fa : Addr) (h : Heap), (K w.params).In h → h.Ns mainGlobals mg → mg d.name = some (.ref fa) → ∃ fd : FuncData, (∀ (s : Shared) (u : Value), BindsTo s fd ⟨[u], []⟩ [(x, u)]) ∧ ∀ base : Heap, (K w.params).In base → base.Ns mainGlobals mg → FnOk l.prog w (K w.params) mg base (L2.CX l.prog w) k fa fd [x] (spOf (K w.params) m)) : PySem.W.WalkO q loose XP YP l.row.toRowW d [] (fun f vs => PySem.call f vs) :=
  L2.walk_ofB (CX := fun w => L2.CX l.prog w) (sp := fun w => spOf (K w.params) m) hn hn2 hdf hr hY F (fun w H a ns hl hb hO hS => law_end hm H a ns hl hb hO hS) fun w H s e s' c => by
    obtain ⟨_, _, _, _, _, _, _, _, _, _, _, _, z⟩ := c
    exact z
end Sp
set_option Elab.async false
set_option linter.all false
set_option maxRecDepth 100000
set_option maxHeartbeats 2250000
/-! list(zip(xs, ys)) -/
namespace PySem.W
open PySem.Calls PySem PyProof.V PyProof.Rows PySem.Spec
def ZpSt (h : Heap) (z TI TO i1 i2 l1 l2 U : Addr) (k : Nat) : Prop :=
  IsPair h TI (.ref i1) (.ref i2) ∧ h.IsListIter i1 l1 k ∧ h.IsListIter i2 l2 k ∧
    ((k = 0 ∧ IsZip h z TI TO .none ∧ ∃ a b, IsPair h TO a b) ∨ ∃ T f oT, IsZipHeld h z TI TO T f ∧ h.get? T = some oT ∧ T ≠ z ∧ T ≠ i1 ∧ T ≠ i2 ∧ T ≠ U)
theorem ZpSt.keep {h h' : Heap} {z TI TO i1 i2 l1 l2 U : Addr} {k : Nat} (x : ZpSt h z TI TO i1 i2 l1 l2 U k) (hk : ∀ b o, b ≠ U → h.get? b = some o → h'.get? b = some o) (n1 : z ≠ U) (n2 : TI ≠ U) (n3 : TO ≠ U) (n4 : i1 ≠ U) (n5 : i2 ≠ U) : ZpSt h' z TI TO i1 i2 l1 l2 U k := by
  obtain ⟨a, b, c, d⟩ := x
  refine ⟨hk _ _ n2 a, b.at fun o e => hk _ _ n4 e, c.at fun o e => hk _ _ n5 e, ?_⟩
  rcases d with ⟨e, d1, p, q, d2⟩ | ⟨T, f, oT, d1, d2, d3, d4, d5, d6⟩
  · exact .inl ⟨e, hk _ _ n1 d1, p, q, hk _ _ n3 d2⟩
  · exact .inr ⟨T, f, oT, hk _ _ n1 d1, hk _ _ d6 d2, d3, d4, d5, d6⟩
/-- the pairs that came -/
structure ZpG (xs ys : Array Value) (lo : Addr) (h : Heap) (ads : List Addr) : Prop where
  rise : ads.Pairwise (· < ·)
  above : ∀ a ∈ ads, lo < a
  pairs : ∀ (j : Nat) (a : Addr), ads[j]? = some a → ∃ x y, xs[j]? = some x ∧ ys[j]? = some y ∧ IsPair h a x y
theorem ZpG.there {xs ys : Array Value} {lo : Addr} {h : Heap} {ads : List Addr} (g : ZpG xs ys lo h ads) {a : Addr} (ha : a ∈ ads) : a < h.objs.size := by
  have ⟨j, at_⟩ := List.getElem?_of_mem ha
  have ⟨_, _, _, _, e⟩ := g.pairs j a at_
  exact Heap.lt_size e
section
variable {prog : Program} {w : World} {A : Around} {E : Value → Shared → Prop} {s : Shared} {R : Result → Shared → Prop} {xs ys : Array Value}
theorem zp_item {z TI TO i1 i2 l1 l2 U : Addr} {k : Nat} {x y : Value} {Q : Option Value → Shared → Prop} (D : ZipApart z TI TO i1 i2 l1 l2) (hst : ZpSt s.heap z TI TO i1 i2 l1 l2 U k) (hU : U < s.heap.objs.size) (hl1 : s.heap.IsList l1 xs) (hl2 : s.heap.IsList l2 ys) (hx : xs[k]? = some x) (hy : ys[k]? = some y)
    (hQ : ∀ h', ZpSt h' z TI TO i1 i2 l1 l2 U (k + 1) → IsPair h' s.heap.objs.size x y → h'.objs.size = s.heap.objs.size + 1 → (∀ c o, c ≠ z → c ≠ TO → c ≠ i1 → c ≠ i2 → s.heap.get? c = some o → h'.get? c = some o) → Q (some (.ref s.heap.objs.size)) { s with heap := h' }) : wpAny (model prog w) A (pyNext (.ref z)) Q E s := by
  obtain ⟨hTI, h1, h2, d⟩ := hst
  have nz : ∀ {b : Addr} {o : Obj}, s.heap.get? b = some o → s.heap.objs.size ≠ b := fun {b o} e => Nat.ne_of_gt (Heap.lt_size e)
  have lz : s.heap.objs.size ≠ z := by
    rcases d with ⟨_, d1, _⟩ | ⟨_, _, _, d1, _⟩
    · exact nz d1
    · exact nz d1
  have li1 : s.heap.objs.size ≠ i1 := by obtain ⟨_, e, _⟩ := h1; exact nz e
  have li2 : s.heap.objs.size ≠ i2 := by obtain ⟨_, e, _⟩ := h2; exact nz e
  rcases d with ⟨e, d1, p, q, d2⟩ | ⟨T, f, oT, d1, d2, d3, d4, d5, d6⟩
  · exact wpAny_pyNext_zip_item D d1 hTI d2 h1 h2 hl1 hl2 hx hy fun h' a1 a2 a3 a4 a5 a6 a7 =>
      hQ h' ⟨a7 _ _ D.TIz D.TITO D.TIi1 D.TIi2 hTI, a3, a4, .inr ⟨_, false, _, a1, a5, lz, li1, li2, Nat.ne_of_gt hU⟩⟩ a5 a6 a7
  · exact wpAny_pyNext_zip_item_held D d1 d2 hTI h1 h2 hl1 hl2 hx hy fun h' a1 a3 a4 a5 a6 a7 =>
      hQ h' ⟨a7 _ _ D.TIz D.TIi1 D.TIi2 hTI, a3, a4, .inr ⟨T, true, oT, a1, a7 _ _ d3 d4 d5 d2, d3, d4, d5, d6⟩⟩ a5 a6 fun c o c1 _ c3 c4 e => a7 c o c1 c3 c4 e
theorem zp_done {z TI TO i1 i2 l1 l2 U : Addr} {k : Nat} {Q : Option Value → Shared → Prop} (hh : A.handled = none) (D : ZipApart z TI TO i1 i2 l1 l2) (hst : ZpSt s.heap z TI TO i1 i2 l1 l2 U k) (hl1 : s.heap.IsList l1 xs) (hl2 : s.heap.IsList l2 ys) (hend : xs[k]? = none ∨ ys[k]? = none)
    (hQ : ∀ h', (∀ d o, d ≠ z → d ≠ TO → d ≠ i1 → d ≠ i2 → s.heap.get? d = some o → h'.get? d = some o) → Q none { s with heap := h' }) : wpAny (model prog w) A (pyNext (.ref z)) Q E s := by
  obtain ⟨hTI, h1, h2, d⟩ := hst
  rcases d with ⟨e, d1, p, q, d2⟩ | ⟨T, f, oT, d1, d2, d3, d4, d5, d6⟩
  · exact wpAny_pyNext_zip_end hh D d1 hTI d2 h1 h2 hl1 hl2 hend hQ
  · exact wpAny_pyNext_zip_end_held hh D d1 d2 hTI h1 h2 hl1 hl2 hend fun h' hk => hQ h' fun c o c1 _ c3 c4 e => hk c o c1 c3 c4 e
/-- the objects of a zip are apart from the new list -/
structure ZpS (z TI TO i1 i2 l1 l2 U : Addr) : Prop where
  z : z ≠ U
  TI : TI ≠ U
  TO : TO ≠ U
  i1 : i1 ≠ U
  i2 : i2 ≠ U
  l1 : l1 ≠ U
  l2 : l2 ≠ U
/-- one more turn of the new list's loop: the zip is asked -/
theorem zp_open {U z : Addr} {res : Value} (h : wpAny (model prog w) A.in1 (pyNext (.ref z)) (fun came s1 => wpAny (model prog w) A.in1 (match came with | none => ret res | some x => updateSeq U (·.push x) >>= fun _ => again (.builtin "list.extend.loop" ⟨[.ref U, .ref z, res], []⟩))
      (fun (nd : Fin) s' => match nd with | .done f => R (.ok f) s' | .again c' => c'.quiet = true ∧ codeAny (model prog w) A c' R s') (fun e s' => R (.error e) s') s1) (fun e s' => R (.error e) s') s) :
    codeAny (model prog w) A (.builtin "list.extend.loop" ⟨[.ref U, .ref z, res], []⟩) R s :=
  codeAny_builtin PySem.F.entry_extend_loop (by rw [Around.under_plainId PySem.F.plain_extend_loop _]; exact wpAny_bind h)
theorem zp_loop {z TI TO i1 i2 l1 l2 U : Addr} {lo n : Nat} (hh : A.handled = none) (D : ZipApart z TI TO i1 i2 l1 l2) (N : ZpS z TI TO i1 i2 l1 l2 U) (hlo : U ≤ lo ∧ z ≤ lo ∧ TO ≤ lo ∧ i1 ≤ lo ∧ i2 ≤ lo) (hn : n = min xs.size ys.size) (hz : n ≤ sizeLine) (res : Value) {h₁ : Heap}
    (hR : ∀ h' tk got c ads, (∀ b o, b ≠ U → b ≠ z → b ≠ TO → b ≠ i1 → b ≠ i2 → h₁.get? b = some o → h'.get? b = some o) → h'.get? U = some { cls := .type "list", dict := none, data := .seq got c, slots := #[] } → ads.length = n → ZpG xs ys lo h' ads →
      got.toList = ads.map Value.ref → R (.ok (.ret res)) { s with heap := h', toks := tk }) :
    ∀ (k i : Nat) (h : Heap) (tk c : Nat) (got : Array Value) (ads : List Addr), n - i = k → i ≤ n → ZpSt h z TI TO i1 i2 l1 l2 U i → h.IsList l1 xs → h.IsList l2 ys → (∀ b o, b ≠ U → b ≠ z → b ≠ TO → b ≠ i1 → b ≠ i2 → h₁.get? b = some o → h.get? b = some o) →
      h.get? U = some { cls := .type "list", dict := none, data := .seq got c, slots := #[] } → got.toList = ads.map Value.ref → ads.length = i → ZpG xs ys lo h ads → lo < h.objs.size →
      codeAny (model prog w) A (.builtin "list.extend.loop" ⟨[.ref U, .ref z, res], []⟩) R { s with heap := h, toks := tk } := by
  intro k
  induction k with
  | zero =>
    intro i h tk c got ads hk hi hst hl1 hl2 hkeep hU hacc hal gd iIs
    have hin : i = n := by omega
    refine zp_open ?_
    have hend : xs[i]? = none ∨ ys[i]? = none := by
      by_cases q : xs.size ≤ i
      · exact .inl (by simp; omega)
      · exact .inr (by simp; omega)
    refine zp_done (s := { s with heap := h, toks := tk }) (A := A.in1) hh D hst hl1 hl2 hend fun h' he => ?_
    refine wpAny_pure (hR h' tk got c ads (fun b o b1 b2 b3 b4 b5 e => he b o b2 b3 b4 b5 (hkeep b o b1 b2 b3 b4 b5 e)) (he U _ N.z.symm N.TO.symm N.i1.symm N.i2.symm hU) (by omega) ⟨gd.rise, gd.above, fun j a hj => ?_⟩ hacc)
    obtain ⟨x, y, e1, e2, e3⟩ := gd.pairs j a hj
    have ha := gd.above a (List.mem_of_getElem? hj)
    have nl : ∀ {p : Addr}, p ≤ lo → a ≠ p := fun h => Nat.ne_of_gt (Nat.lt_of_le_of_lt h ha)
    exact ⟨x, y, e1, e2, he a _ (nl hlo.2.1) (nl hlo.2.2.1) (nl hlo.2.2.2.1) (nl hlo.2.2.2.2) e3⟩
  | succ k ih =>
    intro i h tk c got ads hk hi hst hl1 hl2 hkeep hU hacc hal gd iIs
    have hlt : i < n := by omega
    obtain ⟨x, hx⟩ : ∃ p, xs[i]? = some p := ⟨xs[i]'(by omega), Array.getElem?_eq_getElem (by omega)⟩
    obtain ⟨y, hy⟩ : ∃ p, ys[i]? = some p := ⟨ys[i]'(by omega), Array.getElem?_eq_getElem (by omega)⟩
    have hsz : got.size = i := by rw [← Array.length_toList, hacc, List.length_map, hal]
    refine zp_open ?_
    refine zp_item (s := { s with heap := h, toks := tk }) D hst (Heap.lt_size hU) hl1 hl2 hx hy fun h' hst' ht hz' hkp => ?_
    dsimp only at ht hz' hkp ⊢
    have hU' := hkp U _ N.z.symm N.TO.symm N.i1.symm N.i2.symm hU
    have lift : ∀ b o, b ≠ U → h'.get? b = some o → (h'.update U (Obj.mapSeq (·.push (Value.ref h.objs.size)))).get? b = some o := fun b o hb e => (Heap.get?_update_other _ _ (Ne.symm hb)).trans e
    have hUl : U < h.objs.size := Heap.lt_size hU
    show wpAny _ A.in1 (updateSeq U (·.push (Value.ref h.objs.size)) >>= _) _ _ _
    refine wpAny_bind ?_
    refine wpAny_updateSeq hU' rfl (wpAny_pure ⟨plainId_quiet PySem.F.plain_extend_loop _, ih (i + 1) _ tk _ (got.push (Value.ref h.objs.size)) (ads ++ [h.objs.size]) (by omega) hlt (hst'.keep lift N.z N.TI N.TO N.i1 N.i2)
      (hl1.at fun o e => lift l1 o N.l1 (hkp l1 o D.l1z D.l1TO D.l1i1 D.l1i2 e)) (hl2.at fun o e => lift l2 o N.l2 (hkp l2 o D.l2z D.l2TO D.l2i1 D.l2i2 e))
      (fun b o b1 b2 b3 b4 b5 e => lift b o b1 (hkp b o b2 b3 b4 b5 (hkeep b o b1 b2 b3 b4 b5 e))) (Heap.get?_update_self _ hU' rfl) (by rw [Array.toList_push, hacc, List.map_append]; rfl) (by rw [List.length_append, hal]; rfl) ⟨?_, ?_, ?_⟩ ?_⟩) (by rw [hsz]; omega) (by show (got.push (Value.ref h.objs.size)).size ≤ sizeLine + 1; rw [Array.size_push, hsz]; omega)
    · refine List.pairwise_append.mpr ⟨gd.rise, List.pairwise_singleton _ _, fun a ha b hb => ?_⟩
      rw [List.mem_singleton.mp hb]
      exact gd.there ha
    · intro a ha
      match List.mem_append.mp ha with
      | .inl old => exact gd.above a old
      | .inr new => rw [List.mem_singleton.mp new]; exact iIs
    · intro j b hj
      rcases Nat.lt_trichotomy j ads.length with h1 | h1 | h1
      · (rw [List.getElem?_append_left h1] at hj); obtain ⟨x', y', e1, e2, e3⟩ := gd.pairs j b hj
        have hb := gd.above b (List.mem_of_getElem? hj)
        have nl : ∀ {p : Addr}, p ≤ lo → b ≠ p := fun h => Nat.ne_of_gt (Nat.lt_of_le_of_lt h hb)
        exact ⟨x', y', e1, e2, lift b _ (nl hlo.1) (hkp b _ (nl hlo.2.1) (nl hlo.2.2.1) (nl hlo.2.2.2.1) (nl hlo.2.2.2.2) e3)⟩
      · subst h1
        rw [List.getElem?_append_right (Nat.le_refl _), Nat.sub_self] at hj
        cases hj
        exact ⟨x, y, by rw [hal]; exact hx, by rw [hal]; exact hy, lift _ _ (Nat.ne_of_gt hUl) ht⟩
      · have hnone : (ads ++ [h.objs.size])[j]? = none := List.getElem?_eq_none (by rw [List.length_append, List.length_singleton]; omega)
        rw [hnone] at hj; cases hj
    · have e : (h'.update U (Obj.mapSeq (·.push (Value.ref h.objs.size)))).get? h.objs.size = _ := lift _ _ (Nat.ne_of_gt hUl) ht
      exact Nat.lt_trans iIs (Heap.lt_size e)
theorem zp_no_len : typeLookup (.type "zip") "__len__" = pure none := am_miss_of_fast (by decide +kernel)
theorem zp_no_hint : typeLookup (.type "zip") "__length_hint__" = pure none := am_miss_of_fast (by decide +kernel)
theorem zp_hint {z : Addr} (hT : s.TypeIs (.ref z) "zip") {Q : Bool → Shared → Prop} (h : Q true s) : wpAny (model prog w) A (Builtin.List.listLengthHint (.ref z)) Q E s := by
  delta Builtin.List.listLengthHint
  exact wpAny_bind (wpAny_specialOf hT zp_no_len (wpAny_bind (wpAny_specialOf hT zp_no_hint (wpAny_pure h))))
theorem zp_extend {z TI TO i1 i2 l1 l2 U : Addr} {lo n : Nat} (hh : A.handled = none) (D : ZipApart z TI TO i1 i2 l1 l2) (N : ZpS z TI TO i1 i2 l1 l2 U) (hlo : U ≤ lo ∧ z ≤ lo ∧ TO ≤ lo ∧ i1 ≤ lo ∧ i2 ≤ lo) (hn : n = min xs.size ys.size) (hz : n ≤ sizeLine) (res : Value) (c₀ : Nat) (f0 : Value)
    (hst : ZpSt s.heap z TI TO i1 i2 l1 l2 U 0) (hzz : IsZip s.heap z TI TO f0) (hl1 : s.heap.IsList l1 xs) (hl2 : s.heap.IsList l2 ys) (hU : s.heap.get? U = some { cls := .type "list", data := .seq #[] c₀ }) (hlt : lo < s.heap.objs.size)
    (hR : ∀ h' tk got c ads, (∀ b o, b ≠ U → b ≠ z → b ≠ TO → b ≠ i1 → b ≠ i2 → s.heap.get? b = some o → h'.get? b = some o) → h'.get? U = some { cls := .type "list", dict := none, data := .seq got c, slots := #[] } → ads.length = n → ZpG xs ys lo h' ads →
      got.toList = ads.map Value.ref → R (.ok (.ret res)) { s with heap := h', toks := tk }) :
    wpAny (model prog w) A.in1 (Builtin.List.listExtendWith (.ref U) (.ref z) res)
      (fun nd s' => match nd with | .done f => R (.ok f) s' | .again c' => c'.quiet = true ∧ codeAny (model prog w) A c' R s') (fun e s' => R (.error e) s') s := by
  have hT : s.TypeIs (.ref z) "zip" := ⟨_, hzz, rfl⟩
  have key : ∀ (h : Heap) (c₁ tk : Nat), (∀ b o, b ≠ U → s.heap.get? b = some o → h.get? b = some o) → lo < h.objs.size →
      h.get? U = some { cls := .type "list", data := .seq #[] c₁ } → codeAny (model prog w) A (.builtin "list.extend.loop" ⟨[.ref U, .ref z, res], []⟩) R { s with heap := h, toks := tk } := by
    intro h c₁ tk hk hlt' hS₁
    refine zp_loop (s := s) (h₁ := s.heap) hh D N hlo hn hz res (fun h' tk' got c ads hk' hU' hl gd hacc => hR h' tk' got c ads hk' hU' hl gd hacc)
      n 0 h tk c₁ #[] [] (Nat.sub_zero _) (Nat.zero_le _) (hst.keep hk N.z N.TI N.TO N.i1 N.i2) (hl1.at fun o e => hk _ _ N.l1 e) (hl2.at fun o e => hk _ _ N.l2 e) (fun b o hb _ _ _ _ e => hk b o hb e) hS₁ rfl rfl
      ⟨List.Pairwise.nil, (fun _ ha => nomatch ha), (fun j a hj => by simp at hj)⟩ hlt'
  delta Builtin.List.listExtendWith
  refine wpAny_bind (wpAny_typeOf (T := "zip") hT ?_)
  have other : ¬ (Builtin.List.listSameRef (.ref U) (.ref z) || Value.type "zip" == Value.type "list" || Value.type "zip" == Value.type "tuple") = true := by
    simp [Builtin.List.listSameRef, N.z.symm]
  rw [if_neg (by simpa using other)]
  refine wpAny_bind (wpAny_pyIter_zip hzz ?_)
  refine wpAny_bind (wpAny_holding (zp_hint hT ?_))
  refine wpAny_ite_split (fun _ => ?_) (fun _ => wpAny_pure ⟨plainId_quiet PySem.F.plain_extend_loop _, key _ c₀ _ (fun b o _ e => e) hlt hU⟩)
  apply wpAny_bind
  apply wpAny_rule
  apply wpAny_bind
  show wpAny _ _ (updateSeq U (·.push .none) >>= fun _ => updateSeq U (·.pop)) _ _ _
  refine wpAny_bind (wpAny_updateSeq hU rfl ?_)
  have hU2 := Heap.get?_update_self (Obj.mapSeq (·.push Value.none)) hU rfl
  refine wpAny_updateSeq (hz := by seq_fits) hU2 rfl ?_
  have hU3 := Heap.get?_update_self (Obj.mapSeq (·.pop)) hU2 rfl
  refine wpAny_pure ⟨plainId_quiet PySem.F.plain_extend_loop _, key _ _ _ (fun b o hb e => ?_) ?_ hU3⟩
  · exact (Heap.get?_update_other _ _ (Ne.symm hb)).trans ((Heap.get?_update_other _ _ (Ne.symm hb)).trans e)
  · rw [Heap.size_update, Heap.size_update]; exact hlt
theorem zp_init {z TI TO i1 i2 l1 l2 U : Addr} {lo n : Nat} (hh : A.handled = none) (D : ZipApart z TI TO i1 i2 l1 l2) (N : ZpS z TI TO i1 i2 l1 l2 U) (hlo : U ≤ lo ∧ z ≤ lo ∧ TO ≤ lo ∧ i1 ≤ lo ∧ i2 ≤ lo) (hn : n = min xs.size ys.size) (hz : n ≤ sizeLine) (f0 : Value)
    (hst : ZpSt s.heap z TI TO i1 i2 l1 l2 U 0) (hzz : IsZip s.heap z TI TO f0) (hl1 : s.heap.IsList l1 xs) (hl2 : s.heap.IsList l2 ys) (hU : s.heap.get? U = some { cls := .type "list", data := .seq #[] }) (hlt : lo < s.heap.objs.size)
    (hR : ∀ h' tk got c ads, (∀ b o, b ≠ U → b ≠ z → b ≠ TO → b ≠ i1 → b ≠ i2 → s.heap.get? b = some o → h'.get? b = some o) → h'.get? U = some { cls := .type "list", dict := none, data := .seq got c, slots := #[] } → ads.length = n → ZpG xs ys lo h' ads →
      got.toList = ads.map Value.ref → R (.ok (.ret .none)) { s with heap := h', toks := tk }) :
    wpAny (model prog w) A.in1 (Builtin.«list.__init__» ⟨[.ref U, .ref z], []⟩)
      (fun nd s' => match nd with | .done f => R (.ok f) s' | .again c' => c'.quiet = true ∧ codeAny (model prog w) A c' R s') (fun e s' => R (.error e) s') s := by
  show wpAny _ _ (do let old ← Builtin.List.listItems (.ref U); Builtin.List.listUpdate (.ref U) (fun _ => #[]); letGo old.toList.reverse; Builtin.List.listExtendWith (.ref U) (.ref z) .none) _ _ s
  refine wpAny_bind ?_
  unfold Builtin.List.listItems
  refine wpAny_bind (wpAny_seqItems hU rfl (wpAny_pure ?_))
  show wpAny _ _ (updateSeq U (fun _ => #[]) >>= fun _ => letGo (#[] : Array Value).toList.reverse >>= fun _ => Builtin.List.listExtendWith (.ref U) (.ref z) .none) _ _ s
  refine wpAny_bind (wpAny_updateSeq hU rfl ?_)
  have hU2 := Heap.get?_update_self (Obj.mapSeq (fun _ => (#[] : Array Value))) hU rfl
  have rest1 : ∀ b o, b ≠ U → s.heap.get? b = some o → (s.heap.update U (Obj.mapSeq (fun _ => (#[] : Array Value)))).get? b = some o :=
    fun b o nb e => (Heap.get?_update_other _ _ (Ne.symm nb)).trans e
  apply wpAny_bind
  apply wpAny_letGo
  refine zp_extend hh D N hlo hn hz .none _ f0 (hst.keep rest1 N.z N.TI N.TO N.i1 N.i2) (rest1 _ _ N.z hzz) (hl1.at fun o e => rest1 _ _ N.l1 e) (hl2.at fun o e => rest1 _ _ N.l2 e) hU2 (by rw [Heap.size_update]; exact hlt) (fun h' tk got c ads hk hU' hl gd hacc => ?_)
  exact hR h' tk got c ads (fun b o b1 b2 b3 b4 b5 e => hk b o b1 b2 b3 b4 b5 (rest1 b o b1 e)) hU' hl gd hacc
/-- list(z), z a zip just made -/
theorem zp_call {z TI TO i1 i2 l1 l2 : Addr} {n : Nat} {a b : Value} {Q : Value → Shared → Prop} (hh : A.handled = none) (D : ZipApart z TI TO i1 i2 l1 l2) (hn : n = min xs.size ys.size) (hz : n ≤ sizeLine)
    (hzz : IsZip s.heap z TI TO .none) (hTI : IsPair s.heap TI (.ref i1) (.ref i2)) (hTO : IsPair s.heap TO a b) (h1 : s.heap.IsListIter i1 l1 0) (h2 : s.heap.IsListIter i2 l2 0) (hl1 : s.heap.IsList l1 xs) (hl2 : s.heap.IsList l2 ys)
    (hQ : ∀ h' tk got c ads, (∀ b o, b ≠ z → b ≠ TO → b ≠ i1 → b ≠ i2 → s.heap.get? b = some o → h'.get? b = some o) → h'.get? s.heap.objs.size = some { cls := .type "list", dict := none, data := .seq got c, slots := #[] } → ads.length = n → ZpG xs ys s.heap.objs.size h' ads →
      got.toList = ads.map Value.ref → Q (.ref s.heap.objs.size) { s with heap := h', toks := tk }) :
    wpAny (model prog w) A (call (.type "list") [.ref z]) Q E s := by
  refine callType_codes (Q₁ := fun obj s₁ => obj = .ref s.heap.objs.size ∧ s₁ = { s with heap := s.heap.push { cls := .type "list", data := .seq #[] } }) PySem.F.called_list (PySem.F.typeCall_list_1 _) PySem.F.entry_list_init (code_list_new _ ⟨rfl, rfl⟩) fun obj s₁ h₁ => ?_
  obtain ⟨rfl, rfl⟩ := h₁
  have hU : (s.heap.push { cls := .type "list", data := .seq #[] }).get? s.heap.objs.size = some { cls := .type "list", data := .seq #[] } := Heap.get?_push_size _ rfl
  have pk : ∀ b o, s.heap.get? b = some o → (s.heap.push { cls := .type "list", data := .seq #[] }).get? b = some o := fun b o e => Heap.get?_push_of_some _ e
  have lz : z < s.heap.objs.size := Heap.lt_size hzz
  have lTI : TI < s.heap.objs.size := Heap.lt_size hTI
  have lTO : TO < s.heap.objs.size := Heap.lt_size hTO
  have li1 : i1 < s.heap.objs.size := by obtain ⟨_, e, _⟩ := h1; exact Heap.lt_size e
  have li2 : i2 < s.heap.objs.size := by obtain ⟨_, e, _⟩ := h2; exact Heap.lt_size e
  have ll1 : l1 < s.heap.objs.size := by obtain ⟨_, e, _⟩ := hl1; exact Heap.lt_size e
  have ll2 : l2 < s.heap.objs.size := by obtain ⟨_, e, _⟩ := hl2; exact Heap.lt_size e
  refine ⟨⟨_, hU, rfl⟩, PySem.F.args_list_init_2 _ _, zp_init (A := A.in1) (lo := s.heap.objs.size) hh D ⟨Nat.ne_of_lt lz, Nat.ne_of_lt lTI, Nat.ne_of_lt lTO, Nat.ne_of_lt li1, Nat.ne_of_lt li2, Nat.ne_of_lt ll1, Nat.ne_of_lt ll2⟩
    ⟨Nat.le_refl _, Nat.le_of_lt lz, Nat.le_of_lt lTO, Nat.le_of_lt li1, Nat.le_of_lt li2⟩ hn hz .none ⟨pk _ _ hTI, h1.at fun o e => pk _ _ e, h2.at fun o e => pk _ _ e, .inl ⟨rfl, pk _ _ hzz, a, b, pk _ _ hTO⟩⟩ (pk _ _ hzz)
    (hl1.at fun o e => pk _ _ e) (hl2.at fun o e => pk _ _ e) hU (by rw [Heap.size_push]; exact Nat.lt_succ_self _) (fun h' tk got c ads hk hU' hl gd hacc => ?_)⟩
  exact ⟨rfl, hQ h' tk got c ads (fun b o b2 b3 b4 b5 e => hk b o (Nat.ne_of_lt (Heap.lt_size e)) b2 b3 b4 b5 (pk b o e)) hU' hl gd hacc⟩
end
end PySem.W

namespace Sp
open PySem PySem.Spec L2
/-- pairs, put at their places -/
def putP : Hp → List Addr → List (V × V) → Hp
  | H, a :: ads, p :: ps => putP (upd H a (.tup [p.1, p.2])) ads ps
  | H, _, _ => H
theorem putP_off {b : Addr} : ∀ (ads : List Addr) (ps : List (V × V)) (H : Hp), b ∉ ads → putP H ads ps b = H b
  | [], _, _, _ => rfl
  | _ :: _, [], _, _ => rfl
  | a :: ads, p :: ps, H, h => by
    show putP (upd H a (.tup [p.1, p.2])) ads ps b = H b
    rw [putP_off ads ps _ (fun z => h (List.mem_cons_of_mem _ z)), upd_ne (fun z => h (by rw [z]; exact List.mem_cons_self))]
theorem putP_at : ∀ (ads : List Addr) (ps : List (V × V)) (H : Hp), ads.length = ps.length → ads.Nodup → Paired (fun (t : Addr) (p : V × V) => putP H ads ps t = some (.tup [p.1, p.2])) ads ps
  | [], [], _, _, _ => .nil
  | [], _ :: _, _, h, _ => (by cases h)
  | _ :: _, [], _, h, _ => (by cases h)
  | a :: ads, p :: ps, H, h, hn => by
    rw [List.nodup_cons] at hn
    have ih := putP_at ads ps (upd H a (.tup [p.1, p.2])) (Nat.succ.inj h) hn.2
    refine .cons ?_ ih
    show putP (upd H a (.tup [p.1, p.2])) ads ps a = some (.tup [p.1, p.2])
    rw [putP_off ads ps _ hn.1, upd_same]
def rZipL (K : PySem.W.Frag) : List V → Hp → VK → Prop := fun vs H Q => ∃ (a b : Addr) (xs ys : List V), vs = [.ref a, .ref b] ∧ SqL K H a xs ∧ SqL K H b ys ∧
  ∀ (H' : Hp) (p : Addr) (ts : List Addr), (∀ b o, H b = some o → H' b = some o) → H p = none → (∀ t ∈ ts, H t = none) → p ∉ ts → ts.Nodup → H' p = some (.lst (ts.map V.ref)) → Paired (fun (t : Addr) (q : V × V) => H' t = some (.tup [q.1, q.2])) ts (xs.zip ys) → Q (.ref p) H'
def tListZip (K : PySem.W.Frag) (t : TA) : TE := fun σ H Q => t σ H fun vs H1 => rZipL K vs H1 Q
section
variable {X : Cx} {e1 e2 : Expr} {t : TA} {p p2 pos pos2 : Pos}
theorem zip_laid {pins : List (Addr × Obj)} {σ : L2.St} {H : Hp} {s : Shared} {h' : Heap} {tk : Nat} {N : Addr} {xs ys : List V} {us ws : List Value} {got : Array Value} {c : Nat} {ads : List Addr} (I : Inv X pins σ H s) (hN : s.heap.objs.size ≤ N) (hz : (xs.zip ys).length ≤ sizeLine) (rx : Vals xs us) (ry : Vals ys ws)
    (hk : ∀ b o, s.heap.get? b = some o → h'.get? b = some o) (hU : h'.get? N = some { cls := .type "list", dict := none, data := .seq got c, slots := #[] }) (hl : ads.length = (xs.zip ys).length) (gd : PySem.W.ZpG us.toArray ws.toArray N h' ads) (hacc : got.toList = ads.map Value.ref) :
    ∃ H' : Hp, (∀ b o, H b = some o → H' b = some o) ∧ H N = none ∧ (∀ t ∈ ads, H t = none) ∧ N ∉ ads ∧ ads.Nodup ∧ H' N = some (.lst (ads.map V.ref)) ∧ Paired (fun (t : Addr) (q : V × V) => H' t = some (.tup [q.1, q.2])) ads (xs.zip ys) ∧ Inv X pins σ H' { s with heap := h', toks := tk } := by
  have hSn : N ∉ ads := fun z => Nat.lt_irrefl _ (gd.above _ z)
  have nd : ads.Nodup := List.Pairwise.imp (fun {a b} (h : a < b) => Nat.ne_of_lt h) gd.rise
  have new : ∀ t ∈ ads, H t = none := fun t ht => I.hok.fresh (Nat.le_trans hN (Nat.le_of_lt (gd.above t ht)))
  have newS : H N = none := I.hok.fresh hN
  have atP := putP_at ads (xs.zip ys) (upd H N (.lst (ads.map V.ref))) hl nd
  have off : ∀ b, b ∉ ads → b ≠ N → putP (upd H N (.lst (ads.map V.ref))) ads (xs.zip ys) b = H b := fun b h1 h2 => by rw [putP_off ads _ _ h1, upd_ne h2]
  have low : ∀ b o, s.heap.get? b = some o → b ∉ ads ∧ b ≠ N := fun b o e => ⟨fun z => absurd (Heap.lt_size e) (Nat.not_lt.mpr (Nat.le_trans hN (Nat.le_of_lt (gd.above b z)))), Nat.ne_of_lt (Nat.lt_of_lt_of_le (Heap.lt_size e) hN)⟩
  have kp : ∀ b u, H b = some u → (putP (upd H N (.lst (ads.map V.ref))) ads (xs.zip ys)) b = some u := fun b u e => by
    have live : H b ≠ none := by rw [e]; exact Option.some_ne_none u
    exact (off b (fun i => live (new b i)) fun i => live (i ▸ newS)).trans e
  have eS : putP (upd H N (.lst (ads.map V.ref))) ads (xs.zip ys) N = some (.lst (ads.map V.ref)) := by rw [putP_off ads _ _ hSn, upd_same]
  refine ⟨putP (upd H N (.lst (ads.map V.ref))) ads (xs.zip ys), kp, newS, new, hSn, nd, eS, atP, ?_⟩
  refine I.call' (ch := []) rfl ⟨fun b o q _ _ _ => hk b o q, fun b o q _ _ _ => ⟨o.slots, hk b o q⟩, fun b o q n _ => ?_, fun b o q _ => ⟨o, hk b o q⟩, fun b xs q => kp b _ q, fun b o u q => kp b _ q, fun b ps q => ⟨#[], by rw [kp b _ q]; simp⟩⟩ (fun b u q => ?_) I.bare (fun _ z => nomatch z)
  · obtain ⟨y1, y2⟩ := low b o q
    rw [off b y1 y2]
    exact n
  · by_cases hb : b ∈ ads
    · obtain ⟨j, pk, e1, e2, e3⟩ := LiI.paired_ix atP hb
      rw [e3] at q
      cases q
      obtain ⟨x, y, f1, f2, f3⟩ := gd.pairs j b e1
      obtain ⟨g1, g2⟩ := List.getElem?_zip_eq_some.mp e2
      obtain ⟨x', h1, h2⟩ := rx.get g1
      obtain ⟨y', h3, h4⟩ := ry.get g2
      rw [List.getElem?_toArray] at f1 f2
      rw [f1] at h1
      rw [f2] at h3
      cases h1
      cases h3
      exact ⟨by show 2 ≤ sizeLine; decide, [x, y], .cons h2 (.cons h4 .nil), ⟨_, f3, rfl, _, rfl⟩⟩
    · by_cases hb2 : b = N
      · rw [hb2] at q ⊢
        rw [eS] at q
        cases q
        refine ⟨by rw [List.length_map, hl]; exact hz, got.toList, c, by rw [hacc]; exact LiI.vals_refs ads, ?_⟩
        rw [Array.toArray_toList]
        exact hU
      · rw [off b hb hb2] at q
        have old := I.hok b u q
        exact old.stay (fun d v _ => hk d v) (fun d => kp d _) (fun d xs => kp d _)
/-- list(zip(a, b)) -/
theorem pe_listZip (hc : X.calm = true) (hg : Gl X "list") (hm : X.mg "list" = none) (hg2 : Gl X "zip") (hm2 : X.mg "zip" = none) (ha : PA X [e1, e2] t)
    (hs : starEach [.Call (.Name "zip" p2) [e1, e2] [] pos2] X.env = (false, eval (.Call (.Name "zip" p2) [e1, e2] [] pos2) X.env) :: starEach [] X.env := by rfl)
    (hs1 : starEach [e1, e2] X.env = (false, eval e1 X.env) :: starEach [e2] X.env := by rfl) (hpl : (backTo pos2 (starEach [e2] X.env)).any (·.1) = false := by rfl) :
    PE X (.Call (.Name "list" p) [.Call (.Name "zip" p2) [e1, e2] [] pos2] [] pos) (tListZip X.K t) := by
  constructor
  intro pins s σ H Q I hq
  refine wpAny_Call_Name_kw (ld_blt I hg hm (show bootBuiltins ("list" : Str) = some (.type "list") by decide +kernel) (PyProof.Rows.callWith_type1 ?_ hs rfl))
  rw [hs]
  show wpAny _ _ (spliced ((false, eval (.Call (.Name "zip" p2) [e1, e2] [] pos2) X.env) :: backTo pos (starEach [] X.env))) _ _ s
  refine Calls.spliced_cons ?_
  refine PyProof.Rows.Call_ (ld_blt I hg2 hm2 PyProof.Rows.boot_zip (PyProof.Rows.callWith_type1 (thn (ha.run pos2 pins s σ H _ I hq) fun us s1 ⟨vs, H1, I1, r1, q1⟩ => ?_) hs1 hpl))
  have ⟨a, b, xs, ys, eq_, hqx, hqy, q⟩ := q1
  rw [eq_] at r1
  cases r1 with
  | cons r rr =>
    cases rr with
    | cons r' rr =>
      cases rr
      cases r
      cases r'
      obtain ⟨its, rv, p1, z1⟩ := I1.list hqx
      obtain ⟨its2, rv2, p2, z2⟩ := I1.list hqy
      refine call_zip_2 p1.isList p2.isList fun h' hz hTI hTO h1 h2 hsz hk => ?_
      refine Calls.spliced_nil ?_
      have zl : (xs.zip ys).length = min its.toArray.size its2.toArray.size := by
        rw [List.length_zip, List.size_toArray, List.size_toArray, rv.length, rv2.length]
      have zle : (xs.zip ys).length ≤ sizeLine := by
        rw [List.length_zip]
        exact Nat.le_trans (Nat.min_le_left _ _) z1
      refine PySem.W.zp_call (s := { s1 with heap := h' }) (I.ok.hd hc) (PySem.W.ktu_apart s1.heap.objs.size a b p1.lt p2.lt) zl zle hz hTI hTO h1 h2 (p1.isList.at fun o e => hk _ _ e) (p2.isList.at fun o e => hk _ _ e) fun h'' tk got c ads hk2 hU hl gd hacc => ?_
      have hk3 : ∀ b o, s1.heap.get? b = some o → h''.get? b = some o := fun b o e => by
        have lb := Heap.lt_size e
        exact hk2 b o (Nat.ne_of_lt (Nat.lt_add_right 4 lb)) (Nat.ne_of_lt (Nat.lt_add_right 3 lb)) (Nat.ne_of_lt lb) (Nat.ne_of_lt (Nat.lt_add_right 1 lb)) (hk b o e)
      obtain ⟨H', k1, k2, k3, k4, k5, k6, k7, J⟩ := zip_laid (tk := tk) I1 (show s1.heap.objs.size ≤ h'.objs.size by rw [hsz]; exact Nat.le_add_right _ _) zle rv rv2 hk3 hU hl gd hacc
      exact ⟨.ref _, H', J, rfl, q H' _ ads k1 k2 k3 k4 k5 k6 k7⟩
end
/-- several new objects at once -/
theorem R.more {K : PySem.W.Frag} {ι : Io} {ads : List Addr} {h os : Hh} {H H' : Hp} (r : R K ι h H) (kp : ∀ b o, H b = some o → H' b = some o) (nd : ads.Nodup) (new : ∀ a ∈ ads, H a = none) (hl : ads.length = os.length) (hk : ∀ o ∈ os, o.isK = false)
    (ho : ∀ (j : Nat) (a : Addr) (o : O), ads[j]? = some a → os[j]? = some o → RObj K H' (ι ++ ads) a o) : R K (ι ++ ads) (h ++ os) H' := by
  have L : ι.as.length = h.length := r.len
  have le : Le ι (ι ++ ads) := Le.apps ι ads
  have split : ∀ (n : Nat) (b : Addr) (q : O), (ι ++ ads)[n]? = some b → (h ++ os)[n]? = some q → (n < h.length ∧ ι[n]? = some b ∧ h[n]? = some q) ∨ (h.length ≤ n ∧ ads[n - h.length]? = some b ∧ os[n - h.length]? = some q) := fun n b q e1 e2 => by
    rw [io_app] at e1
    by_cases hn : n < h.length
    · rw [List.getElem?_append_left (by omega)] at e1
      rw [List.getElem?_append_left hn] at e2
      exact .inl ⟨hn, e1, e2⟩
    · rw [List.getElem?_append_right (by omega)] at e1
      rw [List.getElem?_append_right (by omega)] at e2
      exact .inr ⟨by omega, by rw [← L]; exact e1, e2⟩
  have nep : ∀ (n : Nat) (b : Addr) (q : O), ι[n]? = some b → h[n]? = some q → q.isK = false → b ∉ ads := fun n b q e1 e2 e3 hb => by
    obtain ⟨v, hv⟩ := (r.ok n b q e1 e2).some e3
    rw [new b hb] at hv
    cases hv
  refine ⟨by show (ι.as ++ ads).length = _; simp [L, hl], fun m n a o' p' e1 e2 e3 e4 k1 k2 => ?_, fun n b q e1 e2 => ?_⟩
  · rcases split m a o' e1 e3 with ⟨h1, h2, h3⟩ | ⟨h1, h2, h3⟩
    · rcases split n a p' e2 e4 with ⟨g1, g2, g3⟩ | ⟨g1, g2, g3⟩
      · exact r.inj m n a o' p' h2 g2 h3 g3 k1 k2
      · exact absurd (List.mem_of_getElem? g2) (nep m a o' h2 h3 k1)
    · rcases split n a p' e2 e4 with ⟨g1, g2, g3⟩ | ⟨g1, g2, g3⟩
      · exact absurd (List.mem_of_getElem? h2) (nep n a p' g2 g3 k2)
      · have := nd_ix nd h2 g2
        omega
  · rcases split n b q e1 e2 with ⟨h1, h2, h3⟩ | ⟨h1, h2, h3⟩
    · exact (r.ok n b q h2 h3).keep le fun hk v e => kp _ _ e
    · exact ho _ b q h2 h3
def zipT (h : Hh) (xs ys : List W) : W × Hh := (.ref (h.length + (xs.zip ys).length), h ++ ((xs.zip ys).map (fun p => O.tup [p.1, p.2]) ++ [.lst ((List.range (xs.zip ys).length).map fun j => W.ref (h.length + j))]))
def fListZip (fs : FA) : FE := fun σ h => bnd (fs σ h) fun ws h1 => match ws with
  | [.ref n, .ref m] => match lstOf h1 n, lstOf h1 m with
    | some xs, some ys => some (.ok (zipT h1 xs ys).1 (zipT h1 xs ys).2)
    | _, _ => none
  | _ => none
theorem pr_zip {α β γ δ : Type} {F : α → β → Prop} {G : γ → δ → Prop} : ∀ {xs : List α} {us : List β} {ys : List γ} {ws : List δ}, Paired F xs us → Paired G ys ws → Paired (fun p q => F p.1 q.1 ∧ G p.2 q.2) (xs.zip ys) (us.zip ws)
  | _, _, _, _, .nil, _ => by simp; exact .nil
  | _, _, _, _, .cons _ _, .nil => by simp; exact .nil
  | _, _, _, _, .cons a s, .cons b t => .cons ⟨a, b⟩ (pr_zip s t)
theorem rels_refs {ι : Io} {ads : List Addr} {n : Nat} (hn : n = ι.length) : ∀ {ts : List Addr} {k : Nat}, (∀ (j : Nat) (t : Addr), ts[j]? = some t → ads[k + j]? = some t) → Rels (ι ++ ads) ((List.range' k ts.length).map fun j => W.ref (n + j)) (ts.map V.ref)
  | [], _, _ => .nil
  | t :: ts, k, h => by
    rw [List.length_cons, List.range'_succ]
    refine .cons ⟨t, ?_, rfl⟩ ?_
    · have hn2 : n = ι.as.length := hn
      rw [io_app, List.getElem?_append_right (by omega), hn2]
      have := h 0 t rfl
      rw [Nat.add_sub_cancel_left]
      simpa using this
    · refine rels_refs hn (ts := ts) (k := k + 1) fun j u e => ?_
      have := h (j + 1) u (by simpa using e)
      rw [← this]
      congr 1
      omega
theorem snd_listZip {K : PySem.W.Frag} {Wx : WX} {fs : FA} {t : TA} (hs : SndA K Wx fs t) : SndE K Wx (fListZip fs) (tListZip K t) := fun σ0 h ι σ H Q rs r q =>
  hs σ0 h ι σ H _ rs r (q.bnd.imp fun ι1 ws h1 l1 q1 xs H1 rx r1 => by
    split at q1
    · rename_i n m
      split at q1
      · rename_i us vs e1 e2
        obtain ⟨a, ads, g1, g2, g3⟩ := r1.lst e1
        obtain ⟨b, bs, g4, g5, g6⟩ := r1.lst e2
        obtain ⟨x, y, rfl, rx1, rx2⟩ := rels2 rx
        rw [ref_at rx1 g1, ref_at rx2 g4]
        refine ⟨a, b, ads, bs, rfl, g3, g6, fun H' p ts kp hp hts hpt nd hl hts' => ?_⟩
        have hz := pr_zip g2 g5
        have lz : (us.zip vs).length = ts.length := by rw [Paired.length hz, Paired.length hts']
        have le : Le ι1 (ι1 ++ (ts ++ [p])) := Le.apps ι1 _
        have L1 : ι1.as.length = h1.length := r1.len
        refine q1 (ι1 ++ (ts ++ [p])) le (.ref p) H' ?_ ?_
        · refine ⟨p, ?_, rfl⟩
          show (ι1 ++ (ts ++ [p]))[h1.length + (us.zip vs).length]? = some p
          rw [io_app, List.getElem?_append_right (by omega), lz, L1, Nat.add_sub_cancel_left]
          simp
        · refine R.more (ads := ts ++ [p]) (os := (us.zip vs).map (fun p => O.tup [p.1, p.2]) ++ [.lst ((List.range (us.zip vs).length).map fun j => W.ref (h1.length + j))]) r1 kp ?_ ?_ (by simp [lz]) ?_ ?_
          · refine List.nodup_append.mpr ⟨nd, List.nodup_cons.mpr ⟨(fun z => nomatch z), List.nodup_nil⟩, fun x hx y hy => ?_⟩
            rw [List.mem_singleton.mp hy]
            exact fun z => hpt (z ▸ hx)
          · intro x hx
            match List.mem_append.mp hx with
            | .inl i => exact hts x i
            | .inr i => rw [List.mem_singleton.mp i]; exact hp
          · intro o ho
            rcases List.mem_append.mp ho with ho | ho
            · obtain ⟨q, _, rfl⟩ := List.mem_map.mp ho
              rfl
            · rw [List.mem_singleton.mp ho]; rfl
          · intro j x o ex eo
            by_cases hj : j < ts.length
            · rw [List.getElem?_append_left hj] at ex
              rw [List.getElem?_append_left (by rw [List.length_map, lz]; exact hj)] at eo
              rw [List.getElem?_map] at eo
              cases ez : (us.zip vs)[j]? with
              | none => rw [ez] at eo; cases eo
              | some pr =>
                rw [ez] at eo
                cases eo
                obtain ⟨pv, h2, h3, h4⟩ := pr_get hz ez
                obtain ⟨pv', h5, h6⟩ := pr_get hts' ex
                rw [h2] at h5
                cases h5
                exact ⟨[pv.1, pv.2], .cons (h3.mono le) (.cons (h4.mono le) .nil), h6⟩
            · rw [List.getElem?_append_right (by omega)] at ex
              rw [List.getElem?_append_right (by rw [List.length_map, lz]; omega)] at eo
              have h0 : j - ts.length = 0 := by
                have := (List.getElem?_eq_some_iff.mp ex).1
                simp at this
                omega
              rw [h0] at ex
              rw [List.length_map, lz, h0] at eo
              simp at ex eo
              subst ex eo
              refine ⟨ts.map V.ref, ?_, hl⟩
              rw [← lz.symm.symm, lz, List.range_eq_range']
              exact rels_refs (r1.len.symm) (ts := ts) (k := 0) fun j u e => by
                rw [Nat.zero_add, List.getElem?_append_left (List.getElem?_eq_some_iff.mp e).1]
                exact e
      · exact q1.elim
    · exact q1.elim)
section
variable {X : Cx} {Wx : WX} {e1 e2 : Expr} {fs : FA} {t : TA} {p p2 pos pos2 : Pos}
theorem c_listZip (hc : X.calm = true) (hg : Gl X "list") (hm : X.mg "list" = none) (hg2 : Gl X "zip") (hm2 : X.mg "zip" = none) (ha : CA X Wx [e1, e2] fs t)
    (hs : starEach [.Call (.Name "zip" p2) [e1, e2] [] pos2] X.env = (false, eval (.Call (.Name "zip" p2) [e1, e2] [] pos2) X.env) :: starEach [] X.env := by rfl)
    (hs1 : starEach [e1, e2] X.env = (false, eval e1 X.env) :: starEach [e2] X.env := by rfl) (hpl : (backTo pos2 (starEach [e2] X.env)).any (·.1) = false := by rfl) :
    CE X Wx (.Call (.Name "list" p) [.Call (.Name "zip" p2) [e1, e2] [] pos2] [] pos) (fListZip fs) (tListZip X.K t) := ⟨pe_listZip hc hg hm hg2 hm2 ha.p hs hs1 hpl, snd_listZip ha.s⟩
end
/-! ### calls with keywords alone -/
section
variable {X : Cx} {Wx : WX} {CX : CXT} {k : Nat} {f : Addr} {fd : FuncData} {ps ks : List Str} {sp : L2.Sp} {x : Str} {p pos : Pos} {kws : List Keyword} {tk : TA} {g : List Value → List Value → List Value} {gV : List V → List V → List V}
theorem pe_callK0 {E : XK} (F : FnOk X.prog X.w X.K X.mg X.base CX k f fd ps sp) (hr : Room k X.A) (hg : Gl X x) (hm : X.mg x = some (.ref f)) (hk : PySem.W.keepIn X.K (.ref f) = true) (hb : KBinds X.K fd ps ks g gV) (hx : Passes CX X E)
    (hkw : PK X kws tk) (hall : (backToKw pos (keywordEach kws X.env)).all (·.1.isSome) = true := by rfl) (hks : (backToKw pos (keywordEach kws X.env)).filterMap (·.1) = ks := by rfl)
    (hdb : (x == ("__debug__" : Str)) = false := by decide) (hpl : ((backTo pos (starEach [] X.env)).any (·.1) || (backToKw pos (keywordEach kws X.env)).any (·.1.isNone)) = false := by rfl) :
    PE X (.Call (.Name x p) [] kws pos) (tCallK sp gV E tNil tk) := by
  constructor
  intro pins s σ H Q I h
  apply wpAny_Call_Name_kw
  refine ld_glob I hg hm ?_ hdb
  refine PySem.W.callWith_KW0 (h₀ := X.base) I.ok.mod.kin hk hall ?_ hpl
  refine thn (hkw.run pos pins s σ H _ I h) fun ws s2 ⟨zs, H2, I2, rz, q2⟩ => ⟨I2.kIn, ?_⟩
  rw [hks]
  exact run_fnk (us := []) F hr hb hx I2 .nil rz q2
theorem c_callK0 (E : XK) {m : FN} {gW : List W → List W → List W} {fk : FA} {K : PySem.W.Frag} (F : FnOk X.prog X.w X.K X.mg X.base (L2.CX X.prog X.w) k f fd ps (spOf K m)) (hr : Room k X.A)
    (hg : Gl X x) (hm : X.mg x = some (.ref f)) (hk : PySem.W.keepIn X.K (.ref f) = true) (hb : KBinds X.K fd ps ks g gV) (hgW : ∀ ι ws us xs ys, Rels ι ws xs → Rels ι us ys → Rels ι (gW ws us) (gV xs ys))
    (hx : Passes (L2.CX X.prog X.w) X E) (hE : ∀ c d σ H, Wx c d σ H → E c d H) (hkw : CK X Wx kws fk tk)
    (hall : (backToKw pos (keywordEach kws X.env)).all (·.1.isSome) = true := by rfl) (hks : (backToKw pos (keywordEach kws X.env)).filterMap (·.1) = ks := by rfl)
    (hdb : (x == ("__debug__" : Str)) = false := by decide)
    (hpl : ((backTo pos (starEach [] X.env)).any (·.1) || (backToKw pos (keywordEach kws X.env)).any (·.1.isNone)) = false := by rfl) (hK : X.K = K := by rfl) :
    CE X Wx (.Call (.Name x p) [] kws pos) (fCallK m gW fNil fk) (tCallK (spOf K m) gV E tNil tk) := by
  subst hK
  exact ⟨pe_callK0 F hr hg hm hk hb hx hkw.p hall hks hdb hpl, fun σ0 h ι σ H Q rs r q =>
  hkw.s σ0 h ι σ H _ rs r ((show Aft X.K Wx ι σ (Sp.bnd (fk σ0 h) fun us h2 => m (gW [] us) h2) (KE X.K Q) from q).bnd.imp fun ι2 us h2 l2 q2 ys H2 rys r2 =>
    ⟨ι2, h2, gW [] us, hgW ι2 [] us [] ys .nil rys, r2, aft_wx (fun _ _ _ z => hE _ _ _ _ z) q2⟩)⟩
theorem passesF {X : Cx} : Passes (L2.CX X.prog X.w) X (fun _ _ _ => False) := fun _ _ _ _ _ _ _ c => by
  obtain ⟨_, _, _, _, _, _, _, _, _, _, _, _, q⟩ := c
  exact q.elim
end
/-- the keywords' values brought into the parameters' order: perm j tells which of (positional ++ keywords) stands at parameter j -/
def pick {α : Type} (d : α) (perm : List Nat) (us ws : List α) : List α := perm.map fun j => (us ++ ws).getD j d
end Sp
set_option Elab.async false
set_option linter.all false
set_option maxRecDepth 100000
set_option maxHeartbeats 1250000
namespace Sp
open PySem PySem.Spec L2
section rules
variable {X : Cx} {Wx : WX} {a b c e : Expr} {es : List Expr} {fa fb fc fe : FE} {fA fB : FT} {fs : FA} {ta tb tc te : TE} {tA tB' : TT} {t : TA} {pos : Pos}
/-- xs + ys -/
def oCat : F2 := fun x y h => match x, y with
  | .ref n, .ref m => match h[n]?, h[m]? with
    | some (.lst xs), some (.lst ys) => if xs.length + ys.length ≤ LIM then some (.ref h.length, h ++ [.lst (xs ++ ys)]) else none
    | _, _ => none
  | _, _ => none
theorem sr_cat {K : PySem.W.Frag} : SndR K oCat rCat := by
  intro w u h ι x y H Q rx ry r q
  unfold oCat at q
  split at q
  · rename_i n m
    split at q
    · rename_i xs ys e1 e2
      split at q
      · rename_i hl
        obtain ⟨a, as, g1, g2, g3⟩ := r.ml e1
        obtain ⟨b, bs, g4, g5, g6⟩ := r.ml e2
        rw [ref_at rx g1, ref_at ry g4]
        exact ⟨a, b, as, bs, rfl, rfl, g3, g6, lim_le (by rw [← Paired.length g2, ← Paired.length g5]; exact hl), fun p hp => q _ _ _ (Le.app _ p) (ref_new r) (r.newL hp (pr_app g2 g5))⟩
      · exact q.elim
    · exact q.elim
  · exact q.elim
theorem c_cat (ha : CE X Wx a fa ta) (hb : CE X Wx b fb tb) : CE X Wx (.BinOp a .Add b pos) (fOp oCat fa fb) (tOp rCat ta tb) := c_op op_cat sr_cat ha hb
/-- xs * k -/
def oRep : F2 := fun x y h => match x, y with
  | .ref n, .int k => match h[n]? with
    | some (.lst xs) => if (decide (-9223372036854775808 ≤ k) && decide (k < 9223372036854775808) && decide (xs.length * k.toNat ≤ LIM)) = true then some (.ref h.length, h ++ [.lst (List.replicate k.toNat xs).flatten]) else none
    | _ => none
  | _, _ => none
theorem sr_rep {K : PySem.W.Frag} : SndR K oRep rRep := by
  intro w u h ι x y H Q rx ry r q
  unfold oRep at q
  split at q
  · rename_i n k
    split at q
    · rename_i xs e1
      split at q
      · rename_i hl
        rw [Bool.and_eq_true, Bool.and_eq_true, decide_eq_true_eq, decide_eq_true_eq, decide_eq_true_eq] at hl
        obtain ⟨a, as, g1, g2, g3⟩ := r.ml e1
        rw [ref_at rx g1]
        obtain rfl : y = .int k := ry
        exact ⟨a, k, as, rfl, rfl, g3, hl.1.1, hl.1.2, lim_le (by rw [← Paired.length g2]; exact hl.2), fun p hp => q _ _ _ (Le.app _ p) (ref_new r) (r.newL hp (pr_flat_rep g2 _))⟩
      · exact q.elim
    · exact q.elim
  · exact q.elim
theorem c_rep (ha : CE X Wx a fa ta) (hb : CE X Wx b fb tb) : CE X Wx (.BinOp a .Mult b pos) (fOp oRep fa fb) (tOp rRep ta tb) := c_op op_rep sr_rep ha hb
/-- x in a list or tuple of flat things -/
def flatW : W → Bool
  | .non => true
  | .bl _ => true
  | .int _ => true
  | .str _ => true
  | _ => false
def eqW : W → W → Bool
  | .non, .non => true
  | .bl a, .bl b => a == b
  | .bl a, .int b => ((if a then 1 else 0) == b)
  | .int a, .bl b => (a == (if b then 1 else 0))
  | .int a, .int b => a == b
  | .str a, .str b => a == b
  | _, _ => false
def oIn (neg : Bool) : F2 := fun x y h => match y with
  | .ref n => match seqOf h n with
    | some ws => if (flatW x && ws.all flatW) = true then some (.bl (if neg then !(ws.any fun y => eqW y x) else ws.any fun y => eqW y x), h) else none
    | none => none
  | _ => none
theorem flat_ok {ι : Io} {w : W} {x : V} (r : RelW ι w x) (h : flatW w = true) : flatV x = true := by
  cases w with
  | non => rw [show x = .non from r]; rfl
  | bl _ => rw [show x = .bl _ from r]; rfl
  | int _ => rw [show x = .int _ from r]; rfl
  | str _ => rw [show x = .str _ from r]; rfl
  | _ => cases h
theorem eqW_ok {ι : Io} {w u : W} {x y : V} (r : RelW ι w x) (q : RelW ι u y) (h : flatW w = true) (k : flatW u = true) : eqW w u = eqV x y := by
  cases w <;> first | (exact absurd h Bool.false_ne_true) | skip
  all_goals (cases u <;> first | (exact absurd k Bool.false_ne_true) | skip)
  all_goals (rw [show x = _ from r, show y = _ from q]; rfl)
theorem any_ok {ι : Io} {w : W} {x : V} (rx : RelW ι w x) (hx : flatW w = true) : ∀ {ws : List W} {xs : List V}, Rels ι ws xs → ws.all flatW = true → (ws.any fun y => eqW y w) = (xs.any fun y => eqV y x) ∧ xs.all flatV = true
  | _, _, .nil, _ => ⟨rfl, rfl⟩
  | _, _, .cons r t, h => by
    have h := and_of_all h
    obtain ⟨h1, h2⟩ := any_ok rx hx t h.2
    exact ⟨by rw [List.any_cons, List.any_cons, h1, eqW_ok r rx h.1 hx], by rw [List.all_cons, flat_ok r h.1, h2]; rfl⟩
theorem sr_in {K : PySem.W.Frag} {neg : Bool} : SndR K (oIn neg) (rIn K neg) := by
  intro w u h ι x y H Q rx ry r q
  unfold oIn at q
  split at q
  · rename_i n
    split at q
    · rename_i ws e
      split at q
      · rename_i hf
        rw [Bool.and_eq_true] at hf
        obtain ⟨a, xs, g1, g2, g3⟩ := r.seq e
        rw [ref_at ry g1]
        obtain ⟨h1, h2⟩ := any_ok rx hf.1 g2 hf.2
        refine ⟨a, xs, rfl, g3, flat_ok rx hf.1, h2, ?_⟩
        unfold inV
        rw [← h1]
        exact q ι _ H (Le.refl _) rfl r
      · exact q.elim
    · exact q.elim
  · exact q.elim
theorem c_in (ha : CE X Wx a fa ta) (hb : CE X Wx b fb tb) (hm : behindInMarks .In b = false := by rfl) : CE X Wx (.Compare a [.In] [b] pos) (fOp (oIn false) fa fb) (tOp (rIn X.K false) ta tb) := c_cmp op_in_seq sr_in ha hb hm
theorem c_notIn (ha : CE X Wx a fa ta) (hb : CE X Wx b fb tb) (hm : behindInMarks .NotIn b = false := by rfl) : CE X Wx (.Compare a [.NotIn] [b] pos) (fOp (oIn true) fa fb) (tOp (rIn X.K true) ta tb) := c_cmp op_notIn_seq sr_in ha hb hm
theorem ct_in (ha : CE X Wx a fa ta) (hb : CE X Wx b fb tb) (hm : behindInMarks .In b = false := by rfl) : CT X Wx (.Compare a [.In] [b] pos) (fTest (fOp (oIn false) fa fb)) (tTest (tOp (rIn X.K false) ta tb)) := ct_cmp op_in_seq sr_in ha hb hm
theorem ct_notIn (ha : CE X Wx a fa ta) (hb : CE X Wx b fb tb) (hm : behindInMarks .NotIn b = false := by rfl) : CT X Wx (.Compare a [.NotIn] [b] pos) (fTest (fOp (oIn true) fa fb)) (tTest (tOp (rIn X.K true) ta tb)) := ct_cmp op_notIn_seq sr_in ha hb hm
theorem ci_zip2 {p tpos : Pos} {elts : List Expr} {kk : Nat} (hg : Gl X "zip") (hm : X.mg "zip" = none) (ha : CA X Wx [a, b] fs t)
    (hs : starEach [a, b] X.env = (false, eval a X.env) :: starEach [b] X.env := by rfl) (hpl : (backTo pos (starEach [b] X.env)).any (·.1) = false := by rfl) :
    CI X Wx (.Tuple elts kk tpos) (.Call (.Name "zip" p) [a, b] [] pos) (fiZip fs) (iZip X.K t) := ci_zip (pi_zip hg hm ha.p hs hpl) ha
/-! ### a value's truth -/
def asTru : W → Hh → Option (Rs Bool)
  | .non, h => some (.ok false h)
  | .bl b, h => some (.ok b h)
  | .int i, h => some (.ok (i != 0) h)
  | .ref n, h => (seqOf h n).map fun ws => .ok (!ws.isEmpty) h
  | _, _ => none
def fTru (fe : FE) : FT := fun σ h => bnd (fe σ h) asTru
theorem empty_rel {ι : Io} {ws : List W} {xs : List V} (r : Rels ι ws xs) : ws.isEmpty = xs.isEmpty := by cases r <;> rfl
theorem snd_tru {t : TE} (h : SndE X.K Wx fe t) : SndT X.K Wx (fTru fe) (fun σ H Q => t σ H fun x H' => ∃ k, TruV X.K x H' k ∧ Q k H') := fun σ0 hh ι σ H Q rs r q =>
  h σ0 hh ι σ H _ rs r (q.bnd.imp fun ι1 w h1 l1 q1 x H1 rx r1 => by
    cases w with
    | non =>
      obtain rfl : x = .non := rx
      exact ⟨false, rfl, q1.ok H1 r1⟩
    | bl k =>
      obtain rfl : x = .bl k := rx
      exact ⟨k, rfl, q1.ok H1 r1⟩
    | int i =>
      obtain rfl : x = .int i := rx
      exact ⟨_, rfl, q1.ok H1 r1⟩
    | ref n =>
      cases e : seqOf h1 n with
      | none => simp only [asTru, e, Option.map_none] at q1; exact q1.elim
      | some ws =>
        simp only [asTru, e, Option.map_some] at q1
        obtain ⟨a, xs, g1, g2, g3⟩ := r1.seq e
        rw [ref_at rx g1]
        refine ⟨!ws.isEmpty, ?_, q1.ok H1 r1⟩
        rcases g3 with g3 | g3
        · exact .inl ⟨xs, g3, by rw [empty_rel g2]⟩
        · exact .inr (.inl ⟨xs, g3, by rw [empty_rel g2]⟩)
    | _ => exact q1.elim)
theorem ct_tru (h : CE X Wx e fe te) (he : ∀ whole, isTrue e X.env whole = (do let v ← whole; standAt e.pos; holding [v] (truthy v)) := by intro _; rfl) : CT X Wx e (fTru fe) (fun σ H Q => te σ H fun x H' => ∃ k, TruV X.K x H' k ∧ Q k H') := ⟨pt_truth h.p he, snd_tru h.s⟩
end rules
end Sp
set_option Elab.async false
set_option linter.all false
set_option maxRecDepth 100000
set_option maxHeartbeats 1250000
namespace Sp
open PySem PySem.Spec L2

/-! ### what a run of the mirror leads to -/
def Wr {α : Type} (r : Option (Rs α)) (E : Exn → Hh → Prop) (Q : α → Hh → Prop) : Prop := match r with
  | some (.ok a h) => Q a h
  | some (.ex e h) => E e h
  | none => False
def Ws (r : Option Out) (Q : Out → Prop) : Prop := match r with
  | some o => Q o
  | none => False
theorem Wr.imp {α : Type} {r : Option (Rs α)} {E E' : Exn → Hh → Prop} {Q Q' : α → Hh → Prop} (h : Wr r E Q) (he : ∀ e h, E e h → E' e h) (hq : ∀ a h, Q a h → Q' a h) : Wr r E' Q' := by
  match r, h with
  | some (.ok _ _), h => exact hq _ _ h
  | some (.ex _ _), h => exact he _ _ h
theorem Ws.imp {r : Option Out} {Q Q' : Out → Prop} (h : Ws r Q) (hq : ∀ o, Q o → Q' o) : Ws r Q' := by
  match r, h with
  | some _, h => exact hq _ h
theorem wr_bnd {α β : Type} {r : Option (Rs α)} {g : α → Hh → Option (Rs β)} {E : Exn → Hh → Prop} {Q : β → Hh → Prop} (h : Wr r E fun a h => Wr (g a h) E Q) : Wr (bnd r g) E Q := by
  match r, h with
  | some (.ok _ _), h => exact h
  | some (.ex _ _), h => exact h
theorem ws_bnd {α : Type} {r : Option (Rs α)} {σ : Sg} {g : α → Hh → Option Out} {Q : Out → Prop} (h : Wr r (fun e h => Q (.ex e σ h)) fun a h => Ws (g a h) Q) : Ws (bndS r σ g) Q := by
  match r, h with
  | some (.ok _ _), h => exact h
  | some (.ex _ _), h => exact h

section rules
variable {E : Exn → Hh → Prop} {Q : W → Hh → Prop} {QT : Bool → Hh → Prop} {QA : List W → Hh → Prop} {QO : Option Int → Hh → Prop} {D : Out → Prop} {σ : Sg} {h : Hh} {fa fb fc fe fo fi : FE} {fs gs : FA} {fA fB : FT} {w x y z : W} {i j : Int} {n : Nat} {ws : List W}
/-! expressions -/
theorem wr_var {k : Nat} (e : σ[k]? = some (some w)) (q : Q w h) : Wr (fVar k σ h) E Q := by
  unfold fVar; rw [e]; exact q
theorem wr_c (q : Q w h) : Wr (fC w σ h) E Q := q
theorem wr_op {op : F2} (q : Wr (fa σ h) E fun x h1 => Wr (fb σ h1) E fun y h2 => Wr (toRs (op x y h2)) E Q) : Wr (fOp op fa fb σ h) E Q := wr_bnd (q.imp (fun _ _ e => e) fun _ _ q => wr_bnd q)
theorem wr_un {op : W → Option W} (q : Wr (fa σ h) E fun x h1 => ∃ y, op x = some y ∧ Q y h1) : Wr (fUn op fa σ h) E Q := wr_bnd (q.imp (fun _ _ e => e) fun _ _ ⟨y, e, q⟩ => by rw [e]; exact q)
theorem wr_test (q : Wr (fe σ h) E fun x h1 => ∃ b, x = .bl b ∧ QT b h1) : Wr (fTest fe σ h) E QT := wr_bnd (q.imp (fun _ _ e => e) fun _ _ ⟨b, e, q⟩ => by subst e; exact q)
theorem wr_tru (q : Wr (fe σ h) E fun x h1 => ∃ b, asTru x h1 = some (.ok b h1) ∧ QT b h1) : Wr (fTru fe σ h) E QT := wr_bnd (q.imp (fun _ _ e => e) fun _ _ ⟨b, e, q⟩ => by rw [e]; exact q)
theorem wr_not (q : Wr (fA σ h) E fun b h1 => QT (!b) h1) : Wr (fNot fA σ h) E QT := wr_bnd q
theorem wr_and (q : Wr (fA σ h) E fun b h1 => (b = true → Wr (fB σ h1) E QT) ∧ (b = false → QT false h1)) : Wr (fAnd fA fB σ h) E QT := wr_bnd (q.imp (fun _ _ e => e) fun b _ q => by
  cases b
  · exact q.2 rfl
  · exact q.1 rfl)
theorem wr_or (q : Wr (fA σ h) E fun b h1 => (b = true → QT true h1) ∧ (b = false → Wr (fB σ h1) E QT)) : Wr (fOr fA fB σ h) E QT := wr_bnd (q.imp (fun _ _ e => e) fun b _ q => by
  cases b
  · exact q.2 rfl
  · exact q.1 rfl)
theorem wr_andV (q : Wr (fa σ h) E fun x h1 => ∃ b, x = .bl b ∧ (b = true → Wr (fb σ h1) E Q) ∧ (b = false → Q (.bl false) h1)) : Wr (fAndV fa fb σ h) E Q := wr_bnd (q.imp (fun _ _ e => e) fun x h1 ⟨b, e, q⟩ => by
  subst e
  cases b
  · exact q.2 rfl
  · exact q.1 rfl)
theorem wr_orV (q : Wr (fa σ h) E fun x h1 => ∃ b, x = .bl b ∧ (b = true → Q (.bl true) h1) ∧ (b = false → Wr (fb σ h1) E Q)) : Wr (fOrV fa fb σ h) E Q := wr_bnd (q.imp (fun _ _ e => e) fun x h1 ⟨b, e, q⟩ => by
  subst e
  cases b
  · exact q.2 rfl
  · exact q.1 rfl)
theorem wr_if (q : Wr (fA σ h) E fun b h1 => (b = true → Wr (fa σ h1) E Q) ∧ (b = false → Wr (fb σ h1) E Q)) : Wr (fIf fA fa fb σ h) E Q := wr_bnd (q.imp (fun _ _ e => e) fun b _ q => by
  cases b
  · exact q.2 rfl
  · exact q.1 rfl)
theorem wr_chain {op op' : F2} (q : Wr (fa σ h) E fun x h1 => Wr (fb σ h1) E fun y h2 => Wr (toRs (op x y h2)) E fun z h3 => ∃ b, z = .bl b ∧ (b = true → Wr (fc σ h3) E fun u h4 => Wr (toRs (op' y u h4)) E Q) ∧ (b = false → Q (.bl false) h3)) : Wr (fChain op op' fa fb fc σ h) E Q :=
  wr_bnd (q.imp (fun _ _ e => e) fun x h1 q => wr_bnd (q.imp (fun _ _ e => e) fun y h2 q => wr_bnd (q.imp (fun _ _ e => e) fun z h3 ⟨b, e, q⟩ => by
    subst e
    cases b
    · exact q.2 rfl
    · exact wr_bnd (q.1 rfl))))
theorem wr_nil (q : QA [] h) : Wr (fNil σ h) E QA := q
theorem wr_cons (q : Wr (fe σ h) E fun x h1 => Wr (fs σ h1) E fun xs h2 => QA (x :: xs) h2) : Wr (fCons fe fs σ h) E QA := wr_bnd (q.imp (fun _ _ e => e) fun _ _ q => wr_bnd q)
theorem wr_lst (q : Wr (fs σ h) E fun ws h1 => ws.length ≤ LIM ∧ Q (.ref h1.length) (h1 ++ [.lst ws])) : Wr (fLst fs σ h) E Q := wr_bnd (q.imp (fun _ _ e => e) fun ws h1 ⟨l, q⟩ => by
  show Wr (if ws.length ≤ LIM then _ else _) E Q
  rw [if_pos l]; exact q)
theorem wr_tup (q : Wr (fs σ h) E fun ws h1 => ws.length ≤ LIM ∧ Q (.ref h1.length) (h1 ++ [.tup ws])) : Wr (fTup fs σ h) E Q := wr_bnd (q.imp (fun _ _ e => e) fun ws h1 ⟨l, q⟩ => by
  show Wr (if ws.length ≤ LIM then _ else _) E Q
  rw [if_pos l]; exact q)
theorem wr_call {m : FN} {dvs : List W} (q : Wr (fs σ h) E fun ws h1 => Wr (m (ws ++ dvs) h1) E Q) : Wr (fCall m dvs fs σ h) E Q := wr_bnd q
theorem wr_callK {m : FN} {g : List W → List W → List W} (q : Wr (fs σ h) E fun ws h1 => Wr (gs σ h1) E fun us h2 => Wr (m (g ws us) h2) E Q) : Wr (fCallK m g fs gs σ h) E Q := wr_bnd (q.imp (fun _ _ e => e) fun _ _ q => wr_bnd q)
theorem wr_cb {fc : FC} (q : Wr (fs σ h) E fun ws h1 => Wr (toRs (fc ws h1)) E Q) : Wr (fCB fc fs σ h) E Q := wr_bnd q
theorem wr_noPart (q : QO none h) : Wr (fNoPart σ h) E QO := q
theorem wr_part (q : Wr (fe σ h) E fun w h1 => ∃ i, w = .int i ∧ QO (some i) h1) : Wr (fPart fe σ h) E QO := wr_bnd (q.imp (fun _ _ e => e) fun _ _ ⟨i, e, q⟩ => by subst e; exact q)
theorem wr_sl {fl fh : FO} (q : Wr (fe σ h) E fun x h1 => Wr (fl σ h1) E fun lo h2 => Wr (fh σ h2) E fun hi h3 => ∃ n ws, x = .ref n ∧ lstOf h3 n = some ws ∧ Q (.ref h3.length) (h3 ++ [.lst (cutW ws lo hi)])) : Wr (fSl fe fl fh σ h) E Q :=
  wr_bnd (q.imp (fun _ _ e => e) fun x h1 q => wr_bnd (q.imp (fun _ _ e => e) fun lo h2 q => wr_bnd (q.imp (fun _ _ e => e) fun hi h3 ⟨n, ws, e, e2, q9⟩ => by
    subst e
    simp only [e2]
    exact q9)))
/-! operations -/
theorem ro (e : r = some (w, h)) (q : Q w h) : Wr (toRs r) E Q := by subst e; exact q
theorem ro_add (q : Q (.int (i + j)) h) : Wr (toRs (oAdd (.int i) (.int j) h)) E Q := q
theorem ro_sub (q : Q (.int (i - j)) h) : Wr (toRs (oSub (.int i) (.int j) h)) E Q := q
theorem ro_I {C : Int → Int → Bool} {g : Int → Int → W} (c : C i j = true) (q : Q (g i j) h) : Wr (toRs (oI C g (.int i) (.int j) h)) E Q := by
  unfold oI; simp only [c, if_true]; exact q
theorem ro_mul (c : mulOk i j = true) (q : Q (.int (i * j)) h) : Wr (toRs (oMul (.int i) (.int j) h)) E Q := ro_I c q
theorem ro_fdiv (c1 : 0 < j) (c2 : j.natAbs.log2 < 9000) (q : Q (.int (i / j)) h) : Wr (toRs (oFdiv (.int i) (.int j) h)) E Q := ro_I (by simp [c1, c2]) q
theorem ro_mod (c1 : 0 < j) (q : Q (.int (i % j)) h) : Wr (toRs (oMod (.int i) (.int j) h)) E Q := ro_I (by simp [c1]) q
theorem ro_pow (c : powOk i j = true) (q : Q (.int (i ^ j.toNat)) h) : Wr (toRs (oPow (.int i) (.int j) h)) E Q := ro_I c q
theorem ro_shl (c : powOk i j = true) (q : Q (.int (i * 2 ^ j.toNat)) h) : Wr (toRs (oShl (.int i) (.int j) h)) E Q := ro_I c q
theorem ro_shr (c : 0 ≤ j) (q : Q (.int (i / 2 ^ j.toNat)) h) : Wr (toRs (oShr (.int i) (.int j) h)) E Q := ro_I (by simp [c]) q
theorem ro_and (q : Q (.int (Builtin.bitAnd i j)) h) : Wr (toRs (oAnd (.int i) (.int j) h)) E Q := q
theorem ro_lt (q : Q (.bl (decide (i < j))) h) : Wr (toRs (oLt (.int i) (.int j) h)) E Q := q
theorem ro_le (q : Q (.bl (decide (i ≤ j))) h) : Wr (toRs (oLe (.int i) (.int j) h)) E Q := q
theorem ro_gt (q : Q (.bl (decide (j < i))) h) : Wr (toRs (oGt (.int i) (.int j) h)) E Q := q
theorem ro_ge (q : Q (.bl (decide (j ≤ i))) h) : Wr (toRs (oGe (.int i) (.int j) h)) E Q := q
theorem ro_ix (e : seqOf h n = some ws) (a : atI ws i = some w) (q : Q w h) : Wr (toRs (oIx (.ref n) (.int i) h)) E Q := by
  unfold oIx; simp only [e, a]; exact q
theorem ro_eqI (q : Q (.bl (decide (i = j))) h) : Wr (toRs (oEqB false (.int i) (.int j) h)) E Q := by
  have e : oEqB false (.int i) (.int j) h = some (.bl (decide (i = j)), h) := by
    simp [oEqB, dat, SeqAt.shaped, PyData.canLay0, PyData.depth, PyData.eqv]
    by_cases g : i = j <;> simp [g]
  rw [e]; exact q
theorem ro_neI (q : Q (.bl (decide (i ≠ j))) h) : Wr (toRs (oEqB true (.int i) (.int j) h)) E Q := by
  have e : oEqB true (.int i) (.int j) h = some (.bl (decide (i ≠ j)), h) := by
    simp [oEqB, dat, SeqAt.shaped, PyData.canLay0, PyData.depth, PyData.eqv]
    by_cases g : i = j <;> simp [g]
  rw [e]; exact q
theorem ro_cat {m : Nat} {us : List W} (e : h[n]? = some (.lst ws)) (e2 : h[m]? = some (.lst us)) (l : ws.length + us.length ≤ LIM) (q : Q (.ref h.length) (h ++ [.lst (ws ++ us)])) : Wr (toRs (oCat (.ref n) (.ref m) h)) E Q := by
  unfold oCat; simp only [e, e2, l, if_true]; exact q
theorem ro_rep (e : h[n]? = some (.lst ws)) (l1 : -9223372036854775808 ≤ i) (l2 : i < 9223372036854775808) (l3 : ws.length * i.toNat ≤ LIM) (q : Q (.ref h.length) (h ++ [.lst (List.replicate i.toNat ws).flatten])) : Wr (toRs (oRep (.ref n) (.int i) h)) E Q := by
  unfold oRep; simp only [e, l1, l2, l3, decide_true, Bool.and_self, if_true]; exact q
theorem ro_len (e : seqOf h n = some ws) (q : Q (.int ws.length) h) : Wr (toRs (bLen [.ref n] h)) E Q := by
  unfold bLen; simp only [e]; exact q
theorem ro_max2 (q : Q (.int (if j > i then j else i)) h) : Wr (toRs (bMax2 [.int i, .int j] h)) E Q := q
theorem ro_min2 (q : Q (.int (if j < i then j else i)) h) : Wr (toRs (bMin2 [.int i, .int j] h)) E Q := q
theorem ro_intI (q : Q (.int i) h) : Wr (toRs (bInt [.int i] h)) E Q := q
theorem ro_intB {b : Bool} (q : Q (.int (if b then 1 else 0)) h) : Wr (toRs (bInt [.bl b] h)) E Q := q
theorem ro_list (e : seqOf h n = some ws) (q : Q (.ref h.length) (h ++ [.lst ws])) : Wr (toRs (bList [.ref n] h)) E Q := by
  unfold bList; simp only [e]; exact q
theorem ro_sum {ns : List Int} (e : lstOf h n = some (ns.map W.int)) (q : Q (.int ns.sum) h) : Wr (toRs (bSum [.ref n] h)) E Q := by
  unfold bSum; simp only [e, intsOf_map]; exact q
theorem ro_isi {b t : String} (e : tyOf h w = some t) (hb : tyNames.contains b = true) (q : Q (.bl (isTy t b)) h) : Wr (toRs (bIsi [w, .ty b] h)) E Q := by
  unfold bIsi; simp only [hb, e, if_true]; exact q
theorem wr_app (q : Wr (fo σ h) E fun x h1 => ∃ n ws, x = .ref n ∧ h1[n]? = some (.lst ws) ∧ Wr (fs σ h1) E fun us h2 => ∃ w ws, us = [w] ∧ h2[n]? = some (.lst ws) ∧ ws.length < LIM ∧ Q .non (h2.set n (.lst (ws ++ [w])))) : Wr (fApp fo fs σ h) E Q :=
  wr_bnd (q.imp (fun _ _ e => e) fun x h1 ⟨n, ws, e, e2, q⟩ => by
    subst e
    simp only [e2]
    refine wr_bnd (q.imp (fun _ _ e => e) fun us h2 ⟨w, ws, e3, e4, l, q⟩ => ?_)
    subst e3
    unfold mAppend
    simp only [e4, l, if_true]
    exact q)
/-! statements -/
def sq (k : Sg → Hh → Prop) (D : Out → Prop) : Out → Prop
  | .nx σ h => k σ h
  | o => D o
theorem ws_seq {f1 f2 : FS} (q : Ws (f1 σ h) (sq (fun σ1 h1 => Ws (f2 σ1 h1) D) D)) : Ws (fSeq f1 f2 σ h) D := by
  unfold fSeq
  match e : f1 σ h, q with
  | some (.nx _ _), q => exact q
  | some (.rt _ _), q => exact q
  | some (.bk _ _), q => exact q
  | some (.ct _ _), q => exact q
  | some (.ex _ _ _), q => exact q
theorem ws_skip (q : D (.nx σ h)) : Ws (fSkip σ h) D := q
theorem ws_brk (q : D (.bk σ h)) : Ws (fBrk σ h) D := q
theorem ws_cnt (q : D (.ct σ h)) : Ws (fCnt σ h) D := q
theorem ws_drop (q : Wr (fe σ h) (fun e h => D (.ex e σ h)) fun _ h1 => D (.nx σ h1)) : Ws (fDrop fe σ h) D := ws_bnd q
theorem ws_ret (q : Wr (fe σ h) (fun e h => D (.ex e σ h)) fun w h1 => D (.rt w h1)) : Ws (fRet fe σ h) D := ws_bnd q
theorem ws_retN (q : D (.rt .non h)) : Ws (fRetN σ h) D := q
theorem ws_ifS {f1 f2 : FS} (q : Wr (fA σ h) (fun e h => D (.ex e σ h)) fun b h1 => (b = true → Ws (f1 σ h1) D) ∧ (b = false → Ws (f2 σ h1) D)) : Ws (fIfS fA f1 f2 σ h) D := ws_bnd (q.imp (fun _ _ e => e) fun b _ q => by
  cases b
  · exact q.2 rfl
  · exact q.1 rfl)
theorem ws_set {k : Nat} (q : Wr (fe σ h) (fun e h => D (.ex e σ h)) fun w h1 => D (.nx (σ.set k (some w)) h1)) : Ws (fSet k fe σ h) D := ws_bnd q
theorem ws_asg {gt : TGt} (q : Wr (fe σ h) (fun e h => D (.ex e σ h)) fun w h1 => ∃ as, gt (.one w) h1 = some as ∧ D (.nx (setW σ as) h1)) : Ws (fAsg fe gt σ h) D := ws_bnd (q.imp (fun _ _ e => e) fun w h1 ⟨as, e, q⟩ => by
  simp only [e]; exact q)
theorem ws_par {k l : Nat} (q : Wr (fs σ h) (fun e h => D (.ex e σ h)) fun ws h1 => ∃ a b, ws = [a, b] ∧ D (.nx ((σ.set k (some a)).set l (some b)) h1)) : Ws (fPar k l fs σ h) D := ws_bnd (q.imp (fun _ _ e => e) fun ws h1 ⟨a, b, e, q⟩ => by
  subst e; exact q)
theorem ws_sub (q : Wr (fe σ h) (fun e h => D (.ex e σ h)) fun w h1 => Wr (fo σ h1) (fun e h => D (.ex e σ h)) fun x h2 => Wr (fi σ h2) (fun e h => D (.ex e σ h)) fun y h3 => ∃ n k ws j, x = .ref n ∧ y = .int k ∧ h3[n]? = some (.lst ws) ∧ ixN ws.length k = some j ∧ D (.nx σ (h3.set n (.lst (ws.set j w))))) : Ws (fSub fe fo fi σ h) D :=
  ws_bnd (q.imp (fun _ _ e => e) fun w h1 q => ws_bnd (q.imp (fun _ _ e => e) fun x h2 q => ws_bnd (q.imp (fun _ _ e => e) fun y h3 ⟨n, k, ws, j, e1, e2, e3, e4, q9⟩ => by
    subst e1 e2
    unfold stL
    simp only [e3, e4]
    exact q9)))
theorem ws_augL {op : F2} (q : Wr (fo σ h) (fun e h => D (.ex e σ h)) fun x h1 => Wr (fi σ h1) (fun e h => D (.ex e σ h)) fun y h2 => ∃ n k ws v, x = .ref n ∧ y = .int k ∧ lstOf h2 n = some ws ∧ atI ws k = some v ∧ Wr (fe σ h2) (fun e h => D (.ex e σ h)) fun u h4 => Wr (toRs (op v u h4)) (fun e h => D (.ex e σ h)) fun z h5 => ∃ ws j, h5[n]? = some (.lst ws) ∧ ixN ws.length k = some j ∧ D (.nx σ (h5.set n (.lst (ws.set j z))))) : Ws (fAugL op fo fi fe σ h) D :=
  ws_bnd (q.imp (fun _ _ e => e) fun x h1 q => ws_bnd (q.imp (fun _ _ e => e) fun y h2 ⟨n, k, ws, v, e1, e2, e3, e4, q9⟩ => by
    subst e1 e2
    have e5 : oIxL (.ref n) (.int k) h2 = some (v, h2) := by unfold oIxL; simp only [e3, e4]; rfl
    rw [e5]
    refine ws_bnd ?_
    show Ws (bndS (fe σ h2) σ fun u h4 => bndS (toRs (op v u h4)) σ fun z h5 => stL σ h5 (.ref n) (.int k) z) D
    exact ws_bnd (q9.imp (fun _ _ e => e) fun u h4 q8 => ws_bnd (q8.imp (fun _ _ e => e) fun z h5 ⟨ws, j, e3, e4, q7⟩ => by
      unfold stL
      simp only [e3, e4]
      exact q7))))
theorem ws_aug {k : Nat} {op : F2} (e : σ[k]? = some (some x)) (q : Wr (fe σ h) (fun e h => D (.ex e σ h)) fun y h1 => Wr (toRs (op x y h1)) (fun _ _ => False) fun z h2 => D (.nx (σ.set k (some z)) h2)) : Ws (fAug k op fe σ h) D := by
  unfold fAug
  rw [e]
  refine ws_bnd (q.imp (fun _ _ e => e) fun y h1 q9 => ?_)
  match e2 : op x y h1, q9 with
  | some (_, _), q9 => exact q9
/-! loops -/
def inLoop (k : Sg → Hh → Prop) (D : Out → Prop) : Out → Prop
  | .nx σ h => k σ h
  | .ct σ h => k σ h
  | .bk σ h => D (.nx σ h)
  | o => D o
theorem ws_loop {nxt : Nat → Hh → Option (Option Yv)} {gt : TGt} {fb : FS} (ys : List Yv) (I : Nat → Sg → Hh → Prop)
    (hn : ∀ i σ h, i ≤ ys.length → I i σ h → nxt i h = some ys[i]?)
    (hs : ∀ i y σ h, ys[i]? = some y → I i σ h → ∃ as, gt y h = some as ∧ Ws (fb (setW σ as) h) (inLoop (I (i + 1)) D))
    (hd : ∀ σ h, I ys.length σ h → D (.nx σ h)) : ∀ (fuel i : Nat) (σ : Sg) (h : Hh), i ≤ ys.length → ys.length < i + fuel → I i σ h → Ws (loopF nxt gt fb fuel i σ h) D
  | 0, i, σ, h, l, f, q => by omega
  | fuel + 1, i, σ, h, l, f, q => by
    unfold loopF
    rw [hn i σ h l q]
    cases e : ys[i]? with
    | none =>
      have : i = ys.length := by
        have := List.getElem?_eq_none_iff.mp e
        omega
      subst this
      exact hd σ h q
    | some y =>
      have li : i < ys.length := (List.getElem?_eq_some_iff.mp e).1
      obtain ⟨as, e2, q2⟩ := hs i y σ h e q
      simp only [e2]
      match e3 : fb (setW σ as) h, q2 with
      | some (.nx σ1 h1), q2 => exact ws_loop ys I hn hs hd fuel (i + 1) σ1 h1 (by omega) (by omega) q2
      | some (.ct σ1 h1), q2 => exact ws_loop ys I hn hs hd fuel (i + 1) σ1 h1 (by omega) (by omega) q2
      | some (.bk σ1 h1), q2 => exact q2
      | some (.rt _ _), q2 => exact q2
      | some (.ex _ _ _), q2 => exact q2
theorem ws_for {fi : FI} {gt : TGt} {fb : FS} (q : Wr (fi σ h) (fun e h => D (.ex e σ h)) fun J h1 => ∃ (ys : List Yv) (I : Nat → Sg → Hh → Prop), ys.length < J.fuel ∧ I 0 σ h1 ∧
    (∀ i σ h, i ≤ ys.length → I i σ h → J.nxt i h = some ys[i]?) ∧
    (∀ i y σ h, ys[i]? = some y → I i σ h → ∃ as, gt y h = some as ∧ Ws (fb (setW σ as) h) (inLoop (I (i + 1)) D)) ∧
    (∀ σ h, I ys.length σ h → D (.nx σ h))) : Ws (fFor fi gt fb σ h) D := ws_bnd (q.imp (fun _ _ e => e) fun J h1 ⟨ys, I, l, q0, hn, hs, hd⟩ =>
  ws_loop ys I hn hs hd J.fuel 0 σ h1 (Nat.zero_le _) (by omega) q0)
theorem wr_fiList {QI : FIt → Hh → Prop} (q : Wr (fe σ h) E fun w h1 => ∃ n xs, w = .ref n ∧ lstOf h1 n = some xs ∧ QI ⟨xs.length + 1, nxtL n⟩ h1) : Wr (fiList fe σ h) E QI := wr_bnd (q.imp (fun _ _ e => e) fun w h1 ⟨n, xs, e, e2, q⟩ => by
  subst e; simp only [e2]; exact q)
theorem wr_fiTup {QI : FIt → Hh → Prop} (q : Wr (fe σ h) E fun w h1 => ∃ n xs, w = .ref n ∧ tupOf h1 n = some xs ∧ QI ⟨xs.length + 1, nxtT n⟩ h1) : Wr (fiTup fe σ h) E QI := wr_bnd (q.imp (fun _ _ e => e) fun w h1 ⟨n, xs, e, e2, q⟩ => by
  subst e; simp only [e2]; exact q)
theorem wr_fiRng1 {QI : FIt → Hh → Prop} (q : Wr (fs σ h) E fun ws h1 => ∃ j, ws = [.int j] ∧ rngOk j = true ∧ QI ⟨j.toNat + 1, nxtR 0 j.toNat⟩ h1) : Wr (fiRng1 fs σ h) E QI := wr_bnd (q.imp (fun _ _ e => e) fun ws h1 ⟨j, e, e2, q⟩ => by
  subst e; simp only [e2, if_true]; exact q)
theorem wr_fiRng2 {QI : FIt → Hh → Prop} (q : Wr (fs σ h) E fun ws h1 => ∃ i j, ws = [.int i, .int j] ∧ rngOk i = true ∧ rngOk j = true ∧ QI ⟨(j - i).toNat + 1, nxtR i (j - i).toNat⟩ h1) : Wr (fiRng2 fs σ h) E QI := wr_bnd (q.imp (fun _ _ e => e) fun ws h1 ⟨i, j, e, e2, e3, q⟩ => by
  subst e; simp only [e2, e3, Bool.and_self, if_true]; exact q)
theorem wr_fiEnum {QI : FIt → Hh → Prop} (q : Wr (fs σ h) E fun ws h1 => ∃ n xs, ws = [.ref n] ∧ lstOf h1 n = some xs ∧ QI ⟨xs.length + 1, nxtE n⟩ h1) : Wr (fiEnum fs σ h) E QI := wr_bnd (q.imp (fun _ _ e => e) fun w h1 ⟨n, xs, e, e2, q⟩ => by
  subst e; simp only [e2]; exact q)
theorem wr_fiZip {QI : FIt → Hh → Prop} (q : Wr (fs σ h) E fun ws h1 => ∃ n m xs ys, ws = [.ref n, .ref m] ∧ lstOf h1 n = some xs ∧ lstOf h1 m = some ys ∧ QI ⟨xs.length + 1, nxtZ n m⟩ h1) : Wr (fiZip fs σ h) E QI := wr_bnd (q.imp (fun _ _ e => e) fun w h1 ⟨n, m, xs, ys, e, e2, e3, q⟩ => by
  subst e; simp only [e2, e3]; exact q)
theorem ws_while {fuel : Nat} {fb : FS} (I : Nat → Sg → Hh → Prop) (hs : ∀ k σ h, I k σ h → Wr (fA σ h) (fun e h => D (.ex e σ h)) fun b h1 => (b = true → ∃ k', k = k' + 1 ∧ Ws (fb σ h1) (inLoop (I k') D)) ∧ (b = false → D (.nx σ h1))) :
    ∀ (fuel k : Nat) (σ : Sg) (h : Hh), k < fuel → I k σ h → Ws (whileF fA fb fuel σ h) D
  | 0, _, _, _, l, _ => by omega
  | fuel + 1, k, σ, h, l, q => by
    unfold whileF
    refine ws_bnd ((hs k σ h q).imp (fun _ _ e => e) fun b h1 q1 => ?_)
    cases b with
    | false => exact q1.2 rfl
    | true =>
      obtain ⟨k', e, q2⟩ := q1.1 rfl
      simp only [if_true]
      match e3 : fb σ h1, q2 with
      | some (.nx σ1 h2), q2 => exact ws_while (fuel := fuel) I hs fuel k' σ1 h2 (by omega) q2
      | some (.ct σ1 h2), q2 => exact ws_while (fuel := fuel) I hs fuel k' σ1 h2 (by omega) q2
      | some (.bk σ1 h2), q2 => exact q2
      | some (.rt _ _), q2 => exact q2
      | some (.ex _ _ _), q2 => exact q2
theorem ws_whileF {fuel : Nat} {fb : FS} (I : Nat → Sg → Hh → Prop) (k : Nat) (l : k < fuel) (q : I k σ h) (hs : ∀ k σ h, I k σ h → Wr (fA σ h) (fun e h => D (.ex e σ h)) fun b h1 => (b = true → ∃ k', k = k' + 1 ∧ Ws (fb σ h1) (inLoop (I k') D)) ∧ (b = false → D (.nx σ h1))) : Ws (fWhile fuel fA fb σ h) D := ws_while (fuel := fuel) I hs fuel k σ h l q
/-! comprehensions: h[d] holds what there is so far -/
theorem wr_lc_go {nxt : Nat → Hh → Option (Option Yv)} {gt : TGt} {vs : List Nat} {ft : FT} {fe : FE} {d : Nat} {P : Hh → Prop} (ys : List Yv) (I : Nat → List W → Hh → Prop)
    (hl : ys.length ≤ LIM)
    (hn : ∀ i acc h, i ≤ ys.length → I i acc h → nxt i h = some ys[i]?)
    (hs : ∀ i y acc h, ys[i]? = some y → I i acc h → h[d]? = some (.lst acc) → ∃ as, gt y h = some as ∧ (as.all fun p => vs.contains p.1) = true ∧
      Wr (ft (setW σ as) h) (fun _ _ => False) fun b h1 => (b = true → Wr (fe (setW σ as) h1) (fun _ _ => False) fun w h2 => h2[d]? = some (.lst acc) ∧ I (i + 1) (acc ++ [w]) (h2.set d (.lst (acc ++ [w])))) ∧ (b = false → h1[d]? = some (.lst acc) ∧ I (i + 1) acc h1))
    (hd : ∀ acc h, I ys.length acc h → h[d]? = some (.lst acc) → P h) : ∀ (fuel i : Nat) (acc : List W) (h : Hh), i ≤ ys.length → ys.length < i + fuel → acc.length ≤ i → I i acc h → h[d]? = some (.lst acc) → ∃ h', lcF nxt gt vs ft fe d fuel i σ h = some h' ∧ P h'
  | 0, i, acc, h, l, f, la, q, ha => by omega
  | fuel + 1, i, acc, h, l, f, la, q, ha => by
    unfold lcF
    rw [hn i acc h l q]
    cases e : ys[i]? with
    | none =>
      have : i = ys.length := by
        have := List.getElem?_eq_none_iff.mp e
        omega
      subst this
      exact ⟨h, rfl, hd acc h q ha⟩
    | some y =>
      have li : i < ys.length := (List.getElem?_eq_some_iff.mp e).1
      obtain ⟨as, e2, e3, q2⟩ := hs i y acc h e q ha
      simp only [e2, e3, if_true]
      match e4 : ft (setW σ as) h, q2 with
      | some (.ok false h1), q2 =>
        exact wr_lc_go ys I hl hn hs hd fuel (i + 1) acc h1 (by omega) (by omega) (by omega) (q2.2 rfl).2 (q2.2 rfl).1
      | some (.ok true h1), q2 =>
        have q3 := q2.1 rfl
        simp only
        match e5 : fe (setW σ as) h1, q3 with
        | some (.ok w h2), ⟨q4, q5⟩ =>
          simp only [q4]
          rw [if_pos (by omega)]
          refine wr_lc_go ys I hl hn hs hd fuel (i + 1) (acc ++ [w]) _ (by omega) (by omega) (by simp; omega) q5 ?_
          have := (List.getElem?_eq_some_iff.mp q4).1
          simp [this]
theorem wr_lc {fi : FI} {gt : TGt} {vs : List Nat} {ft : FT} (q : Wr (fi σ h) E fun J h1 => ∃ (ys : List Yv) (I : Nat → List W → Hh → Prop), ys.length < J.fuel ∧ ys.length ≤ LIM ∧ I 0 [] (h1 ++ [.lst []]) ∧
    (∀ i acc h, i ≤ ys.length → I i acc h → J.nxt i h = some ys[i]?) ∧
    (∀ i y acc h, ys[i]? = some y → I i acc h → h[h1.length]? = some (.lst acc) → ∃ as, gt y h = some as ∧ (as.all fun p => vs.contains p.1) = true ∧
      Wr (ft (setW (wipeW σ vs) as) h) (fun _ _ => False) fun b h2 => (b = true → Wr (fe (setW (wipeW σ vs) as) h2) (fun _ _ => False) fun w h3 => h3[h1.length]? = some (.lst acc) ∧ I (i + 1) (acc ++ [w]) (h3.set h1.length (.lst (acc ++ [w])))) ∧ (b = false → h2[h1.length]? = some (.lst acc) ∧ I (i + 1) acc h2)) ∧
    (∀ acc h, I ys.length acc h → h[h1.length]? = some (.lst acc) → Q (.ref h1.length) h)) : Wr (fLc fi gt vs ft fe σ h) E Q := wr_bnd (q.imp (fun _ _ e => e) fun J h1 ⟨ys, I, l, l2, q0, hn, hs, hd⟩ => by
  obtain ⟨h', e, q⟩ := wr_lc_go (P := fun h => Q (.ref h1.length) h) ys I l2 hn hs hd J.fuel 0 [] (h1 ++ [.lst []]) (Nat.zero_le _) (by omega) (Nat.le_refl _) q0 (by simp)
  simp only [e]
  exact q)
/-! defs -/
def outQ (E : Exn → Hh → Prop) (Q : W → Hh → Prop) : Out → Prop
  | .nx _ h => Q .non h
  | .rt w h => Q w h
  | .ex e _ h => E e h
  | _ => False
theorem wr_run {k N : Nat} {f : FS} {ws : List W} (l : ws.length = k) (q : Ws (f (startW N ws) h) (outQ E Q)) : Wr (runF k N f ws h) E Q := by
  unfold runF
  rw [if_pos l]
  match e : f (startW N ws) h, q with
  | some (.nx _ _), q => exact q
  | some (.rt _ _), q => exact q
  | some (.ex _ _ _), q => exact q
end rules
end Sp
set_option Elab.async false
set_option linter.all false
set_option maxRecDepth 100000
set_option maxHeartbeats 1250000
namespace Sp
open PySem PySem.Spec L2

/-! ### what of a heap is seen; how it may grow -/
abbrev Vw := Nat → Option O
def vw (X : List Nat) (h : Hh) : Vw := fun n => if X.contains n then none else h[n]?
/-- h' keeps all objects of h but those of M -/
structure Sub (M : List Nat) (h h' : Hh) : Prop where
  get : ∀ n o, n ∉ M → h[n]? = some o → h'[n]? = some o
  len : h.length ≤ h'.length
theorem Sub.refl (M : List Nat) (h : Hh) : Sub M h h := ⟨fun _ _ _ e => e, Nat.le_refl _⟩
theorem Sub.trans {M : List Nat} {h h' h'' : Hh} (a : Sub M h h') (b : Sub M h' h'') : Sub M h h'' := ⟨fun n o m e => b.get n o m (a.get n o m e), Nat.le_trans a.len b.len⟩
theorem Sub.up {M N : List Nat} {h h' : Hh} (a : Sub M h h') (s : ∀ n ∈ M, n ∈ N) : Sub N h h' := ⟨fun n o m e => a.get n o (fun k => m (s n k)) e, a.len⟩
theorem Sub.nil {M : List Nat} {h h' : Hh} (a : Sub [] h h') : Sub M h h' := a.up (by simp)
theorem Sub.new {M : List Nat} {h h' : Hh} (a : Sub M h h') (os : List O) : Sub M h (h' ++ os) := ⟨fun n o m e => by
  have := a.get n o m e
  rw [List.getElem?_append_left (List.getElem?_eq_some_iff.mp this).1]
  exact this, by have := a.len; simp; omega⟩
theorem Sub.set {M : List Nat} {h h' : Hh} (a : Sub M h h') {n : Nat} {o : O} (m : n ∈ M ∨ h.length ≤ n) : Sub M h (h'.set n o) := ⟨fun k o' mk e => by
  have l := (List.getElem?_eq_some_iff.mp e).1
  have : k ≠ n := by
    rintro rfl
    rcases m with m | m
    · exact mk m
    · omega
  rw [List.getElem?_set_ne (Ne.symm this)]
  exact a.get k o' mk e, by have := a.len; simp; omega⟩
/-- what is new is out of sight of a wider M -/
theorem Sub.down {M N : List Nat} {h h' : Hh} (a : Sub N h h') (s : ∀ n ∈ N, n ∈ M ∨ h.length ≤ n) : Sub M h h' := ⟨fun n o m e => a.get n o (fun k => by
  rcases s n k with k | k
  · exact m k
  · have := (List.getElem?_eq_some_iff.mp e).1
    omega) e, a.len⟩
theorem vw_some {X : List Nat} {h : Hh} {n : Nat} {o : O} : vw X h n = some o ↔ n ∉ X ∧ h[n]? = some o := by
  unfold vw
  by_cases m : n ∈ X
  · simp [m]
  · simp [m]
theorem Sub.vw {M X : List Nat} {h h' : Hh} (a : Sub M h h') (s : ∀ n ∈ M, n ∈ X) : ∀ n o, vw X h n = some o → vw X h' n = some o := fun n o e => by
  rw [vw_some] at e ⊢
  exact ⟨e.1, a.get n o (fun k => e.1 (s n k)) e.2⟩

/-! ### data in a heap -/
mutual
inductive Rp (v : Vw) : PyData → W → Prop
  | non : Rp v .none .non
  | bl (b : Bool) : Rp v (.bool b) (.bl b)
  | int (i : Int) : Rp v (.int i) (.int i)
  | str (s : Str) : Rp v (.str s) (.str s)
  | lst {n : Nat} {ws : List W} {ds : List PyData} (e : v n = some (.lst ws)) (r : Rps v ds ws) : Rp v (.list ds) (.ref n)
  | tup {n : Nat} {ws : List W} {ds : List PyData} (e : v n = some (.tup ws)) (r : Rps v ds ws) : Rp v (.tuple ds) (.ref n)
inductive Rps (v : Vw) : List PyData → List W → Prop
  | nil : Rps v [] []
  | cons {d : PyData} {w : W} {ds : List PyData} {ws : List W} (r : Rp v d w) (t : Rps v ds ws) : Rps v (d :: ds) (w :: ws)
end
mutual
theorem Rp.mono {v v' : Vw} (h : ∀ n o, v n = some o → v' n = some o) {d : PyData} {w : W} : Rp v d w → Rp v' d w
  | .non => .non
  | .bl b => .bl b
  | .int i => .int i
  | .str s => .str s
  | .lst e r => .lst (h _ _ e) (Rps.mono h r)
  | .tup e r => .tup (h _ _ e) (Rps.mono h r)
theorem Rps.mono {v v' : Vw} (h : ∀ n o, v n = some o → v' n = some o) {ds : List PyData} {ws : List W} : Rps v ds ws → Rps v' ds ws
  | .nil => .nil
  | .cons r t => .cons (Rp.mono h r) (Rps.mono h t)
end
theorem Rp.up {M X : List Nat} {h h' : Hh} {d : PyData} {w : W} (r : Rp (vw X h) d w) (a : Sub M h h') (s : ∀ n ∈ M, n ∈ X := by simp) : Rp (vw X h') d w := r.mono (a.vw s)
theorem Rps.up {M X : List Nat} {h h' : Hh} {d : List PyData} {w : List W} (r : Rps (vw X h) d w) (a : Sub M h h') (s : ∀ n ∈ M, n ∈ X := by simp) : Rps (vw X h') d w := r.mono (a.vw s)
/-- an address beyond the heap may be hidden -/
theorem vw_hide {X Y : List Nat} {h : Hh} (s : ∀ n ∈ Y, n ∈ X ∨ h.length ≤ n) : ∀ n o, vw X h n = some o → vw Y h n = some o := fun n o e => by
  rw [vw_some] at e ⊢
  refine ⟨fun k => ?_, e.2⟩
  rcases s n k with k | k
  · exact e.1 k
  · have := (List.getElem?_eq_some_iff.mp e.2).1
    omega
theorem Rp.hide {X Y : List Nat} {h : Hh} {d : PyData} {w : W} (r : Rp (vw X h) d w) (s : ∀ n ∈ Y, n ∈ X ∨ h.length ≤ n) : Rp (vw Y h) d w := r.mono (vw_hide s)
theorem Rps.len {v : Vw} : ∀ {ds : List PyData} {ws : List W}, Rps v ds ws → ws.length = ds.length
  | _, _, .nil => rfl
  | _, _, .cons _ t => by simp [t.len]
theorem Rps.get {v : Vw} : ∀ {ds : List PyData} {ws : List W} {i : Nat} {d : PyData}, Rps v ds ws → ds[i]? = some d → ∃ w, ws[i]? = some w ∧ Rp v d w
  | _, _, _, _, .nil, e => (by simp at e)
  | _, _, 0, _, .cons r _, e => (by simp at e; subst e; exact ⟨_, rfl, r⟩)
  | _, _, i + 1, _, .cons _ t, e => by
    obtain ⟨w, h1, h2⟩ := t.get (i := i) (by simpa using e)
    exact ⟨w, by simpa using h1, h2⟩
theorem Rps.app {v : Vw} : ∀ {ds es : List PyData} {ws us : List W}, Rps v ds ws → Rps v es us → Rps v (ds ++ es) (ws ++ us)
  | _, _, _, _, .nil, q => q
  | _, _, _, _, .cons r t, q => .cons r (t.app q)
theorem Rps.set {v : Vw} : ∀ {ds : List PyData} {ws : List W} {d : PyData} {w : W} (i : Nat), Rps v ds ws → Rp v d w → Rps v (ds.set i d) (ws.set i w)
  | _, _, _, _, _, .nil, _ => .nil
  | _, _, _, _, 0, .cons _ t, q => .cons q t
  | _, _, _, _, i + 1, .cons r t, q => .cons r (t.set i q)
theorem Rps.rep {v : Vw} {d : PyData} {w : W} (r : Rp v d w) : ∀ k : Nat, Rps v (List.replicate k d) (List.replicate k w)
  | 0 => .nil
  | k + 1 => .cons r (Rps.rep r k)
theorem rps_ints {v : Vw} : ∀ {ns : List Int} {ws : List W}, Rps v (ns.map .int) ws → ws = ns.map .int
  | [], _, .nil => rfl
  | _ :: _, _, .cons (.int _) t => by rw [rps_ints t]; rfl
theorem rps_ints_mk {v : Vw} : ∀ ns : List Int, Rps v (ns.map .int) (ns.map .int)
  | [] => .nil
  | _ :: ns => .cons (.int _) (rps_ints_mk ns)
theorem Rp.int_inv {v : Vw} {i : Int} {w : W} (r : Rp v (.int i) w) : w = .int i := by cases r; rfl
theorem Rp.lst_inv {v : Vw} {ds : List PyData} {w : W} (r : Rp v (.list ds) w) : ∃ n ws, w = .ref n ∧ v n = some (.lst ws) ∧ Rps v ds ws := by
  cases r with
  | lst e r => exact ⟨_, _, rfl, e, r⟩
theorem Rp.tup_inv {v : Vw} {ds : List PyData} {w : W} (r : Rp v (.tuple ds) w) : ∃ n ws, w = .ref n ∧ v n = some (.tup ws) ∧ Rps v ds ws := by
  cases r with
  | tup e r => exact ⟨_, _, rfl, e, r⟩
theorem Rp.pair_inv {v : Vw} {i j : Int} {w : W} (r : Rp v (.tuple [.int i, .int j]) w) : ∃ n, w = .ref n ∧ v n = some (.tup [.int i, .int j]) := by
  obtain ⟨n, ws, rfl, e, r⟩ := r.tup_inv
  cases r with
  | cons a t =>
    cases a
    cases t with
    | cons b t =>
      cases b
      cases t
      exact ⟨n, rfl, e⟩
theorem lst_of_vw {X : List Nat} {h : Hh} {n : Nat} {ws : List W} (e : vw X h n = some (.lst ws)) : lstOf h n = some ws := by
  unfold lstOf
  rw [(vw_some.mp e).2]
theorem tup_of_vw {X : List Nat} {h : Hh} {n : Nat} {ws : List W} (e : vw X h n = some (.tup ws)) : tupOf h n = some ws := by
  unfold tupOf
  rw [(vw_some.mp e).2]
theorem lst_of {h : Hh} {n : Nat} {ws : List W} (e : h[n]? = some (.lst ws)) : lstOf h n = some ws := by
  unfold lstOf
  rw [e]
theorem tup_of {h : Hh} {n : Nat} {ws : List W} (e : h[n]? = some (.tup ws)) : tupOf h n = some ws := by
  unfold tupOf
  rw [e]
theorem nolst_of {h : Hh} {n : Nat} {ws : List W} (e : h[n]? = some (.tup ws)) : lstOf h n = none := by
  unfold lstOf
  rw [e]
theorem seq_of_lst {h : Hh} {n : Nat} {ws : List W} (e : lstOf h n = some ws) : seqOf h n = some ws := by
  unfold seqOf
  rw [e]
theorem seq_of_tup {h : Hh} {n : Nat} {ws : List W} (e : h[n]? = some (.tup ws)) : seqOf h n = some ws := by
  unfold seqOf
  rw [nolst_of e, tup_of e]
mutual
theorem dat_rp {X : List Nat} {h : Hh} {d : PyData} {w : W} : Rp (vw X h) d w → ∀ k, d.depth < k → dat k h w = some d
  | .non, k + 1, _ => rfl
  | .bl _, k + 1, _ => rfl
  | .int _, k + 1, _ => rfl
  | .str _, k + 1, _ => rfl
  | .lst e r, k + 1, l => by
    unfold dat
    simp only [lst_of_vw e]
    rw [dats_rp r k (by simp [PyData.depth] at l; omega)]
    rfl
  | .tup e r, k + 1, l => by
    unfold dat
    simp only [nolst_of (vw_some.mp e).2, tup_of_vw e]
    rw [dats_rp r k (by simp [PyData.depth] at l; omega)]
    rfl
theorem dats_rp {X : List Nat} {h : Hh} {ds : List PyData} {ws : List W} : Rps (vw X h) ds ws → ∀ k, PyData.depthAll ds < k → allO (dat k h) ws = some ds
  | .nil, _, _ => rfl
  | .cons r t, k, l => by
    unfold allO
    rw [dat_rp r k (by simp [PyData.depthAll] at l; omega), dats_rp t k (by simp [PyData.depthAll] at l; omega)]
    rfl
end
theorem ro_eqD {E : Exn → Hh → Prop} {Q : W → Hh → Prop} {X : List Nat} {h : Hh} {d e : PyData} {x y : W} {neg : Bool} (r : Rp (vw X h) d x) (s : Rp (vw X h) e y) (hd : SeqAt.shaped d = true) (he : SeqAt.shaped e = true)
    (q : Q (.bl (if neg then !PyData.eqv d e else PyData.eqv d e)) h) : Wr (toRs (oEqB neg x y h)) E Q := by
  have h1 : d.depth < 70 := by simp [SeqAt.shaped] at hd; omega
  have h2 : e.depth < 70 := by simp [SeqAt.shaped] at he; omega
  have e3 : oEqB neg x y h = some (.bl (if neg then !PyData.eqv d e else PyData.eqv d e), h) := by
    unfold oEqB
    rw [dat_rp r 70 h1, dat_rp s 70 h2]
    simp only [hd, he, Bool.and_self, if_true]
  rw [e3]; exact q
theorem ro_eqS {E : Exn → Hh → Prop} {Q : W → Hh → Prop} {X : List Nat} {h : Hh} {d : PyData} {x y : W} {neg : Bool} (r : Rp (vw X h) d x) (s : Rp (vw X h) d y) (hd : SeqAt.shaped d = true)
    (q : Q (.bl (!neg)) h) : Wr (toRs (oEqB neg x y h)) E Q := by
  refine ro_eqD r s hd hd ?_
  have : PyData.eqv d d = true := SeqAt.eqv_refl d (by simp [SeqAt.shaped] at hd; exact hd.1)
  cases neg <;> simp [this] <;> exact q
/-! shapes -/
theorem shaped_ints (ns : List Int) : SeqAt.shaped (.list (ns.map .int)) = true := by
  have h1 : ∀ ns : List Int, PyData.canLayAll0 (ns.map .int) = true ∧ PyData.depthAll (ns.map .int) = 0 := by
    intro ns
    induction ns with
    | nil => simp [PyData.canLayAll0, PyData.depthAll]
    | cons n ns ih => simp [PyData.canLayAll0, PyData.canLay0, PyData.depthAll, PyData.depth, ih]
  simp [SeqAt.shaped, PyData.canLay0, PyData.depth, h1]
def dPair (p : Int × Int) : PyData := .tuple [.int p.1, .int p.2]
theorem shaped_pairs (ns : List (Int × Int)) : SeqAt.shaped (.list (ns.map dPair)) = true := by
  have h1 : ∀ ns : List (Int × Int), PyData.canLayAll0 (ns.map dPair) = true ∧ PyData.depthAll (ns.map dPair) ≤ 1 := by
    intro ns
    induction ns with
    | nil => simp [PyData.canLayAll0, PyData.depthAll]
    | cons n ns ih =>
      simp only [List.map_cons, PyData.canLayAll0, PyData.depthAll, ih.1, Bool.and_true]
      constructor
      · simp [dPair, PyData.canLay0, PyData.canLayAll0]
      · simp [dPair, PyData.depth, PyData.depthAll]; omega
  have := h1 ns
  simp [SeqAt.shaped, PyData.canLay0, PyData.depth, this.1]; omega
end Sp
set_option Elab.async false
set_option linter.all false
set_option maxRecDepth 100000
set_option maxHeartbeats 1250000
namespace Sp
open PySem PySem.Spec L2
section
variable {E : Exn → Hh → Prop} {Q : W → Hh → Prop} {D : Out → Prop} {k : Sg → Hh → Prop} {σ : Sg} {h : Hh} {w : W} {e : Exn}
theorem sq_nx (q : k σ h) : sq k D (.nx σ h) := q
theorem sq_rt (q : D (.rt w h)) : sq k D (.rt w h) := q
theorem sq_ex (q : D (.ex e σ h)) : sq k D (.ex e σ h) := q
theorem sq_ct (q : D (.ct σ h)) : sq k D (.ct σ h) := q
theorem sq_bk (q : D (.bk σ h)) : sq k D (.bk σ h) := q
theorem il_nx (q : k σ h) : inLoop k D (.nx σ h) := q
theorem il_ct (q : k σ h) : inLoop k D (.ct σ h) := q
theorem il_bk (q : D (.nx σ h)) : inLoop k D (.bk σ h) := q
theorem il_rt (q : D (.rt w h)) : inLoop k D (.rt w h) := q
theorem il_ex (q : D (.ex e σ h)) : inLoop k D (.ex e σ h) := q
theorem oq_nx (q : Q .non h) : outQ E Q (.nx σ h) := q
theorem oq_rt (q : Q w h) : outQ E Q (.rt w h) := q
theorem oq_ex (q : E e h) : outQ E Q (.ex e σ h) := q
theorem wr_yes {Q : Bool → Hh → Prop} (q : Q true h) : Wr (fYes σ h) E Q := q
end
section
variable {E : Exn → Hh → Prop} {Q : W → Hh → Prop} {QT : Bool → Hh → Prop} {h : Hh} {b : Bool} {i : Int} {A B : Prop} {ws : List W}
theorem wr_varE {k : Nat} {σ : Sg} (q : ∃ w, σ[k]? = some (some w) ∧ Q w h) : Wr (fVar k σ h) E Q := by
  obtain ⟨w, e, q⟩ := q
  exact wr_var e q
theorem ws_augE {k : Nat} {op : F2} {σ : Sg} {fe : FE} {D : Out → Prop} (q : ∃ x, σ[k]? = some (some x) ∧ Wr (fe σ h) (fun e h => D (.ex e σ h)) fun y h1 => Wr (toRs (op x y h1)) (fun _ _ => False) fun z h2 => D (.nx (σ.set k (some z)) h2)) : Ws (fAug k op fe σ h) D := by
  obtain ⟨x, e, q⟩ := q
  exact ws_aug e q
theorem un_not (q : Q (.bl (!b)) h) : ∃ y, uNot (.bl b) = some y ∧ Q y h := ⟨_, rfl, q⟩
theorem un_neg (q : Q (.int (-i)) h) : ∃ y, uNeg (.int i) = some y ∧ Q y h := ⟨_, rfl, q⟩
theorem tru_bl (q : QT b h) : ∃ b', asTru (.bl b) h = some (.ok b' h) ∧ QT b' h := ⟨_, rfl, q⟩
theorem tru_int (q : QT (i != 0) h) : ∃ b', asTru (.int i) h = some (.ok b' h) ∧ QT b' h := ⟨_, rfl, q⟩
theorem tru_non (q : QT false h) : ∃ b', asTru .non h = some (.ok b' h) ∧ QT b' h := ⟨_, rfl, q⟩
theorem br_t (q : b = true ∧ A) : (b = true → A) ∧ (b = false → B) := ⟨fun _ => q.2, fun k => by rw [q.1] at k; cases k⟩
theorem br_f (q : b = false ∧ B) : (b = true → A) ∧ (b = false → B) := ⟨fun k => (by rw [q.1] at k; cases k), fun _ => q.2⟩
theorem few_ok (q : Nat.ble ws.length LIM = true ∧ A) : ws.length ≤ LIM ∧ A := ⟨Nat.le_of_ble_eq_true q.1, q.2⟩
end
end Sp
set_option Elab.async false
set_option linter.all false
set_option maxRecDepth 100000
set_option maxHeartbeats 1250000
namespace Sp
open PySem PySem.Spec L2
theorem gss {h : Hh} {s : Nat} {o : O} (l : s < h.length) : (h.set s o)[s]? = some o := by simp [l]
theorem gna {h : Hh} {o : O} : (h ++ [o])[h.length]? = some o := by simp
theorem gap {h : Hh} {os : List O} {n : Nat} {o : O} (e : h[n]? = some o) : (h ++ os)[n]? = some o := by
  rw [List.getElem?_append_left (List.getElem?_eq_some_iff.mp e).1]; exact e
theorem gsn {h : Hh} {s n : Nat} {o o' : O} (l : s ≠ n) (e : h[n]? = some o) : (h.set s o')[n]? = some o := by
  rw [List.getElem?_set_ne l]; exact e
theorem lt_of_get {h : Hh} {n : Nat} {o : O} (e : h[n]? = some o) : n < h.length := (List.getElem?_eq_some_iff.mp e).1
theorem mulOk_l {i j : Int} (h : i.natAbs < 18446744073709551616) : mulOk i j = true := by simp [mulOk, h]
theorem mulOk_r {i j : Int} (h : j.natAbs < 18446744073709551616) : mulOk i j = true := by simp [mulOk, h]
theorem log2_lt {n k : Nat} (h : n < 2 ^ k) (hk : 0 < k) : n.log2 < k := by
  by_cases h0 : n = 0
  · subst h0; simpa using hk
  · rw [Nat.log2_lt h0]
    exact h
/-- factors of bounded size -/
theorem mulOk_b {i j : Int} (a b : Nat) (hi : i.natAbs < 2 ^ a) (hj : j.natAbs < 2 ^ b) (ha : 0 < a) (hb : 0 < b) (hab : a + b ≤ 1000000) : mulOk i j = true := by
  have h1 := log2_lt hi ha
  have h2 := log2_lt hj hb
  simp [mulOk]
  omega
theorem pow63_lt {j : Int} (h0 : 0 < j) (h : j < 2 ^ 62) : j.natAbs.log2 < 9000 := by
  have : j.natAbs < 2 ^ 62 := by omega
  have := log2_lt this (by decide)
  omega
end Sp
set_option Elab.async false
set_option linter.all false
set_option maxRecDepth 100000
set_option maxHeartbeats 1250000
namespace Sp
open PySem PySem.Spec L2
/-! ### lists of pairs of ints, lists of ints -/
structure PL (X : List Nat) (h : Hh) (ps : List (Int × Int)) (ws : List W) : Prop where
  len : ws.length = ps.length
  get : ∀ (i : Nat) (p : Int × Int), ps[i]? = some p → ∃ m, ws[i]? = some (W.ref m) ∧ m ∉ X ∧ h[m]? = some (O.tup [W.int p.1, W.int p.2])
structure LPx (X : List Nat) (h : Hh) (n : Nat) (ps : List (Int × Int)) (ws : List W) : Prop extends PL X h ps ws where
  e : h[n]? = some (.lst ws)
  nx : n ∉ X
def LP (X : List Nat) (h : Hh) (n : Nat) (ps : List (Int × Int)) : Prop := ∃ ws, LPx X h n ps ws
theorem PL.up {M X : List Nat} {h h' : Hh} {ps : List (Int × Int)} {ws : List W} (l : PL X h ps ws) (a : Sub M h h') (s : ∀ k ∈ M, k ∈ X := by simp) : PL X h' ps ws :=
  ⟨l.len, fun i p e => by
    obtain ⟨m, h1, h2, h3⟩ := l.get i p e
    exact ⟨m, h1, h2, a.get _ _ (fun k => h2 (s _ k)) h3⟩⟩
theorem PL.nil {X : List Nat} {h : Hh} : PL X h [] [] := ⟨rfl, fun i p e => by simp at e⟩
theorem PL.snoc {X : List Nat} {h : Hh} {ps : List (Int × Int)} {ws : List W} (l : PL X h ps ws) {a b : Int} {m : Nat} (mx : m ∉ X) (e : h[m]? = some (.tup [.int a, .int b])) : PL X h (ps ++ [(a, b)]) (ws ++ [.ref m]) :=
  ⟨by simp [l.len], fun i p e2 => by
    by_cases hi : i < ps.length
    · rw [List.getElem?_append_left hi] at e2
      obtain ⟨k, h1, h2, h3⟩ := l.get i p e2
      exact ⟨k, by rw [List.getElem?_append_left (by rw [l.len]; exact hi)]; exact h1, h2, h3⟩
    · rw [List.getElem?_append_right (by omega)] at e2
      have hz : i - ps.length = 0 := by
        have := (List.getElem?_eq_some_iff.mp e2).1
        simp at this
        omega
      rw [hz] at e2
      simp at e2
      subst e2
      have : i = ws.length := by have := l.len; omega
      subst this
      exact ⟨m, by simp, mx, e⟩⟩
theorem PL.set {X : List Nat} {h : Hh} {ps : List (Int × Int)} {ws : List W} (l : PL X h ps ws) {a b : Int} {m j : Nat} (mx : m ∉ X) (e : h[m]? = some (.tup [.int a, .int b])) : PL X h (ps.set j (a, b)) (ws.set j (.ref m)) :=
  ⟨by simp [l.len], fun i p e2 => by
    by_cases hi : j = i
    · subst hi
      have hl : j < ps.length := by simpa using (List.getElem?_eq_some_iff.mp e2).1
      rw [List.getElem?_set_self hl] at e2
      cases e2
      exact ⟨m, by rw [List.getElem?_set_self (by rw [l.len]; exact hl)], mx, e⟩
    · rw [List.getElem?_set_ne hi] at e2
      obtain ⟨k, h1, h2, h3⟩ := l.get i p e2
      exact ⟨k, by rw [List.getElem?_set_ne hi]; exact h1, h2, h3⟩⟩
theorem PL.hide {X Y : List Nat} {h : Hh} {ps : List (Int × Int)} {ws : List W} (l : PL X h ps ws) (s : ∀ k ∈ Y, k ∈ X ∨ h.length ≤ k) : PL Y h ps ws :=
  ⟨l.len, fun i p e => by
    obtain ⟨m, h1, h2, h3⟩ := l.get i p e
    refine ⟨m, h1, fun k => ?_, h3⟩
    rcases s m k with k | k
    · exact h2 k
    · have := lt_of_get h3
      omega⟩
theorem LPx.up {M X : List Nat} {h h' : Hh} {n : Nat} {ps : List (Int × Int)} {ws : List W} (l : LPx X h n ps ws) (a : Sub M h h') (s : ∀ k ∈ M, k ∈ X := by simp) : LPx X h' n ps ws :=
  ⟨l.toPL.up a s, a.get _ _ (fun k => l.nx (s _ k)) l.e, l.nx⟩
theorem LP.up {M X : List Nat} {h h' : Hh} {n : Nat} {ps : List (Int × Int)} (l : LP X h n ps) (a : Sub M h h') (s : ∀ k ∈ M, k ∈ X := by simp) : LP X h' n ps := by
  obtain ⟨ws, l⟩ := l
  exact ⟨ws, l.up a s⟩
theorem LPx.hide {X Y : List Nat} {h : Hh} {n : Nat} {ps : List (Int × Int)} {ws : List W} (l : LPx X h n ps ws) (s : ∀ k ∈ Y, k ∈ X ∨ h.length ≤ k) : LPx Y h n ps ws :=
  ⟨l.toPL.hide s, l.e, fun k => by
    rcases s n k with k | k
    · exact l.nx k
    · have := lt_of_get l.e
      omega⟩
theorem LP.hide {X Y : List Nat} {h : Hh} {n : Nat} {ps : List (Int × Int)} (l : LP X h n ps) (s : ∀ k ∈ Y, k ∈ X ∨ h.length ≤ k) : LP Y h n ps := by
  obtain ⟨ws, l⟩ := l
  exact ⟨ws, l.hide s⟩
theorem rps_of_get {v : Vw} : ∀ {ds : List PyData} {ws : List W}, ws.length = ds.length → (∀ (i : Nat) (d : PyData), ds[i]? = some d → ∃ w, ws[i]? = some w ∧ Rp v d w) → Rps v ds ws
  | [], [], _, _ => .nil
  | d :: ds, w :: ws, l, g => by
    refine .cons ?_ (rps_of_get (by simpa using l) fun i d e => by simpa using g (i + 1) d (by simpa using e))
    obtain ⟨w', e, r⟩ := g 0 d rfl
    simp at e
    subst e
    exact r
  | [], _ :: _, l, _ => by simp at l
  | _ :: _, [], l, _ => by simp at l
theorem LPx.rp {X : List Nat} {h : Hh} {n : Nat} {ps : List (Int × Int)} {ws : List W} (l : LPx X h n ps ws) : Rp (vw X h) (.list (ps.map dPair)) (.ref n) := by
  refine .lst (vw_some.mpr ⟨l.nx, l.e⟩) (rps_of_get (by simp [l.len]) fun i d e => ?_)
  rw [List.getElem?_map] at e
  cases e2 : ps[i]? with
  | none => rw [e2] at e; cases e
  | some p =>
    rw [e2] at e
    cases e
    obtain ⟨m, h1, h2, h3⟩ := l.get i p e2
    exact ⟨_, h1, .tup (vw_some.mpr ⟨h2, h3⟩) (.cons (.int _) (.cons (.int _) .nil))⟩
theorem LP.rp {X : List Nat} {h : Hh} {n : Nat} {ps : List (Int × Int)} (l : LP X h n ps) : Rp (vw X h) (.list (ps.map dPair)) (.ref n) := by
  obtain ⟨ws, l⟩ := l
  exact l.rp
theorem LP.get {X : List Nat} {h : Hh} {n : Nat} {ps : List (Int × Int)} (l : LP X h n ps) : ∃ ws, LPx X h n ps ws := l
/-- X is inside of the heap -/
def In (X : List Nat) (h : Hh) : Prop := ∀ k ∈ X, k < h.length
theorem In.up {M X : List Nat} {h h' : Hh} (i : In X h) (a : Sub M h h') : In X h' := fun k m => Nat.lt_of_lt_of_le (i k m) a.len
theorem In.new {X : List Nat} {h : Hh} (i : In X h) {n : Nat} (l : h.length ≤ n) : n ∉ X := fun m => by
  have := i n m
  omega
theorem nxtL_of {n i : Nat} {h : Hh} {ws : List W} (e : lstOf h n = some ws) : nxtL n i h = some (ws.map Yv.one)[i]? := by
  unfold nxtL
  rw [e, List.getElem?_map]; rfl
theorem nxtE_of {n i : Nat} {h : Hh} {ws : List W} (e : lstOf h n = some ws) : nxtE n i h = some (ws.mapIdx fun i w => Yv.pair (.int i) w)[i]? := by
  unfold nxtE
  rw [e, List.getElem?_mapIdx]; rfl
theorem nxtR_of {lo : Int} {n i : Nat} {h : Hh} : nxtR lo n i h = some ((List.range n).map fun k : Nat => Yv.one (.int (lo + k)))[i]? := by
  unfold nxtR
  rw [List.getElem?_map]
  by_cases l : i < n
  · simp [l]
  · simp [l]
theorem nxtZ_of {n m i : Nat} {h : Hh} {ws us : List W} (e : lstOf h n = some ws) (e2 : lstOf h m = some us) : nxtZ n m i h = some ((ws.zip us).map fun p => Yv.pair p.1 p.2)[i]? := by
  unfold nxtZ
  rw [e, e2, List.getElem?_map]
  cases h1 : ws[i]? with
  | none =>
    have l := List.getElem?_eq_none_iff.mp h1
    rw [show (ws.zip us)[i]? = none from List.getElem?_eq_none (by rw [List.length_zip]; omega)]
    simp only [h1, Option.map_none]
  | some w =>
    cases h2 : us[i]? with
    | none =>
      have l := List.getElem?_eq_none_iff.mp h2
      rw [show (ws.zip us)[i]? = none from List.getElem?_eq_none (by rw [List.length_zip]; omega)]
      simp only [h1, h2, Option.map_none]
    | some u =>
      rw [List.getElem?_zip_eq_some (z := (w, u)) |>.mpr ⟨h1, h2⟩]
      simp only [h1, h2, Option.map_some]
theorem get_map {α β : Type} {f : α → β} {xs : List α} {i : Nat} {y : β} (e : (xs.map f)[i]? = some y) : ∃ x, xs[i]? = some x ∧ f x = y := by
  rw [List.getElem?_map] at e
  cases h : xs[i]? with
  | none => rw [h] at e; cases e
  | some x => rw [h] at e; exact ⟨x, rfl, by simpa using e⟩
theorem get_mapIdx {α β : Type} {f : Nat → α → β} {xs : List α} {i : Nat} {y : β} (e : (xs.mapIdx f)[i]? = some y) : ∃ x, xs[i]? = some x ∧ f i x = y := by
  rw [List.getElem?_mapIdx] at e
  cases h : xs[i]? with
  | none => rw [h] at e; cases e
  | some x => rw [h] at e; exact ⟨x, rfl, by simpa using e⟩
theorem get_zip {α β : Type} {xs : List α} {ys : List β} {i : Nat} {p : α × β} (e : (xs.zip ys)[i]? = some p) : xs[i]? = some p.1 ∧ ys[i]? = some p.2 := List.getElem?_zip_eq_some.mp e
theorem get_range {n i k : Nat} (e : (List.range n)[i]? = some k) : k = i ∧ i < n := by
  have l := (List.getElem?_eq_some_iff.mp e).1
  simp at l
  rw [List.getElem?_range l] at e
  cases e
  exact ⟨rfl, l⟩
theorem gt_pair {n : Nat} {gs : TGts} {h : Hh} {m : Nat} {ws : List W} (e : h[m]? = some (.tup ws)) (l : ws.length = n) : gtTup n gs (.one (.ref m)) h = gs ws h := by
  unfold gtTup
  simp only [tup_of e, l, if_true]
theorem ty_lst {h : Hh} {n : Nat} {ws : List W} (e : h[n]? = some (.lst ws)) : tyOf h (.ref n) = some "list" := by
  unfold tyOf
  simp only [e]
theorem ty_tup {h : Hh} {n : Nat} {ws : List W} (e : h[n]? = some (.tup ws)) : tyOf h (.ref n) = some "tuple" := by
  unfold tyOf
  simp only [e]
theorem ixN_nat {n i : Nat} (l : i < n) : ixN n (i : Int) = some i := by
  unfold ixN
  have h1 : (0 : Int) ≤ i := by omega
  simp [h1, l]
end Sp
set_option Elab.async false
set_option linter.all false
set_option maxRecDepth 100000
set_option maxHeartbeats 4250000
namespace Law
open PySem PySem.Spec L2 Sp
def kp_product_order_0 {α : Type} : List α → List α → List α := fun us ws => match us, ws with
  | [], [a0, a1, a2] => [a2, a1, a0]
  | _, _ => []
theorem kp_product_order_0_rel {α β : Type} {F : α → β → Prop} {us ws : List α} {us2 ws2 : List β} (h1 : Paired F us us2) (h2 : Paired F ws ws2) : Paired F (kp_product_order_0 us ws) (kp_product_order_0 us2 ws2) := by
  cases h1 with
  | nil =>
    cases h2 with
    | nil => exact .nil
    | cons a0 t =>
      revert t
      intro t2
      cases t2 with
      | nil => exact .nil
      | cons a1 t =>
        revert t
        intro t3
        cases t3 with
        | nil => exact .nil
        | cons a2 t =>
          revert t
          intro t4
          cases t4 with
          | nil =>
            exact (.cons a2 (.cons a1 (.cons a0 .nil)))
          | cons _ _ => exact .nil
  | cons _ _ => exact .nil
def kp_by_product_1 {α : Type} : List α → List α → List α := fun us ws => match us, ws with
  | [], [a0, a1] => [a1, a0]
  | _, _ => []
theorem kp_by_product_1_rel {α β : Type} {F : α → β → Prop} {us ws : List α} {us2 ws2 : List β} (h1 : Paired F us us2) (h2 : Paired F ws ws2) : Paired F (kp_by_product_1 us ws) (kp_by_product_1 us2 ws2) := by
  cases h1 with
  | nil =>
    cases h2 with
    | nil => exact .nil
    | cons a0 t =>
      revert t
      intro t2
      cases t2 with
      | nil => exact .nil
      | cons a1 t =>
        revert t
        intro t3
        cases t3 with
        | nil =>
          exact (.cons a1 (.cons a0 .nil))
        | cons _ _ => exact .nil
  | cons _ _ => exact .nil
def f__law_cell_at : FS :=
  (fRet (fOp oIx (fOp oCat (fSl (fVar 0) (fPart (fVar 1)) (fPart (fOp oAdd (fVar 1) (fC (.int 1))))) (fLst (fCons (fC (.int 0)) fNil))) (fC (.int 0))))
def m__law_cell_at : FN := runF 2 2 f__law_cell_at
def f__law_source_of : FS :=
  (fSeq (fSet 0 (fIf (fTest (fOp oGe (fVar 0) (fC (.int 0)))) (fVar 0) (fOp oSub (fOp oSub (fC (.int 0)) (fOp oMul (fC (.int 3)) (fVar 0))) (fC (.int 1)))))
    (fRet (fLst (fCons (fOp oMul (fVar 0) (fCB bInt (fCons (fOp oGe (fVar 0) (fOp oPow (fC (.int 10)) (fC (.int 18)))) fNil))) (fCons (fOp oMod (fCB bInt (fCons (fVar 0) fNil)) (fC (.int 2147483647))) (fCons (fC (.int 0)) fNil))))))
def m__law_source_of : FN := runF 1 1 f__law_source_of
def f__law_next : FS :=
  (fSeq (fIfS (fTest (fOp oGt (fOp oIx (fVar 0) (fC (.int 0))) (fC (.int 0)))) (fSeq (fSet 2 (fOp oMod (fCB bInt (fCons (fOp oIx (fVar 0) (fC (.int 0))) fNil)) (fVar 1)))
    (fSeq (fSub (fOp oFdiv (fOp oIx (fVar 0) (fC (.int 0))) (fVar 1)) (fVar 0) (fC (.int 0)))
    (fRet (fVar 2)))) fSkip)
    (fSeq (fSub (fOp oAdd (fOp oIx (fVar 0) (fC (.int 2))) (fC (.int 1))) (fVar 0) (fC (.int 2)))
    (fSeq (fSet 3 (fC (.int 2147483647)))
    (fSeq (fSet 4 (fOp oMod (fCB bInt (fCons (fOp oAdd (fOp oAdd (fOp oIx (fVar 0) (fC (.int 1))) (fOp oMul (fC (.int 104729)) (fOp oIx (fVar 0) (fC (.int 2))))) (fC (.int 7919))) fNil)) (fVar 3)))
    (fSeq (fSet 4 (fOp oMod (fCB bInt (fCons (fOp oMul (fVar 4) (fC (.int 48271))) fNil)) (fVar 3)))
    (fSeq (fSet 4 (fOp oMod (fCB bInt (fCons (fOp oMul (fVar 4) (fOp oAdd (fOp oFdiv (fVar 4) (fC (.int 1009))) (fC (.int 69621)))) fNil)) (fVar 3)))
    (fSeq (fSet 4 (fOp oMod (fCB bInt (fCons (fOp oMul (fVar 4) (fOp oAdd (fOp oFdiv (fVar 4) (fC (.int 2003))) (fC (.int 40692)))) fNil)) (fC (.int 2147483399))))
    (fRet (fOp oMod (fCB bInt (fCons (fOp oFdiv (fVar 4) (fC (.int 7))) fNil)) (fVar 1))))))))))
def m__law_next : FN := runF 2 5 f__law_next
def f__law_one : FS :=
  (fRet (fOp oIx (fVar 1) (fCall m__law_next [] (fCons (fVar 0) (fCons (fCB bLen (fCons (fVar 1) fNil)) fNil)))))
def m__law_one : FN := runF 2 2 f__law_one
def f__law_symbols : FS :=
  (fSeq (fPar 2 3 (fCons (fLst fNil) (fCons (fCall m__law_next [] (fCons (fVar 0) (fCons (fC (.int 3)) fNil))) fNil)))
    (fSeq (fFor (fiRng1 (fCons (fVar 1) fNil)) (gtName 4) (fSeq (fDrop (fApp (fVar 2) (fCons (fVar 3) fNil)))
    (fSeq (fSet 5 (fCB bMax2 (fCons (fC (.int 1)) (fCons (fCB bMin2 (fCons (fC (.int 90)) (fCons (fOp oFdiv (fOp oSub (fC (.int 990)) (fVar 3)) (fVar 1)) fNil))) fNil))))
    (fSet 3 (fOp oAdd (fOp oAdd (fVar 3) (fC (.int 1))) (fCall m__law_next [] (fCons (fVar 0) (fCons (fCall m__law_one [] (fCons (fVar 0) (fCons (fLst (fCons (fC (.int 1)) (fCons (fC (.int 1)) (fCons (fC (.int 3)) (fCons (fVar 5) fNil))))) fNil))) fNil))))))))
    (fRet (fVar 2))))
def m__law_symbols : FN := runF 2 6 f__law_symbols
def f__law_numbers : FS :=
  (fSeq (fSet 3 (fCall m__law_symbols [] (fCons (fVar 0) (fCons (fOp oAdd (fC (.int 1)) (fCall m__law_next [] (fCons (fVar 0) (fCons (fVar 1) fNil)))) fNil))))
    (fRet (fLc (fiList (fVar 3)) (gtName 4) [4] fYes (fTup (fCons (fVar 4) (fCons (fOp oAdd (fC (.int 1)) (fCall m__law_next [] (fCons (fVar 0) (fCons (fCall m__law_one [] (fCons (fVar 0) (fCons (fLst (fCons (fC (.int 1)) (fCons (fC (.int 3)) (fCons (fC (.int 20)) (fCons (fVar 2) fNil))))) fNil))) fNil)))) fNil))))))
def m__law_numbers : FN := runF 3 5 f__law_numbers
def f__law_times : FS :=
  (fSeq (fSet 2 (fC (.int 1)))
    (fSeq (fFor (fiRng1 (fCons (fVar 1) fNil)) (gtName 3) (fSet 2 (fOp oMul (fVar 2) (fVar 0))))
    (fRet (fVar 2))))
def m__law_times : FN := runF 2 4 f__law_times
def f__law_gains : FS :=
  (fSeq (fSet 2 (fOp oRep (fLst (fCons (fC (.int 1)) fNil)) (fCB bLen (fCons (fVar 0) fNil))))
    (fSeq (fFor (fiRng1 (fCons (fOp oSub (fVar 1) (fCB bLen (fCons (fVar 0) fNil))) fNil)) (gtName 3) (fSeq (fSet 4 (fC (.int 0)))
    (fSeq (fFor (fiEnum (fCons (fVar 0) fNil)) (gtTup 2 (gtsCons (gtName 5) (gtsCons (gtName 6) gtsNil))) (fSeq (fSet 7 (fOp oMul (fCall m__law_times [] (fCons (fOp oAdd (fOp oIx (fVar 2) (fVar 5)) (fC (.int 1))) (fCons (fOp oIx (fVar 6) (fC (.int 1))) fNil))) (fCall m__law_times [] (fCons (fOp oIx (fVar 2) (fVar 4)) (fCons (fOp oIx (fOp oIx (fVar 0) (fVar 4)) (fC (.int 1))) fNil)))))
    (fSeq (fSet 8 (fOp oMul (fCall m__law_times [] (fCons (fOp oAdd (fOp oIx (fVar 2) (fVar 4)) (fC (.int 1))) (fCons (fOp oIx (fOp oIx (fVar 0) (fVar 4)) (fC (.int 1))) fNil))) (fCall m__law_times [] (fCons (fOp oIx (fVar 2) (fVar 5)) (fCons (fOp oIx (fVar 6) (fC (.int 1))) fNil)))))
    (fSet 4 (fIf (fTest (fOp oGt (fVar 7) (fVar 8))) (fVar 5) (fVar 4))))))
    (fSub (fOp oAdd (fOp oIx (fVar 2) (fVar 4)) (fC (.int 1))) (fVar 2) (fVar 4)))))
    (fRet (fLc (fiEnum (fCons (fVar 2) fNil)) (gtTup 2 (gtsCons (gtName 5) (gtsCons (gtName 9) gtsNil))) [5, 9] fYes (fTup (fCons (fOp oIx (fOp oIx (fVar 0) (fVar 5)) (fC (.int 0))) (fCons (fVar 9) fNil)))))))
def m__law_gains : FN := runF 2 10 f__law_gains
def f__law_power : FS :=
  (fRet (fOp oShl (fC (.int 1)) (fVar 0)))
def m__law_power : FN := runF 1 1 f__law_power
def f_is_integer : FS :=
  (fRet (fAndV (fCB bIsi (fCons (fVar 0) (fCons (fC (.ty "int")) fNil))) (fUn uNot (fCB bIsi (fCons (fVar 0) (fCons (fC (.ty "bool")) fNil))))))
def m_is_integer : FN := runF 1 1 f_is_integer
def f_is_within : FS :=
  (fRet (fAndV (fCall m_is_integer [] (fCons (fVar 0) fNil)) (fChain oLe oLe (fVar 1) (fVar 0) (fVar 2))))
def m_is_within : FN := runF 3 3 f_is_within
def f_is_symbol : FS :=
  (fRet (fCall m_is_within [] (fCons (fVar 0) (fCons (fC (.int 0)) (fCons (fOp oSub (fC (.int 1000)) (fC (.int 1))) fNil)))))
def m_is_symbol : FN := runF 1 1 f_is_symbol
def f_is_entry : FS :=
  (fSeq (fIfS (fOr (fNot (fTru (fCB bIsi (fCons (fVar 0) (fCons (fC (.ty "tuple")) fNil))))) (fTest (fOp (oEqB true) (fCB bLen (fCons (fVar 0) fNil)) (fC (.int 2))))) (fRet (fC (.bl false))) fSkip)
    (fRet (fAndV (fCall m_is_symbol [] (fCons (fOp oIx (fVar 0) (fC (.int 0))) fNil)) (fCall m_is_within [] (fCons (fOp oIx (fVar 0) (fC (.int 1))) (fCons (fC (.int 1)) (fCons (fC (.int 1000000000000000000000000000000)) fNil)))))))
def m_is_entry : FN := runF 1 1 f_is_entry
def f_is_numbers : FS :=
  (fSeq (fIfS (fOr (fNot (fTru (fCB bIsi (fCons (fVar 0) (fCons (fC (.ty "list")) fNil))))) (fNot (fTest (fChain oLe oLe (fC (.int 1)) (fCB bLen (fCons (fVar 0) fNil)) (fC (.int 1000)))))) (fRet (fC (.bl false))) fSkip)
    (fSeq (fSet 1 (fUn uNeg (fC (.int 1))))
    (fSeq (fFor (fiList (fVar 0)) (gtName 2) (fSeq (fIfS (fOr (fNot (fTru (fCall m_is_entry [] (fCons (fVar 2) fNil)))) (fTest (fOp oLe (fOp oIx (fVar 2) (fC (.int 0))) (fVar 1)))) (fRet (fC (.bl false))) fSkip)
    (fSet 1 (fOp oIx (fVar 2) (fC (.int 0))))))
    (fRet (fC (.bl true))))))
def m_is_numbers : FN := runF 1 3 f_is_numbers
def f_check_numbers : FS :=
  (fIfS (fNot (fTru (fCall m_is_numbers [] (fCons (fVar 0) fNil)))) fStuck fSkip)
def m_check_numbers : FN := runF 1 1 f_check_numbers
def f_is_bits : FS :=
  (fRet (fCall m_is_within [] (fCons (fVar 0) (fCons (fC (.int 1)) (fCons (fC (.int 12)) fNil)))))
def m_is_bits : FN := runF 1 1 f_is_bits
def f_check_bits : FS :=
  (fIfS (fNot (fTru (fCall m_is_bits [] (fCons (fVar 0) fNil)))) fStuck fSkip)
def m_check_bits : FN := runF 1 1 f_check_bits
def f_check_counting : FS :=
  (fSeq (fDrop (fCall m_check_numbers [] (fCons (fVar 0) fNil)))
    (fSeq (fDrop (fCall m_check_bits [] (fCons (fVar 1) fNil)))
    (fIfS (fTest (fOp oGt (fCB bLen (fCons (fVar 0) fNil)) (fOp oShl (fC (.int 1)) (fVar 1)))) fStuck fSkip)))
def m_check_counting : FN := runF 2 2 f_check_counting
def f_sum_of : FS :=
  (fRet (fCB bSum (fCons (fLc (fiList (fVar 0)) (gtTup 2 (gtsCons (gtName 1) (gtsCons (gtName 2) gtsNil))) [1, 2] fYes (fVar 2)) fNil)))
def m_sum_of : FN := runF 1 3 f_sum_of
def f_check_product_sum : FS :=
  (fIfS (fTest (fOp oGt (fCall m_sum_of [] (fCons (fVar 0) fNil)) (fC (.int 2000)))) fStuck fSkip)
def m_check_product_sum : FN := runF 1 1 f_check_product_sum
def f_power : FS :=
  (fSeq (fSet 2 (fC (.int 1)))
    (fSeq (fSet 3 (fVar 0))
    (fSeq (fSet 4 (fVar 1))
    (fSeq (fWhile 1000000 (fTest (fOp oGt (fVar 4) (fC (.int 0)))) (fSeq (fIfS (fTru (fOp oAnd (fVar 4) (fC (.int 1)))) (fSet 2 (fOp oMul (fVar 2) (fVar 3))) fSkip)
    (fSeq (fSet 3 (fOp oMul (fVar 3) (fVar 3)))
    (fSet 4 (fOp oShr (fVar 4) (fC (.int 1)))))))
    (fRet (fVar 2))))))
def m_power : FN := runF 2 5 f_power
def f_gain : FS :=
  (fRet (fTup (fCons (fCall m_power [] (fCons (fOp oAdd (fVar 0) (fC (.int 1))) (fCons (fVar 1) fNil))) (fCons (fCall m_power [] (fCons (fVar 0) (fCons (fVar 1) fNil))) fNil))))
def m_gain : FN := runF 2 2 f_gain
def f_place_of_greatest : FS :=
  (fSeq (fSet 1 (fC (.int 0)))
    (fSeq (fFor (fiEnum (fCons (fVar 0) fNil)) (gtTup 2 (gtsCons (gtName 2) (gtsCons (gtTup 2 (gtsCons (gtName 3) (gtsCons (gtName 4) gtsNil))) gtsNil))) (fIfS (fTest (fOp oGt (fOp oMul (fVar 3) (fOp oIx (fOp oIx (fVar 0) (fVar 1)) (fC (.int 1)))) (fOp oMul (fOp oIx (fOp oIx (fVar 0) (fVar 1)) (fC (.int 0))) (fVar 4)))) (fSet 1 (fVar 2)) fSkip))
    (fRet (fVar 1))))
def m_place_of_greatest : FN := runF 1 5 f_place_of_greatest
def f_symbols_of : FS :=
  (fRet (fLc (fiList (fVar 0)) (gtTup 2 (gtsCons (gtName 1) (gtsCons (gtName 2) gtsNil))) [1, 2] fYes (fVar 1)))
def m_symbols_of : FN := runF 1 3 f_symbols_of
def f_named : FS :=
  (fRet (fListZip (fCons (fCall m_symbols_of [] (fCons (fVar 0) fNil)) (fCons (fVar 1) fNil))))
def m_named : FN := runF 2 2 f_named
def f_by_product : FS :=
  (fSeq (fDrop (fCall m_check_counting [] (fCons (fVar 0) (fCons (fVar 1) fNil))))
    (fSeq (fIfS (fTest (fOp oGt (fVar 1) (fC (.int 8)))) fStuck fSkip)
    (fSeq (fDrop (fCall m_check_product_sum [] (fCons (fVar 0) fNil)))
    (fSeq (fSet 2 (fOp oRep (fLst (fCons (fC (.int 1)) fNil)) (fCB bLen (fCons (fVar 0) fNil))))
    (fSeq (fSet 3 (fLc (fiList (fVar 0)) (gtTup 2 (gtsCons (gtName 4) (gtsCons (gtName 5) gtsNil))) [4, 5] fYes (fCall m_gain [] (fCons (fC (.int 1)) (fCons (fVar 5) fNil)))))
    (fSeq (fFor (fiRng1 (fCons (fOp oSub (fOp oShl (fC (.int 1)) (fVar 1)) (fCB bLen (fCons (fVar 0) fNil))) fNil)) (gtName 4) (fSeq (fSet 6 (fCall m_place_of_greatest [] (fCons (fVar 3) fNil)))
    (fSeq (fAugL oAdd (fVar 2) (fVar 6) (fC (.int 1)))
    (fSub (fCall m_gain [] (fCons (fOp oIx (fVar 2) (fVar 6)) (fCons (fOp oIx (fOp oIx (fVar 0) (fVar 6)) (fC (.int 1))) fNil))) (fVar 3) (fVar 6)))))
    (fRet (fCall m_named [] (fCons (fVar 0) (fCons (fVar 2) fNil))))))))))
def m_by_product : FN := runF 2 7 f_by_product
def f__law_product : FS :=
  (fSeq (fSet 2 (fC (.int 1)))
    (fSeq (fFor (fiEnum (fCons (fVar 0) fNil)) (gtTup 2 (gtsCons (gtName 3) (gtsCons (gtName 4) gtsNil))) (fSet 2 (fOp oMul (fVar 2) (fCall m__law_times [] (fCons (fOp oIx (fOp oIx (fVar 1) (fVar 3)) (fC (.int 1))) (fCons (fOp oIx (fVar 4) (fC (.int 1))) fNil))))))
    (fRet (fVar 2))))
def m__law_product : FN := runF 2 5 f__law_product
def f_is_size : FS :=
  (fRet (fAndV (fChain oLe oLe (fC (.int 2)) (fVar 0) (fOp oShl (fC (.int 1)) (fC (.int 12)))) (fOp (oEqB false) (fOp oAnd (fVar 0) (fOp oSub (fVar 0) (fC (.int 1)))) (fC (.int 0)))))
def m_is_size : FN := runF 1 1 f_is_size
def f_is_counts : FS :=
  (fRet (fAndV (fCall m_is_numbers [] (fCons (fVar 0) fNil)) (fCall m_is_size [] (fCons (fCall m_sum_of [] (fCons (fVar 0) fNil)) fNil))))
def m_is_counts : FN := runF 1 1 f_is_counts
def f_are_counts_for : FS :=
  (fRet (fAndV (fCall m_is_counts [] (fCons (fVar 0) fNil)) (fOp (oEqB false) (fCall m_symbols_of [] (fCons (fVar 0) fNil)) (fCall m_symbols_of [] (fCons (fVar 1) fNil)))))
def m_are_counts_for : FN := runF 2 2 f_are_counts_for
def f_product_of : FS :=
  (fSeq (fSet 2 (fC (.int 1)))
    (fSeq (fFor (fiZip (fCons (fVar 0) (fCons (fVar 1) fNil))) (gtTup 2 (gtsCons (gtTup 2 (gtsCons (gtName 3) (gtsCons (gtName 4) gtsNil))) (gtsCons (gtTup 2 (gtsCons (gtName 3) (gtsCons (gtName 5) gtsNil))) gtsNil))) (fSet 2 (fOp oMul (fVar 2) (fCall m_power [] (fCons (fVar 5) (fCons (fVar 4) fNil))))))
    (fRet (fVar 2))))
def m_product_of : FN := runF 2 6 f_product_of
def f_product_order : FS :=
  (fSeq (fDrop (fCall m_check_numbers [] (fCons (fVar 0) fNil)))
    (fSeq (fIfS (fNot (fTru (fCall m_are_counts_for [] (fCons (fVar 1) (fCons (fVar 0) fNil))))) fStuck fSkip)
    (fSeq (fIfS (fNot (fTru (fCall m_are_counts_for [] (fCons (fVar 2) (fCons (fVar 0) fNil))))) fStuck fSkip)
    (fSeq (fDrop (fCall m_check_product_sum [] (fCons (fVar 0) fNil)))
    (fSeq (fSet 3 (fCall m_product_of [] (fCons (fVar 0) (fCons (fVar 1) fNil))))
    (fSeq (fSet 4 (fCall m_product_of [] (fCons (fVar 0) (fCons (fVar 2) fNil))))
    (fSeq (fIfS (fTest (fOp oLt (fVar 3) (fVar 4))) (fRet (fUn uNeg (fC (.int 1)))) fSkip)
    (fRet (fIf (fTest (fOp oGt (fVar 3) (fVar 4))) (fC (.int 1)) (fC (.int 0)))))))))))
def m_product_order : FN := runF 3 5 f_product_order
def f__law_order_right : FS :=
  (fSeq (fPar 3 4 (fCons (fCall m__law_product [] (fCons (fVar 0) (fCons (fVar 1) fNil))) (fCons (fCall m__law_product [] (fCons (fVar 0) (fCons (fVar 2) fNil))) fNil)))
    (fSeq (fSet 5 (fIf (fTest (fOp (oEqB false) (fVar 3) (fVar 4))) (fC (.int 0)) (fIf (fTest (fOp oGt (fVar 3) (fVar 4))) (fC (.int 1)) (fUn uNeg (fC (.int 1))))))
    (fSeq (fIfS (fOr (fTest (fOp (oEqB true) (fCall m_product_order [] (fCons (fVar 0) (fCons (fVar 1) (fCons (fVar 2) fNil)))) (fVar 5))) (fTest (fOp (oEqB true) (fCall m_product_order [] (fCons (fVar 0) (fCons (fVar 2) (fCons (fVar 1) fNil)))) (fOp oSub (fC (.int 0)) (fVar 5))))) (fRet (fC (.bl false))) fSkip)
    (fRet (fOp (oEqB false) (fCallK m_product_order kp_product_order_0 fNil (fCons (fVar 2) (fCons (fVar 1) (fCons (fVar 0) fNil)))) (fVar 5))))))
def m__law_order_right : FN := runF 3 6 f__law_order_right
def f_law : FS :=
  (fSeq (fFor (fiList (fOp oCat (fLst (fCons (fCall m__law_cell_at [] (fCons (fVar 0) (fCons (fC (.int 0)) fNil))) fNil)) (fSl (fVar 0) (fPart (fC (.int 1))) (fPart (fC (.int 4)))))) (gtName 1) (fSeq (fSet 2 (fCall m__law_source_of [] (fCons (fVar 1) fNil)))
    (fFor (fiRng1 (fCons (fC (.int 6)) fNil)) (gtName 3) (fSeq (fSet 4 (fCall m__law_numbers [] (fCons (fVar 2) (fCons (fC (.int 6)) (fCons (fC (.int 40)) fNil)))))
    (fSeq (fSet 5 (fOp oAdd (fC (.int 3)) (fCall m__law_next [] (fCons (fVar 2) (fCons (fC (.int 3)) fNil)))))
    (fSeq (fPar 6 7 (fCons (fCB bList (fCons (fVar 4) fNil)) (fCons (fCall m__law_gains [] (fCons (fVar 4) (fCons (fCall m__law_power [] (fCons (fVar 5) fNil)) fNil))) fNil)))
    (fSeq (fIfS (fTest (fOp (oEqB true) (fCall m_by_product [] (fCons (fVar 4) (fCons (fVar 5) fNil))) (fVar 7))) (fRet (fC (.bl false))) fSkip)
    (fSeq (fIfS (fTest (fOp (oEqB true) (fCallK m_by_product kp_by_product_1 fNil (fCons (fVar 5) (fCons (fVar 4) fNil))) (fVar 7))) (fRet (fC (.bl false))) fSkip)
    (fSeq (fIfS (fTest (fOp (oEqB true) (fVar 4) (fVar 6))) (fRet (fC (.bl false))) fSkip)
    (fSeq (fSet 8 (fLc (fiList (fVar 4)) (gtTup 2 (gtsCons (gtName 9) (gtsCons (gtName 10) gtsNil))) [9, 10] fYes (fTup (fCons (fVar 9) (fCons (fOp oAdd (fC (.int 1)) (fCall m__law_next [] (fCons (fVar 2) (fCons (fC (.int 9)) fNil)))) fNil)))))
    (fSeq (fSet 11 (fCall m__law_gains [] (fCons (fVar 8) (fCons (fCall m__law_power [] (fCons (fVar 5) fNil)) fNil))))
    (fSeq (fSet 12 (fCall m__law_gains [] (fCons (fVar 4) (fCons (fCall m__law_power [] (fCons (fOp oAdd (fVar 5) (fC (.int 1))) fNil)) fNil))))
    (fSeq (fIfS (fNot (fTru (fCall m__law_order_right [] (fCons (fVar 4) (fCons (fVar 7) (fCons (fVar 11) fNil)))))) (fRet (fC (.bl false))) fSkip)
    (fSeq (fIfS (fNot (fTru (fCall m__law_order_right [] (fCons (fVar 4) (fCons (fVar 7) (fCons (fVar 12) fNil)))))) (fRet (fC (.bl false))) fSkip)
    (fIfS (fNot (fTru (fCall m__law_order_right [] (fCons (fVar 4) (fCons (fVar 7) (fCons (fVar 7) fNil)))))) (fRet (fC (.bl false))) fSkip)))))))))))))))
    (fSeq (fSet 2 (fCall m__law_source_of [] (fCons (fCall m__law_cell_at [] (fCons (fVar 0) (fCons (fC (.int 0)) fNil))) fNil)))
    (fSeq (fSet 13 (fLc (fiList (fCall m__law_symbols [] (fCons (fVar 2) (fCons (fC (.int 3)) fNil)))) (gtName 9) [9] fYes (fTup (fCons (fVar 9) (fCons (fOp oAdd (fC (.int 1)) (fCall m__law_next [] (fCons (fVar 2) (fCons (fC (.int 30)) fNil)))) fNil)))))
    (fSeq (fIfS (fTest (fOp (oEqB true) (fCall m_by_product [] (fCons (fVar 13) (fCons (fC (.int 8)) fNil))) (fCall m__law_gains [] (fCons (fVar 13) (fCons (fC (.int 256)) fNil))))) (fRet (fC (.bl false))) fSkip)
    (fSeq (fSet 14 (fOp oAdd (fC (.int 1)) (fCall m__law_next [] (fCons (fVar 2) (fCons (fC (.int 4093)) fNil)))))
    (fSeq (fIfS (fTest (fOp (oEqB true) (fCall m_product_order [] (fCons (fLst (fCons (fTup (fCons (fC (.int 0)) (fCons (fC (.int 1)) fNil))) (fCons (fTup (fCons (fC (.int 1)) (fCons (fC (.int 1999)) fNil))) fNil))) (fCons (fLst (fCons (fTup (fCons (fC (.int 0)) (fCons (fOp oSub (fC (.int 4096)) (fVar 14)) fNil))) (fCons (fTup (fCons (fC (.int 1)) (fCons (fVar 14) fNil))) fNil))) (fCons (fLst (fCons (fTup (fCons (fC (.int 0)) (fCons (fOp oSub (fC (.int 4095)) (fVar 14)) fNil))) (fCons (fTup (fCons (fC (.int 1)) (fCons (fOp oAdd (fVar 14) (fC (.int 1))) fNil))) fNil))) fNil)))) (fUn uNeg (fC (.int 1))))) (fRet (fC (.bl false))) fSkip)
    (fSeq (fIfS (fTest (fOp (oEqB true) (fCall m_product_order [] (fCons (fLst (fCons (fTup (fCons (fC (.int 0)) (fCons (fC (.int 5)) fNil))) (fCons (fTup (fCons (fC (.int 1)) (fCons (fC (.int 2)) fNil))) fNil))) (fCons (fLst (fCons (fTup (fCons (fC (.int 0)) (fCons (fC (.int 3)) fNil))) (fCons (fTup (fCons (fC (.int 1)) (fCons (fC (.int 1)) fNil))) fNil))) (fCons (fLst (fCons (fTup (fCons (fC (.int 0)) (fCons (fC (.int 2)) fNil))) (fCons (fTup (fCons (fC (.int 1)) (fCons (fC (.int 2)) fNil))) fNil))) fNil)))) (fC (.int 1)))) (fRet (fC (.bl false))) fSkip)
    (fRet (fOp (oEqB false) (fCall m_by_product [] (fCons (fLst (fCons (fTup (fCons (fC (.int 0)) (fCons (fC (.int 5)) fNil))) (fCons (fTup (fCons (fC (.int 1)) (fCons (fC (.int 2)) fNil))) (fCons (fTup (fCons (fC (.int 2)) (fCons (fC (.int 1)) fNil))) fNil)))) (fCons (fC (.int 3)) fNil))) (fLst (fCons (fTup (fCons (fC (.int 0)) (fCons (fC (.int 5)) fNil))) (fCons (fTup (fCons (fC (.int 1)) (fCons (fC (.int 2)) fNil))) (fCons (fTup (fCons (fC (.int 2)) (fCons (fC (.int 1)) fNil))) fNil)))))))))))))
def m_law : FN := runF 1 15 f_law
end Law
set_option Elab.async false
set_option linter.all false
set_option maxRecDepth 100000
set_option maxHeartbeats 4250000
local macro_rules | `(tactic| walk_at "wp") => `(tactic| (repeat (first | (with_reducible refine Sp.wr_varE ?_; refine ⟨_, rfl, ?_⟩) | with_reducible refine Sp.wr_c ?_ | with_reducible refine Sp.wr_op ?_ | with_reducible refine Sp.wr_cons ?_ | with_reducible refine Sp.wr_nil ?_ | with_reducible refine Sp.ro_add ?_ | with_reducible refine Sp.ro_sub ?_ | with_reducible refine Sp.ro_lt ?_ | with_reducible refine Sp.ro_le ?_ | with_reducible refine Sp.ro_gt ?_ | with_reducible refine Sp.ro_ge ?_ | with_reducible refine Sp.ro_and ?_ | with_reducible refine Sp.ro_eqI ?_ | with_reducible refine Sp.ro_neI ?_ | with_reducible refine Sp.ro_intI ?_ | with_reducible refine Sp.ro_intB ?_ | with_reducible refine Sp.ro_max2 ?_ | with_reducible refine Sp.ro_min2 ?_ | with_reducible refine Sp.wr_test ?_ | with_reducible refine Sp.wr_tru ?_ | with_reducible refine Sp.wr_not ?_ | with_reducible refine Sp.wr_and ?_ | with_reducible refine Sp.wr_or ?_ | with_reducible refine Sp.wr_andV ?_ | with_reducible refine Sp.wr_orV ?_ | with_reducible refine Sp.wr_if ?_ | with_reducible refine Sp.wr_chain ?_ | with_reducible refine Sp.wr_un ?_ | with_reducible refine Sp.wr_lst ?_ | with_reducible refine Sp.wr_tup ?_ | with_reducible refine Sp.wr_call ?_ | with_reducible refine Sp.wr_callK ?_ | with_reducible refine Sp.wr_cb ?_ | with_reducible refine Sp.wr_part ?_ | with_reducible refine Sp.wr_noPart ?_ | with_reducible refine Sp.wr_sl ?_ | with_reducible refine Sp.wr_app ?_ | with_reducible refine Sp.wr_fiList ?_ | with_reducible refine Sp.wr_fiTup ?_ | with_reducible refine Sp.wr_fiRng1 ?_ | with_reducible refine Sp.wr_fiRng2 ?_ | with_reducible refine Sp.wr_fiEnum ?_ | with_reducible refine Sp.wr_fiZip ?_ | with_reducible refine Sp.wr_yes ?_ | with_reducible refine Sp.sq_nx ?_ | with_reducible refine Sp.sq_rt ?_ | with_reducible refine Sp.sq_ct ?_ | with_reducible refine Sp.sq_bk ?_ | with_reducible refine Sp.sq_ex ?_ | with_reducible refine Sp.il_nx ?_ | with_reducible refine Sp.il_ct ?_ | with_reducible refine Sp.il_bk ?_ | with_reducible refine Sp.il_rt ?_ | with_reducible refine Sp.il_ex ?_ | with_reducible refine Sp.oq_nx ?_ | with_reducible refine Sp.oq_rt ?_ | with_reducible refine Sp.ws_seq ?_ | with_reducible refine Sp.ws_skip ?_ | with_reducible refine Sp.ws_drop ?_ | with_reducible refine Sp.ws_ret ?_ | with_reducible refine Sp.ws_retN ?_ | with_reducible refine Sp.ws_ifS ?_ | with_reducible refine Sp.ws_set ?_ | with_reducible refine Sp.ws_par ?_ | with_reducible refine Sp.ro_isI ?_ | with_reducible refine Sp.wr_ext ?_ | with_reducible refine Sp.ws_par3 ?_ | with_reducible refine Sp.wr_bits ?_ | with_reducible refine Sp.wr_dnew ?_ | with_reducible refine Sp.ws_dput ?_ | with_reducible refine Sp.wr_dget2 ?_ | with_reducible refine Sp.ws_sub ?_ | with_reducible refine Sp.ws_augL ?_ | with_reducible refine Sp.ws_for ?_ | with_reducible refine Sp.ws_brk ?_ | with_reducible refine Sp.ws_cnt ?_ | with_reducible refine Sp.ws_asg ?_ | with_reducible refine Sp.un_not ?_ | with_reducible refine Sp.un_neg ?_ | with_reducible refine Sp.tru_bl ?_ | with_reducible refine Sp.tru_int ?_ | with_reducible refine Sp.tru_non ?_ | (with_reducible refine Sp.ws_augE ?_; refine ⟨_, rfl, ?_⟩) | with_reducible refine ⟨_, rfl, ?_⟩ | with_reducible refine ⟨_, _, rfl, ?_⟩ | (with_reducible refine Sp.few_ok ?_; refine ⟨rfl, ?_⟩) | (with_reducible refine Sp.br_t ?_; refine ⟨rfl, ?_⟩) | (with_reducible refine Sp.br_f ?_; refine ⟨rfl, ?_⟩))))
local macro_rules | `(tactic| walk_at "wget") => `(tactic| first | assumption | exact Sp.gss (by assumption) | exact Sp.gna | exact Sp.gap (by assumption))
local macro_rules | `(tactic| walk_at "wix") => `(tactic| (apply Sp.ro_ix; (case e => apply Sp.seq_of_lst; apply Sp.lst_of; walk_at "wget"); (case a => rfl)))
local macro_rules | `(tactic| walk_at "wixt") => `(tactic| (apply Sp.ro_ix; (case e => apply Sp.seq_of_tup; walk_at "wget"); (case a => rfl)))
local macro_rules | `(tactic| walk_at "wg") => `(tactic| (repeat (first | exact Sp.gna | refine Sp.gap ?_)))
namespace Law
open PySem PySem.Spec L2 Sp
def Src (h : Hh) (s : Nat) : Prop := ∃ a b c : Int, h[s]? = some (.lst [.int a, .int b, .int c])
theorem next_spec {E : Exn → Hh → Prop} {Q : W → Hh → Prop} {h : Hh} {s : Nat} {n : Int} (hs : Src h s) (hn : 0 < n) (hn2 : n < 2 ^ 62)
    (k : ∀ r h', 0 ≤ r → r < n → Src h' s → Sub [s] h h' → h'.length = h.length → Q (.int r) h') : Wr (m__law_next [.ref s, .int n] h) E Q := by
  obtain ⟨a, b, c, hs⟩ := hs
  have ls : s < h.length := (List.getElem?_eq_some_iff.mp hs).1
  unfold m__law_next f__law_next
  refine wr_run rfl ?_
  walk_at "wp"
  walk_at "wix"; walk_at "wp"
  refine ⟨fun hb => ?_, fun hb => ?_⟩
  · walk_at "wp"
    walk_at "wix"; walk_at "wp"
    refine ro_mod hn ?_
    walk_at "wp"
    walk_at "wix"; walk_at "wp"
    refine ro_fdiv hn (pow63_lt hn hn2) ?_
    walk_at "wp"
    refine ⟨_, _, _, _, rfl, rfl, hs, rfl, ?_⟩
    walk_at "wp"
    exact k _ _ (Int.emod_nonneg _ (by omega)) (Int.emod_lt_of_pos _ hn) ⟨_, _, _, gss ls⟩ ((Sub.refl _ _).set (.inl (by simp))) (by simp)
  · walk_at "wp"
    walk_at "wix"; walk_at "wp"
    refine ⟨_, _, _, _, rfl, rfl, hs, rfl, ?_⟩
    have l2 : s < (h.set s (.lst ([W.int a, .int b, .int c].set 2 (.int (c + 1))))).length := by simpa using ls
    walk_at "wp"
    walk_at "wix"; walk_at "wp"
    walk_at "wix"; walk_at "wp"
    refine ro_mul (mulOk_l (by decide)) ?_
    walk_at "wp"
    refine ro_mod (by decide) ?_
    walk_at "wp"
    refine ro_mul (mulOk_r (by decide)) ?_
    walk_at "wp"
    refine ro_mod (by decide) ?_
    walk_at "wp"
    refine ro_fdiv (by decide) (by decide +kernel) ?_
    walk_at "wp"
    refine ro_mul (mulOk_l (by omega)) ?_
    walk_at "wp"
    refine ro_mod (by decide) ?_
    walk_at "wp"
    refine ro_fdiv (by decide) (by decide +kernel) ?_
    walk_at "wp"
    refine ro_mul (mulOk_l (by omega)) ?_
    walk_at "wp"
    refine ro_mod (by decide) ?_
    walk_at "wp"
    refine ro_fdiv (by decide) (by decide +kernel) ?_
    walk_at "wp"
    refine ro_mod hn ?_
    walk_at "wp"
    exact k _ _ (Int.emod_nonneg _ (by omega)) (Int.emod_lt_of_pos _ hn) ⟨_, _, _, gss ls⟩ ((Sub.refl _ _).set (.inl (by simp))) (by simp)

theorem cell_spec {E : Exn → Hh → Prop} {Q : W → Hh → Prop} {h : Hh} {n : Nat} {i : Int} {ns : List Int} (e : lstOf h n = some (ns.map W.int)) (l : ns.length ≤ 63)
    (k : ∀ (z : Int) h', Sub [] h h' → Q (.int z) h') : Wr (m__law_cell_at [.ref n, .int i] h) E Q := by
  unfold m__law_cell_at f__law_cell_at
  refine wr_run rfl ?_
  walk_at "wp"
  refine ⟨_, _, rfl, e, ?_⟩
  walk_at "wp"
  obtain ⟨us, hu, hu2⟩ : ∃ us : List Int, cutW (ns.map W.int) (some i) (some (i + 1)) = us.map W.int ∧ us.length ≤ 63 := by
    unfold cutW
    exact ⟨(ns.drop (HT.sIx (ns.map W.int).length 0 (some i))).take (HT.sIx (ns.map W.int).length (ns.map W.int).length (some (i + 1)) - HT.sIx (ns.map W.int).length 0 (some i)), by simp [List.map_drop, List.map_take], by simp; omega⟩
  rw [hu]
  refine ro_cat (gap gna) gna ?_ ?_
  · simp [LIM]; omega
  walk_at "wp"
  obtain ⟨z, zs, hz⟩ : ∃ z zs, us.map W.int ++ [W.int 0] = W.int z :: zs := by
    cases us with
    | nil => exact ⟨0, _, rfl⟩
    | cons u us => exact ⟨u, _, rfl⟩
  rw [hz]
  refine ro_ix (seq_of_lst (lst_of gna)) (show atI (W.int z :: zs) 0 = some (.int z) by simp [atI, ixN]) ?_
  walk_at "wp"
  exact k z _ (((Sub.refl _ _).new _).new _ |>.new _)
theorem source_spec {E : Exn → Hh → Prop} {Q : W → Hh → Prop} {h : Hh} {z : Int}
    (k : ∀ h' s, Sub [] h h' → h.length ≤ s → Src h' s → Q (.ref s) h') : Wr (m__law_source_of [.int z] h) E Q := by
  unfold m__law_source_of f__law_source_of
  refine wr_run rfl ?_
  walk_at "wp"
  refine ⟨fun hb => ?_, fun hb => ?_⟩
  case' refine_2 =>
    walk_at "wp"
    refine ro_mul (mulOk_l (by decide)) ?_
  all_goals
    walk_at "wp"
    refine ro_pow (by decide) ?_
    walk_at "wp"
    refine ro_mul (mulOk_r (by split <;> decide)) ?_
    walk_at "wp"
    refine ro_mod (by decide) ?_
    walk_at "wp"
    exact k _ _ ((Sub.refl _ _).new _) (Nat.le_refl _) ⟨_, _, _, gna⟩
theorem one_spec {E : Exn → Hh → Prop} {Q : W → Hh → Prop} {h : Hh} {s v : Nat} {ws : List W} (hs : Src h s) (hv : h[v]? = some (.lst ws)) (h0 : ws ≠ []) (hl : ws.length < 2 ^ 62)
    (k : ∀ w h', w ∈ ws → Src h' s → Sub [s] h h' → h'.length = h.length → Q w h') (hsv : v ≠ s) : Wr (m__law_one [.ref s, .ref v] h) E Q := by
  unfold m__law_one f__law_one
  refine wr_run rfl ?_
  walk_at "wp"
  refine ro_len (seq_of_lst (lst_of hv)) ?_
  walk_at "wp"
  have : 0 < ws.length := List.length_pos_iff.mpr h0
  refine next_spec hs (by omega) (by omega) fun r h' r0 r1 hs' sb ln => ?_
  obtain ⟨i, rfl⟩ := Int.eq_ofNat_of_zero_le r0
  obtain ⟨w, hw⟩ : ∃ w, ws[i]? = some w := ⟨_, List.getElem?_eq_getElem (by omega)⟩
  refine ro_ix (seq_of_lst (lst_of (sb.get _ _ (by simpa using hsv) hv))) (atI_nat hw) ?_
  walk_at "wp"
  exact k w h' (List.mem_of_getElem? hw) hs' sb ln
/-- ascending, from 0 on, below m -/
def Asc : Int → List Int → Prop
  | _, [] => True
  | lo, x :: xs => lo ≤ x ∧ x < 1000 ∧ Asc (x + 1) xs
theorem asc_app : ∀ {lo : Int} {xs : List Int} {y : Int}, Asc lo xs → lo ≤ y → (∀ x ∈ xs, x < y) → y < 1000 → Asc lo (xs ++ [y])
  | _, [], _, _, a, _, c => ⟨a, c, trivial⟩
  | _, x :: xs, _, h, _, b, c => ⟨h.1, h.2.1, asc_app h.2.2 (by have := b x (by simp); omega) (fun z m => b z (by simp [m])) c⟩
theorem symbols_spec {E : Exn → Hh → Prop} {Q : W → Hh → Prop} {h : Hh} {s : Nat} {n : Int} (hs : Src h s) (hn : 0 < n) (hn2 : n ≤ 11)
    (k : ∀ r h' (syms : List Int), Src h' s → Sub [s] h h' → h.length ≤ r → h'[r]? = some (.lst (syms.map W.int)) → syms.length = n.toNat → Asc 0 syms → Q (.ref r) h') : Wr (m__law_symbols [.ref s, .int n] h) E Q := by
  have ls : s < h.length := by obtain ⟨_, _, _, e⟩ := hs; exact lt_of_get e
  unfold m__law_symbols f__law_symbols
  refine wr_run rfl ?_
  walk_at "wp"
  have hs1 : Src (h ++ [.lst []]) s := by obtain ⟨a, b, c, e⟩ := hs; exact ⟨a, b, c, gap e⟩
  refine next_spec hs1 (by decide) (by decide) fun st h1 st0 st1 hs2 sb1 ln1 => ?_
  walk_at "wp"
  have hr1 : h1[h.length]? = some (.lst []) := sb1.get _ _ (by simp; omega) gna
  have sb2 : Sub [s] h h1 := ((Sub.refl _ _).new _).trans sb1
  refine ⟨by simp [rngOk]; omega, ?_⟩
  refine ⟨(List.range n.toNat).map fun k : Nat => Yv.one (.int (0 + k)), fun i σ h' => ∃ (st : Int) (syms : List Int) (a4 a5 : Option W), σ = [some (.ref s), some (.int n), some (.ref h.length), some (.int st), a4, a5] ∧ Src h' s ∧ Sub [s] h h' ∧ h'[h.length]? = some (.lst (syms.map W.int)) ∧ syms.length = i ∧ Asc 0 syms ∧ (∀ x ∈ syms, x < st) ∧ 0 ≤ st ∧ st ≤ 2 + 90 * i, by simp, ?_, ?_, ?_, ?_⟩
  · exact ⟨st, [], none, none, rfl, hs2, sb2, hr1, rfl, trivial, by simp, st0, by omega⟩
  · rintro i σ h' _ _
    exact nxtR_of (h := h')
  · rintro i y σ h' ey ⟨st, syms, a4, a5, rfl, hs3, sb3, hr, hl, ha, hx, h0, h9⟩
    obtain ⟨k1, ek, rfl⟩ := get_map ey
    obtain ⟨rfl, hk⟩ := get_range ek
    refine ⟨_, rfl, ?_⟩
    walk_at "wp"
    refine ⟨_, _, rfl, hr, ?_⟩
    walk_at "wp"
    refine ⟨_, _, rfl, hr, ?_, ?_⟩
    · simp [LIM]; omega
    have hlt : s < h'.length := Nat.lt_of_lt_of_le ls sb3.len
    have hlt2 : h.length < h'.length := lt_of_get hr
    walk_at "wp"
    refine ro_fdiv hn (pow63_lt hn (by omega)) ?_
    walk_at "wp"
    obtain ⟨a, b, c, e⟩ := hs3
    have hs4 : Src ((h'.set h.length (.lst (syms.map W.int ++ [.int st]))) ++ [.lst [.int 1, .int 1, .int 3, .int (if (if (990 - st) / n < 90 then (990 - st) / n else 90) > 1 then (if (990 - st) / n < 90 then (990 - st) / n else 90) else 1)]]) s := ⟨a, b, c, gap (gsn (by omega) e)⟩
    refine one_spec hs4 gna (by simp) (by simp) (fun w h2 hw hs5 sb5 ln5 => ?_) (by simp; omega)
    obtain ⟨e, rfl, he1, he2⟩ : ∃ e : Int, w = .int e ∧ 1 ≤ e ∧ e ≤ 90 := by
      simp only [List.mem_cons, List.not_mem_nil, or_false] at hw
      rcases hw with rfl | rfl | rfl | rfl
      · exact ⟨1, rfl, by omega, by omega⟩
      · exact ⟨1, rfl, by omega, by omega⟩
      · exact ⟨3, rfl, by omega, by omega⟩
      · refine ⟨_, rfl, ?_, ?_⟩
        · split <;> omega
        · split <;> split <;> omega
    walk_at "wp"
    refine next_spec hs5 (by omega) (by omega) fun r h3 r0 r1 hs6 sb6 ln6 => ?_
    walk_at "wp"
    have sbA : Sub [s] h (h'.set h.length (.lst (syms.map W.int ++ [.int st]))) := sb3.set (.inr (Nat.le_refl _))
    have hrA : (h'.set h.length (.lst (syms.map W.int ++ [.int st])))[h.length]? = some (.lst ((syms ++ [st]).map W.int)) := by rw [gss hlt2]; simp
    refine ⟨_, syms ++ [st], _, _, rfl, hs6, ((sbA.new _).trans sb5).trans sb6, sb6.get _ _ (by simp; omega) (sb5.get _ _ (by simp; omega) (gap hrA)), by simp [hl], asc_app ha h0 hx (by omega), ?_, by omega, by omega⟩
    intro x m
    simp only [List.mem_append, List.mem_singleton] at m
    rcases m with m | rfl
    · have := hx x m; omega
    · omega
  · rintro σ h' ⟨st, syms, a4, a5, rfl, hs3, sb3, hr, hl, ha, hx, h0, h9⟩
    walk_at "wp"
    exact k _ _ syms hs3 sb3 (Nat.le_refl _) hr (by simpa using hl) ha
end Law
set_option Elab.async false
set_option linter.all false
set_option maxRecDepth 100000
set_option maxHeartbeats 4250000
namespace Law
open PySem PySem.Spec L2 Sp
theorem Src.app {h : Hh} {s : Nat} {os : List O} (hs : Src h s) : Src (h ++ os) s := by obtain ⟨a, b, c, e⟩ := hs; exact ⟨a, b, c, gap e⟩
theorem Src.set {h : Hh} {s n : Nat} {o : O} (hs : Src h s) (l : n ≠ s) : Src (h.set n o) s := by obtain ⟨a, b, c, e⟩ := hs; exact ⟨a, b, c, gsn l e⟩
theorem Src.lt {h : Hh} {s : Nat} (hs : Src h s) : s < h.length := by obtain ⟨a, b, c, e⟩ := hs; exact lt_of_get e
/-- lists of pairs that are drawn -/
theorem lc_drawn {E : Exn → Hh → Prop} {Q : W → Hh → Prop} {h : Hh} {σ : Sg} {fi : FI} {gt : TGt} {vs : List Nat} {fe : FE} {s : Nat} (G : Int)
    (hi : Wr (fi σ h) E fun J h1 => ∃ (ys : List Yv) (xs : List Int), ys.length = xs.length ∧ ys.length < J.fuel ∧ xs.length ≤ 1000 ∧ Src h1 s ∧ Sub [s] h h1 ∧
      (∀ h', Sub [s] h1 h' → ∀ i, i ≤ ys.length → J.nxt i h' = some ys[i]?) ∧
      (∀ (i : Nat) (x : Int) (y : Yv) (h' : Hh), xs[i]? = some x → ys[i]? = some y → Src h' s → Sub [s] h1 h' → ∃ as, gt y h' = some as ∧ (as.all fun p => vs.contains p.1) = true ∧
        Wr (fe (setW (wipeW σ vs) as) h') (fun _ _ => False) fun w h3 => ∃ m c, w = .ref m ∧ h'.length ≤ m ∧ h3[m]? = some (O.tup [W.int x, W.int c]) ∧ 1 ≤ c ∧ c ≤ G ∧ Src h3 s ∧ Sub [s] h' h3) ∧
      (∀ r h' ps, Src h' s → Sub [s] h h' → h1.length ≤ r → LP [s] h' r ps → ps.map (·.1) = xs → (∀ p ∈ ps, 1 ≤ p.2 ∧ p.2 ≤ G) → Q (.ref r) h')) : Wr (fLc fi gt vs fYes fe σ h) E Q := by
  refine wr_lc (hi.imp (fun _ _ e => e) fun J h1 ⟨ys, xs, l1, l2, l3, hs1, sb1, hn, hst, k⟩ => ?_)
  have ls := hs1.lt
  refine ⟨ys, fun i acc h' => Src h' s ∧ Sub [s] h1 h' ∧ ∃ ps, ps.length = i ∧ ps.map (·.1) = xs.take i ∧ (∀ p ∈ ps, 1 ≤ p.2 ∧ p.2 ≤ G) ∧ PL [h1.length, s] h' ps acc, l2, by simp [LIM]; omega, ?_, ?_, ?_, ?_⟩
  · exact ⟨hs1.app, (Sub.refl _ _).new _, [], rfl, by simp, by simp, .nil⟩
  · rintro i acc h' li ⟨_, sb, _⟩
    exact hn h' sb i li
  · rintro i y acc h' ey ⟨hs2, sb2, ps, p1, p2, p3, p4⟩ ed
    have li : i < xs.length := by rw [← l1]; exact (List.getElem?_eq_some_iff.mp ey).1
    obtain ⟨as, e1, e2, q⟩ := hst i xs[i] y h' (List.getElem?_eq_getElem li) ey hs2 sb2
    refine ⟨as, e1, e2, wr_yes ⟨fun _ => ?_, fun hb => by cases hb⟩⟩
    refine q.imp (fun _ _ e => e) ?_
    rintro w h3 ⟨m, c, rfl, hm, em, c1, c2, hs3, sb3⟩
    have ed3 : h3[h1.length]? = some (.lst acc) := sb3.get _ _ (by simp; omega) ed
    have ld : h1.length < h'.length := lt_of_get ed
    refine ⟨ed3, hs3.set (by omega), (sb2.trans sb3).set (.inr (Nat.le_refl _)), ps ++ [(xs[i], c)], by simp [p1], ?_, ?_, ?_⟩
    · rw [List.map_append, p2, List.take_add_one, List.getElem?_eq_getElem li]; rfl
    · intro p hp
      simp only [List.mem_append, List.mem_singleton] at hp
      rcases hp with hp | rfl
      · exact p3 p hp
      · exact ⟨c1, c2⟩
    · have := (p4.up sb3).snoc (a := xs[i]) (b := c) (m := m) (by simp; omega) em
      exact this.up ((Sub.refl [h1.length] _).set (.inl (by simp)))
  · rintro acc h' ⟨hs2, sb2, ps, p1, p2, p3, p4⟩ ed
    refine k _ _ ps hs2 (sb1.trans sb2) (Nat.le_refl _) ⟨acc, p4.hide (by simp), ed, by simp; omega⟩ ?_ p3
    rw [p2, l1, List.take_length]
theorem asc_len {lo : Int} {xs : List Int} (h : Asc lo xs) : ∀ x ∈ xs, lo ≤ x ∧ x < 1000 := by
  induction xs generalizing lo with
  | nil => simp
  | cons x xs ih =>
    intro y m
    simp only [List.mem_cons] at m
    rcases m with rfl | m
    · exact ⟨h.1, h.2.1⟩
    · have := ih h.2.2 y m
      have := h.1
      omega
structure Nums (G : Int) (ps : List (Int × Int)) : Prop where
  asc : Asc 0 (ps.map (·.1))
  pos : ∀ p ∈ ps, 1 ≤ p.2 ∧ p.2 ≤ G
theorem numbers_spec {E : Exn → Hh → Prop} {Q : W → Hh → Prop} {h : Hh} {s : Nat} {n g : Int} (hs : Src h s) (hn : 0 < n) (hn2 : n ≤ 11) (hg : 1 ≤ g) (hg2 : g < 2 ^ 62)
    (k : ∀ r h' ps, Src h' s → Sub [s] h h' → h.length ≤ r → LP [s] h' r ps → 1 ≤ ps.length → ps.length ≤ n.toNat → Nums (max 20 g) ps → Q (.ref r) h') : Wr (m__law_numbers [.ref s, .int n, .int g] h) E Q := by
  unfold m__law_numbers f__law_numbers
  refine wr_run rfl ?_
  walk_at "wp"
  refine next_spec hs hn (by omega) fun r h1 r0 r1 hs1 sb1 ln1 => ?_
  walk_at "wp"
  refine symbols_spec hs1 (by omega) (by omega) fun v h2 syms hs2 sb2 lv hv hl ha => ?_
  walk_at "wp"
  refine lc_drawn (s := s) (max 20 g) ?_
  walk_at "wp"
  refine ⟨_, _, rfl, lst_of hv, ?_⟩
  have ls := hs.lt
  refine ⟨(syms.map W.int).map Yv.one, syms, by simp, by simp, by omega, hs2, (Sub.refl _ _), ?_, ?_, ?_⟩
  · intro h' sb i _
    exact nxtL_of (lst_of (sb.get _ _ (by simp; omega) hv))
  · intro i x y h' ex ey hs3 sb3
    obtain ⟨w, ew, rfl⟩ := get_map ey
    obtain ⟨x', ex', rfl⟩ := get_map ew
    rw [ex] at ex'
    cases ex'
    refine ⟨_, rfl, rfl, ?_⟩
    walk_at "wp"
    refine one_spec hs3.app gna (by simp) (by simp) (fun w h4 hw hs4 sb4 ln4 => ?_) (by have := hs3.lt; omega)
    obtain ⟨e, rfl, he1, he2⟩ : ∃ e : Int, w = .int e ∧ 1 ≤ e ∧ e ≤ max 20 g := by
      simp only [List.mem_cons, List.not_mem_nil, or_false] at hw
      rcases hw with rfl | rfl | rfl | rfl
      · exact ⟨1, rfl, by omega, by omega⟩
      · exact ⟨3, rfl, by omega, by omega⟩
      · exact ⟨20, rfl, by omega, by omega⟩
      · exact ⟨g, rfl, by omega, by omega⟩
    walk_at "wp"
    refine next_spec hs4 (by omega) (by omega) fun r2 h5 r20 r21 hs5 sb5 ln5 => ?_
    walk_at "wp"
    exact ⟨_, _, rfl, by rw [ln5, ln4]; simp, gna, by omega, by omega, hs5.app, ((((Sub.refl _ _).new _).trans sb4).trans sb5).new _⟩
  · intro r3 h' ps hs3 sb3 lr lp hm hp
    walk_at "wp"
    have hlen : ps.length = syms.length := by rw [← hm]; simp
    exact k _ _ ps hs3 ((sb1.trans sb2).trans sb3) (Nat.le_trans (Nat.le_trans sb1.len sb2.len) lr) lp (by rw [hlen, hl]; omega) (by rw [hlen, hl]; omega) ⟨by rw [hm]; exact ha, hp⟩
end Law
set_option Elab.async false
set_option linter.all false
set_option maxRecDepth 100000
set_option maxHeartbeats 4250000
namespace Law
open PySem PySem.Spec L2 Sp
/-- lists of pairs, made one by one -/
theorem lc_pairs {E : Exn → Hh → Prop} {Q : W → Hh → Prop} {h : Hh} {σ : Sg} {fi : FI} {gt : TGt} {vs : List Nat} {fe : FE} (M X : List Nat) (S : Hh → Prop) (T : Nat → Int × Int → Prop) (hMX : ∀ k ∈ M, k ∈ X)
    (hi : Wr (fi σ h) E fun J h1 => ∃ (ys : List Yv), ys.length < J.fuel ∧ ys.length ≤ 100000 ∧ In X h1 ∧ S h1 ∧ (∀ h' os, S h' → S (h' ++ os)) ∧ (∀ h' o, S h' → S (h'.set h1.length o)) ∧ Sub M h h1 ∧
      (∀ h', Sub M h1 h' → ∀ i, i ≤ ys.length → J.nxt i h' = some ys[i]?) ∧
      (∀ (i : Nat) (y : Yv) (h' : Hh), ys[i]? = some y → S h' → Sub M h1 h' → ∃ as, gt y h' = some as ∧ (as.all fun p => vs.contains p.1) = true ∧
        Wr (fe (setW (wipeW σ vs) as) h') (fun _ _ => False) fun w h3 => ∃ m p, w = .ref m ∧ h'.length ≤ m ∧ h3[m]? = some (O.tup [W.int (Prod.fst p), W.int (Prod.snd p)]) ∧ T i p ∧ S h3 ∧ Sub M h' h3) ∧
      (∀ r h' ps, S h' → Sub M h h' → h1.length ≤ r → LP X h' r ps → ps.length = ys.length → (∀ (i : Nat) p, ps[i]? = some p → T i p) → Q (.ref r) h')) : Wr (fLc fi gt vs fYes fe σ h) E Q := by
  refine wr_lc (hi.imp (fun _ _ e => e) fun J h1 ⟨ys, l2, l3, inX, s1, sa, ss, sb1, hn, hst, k⟩ => ?_)
  refine ⟨ys, fun i acc h' => S h' ∧ Sub M h1 h' ∧ ∃ ps, ps.length = i ∧ (∀ (i : Nat) p, ps[i]? = some p → T i p) ∧ PL (h1.length :: X) h' ps acc, l2, by simp [LIM]; omega, ?_, ?_, ?_, ?_⟩
  · exact ⟨sa _ _ s1, (Sub.refl _ _).new _, [], rfl, by simp, .nil⟩
  · rintro i acc h' li ⟨_, sb, _⟩
    exact hn h' sb i li
  · rintro i y acc h' ey ⟨hs2, sb2, ps, p1, p3, p4⟩ ed
    obtain ⟨as, e1, e2, q⟩ := hst i y h' ey hs2 sb2
    refine ⟨as, e1, e2, wr_yes ⟨fun _ => ?_, fun hb => by cases hb⟩⟩
    refine q.imp (fun _ _ e => e) ?_
    rintro w h3 ⟨m, p, rfl, hm, em, c1, hs3, sb3⟩
    have dM : h1.length ∉ M := fun mm => by have := inX _ (hMX _ mm); omega
    have ed3 : h3[h1.length]? = some (.lst acc) := sb3.get _ _ dM ed
    have ld : h1.length < h'.length := lt_of_get ed
    refine ⟨ed3, ss _ _ hs3, (sb2.trans sb3).set (.inr (Nat.le_refl _)), ps ++ [p], by simp [p1], ?_, ?_⟩
    · intro j p' ej
      by_cases hj : j < ps.length
      · rw [List.getElem?_append_left hj] at ej
        exact p3 j p' ej
      · have hj2 : j < (ps ++ [p]).length := (List.getElem?_eq_some_iff.mp ej).1
        have : j = ps.length := by simp at hj2; omega
        subst this
        simp at ej
        subst ej
        rw [p1]
        exact c1
    · have mX : m ∉ h1.length :: X := by
        intro mm
        simp only [List.mem_cons] at mm
        rcases mm with rfl | mm
        · omega
        · have := inX _ mm
          have := sb2.len
          omega
      have := (p4.up sb3 (fun k mk => by simp [hMX k mk])).snoc (a := p.1) (b := p.2) (m := m) mX em
      exact this.up ((Sub.refl [h1.length] _).set (.inl (by simp)))
  · rintro acc h' ⟨hs2, sb2, ps, p1, p3, p4⟩ ed
    exact k _ _ ps hs2 (sb1.trans sb2) (Nat.le_refl _) ⟨acc, p4.hide (fun k mk => .inl (by simp [mk])), ed, fun mm => by have := inX _ mm; omega⟩ p1 p3

theorem pow_bound {b : Int} {n : Nat} (h0 : 0 ≤ b) (hb : b ≤ 8192) (hn : n ≤ 2000) : (b ^ n).natAbs < 2 ^ 26001 := by
  rw [Int.natAbs_pow]
  have h1 : b.natAbs ^ n ≤ (2 ^ 13) ^ n := Nat.pow_le_pow_left (by omega) n
  rw [← Nat.pow_mul] at h1
  have h2 : (2 : Nat) ^ (13 * n) ≤ 2 ^ 26000 := Nat.pow_le_pow_right (by decide) (by omega)
  have h3 : (2 : Nat) ^ 26000 < 2 ^ 26001 := Nat.pow_lt_pow_right (by decide) (by decide)
  exact Nat.lt_of_le_of_lt (Nat.le_trans h1 h2) h3
theorem times_spec {E : Exn → Hh → Prop} {Q : W → Hh → Prop} {h : Hh} {b n : Int} (hb : b.natAbs < 18446744073709551616) (h0 : 0 ≤ n) (hn : n < 2 ^ 61) (k : Q (.int (b ^ n.toNat)) h) : Wr (m__law_times [.int b, .int n] h) E Q := by
  unfold m__law_times f__law_times
  refine wr_run rfl ?_
  walk_at "wp"
  refine ⟨by simp [rngOk]; omega, ?_⟩
  refine ⟨(List.range n.toNat).map fun k : Nat => Yv.one (.int (0 + k)), fun i σ h' => h' = h ∧ ∃ a3, σ = [some (.int b), some (.int n), some (.int (b ^ i)), a3], by simp, ?_, ?_, ?_, ?_⟩
  · exact ⟨rfl, none, by rw [Int.pow_zero]; rfl⟩
  · rintro i σ h' _ _
    exact nxtR_of (h := h')
  · rintro i y σ h' ey ⟨rfl, a3, rfl⟩
    obtain ⟨k1, ek, rfl⟩ := get_map ey
    refine ⟨_, rfl, ?_⟩
    walk_at "wp"
    refine ro_mul (mulOk_r hb) ?_
    walk_at "wp"
    exact ⟨rfl, _, by rw [Int.pow_succ]; rfl⟩
  · rintro σ h' ⟨rfl, a3, rfl⟩
    walk_at "wp"
    simpa using k
theorem one_le_ipow {x : Int} (h : 1 ≤ x) : ∀ n : Nat, 1 ≤ x ^ n
  | 0 => (by rw [Int.pow_zero]; decide)
  | n + 1 => by
    have ih := one_le_ipow h n
    rw [Int.pow_succ]
    have := Int.mul_le_mul ih h (by omega) (by omega)
    omega
theorem sq_pow (x : Int) (n : Nat) : (x * x) ^ n = x ^ (2 * n) := by
  rw [Int.pow_mul, Int.pow_succ, Int.pow_succ, Int.pow_zero, Int.one_mul]
theorem power_spec {E : Exn → Hh → Prop} {Q : W → Hh → Prop} {h : Hh} {b e : Int} (h1 : 1 ≤ b) (hb : b ≤ 8192) (h0 : 0 ≤ e) (he : e ≤ 2000) (k : Q (.int (b ^ e.toNat)) h) : Wr (m_power [.int b, .int e] h) E Q := by
  unfold m_power f_power
  refine wr_run rfl ?_
  walk_at "wp"
  refine ws_whileF (fun k σ h' => h' = h ∧ ∃ (r x : Int) (y c : Nat), σ = [some (.int b), some (.int e), some (.int r), some (.int x), some (.int y)] ∧ r * x ^ y = b ^ e.toNat ∧ 1 ≤ x ∧ 1 ≤ r ∧ y < 2 ^ k ∧ 0 < c ∧ x.natAbs < 2 ^ c ∧ c * 2 ^ k ≤ 28672) 11 (by decide) ?_ ?_
  · refine ⟨rfl, 1, b, e.toNat, 14, ?_, by rw [Int.one_mul], h1, by decide, by omega, by decide, by omega, by decide⟩
    rw [Int.toNat_of_nonneg h0]; rfl
  · rintro k1 σ h' ⟨rfl, r, x, y, c, rfl, i1, i2, i3, i4, i5, i6, i7⟩
    walk_at "wp"
    have p1 : 1 ≤ x ^ y := one_le_ipow i2 y
    have rb : r.natAbs < 2 ^ 26001 := by
      have h3 : r ≤ b ^ e.toNat := by
        rw [← i1]
        have := Int.mul_le_mul_of_nonneg_left p1 (by omega : 0 ≤ r)
        omega
      have h4 := pow_bound (by omega) hb (show e.toNat ≤ 2000 by omega)
      omega
    have c1 : c ≤ 28672 := Nat.le_trans (Nat.le_mul_of_pos_right c (Nat.two_pow_pos k1)) i7
    refine ⟨fun hc => ?_, fun hc => ?_⟩
    · have hy : 0 < y := by have := of_decide_eq_true hc; omega
      cases k1 with
      | zero => simp at i4; omega
      | succ k2 =>
        refine ⟨k2, rfl, ?_⟩
        have e2 : y = 2 * (y / 2) + y % 2 := by omega
        walk_at "wp"
        rw [PyProof.Rows.bitAnd_m1]
        have xb : mulOk x x = true := mulOk_b c c i6 i6 i5 i5 (by omega)
        have hx2 : (x * x).natAbs < 2 ^ (2 * c) := by
          rw [Int.natAbs_mul, Nat.two_mul, Nat.pow_add]
          exact Nat.mul_lt_mul'' i6 i6
        have hy2 : (y : Int) / 2 ^ (1 : Int).toNat = ((y / 2 : Nat) : Int) := by
          show (y : Int) / 2 ^ 1 = _
          omega
        have hx1 : 1 ≤ x * x := by
          have := Int.mul_le_mul i2 i2 (by omega) (by omega)
          omega
        have hc2 : 2 * c * 2 ^ k2 ≤ 28672 := by
          have : 2 * c * 2 ^ k2 = c * 2 ^ (k2 + 1) := by rw [Nat.pow_succ, Nat.mul_comm 2 c, Nat.mul_assoc, Nat.mul_comm 2]
          omega
        have hyk : y / 2 < 2 ^ k2 := by
          rw [Nat.pow_succ] at i4
          omega
        refine ⟨fun hm => ?_, fun hm => ?_⟩
        · have hm : y % 2 = 1 := by simp at hm; omega
          walk_at "wp"
          refine ro_mul (mulOk_b 26001 c rb i6 (by decide) i5 (by omega)) ?_
          walk_at "wp"
          refine ro_mul xb ?_
          walk_at "wp"
          refine ro_shr (by decide) ?_
          walk_at "wp"
          refine ⟨rfl, r * x, x * x, y / 2, 2 * c, by rw [hy2]; rfl, ?_, hx1, ?_, hyk, by omega, hx2, hc2⟩
          · rw [sq_pow, ← i1, Int.mul_assoc]
            have : y = 1 + 2 * (y / 2) := by omega
            conv => rhs; rw [this, Int.pow_add, Int.pow_one]
          · have := Int.mul_le_mul i3 i2 (by omega) (by omega)
            omega
        · have hm : y % 2 = 0 := by simp at hm; omega
          walk_at "wp"
          refine ro_mul xb ?_
          walk_at "wp"
          refine ro_shr (by decide) ?_
          walk_at "wp"
          refine ⟨rfl, r, x * x, y / 2, 2 * c, by rw [hy2]; rfl, ?_, hx1, i3, hyk, by omega, hx2, hc2⟩
          rw [sq_pow, ← i1]
          have : y = 2 * (y / 2) := by omega
          rw [← this]
    · have hy : y = 0 := by have := of_decide_eq_false hc; omega
      subst hy
      walk_at "wp"
      rw [Int.pow_zero, Int.mul_one] at i1
      rw [i1]
      exact k
end Law
set_option Elab.async false
set_option linter.all false
set_option maxRecDepth 100000
set_option maxHeartbeats 4250000
namespace Law
open PySem PySem.Spec L2 Sp
/-! ### the counts by the greatest gain, as a list -/
def upP (cs ns : List Int) (i : Nat) : Int := (cs.getD i 0 + 1) ^ (ns.getD i 0).toNat
def loP (cs ns : List Int) (i : Nat) : Int := (cs.getD i 0) ^ (ns.getD i 0).toNat
def better (cs ns : List Int) (b i : Nat) : Nat := if upP cs ns b * loP cs ns i < upP cs ns i * loP cs ns b then i else b
def best (cs ns : List Int) : Nat → Nat
  | 0 => 0
  | k + 1 => better cs ns (best cs ns k) k
def bump (cs : List Int) (b : Nat) : List Int := cs.set b (cs.getD b 0 + 1)
def gainsP (ns : List Int) : Nat → List Int
  | 0 => List.replicate ns.length 1
  | k + 1 => bump (gainsP ns k) (best (gainsP ns k) ns ns.length)
theorem best_lt (cs ns : List Int) : ∀ k n : Nat, k ≤ n → 0 < n → best cs ns k < n
  | 0, n, _, h => h
  | k + 1, n, h, h0 => by
    show better cs ns (best cs ns k) k < n
    unfold better
    split
    · omega
    · exact best_lt cs ns k n (by omega) h0
theorem gainsP_len (ns : List Int) : ∀ k, (gainsP ns k).length = ns.length
  | 0 => by simp [gainsP]
  | k + 1 => by simp [gainsP, bump, gainsP_len ns k]
theorem bump_mem {cs : List Int} {b : Nat} {c : Int} (h : c ∈ bump cs b) : c ∈ cs ∨ c = cs.getD b 0 + 1 := by
  unfold bump at h
  exact List.mem_or_eq_of_mem_set h
theorem getD_mem {cs : List Int} {i : Nat} (h : i < cs.length) : cs.getD i 0 ∈ cs := by
  rw [List.getD_eq_getElem?_getD, List.getElem?_eq_getElem h]
  exact List.getElem_mem h
theorem gainsP_pos (ns : List Int) (h0 : 0 < ns.length) : ∀ k : Nat, ∀ c ∈ gainsP ns k, 1 ≤ c ∧ c ≤ 1 + k
  | 0, c, h => by
    simp [gainsP] at h
    omega
  | k + 1, c, h => by
    have ih := gainsP_pos ns h0 k
    have hb := best_lt (gainsP ns k) ns ns.length ns.length (Nat.le_refl _) h0
    rcases bump_mem (show c ∈ bump (gainsP ns k) (best (gainsP ns k) ns ns.length) from h) with h | h
    · have := ih c h
      omega
    · have hm : (gainsP ns k).getD (best (gainsP ns k) ns ns.length) 0 ∈ gainsP ns k := getD_mem (by rw [gainsP_len]; exact hb)
      have := ih _ hm
      omega
theorem gainsP_get (ns : List Int) {k i : Nat} (h : i < ns.length) : 1 ≤ (gainsP ns k).getD i 0 ∧ (gainsP ns k).getD i 0 ≤ 1 + k := by
  exact gainsP_pos ns (by omega) k _ (getD_mem (by rw [gainsP_len]; exact h))
theorem sum_bump : ∀ (cs : List Int) (b : Nat), b < cs.length → (bump cs b).sum = cs.sum + 1
  | c :: cs, 0, _ => by simp [bump]; omega
  | c :: cs, b + 1, h => by
    have := sum_bump cs b (by simpa using h)
    simp [bump] at this ⊢
    omega
theorem gainsP_sum (ns : List Int) (h0 : 0 < ns.length) : ∀ k : Nat, (gainsP ns k).sum = ns.length + k
  | 0 => by simp [gainsP]
  | k + 1 => by
    have ih := gainsP_sum ns h0 k
    show (bump _ _).sum = _
    rw [sum_bump _ _ (by rw [gainsP_len]; exact best_lt _ _ _ _ (Nat.le_refl _) h0), ih]
    omega
theorem getD_of {cs : List Int} {i : Nat} {c : Int} (e : cs[i]? = some c) : cs.getD i 0 = c := by
  rw [List.getD_eq_getElem?_getD, e]; rfl
theorem get_of_lt {cs : List Int} {i : Nat} (h : i < cs.length) : cs[i]? = some (cs.getD i 0) := by
  have e := List.getElem?_eq_getElem h
  rw [getD_of e, e]
abbrev nsOf (ps : List (Int × Int)) : List Int := ps.map (·.2)
abbrev syOf (ps : List (Int × Int)) : List Int := ps.map (·.1)
theorem ns_get {ps : List (Int × Int)} {i : Nat} {p : Int × Int} (e : ps[i]? = some p) : (nsOf ps).getD i 0 = p.2 := getD_of (by rw [List.getElem?_map, e]; rfl)
theorem mulB {x y : Int} (hx : x.natAbs < 2 ^ 26001) (hy : y.natAbs < 2 ^ 26001) : mulOk x y = true := mulOk_b 26001 26001 hx hy (by decide) (by decide) (by decide)
theorem gains_spec {E : Exn → Hh → Prop} {Q : W → Hh → Prop} {h : Hh} {X : List Nat} {v : Nat} {L : Int} {ps : List (Int × Int)} (lp : LP X h v ps) (inX : In X h) (p0 : 0 < ps.length) (p1 : ps.length ≤ 1000) (pp : ∀ p ∈ ps, 1 ≤ p.2 ∧ p.2 ≤ 2000) (hL0 : 0 ≤ L) (hL : L ≤ 8000)
    (k : ∀ r h', Sub [] h h' → h.length ≤ r → LP X h' r ((syOf ps).zip (gainsP (nsOf ps) (L - ps.length).toNat)) → Q (.ref r) h') : Wr (m__law_gains [.ref v, .int L] h) E Q := by
  obtain ⟨ws, lx⟩ := lp
  have lws := lx.len
  unfold m__law_gains f__law_gains
  refine wr_run rfl ?_
  walk_at "wp"
  refine ro_len (seq_of_lst (lst_of (gap lx.e))) ?_
  walk_at "wp"
  refine ro_rep gna (by omega) (by omega) (by simp [LIM]; omega) ?_
  walk_at "wp"
  refine ro_len (seq_of_lst (lst_of (gap (gap lx.e)))) ?_
  walk_at "wp"
  refine ⟨by simp [rngOk]; omega, ?_⟩
  have n0 : 0 < (nsOf ps).length := by simpa using p0
  have nl : (nsOf ps).length = ps.length := by simp
  refine ⟨(List.range (L - ws.length).toNat).map fun k : Nat => Yv.one (.int (0 + k)), fun i σ h' => ∃ a3 a4 a5 a6 a7 a8, σ = [some (.ref v), some (.int L), some (.ref (h.length + 1)), a3, a4, a5, a6, a7, a8, none] ∧ Sub [] h h' ∧ h'[h.length + 1]? = some (.lst ((gainsP (nsOf ps) i).map .int)), by simp, ?_, ?_, ?_, ?_⟩
  · have : (h ++ [O.lst [W.int 1]]).length = h.length + 1 := by simp
    refine ⟨none, none, none, none, none, none, by rw [this]; rfl, ((Sub.refl _ _).new _).new _, ?_⟩
    rw [← this, gna]
    simp [gainsP, List.flatten_replicate_singleton, lws]
  · rintro i σ h' _ _
    exact nxtR_of (h := h')
  · rintro i y σ h' ey ⟨a3, a4, a5, a6, a7, a8, rfl, sb, hc⟩
    obtain ⟨k1, ek, rfl⟩ := get_map ey
    obtain ⟨rfl, hk⟩ := get_range ek
    have lx' := lx.up sb
    have cl := gainsP_len (nsOf ps) k1
    refine ⟨_, rfl, ?_⟩
    walk_at "wp"
    refine ⟨_, _, rfl, lst_of lx'.e, ?_⟩
    refine ⟨ws.mapIdx fun i w => Yv.pair (.int i) w, fun j σ h'' => h'' = h' ∧ ∃ a5 a6 a7 a8, σ = [some (.ref v), some (.int L), some (.ref (h.length + 1)), some (.int (0 + k1)), some (.int (best (gainsP (nsOf ps) k1) (nsOf ps) j)), a5, a6, a7, a8, none], by simp, ⟨rfl, a5, a6, a7, a8, rfl⟩, ?_, ?_, ?_⟩
    · rintro j σ h'' _ ⟨rfl, _⟩
      exact nxtE_of (lst_of lx'.e)
    · rintro j y σ h'' ey ⟨rfl, a5, a6, a7, a8, rfl⟩
      obtain ⟨w, ew, rfl⟩ := get_mapIdx ey
      have jl : j < ps.length := by rw [← lws]; exact (List.getElem?_eq_some_iff.mp ew).1
      obtain ⟨m, em, _, hm⟩ := lx'.get j ps[j] (List.getElem?_eq_getElem jl)
      rw [em] at ew
      cases ew
      have hb := best_lt (gainsP (nsOf ps) k1) (nsOf ps) j ps.length (by omega) p0
      generalize hbe : best (gainsP (nsOf ps) k1) (nsOf ps) j = b at *
      obtain ⟨m2, em2, _, hm2⟩ := lx'.get b ps[b] (List.getElem?_eq_getElem hb)
      have c1 := gainsP_get (nsOf ps) (k := k1) (i := j) (by omega)
      have c2 := gainsP_get (nsOf ps) (k := k1) (i := b) (by omega)
      have q1 := pp ps[j] (List.getElem_mem _)
      have q2 := pp ps[b] (List.getElem_mem _)
      have e1 : ((gainsP (nsOf ps) k1).map W.int)[j]? = some (.int ((gainsP (nsOf ps) k1).getD j 0)) := by rw [List.getElem?_map, get_of_lt (by omega)]; rfl
      have e2 : ((gainsP (nsOf ps) k1).map W.int)[b]? = some (.int ((gainsP (nsOf ps) k1).getD b 0)) := by rw [List.getElem?_map, get_of_lt (by omega)]; rfl
      have n1 := ns_get (List.getElem?_eq_getElem jl)
      have n2 := ns_get (List.getElem?_eq_getElem hb)
      have hk8 : (k1 : Int) ≤ 8000 := by omega
      refine ⟨_, rfl, ?_⟩
      walk_at "wp"
      refine ro_ix (seq_of_lst (lst_of hc)) (atI_nat e1) ?_
      walk_at "wp"
      refine ro_ix (seq_of_tup hm) rfl ?_
      walk_at "wp"
      refine times_spec (by omega) (by omega) (by omega) ?_
      walk_at "wp"
      refine ro_ix (seq_of_lst (lst_of hc)) (atI_nat e2) ?_
      walk_at "wp"
      refine ro_ix (seq_of_lst (lst_of lx'.e)) (atI_nat em2) ?_
      walk_at "wp"
      refine ro_ix (seq_of_tup hm2) rfl ?_
      walk_at "wp"
      refine times_spec (by omega) (by omega) (by omega) ?_
      walk_at "wp"
      refine ro_mul (mulB (pow_bound (by omega) (by omega) (by omega)) (pow_bound (by omega) (by omega) (by omega))) ?_
      walk_at "wp"
      refine ro_ix (seq_of_lst (lst_of hc)) (atI_nat e2) ?_
      walk_at "wp"
      refine ro_ix (seq_of_lst (lst_of lx'.e)) (atI_nat em2) ?_
      walk_at "wp"
      refine ro_ix (seq_of_tup hm2) rfl ?_
      walk_at "wp"
      refine times_spec (by omega) (by omega) (by omega) ?_
      walk_at "wp"
      refine ro_ix (seq_of_lst (lst_of hc)) (atI_nat e1) ?_
      walk_at "wp"
      refine ro_ix (seq_of_tup hm) rfl ?_
      walk_at "wp"
      refine times_spec (by omega) (by omega) (by omega) ?_
      walk_at "wp"
      refine ro_mul (mulB (pow_bound (by omega) (by omega) (by omega)) (pow_bound (by omega) (by omega) (by omega))) ?_
      walk_at "wp"
      have eb : best (gainsP (nsOf ps) k1) (nsOf ps) (j + 1) = better (gainsP (nsOf ps) k1) (nsOf ps) b j := by rw [← hbe]; rfl
      refine ⟨fun hq => ?_, fun hq => ?_⟩
      · have hq := of_decide_eq_true hq
        have eb2 : better (gainsP (nsOf ps) k1) (nsOf ps) b j = j := by
          unfold better upP loP
          rw [n1, n2, if_pos hq]
        walk_at "wp"
        dsimp only
        rw [eb, eb2]
        exact ⟨rfl, _, _, _, _, rfl⟩
      · have hq := of_decide_eq_false hq
        have eb2 : better (gainsP (nsOf ps) k1) (nsOf ps) b j = b := by
          unfold better upP loP
          rw [n1, n2, if_neg hq]
        walk_at "wp"
        dsimp only
        rw [eb, eb2]
        exact ⟨rfl, _, _, _, _, rfl⟩
    · rintro σ h'' ⟨rfl, a5, a6, a7, a8, rfl⟩
      have jl : (ws.mapIdx fun i w => Yv.pair (.int i) w).length = (nsOf ps).length := by simp [lws]
      rw [jl]
      have hb := best_lt (gainsP (nsOf ps) k1) (nsOf ps) (nsOf ps).length ps.length (by omega) p0
      have eg : gainsP (nsOf ps) (k1 + 1) = bump (gainsP (nsOf ps) k1) (best (gainsP (nsOf ps) k1) (nsOf ps) (nsOf ps).length) := rfl
      generalize hbe : best (gainsP (nsOf ps) k1) (nsOf ps) (nsOf ps).length = b at *
      have e2 : ((gainsP (nsOf ps) k1).map W.int)[b]? = some (.int ((gainsP (nsOf ps) k1).getD b 0)) := by rw [List.getElem?_map, get_of_lt (by omega)]; rfl
      walk_at "wp"
      refine ro_ix (seq_of_lst (lst_of hc)) (atI_nat e2) ?_
      walk_at "wp"
      refine ⟨_, _, _, _, rfl, rfl, hc, ixN_nat (by simp; omega), ?_⟩
      walk_at "wp"
      refine ⟨_, _, _, _, _, _, rfl, sb.set (.inr (by omega)), ?_⟩
      rw [gss (lt_of_get hc), eg]
      unfold bump
      rw [List.map_set]
  · rintro σ h' ⟨a3, a4, a5, a6, a7, a8, rfl, sb, hc⟩
    have lx' := lx.up sb
    have cl := gainsP_len (nsOf ps) (L - ps.length).toNat
    have hlr : ((List.range (L - ws.length).toNat).map fun k : Nat => Yv.one (.int (0 + k))).length = (L - ps.length).toNat := by simp [lws]
    rw [hlr] at hc
    walk_at "wp"
    refine lc_pairs [] X (fun _ => True) (fun i p => (syOf ps)[i]? = some p.1 ∧ (gainsP (nsOf ps) (L - ps.length).toNat)[i]? = some p.2) (by simp) ?_
    walk_at "wp"
    refine ⟨_, _, rfl, lst_of hc, ?_⟩
    refine ⟨((gainsP (nsOf ps) (L - ps.length).toNat).map W.int).mapIdx fun i w => Yv.pair (.int i) w, by simp, by simp only [List.length_mapIdx, List.length_map]; omega, inX.up sb, trivial, fun _ _ _ => trivial, fun _ _ _ => trivial, Sub.refl _ _, ?_, ?_, ?_⟩
    · intro h3 sb3 i _
      exact nxtE_of (lst_of (sb3.get _ _ (by simp) hc))
    · intro i y h3 ey _ sb3
      obtain ⟨w, ew, rfl⟩ := get_mapIdx ey
      obtain ⟨c, ec, rfl⟩ := get_map ew
      have il : i < ps.length := by have := (List.getElem?_eq_some_iff.mp ec).1; omega
      obtain ⟨m, em, _, hm⟩ := (lx'.up sb3).get i ps[i] (List.getElem?_eq_getElem il)
      refine ⟨_, rfl, rfl, ?_⟩
      walk_at "wp"
      refine ro_ix (seq_of_lst (lst_of (lx'.up sb3).e)) (atI_nat em) ?_
      walk_at "wp"
      refine ro_ix (seq_of_tup hm) rfl ?_
      walk_at "wp"
      exact ⟨_, (ps[i].1, c), rfl, Nat.le_refl _, gna, ⟨by rw [List.getElem?_map, List.getElem?_eq_getElem il]; rfl, ec⟩, trivial, (Sub.refl _ _).new _⟩
    · intro r h3 qs _ sb3 lr lp hl hT
      walk_at "wp"
      refine k _ _ (sb.trans sb3) (Nat.le_trans sb.len lr) ?_
      have : qs = (syOf ps).zip (gainsP (nsOf ps) (L - ps.length).toNat) := by
        apply List.ext_getElem?
        intro i
        by_cases hi : i < qs.length
        · have e := List.getElem?_eq_getElem hi
          rw [e]
          obtain ⟨t1, t2⟩ := hT i _ e
          exact (List.getElem?_zip_eq_some.mpr ⟨t1, t2⟩).symm
        · rw [List.getElem?_eq_none (by omega), List.getElem?_eq_none]
          simp at hl ⊢
          omega
      rw [← this]
      exact lp
end Law
set_option Elab.async false
set_option linter.all false
set_option maxRecDepth 100000
set_option maxHeartbeats 4250000
namespace Law
open PySem PySem.Spec L2 Sp
section
variable {E : Exn → Hh → Prop} {Q : W → Hh → Prop} {h : Hh} {i : Int} {n : Nat} {ws : List W}
theorem isi_ii (q : Q (.bl true) h) : Wr (toRs (bIsi [.int i, .ty "int"] h)) E Q := ro_isi (t := "int") rfl (by decide +kernel) q
theorem isi_ib (q : Q (.bl false) h) : Wr (toRs (bIsi [.int i, .ty "bool"] h)) E Q := ro_isi (t := "int") rfl (by decide +kernel) q
theorem isi_tt (e : h[n]? = some (.tup ws)) (q : Q (.bl true) h) : Wr (toRs (bIsi [.ref n, .ty "tuple"] h)) E Q := ro_isi (t := "tuple") (ty_tup e) (by decide +kernel) q
theorem isi_ll (e : h[n]? = some (.lst ws)) (q : Q (.bl true) h) : Wr (toRs (bIsi [.ref n, .ty "list"] h)) E Q := ro_isi (t := "list") (ty_lst e) (by decide +kernel) q
theorem is_integer_int (q : Q (.bl true) h) : Wr (m_is_integer [.int i] h) E Q := by
  unfold m_is_integer f_is_integer
  refine wr_run rfl ?_
  walk_at "wp"
  refine isi_ii ?_
  walk_at "wp"
  refine isi_ib ?_
  walk_at "wp"
  exact q
theorem is_within_yes {lo hi : Int} (h1 : lo ≤ i) (h2 : i ≤ hi) (q : Q (.bl true) h) : Wr (m_is_within [.int i, .int lo, .int hi] h) E Q := by
  unfold m_is_within f_is_within
  refine wr_run rfl ?_
  walk_at "wp"
  refine is_integer_int ?_
  walk_at "wp"
  refine ⟨fun _ => ?_, fun hb => absurd h1 (of_decide_eq_false hb)⟩
  walk_at "wp"
  rw [decide_eq_true h2]
  exact q
theorem is_symbol_yes (h1 : 0 ≤ i) (h2 : i < 1000) (q : Q (.bl true) h) : Wr (m_is_symbol [.int i] h) E Q := by
  unfold m_is_symbol f_is_symbol
  refine wr_run rfl ?_
  walk_at "wp"
  refine is_within_yes h1 (by omega) ?_
  walk_at "wp"
  exact q
theorem is_entry_yes {a b : Int} (e : h[n]? = some (.tup [.int a, .int b])) (h1 : 0 ≤ a) (h2 : a < 1000) (h3 : 1 ≤ b) (h4 : b ≤ 1000000000000000000000000000000) (q : Q (.bl true) h) : Wr (m_is_entry [.ref n] h) E Q := by
  unfold m_is_entry f_is_entry
  refine wr_run rfl ?_
  walk_at "wp"
  refine isi_tt e ?_
  walk_at "wp"
  refine ro_len (seq_of_tup e) ?_
  walk_at "wp"
  refine ro_ix (seq_of_tup e) rfl ?_
  walk_at "wp"
  refine is_symbol_yes h1 h2 ?_
  walk_at "wp"
  refine ro_ix (seq_of_tup e) rfl ?_
  walk_at "wp"
  refine is_within_yes h3 h4 ?_
  walk_at "wp"
  exact q
end
theorem asc_get : ∀ {lo : Int} {xs : List Int} {i : Nat} {x : Int}, Asc lo xs → xs[i]? = some x → lo ≤ x ∧ x < 1000 ∧ (∀ y, 0 < i → xs[i - 1]? = some y → y < x)
  | _, [], _, _, _, e => (by simp at e)
  | lo, z :: xs, 0, x, a, e => by
    simp at e
    subst e
    exact ⟨a.1, a.2.1, fun _ h => by omega⟩
  | lo, z :: xs, i + 1, x, a, e => by
    obtain ⟨h1, h2, h3⟩ := asc_get (i := i) a.2.2 (by simpa using e)
    refine ⟨by have := a.1; omega, h2, fun y _ ey => ?_⟩
    cases i with
    | zero =>
      simp at ey
      subst ey
      omega
    | succ j => exact h3 y (by omega) (by simpa using ey)
theorem is_numbers_yes {E : Exn → Hh → Prop} {Q : W → Hh → Prop} {h : Hh} {X : List Nat} {v : Nat} {ps : List (Int × Int)} (lp : LP X h v ps) (p0 : 0 < ps.length) (p1 : ps.length ≤ 1000) (pn : Nums 1000000000000000000000000000000 ps) (q : Q (.bl true) h) : Wr (m_is_numbers [.ref v] h) E Q := by
  obtain ⟨ws, lx⟩ := lp
  have lws := lx.len
  unfold m_is_numbers f_is_numbers
  refine wr_run rfl ?_
  walk_at "wp"
  refine isi_ll lx.e ?_
  walk_at "wp"
  refine ro_len (seq_of_lst (lst_of lx.e)) ?_
  walk_at "wp"
  refine ⟨fun _ => ?_, fun hb => absurd (of_decide_eq_false hb) (by omega)⟩
  walk_at "wp"
  refine ⟨fun hb => ?_, fun _ => ?_⟩
  · exfalso
    simp at hb
    omega
  walk_at "wp"
  refine ⟨_, _, rfl, lst_of lx.e, ?_⟩
  refine ⟨ws.map Yv.one, fun i σ h' => h' = h ∧ ∃ (a : Int) (a2 : Option W), σ = [some (.ref v), some (.int a), a2] ∧ (i = 0 → a = -1) ∧ (0 < i → (syOf ps)[i - 1]? = some a), by simp, ⟨rfl, -1, none, rfl, fun _ => rfl, by simp⟩, ?_, ?_, ?_⟩
  · rintro i σ h' _ ⟨rfl, _⟩
    exact nxtL_of (lst_of lx.e)
  · rintro i y σ h' ey ⟨rfl, a, a2, rfl, i1, i2⟩
    obtain ⟨w, ew, rfl⟩ := get_map ey
    have il : i < ps.length := by rw [← lws]; exact (List.getElem?_eq_some_iff.mp ew).1
    obtain ⟨m, em, _, hm⟩ := lx.get i ps[i] (List.getElem?_eq_getElem il)
    rw [em] at ew
    cases ew
    have es : (syOf ps)[i]? = some ps[i].1 := by rw [List.getElem?_map, List.getElem?_eq_getElem il]; rfl
    obtain ⟨s1, s2, s3⟩ := asc_get pn.asc es
    have q1 := pn.pos ps[i] (List.getElem_mem _)
    refine ⟨_, rfl, ?_⟩
    walk_at "wp"
    refine is_entry_yes hm s1 s2 q1.1 q1.2 ?_
    walk_at "wp"
    refine ro_ix (seq_of_tup hm) rfl ?_
    walk_at "wp"
    refine ⟨fun hb => ?_, fun _ => ?_⟩
    · exfalso
      have hb := of_decide_eq_true hb
      by_cases hi : i = 0
      · rw [i1 hi] at hb; omega
      · have := s3 a (by omega) (i2 (by omega)); omega
    · walk_at "wp"
      refine ro_ix (seq_of_tup hm) rfl ?_
      walk_at "wp"
      exact ⟨rfl, _, _, rfl, by omega, fun _ => es⟩
  · rintro σ h' ⟨rfl, a, a2, rfl, i1, i2⟩
    walk_at "wp"
    exact q
theorem check_numbers_ok {E : Exn → Hh → Prop} {Q : W → Hh → Prop} {h : Hh} {X : List Nat} {v : Nat} {ps : List (Int × Int)} (lp : LP X h v ps) (p0 : 0 < ps.length) (p1 : ps.length ≤ 1000) (pn : Nums 1000000000000000000000000000000 ps) (q : Q .non h) : Wr (m_check_numbers [.ref v] h) E Q := by
  unfold m_check_numbers f_check_numbers
  refine wr_run rfl ?_
  walk_at "wp"
  refine is_numbers_yes lp p0 p1 pn ?_
  walk_at "wp"
  exact q
theorem check_bits_ok {E : Exn → Hh → Prop} {Q : W → Hh → Prop} {h : Hh} {b : Int} (h1 : 1 ≤ b) (h2 : b ≤ 12) (q : Q .non h) : Wr (m_check_bits [.int b] h) E Q := by
  unfold m_check_bits f_check_bits m_is_bits f_is_bits
  refine wr_run rfl ?_
  walk_at "wp"
  refine wr_run rfl ?_
  walk_at "wp"
  refine is_within_yes h1 h2 ?_
  walk_at "wp"
  exact q
theorem powOk_1 {b : Int} (h1 : 0 ≤ b) (h2 : b ≤ 12) : powOk 1 b = true := by
  simp [powOk]; omega
theorem check_counting_ok {E : Exn → Hh → Prop} {Q : W → Hh → Prop} {h : Hh} {X : List Nat} {v : Nat} {b : Int} {ps : List (Int × Int)} (lp : LP X h v ps) (p0 : 0 < ps.length) (p1 : ps.length ≤ 1000) (pn : Nums 1000000000000000000000000000000 ps) (h1 : 1 ≤ b) (h2 : b ≤ 12) (h3 : (ps.length : Int) ≤ 1 * 2 ^ b.toNat) (q : Q .non h) : Wr (m_check_counting [.ref v, .int b] h) E Q := by
  unfold m_check_counting f_check_counting
  refine wr_run rfl ?_
  walk_at "wp"
  refine check_numbers_ok lp p0 p1 pn ?_
  walk_at "wp"
  refine check_bits_ok h1 h2 ?_
  walk_at "wp"
  obtain ⟨ws, lx⟩ := lp
  have lws := lx.len
  refine ro_len (seq_of_lst (lst_of lx.e)) ?_
  walk_at "wp"
  refine ro_shl (powOk_1 (by omega) h2) ?_
  walk_at "wp"
  refine ⟨fun hb => ?_, fun _ => ?_⟩
  · exfalso
    have hb := of_decide_eq_true hb
    omega
  · walk_at "wp"
    exact q
/-- a comprehension that makes nothing but its list -/
theorem lc_plain {E : Exn → Hh → Prop} {Q : W → Hh → Prop} {h : Hh} {σ : Sg} {fi : FI} {gt : TGt} {vs : List Nat} {fe : FE}
    (hi : Wr (fi σ h) E fun J h1 => ∃ (ys : List Yv) (zs : List W), ys.length < J.fuel ∧ ys.length ≤ 100000 ∧ zs.length = ys.length ∧
      (∀ acc, ∀ i, i ≤ ys.length → J.nxt i (h1 ++ [O.lst acc]) = some ys[i]?) ∧
      (∀ (i : Nat) (y : Yv) (z : W) acc, ys[i]? = some y → zs[i]? = some z → ∃ as, gt y (h1 ++ [O.lst acc]) = some as ∧ (as.all fun p => vs.contains p.1) = true ∧
        Wr (fe (setW (wipeW σ vs) as) (h1 ++ [O.lst acc])) (fun _ _ => False) fun w h3 => w = z ∧ h3 = h1 ++ [O.lst acc]) ∧
      Q (.ref h1.length) (h1 ++ [.lst zs])) : Wr (fLc fi gt vs fYes fe σ h) E Q := by
  refine wr_lc (hi.imp (fun _ _ e => e) fun J h1 ⟨ys, zs, l2, l3, l4, hn, hst, k⟩ => ?_)
  refine ⟨ys, fun i acc h' => h' = h1 ++ [O.lst acc] ∧ acc = zs.take i, l2, by simp [LIM]; omega, ⟨rfl, rfl⟩, ?_, ?_, ?_⟩
  · rintro i acc h' li ⟨rfl, _⟩
    exact hn _ i li
  · rintro i y acc h' ey ⟨rfl, rfl⟩ ed
    have il : i < zs.length := by rw [l4]; exact (List.getElem?_eq_some_iff.mp ey).1
    obtain ⟨as, e1, e2, q⟩ := hst i y zs[i] (zs.take i) ey (List.getElem?_eq_getElem il)
    refine ⟨as, e1, e2, wr_yes ⟨fun _ => ?_, fun hb => by cases hb⟩⟩
    refine q.imp (fun _ _ e => e) ?_
    rintro w h3 ⟨rfl, rfl⟩
    refine ⟨gna, by simp, ?_⟩
    rw [List.take_add_one, List.getElem?_eq_getElem il]; rfl
  · rintro acc h' ⟨rfl, rfl⟩ ed
    rw [← l4, List.take_length]
    exact k
theorem syms_spec {E : Exn → Hh → Prop} {Q : W → Hh → Prop} {h : Hh} {X : List Nat} {v : Nat} {ps : List (Int × Int)} (lp : LP X h v ps) (p1 : ps.length ≤ 1000) (q : Q (.ref h.length) (h ++ [.lst ((syOf ps).map .int)])) : Wr (m_symbols_of [.ref v] h) E Q := by
  obtain ⟨ws, lx⟩ := lp
  have lws := lx.len
  unfold m_symbols_of f_symbols_of
  refine wr_run rfl ?_
  walk_at "wp"
  refine lc_plain ?_
  walk_at "wp"
  refine ⟨_, _, rfl, lst_of lx.e, ?_⟩
  refine ⟨ws.map Yv.one, (syOf ps).map .int, by simp, by simp; omega, by simp [lws], fun acc i _ => nxtL_of (lst_of (gap lx.e)), ?_, ?_⟩
  · intro i y z acc ey ez
    obtain ⟨w, ew, rfl⟩ := get_map ey
    obtain ⟨s, es, rfl⟩ := get_map ez
    obtain ⟨p, ep, rfl⟩ := get_map es
    obtain ⟨m, em, _, hm⟩ := lx.get i p ep
    rw [em] at ew
    cases ew
    refine ⟨_, gt_pair (gap hm) rfl, rfl, ?_⟩
    walk_at "wp"
    exact ⟨rfl, rfl⟩
  · walk_at "wp"
    exact q
theorem sum_spec {E : Exn → Hh → Prop} {Q : W → Hh → Prop} {h : Hh} {X : List Nat} {v : Nat} {ps : List (Int × Int)} (lp : LP X h v ps) (p1 : ps.length ≤ 1000) (q : Q (.int (nsOf ps).sum) (h ++ [.lst ((nsOf ps).map .int)])) : Wr (m_sum_of [.ref v] h) E Q := by
  obtain ⟨ws, lx⟩ := lp
  have lws := lx.len
  unfold m_sum_of f_sum_of
  refine wr_run rfl ?_
  walk_at "wp"
  refine lc_plain ?_
  walk_at "wp"
  refine ⟨_, _, rfl, lst_of lx.e, ?_⟩
  refine ⟨ws.map Yv.one, (nsOf ps).map .int, by simp, by simp; omega, by simp [lws], fun acc i _ => nxtL_of (lst_of (gap lx.e)), ?_, ?_⟩
  · intro i y z acc ey ez
    obtain ⟨w, ew, rfl⟩ := get_map ey
    obtain ⟨s, es, rfl⟩ := get_map ez
    obtain ⟨p, ep, rfl⟩ := get_map es
    obtain ⟨m, em, _, hm⟩ := lx.get i p ep
    rw [em] at ew
    cases ew
    refine ⟨_, gt_pair (gap hm) rfl, rfl, ?_⟩
    walk_at "wp"
    exact ⟨rfl, rfl⟩
  · walk_at "wp"
    refine ro_sum (lst_of gna) ?_
    walk_at "wp"
    exact q
theorem check_sum_ok {E : Exn → Hh → Prop} {Q : W → Hh → Prop} {h : Hh} {X : List Nat} {v : Nat} {ps : List (Int × Int)} (lp : LP X h v ps) (p1 : ps.length ≤ 1000) (hs : (nsOf ps).sum ≤ 2000) (q : ∀ os, Q .non (h ++ os)) : Wr (m_check_product_sum [.ref v] h) E Q := by
  unfold m_check_product_sum f_check_product_sum
  refine wr_run rfl ?_
  walk_at "wp"
  refine sum_spec lp p1 ?_
  walk_at "wp"
  refine ⟨fun hb => ?_, fun _ => ?_⟩
  · exfalso
    have hb := of_decide_eq_true hb
    omega
  · walk_at "wp"
    exact q _
theorem gain_spec {E : Exn → Hh → Prop} {Q : W → Hh → Prop} {h : Hh} {c n : Int} (h1 : 1 ≤ c) (h2 : c ≤ 8191) (h3 : 0 ≤ n) (h4 : n ≤ 2000) (q : Q (.ref h.length) (h ++ [.tup [.int ((c + 1) ^ n.toNat), .int (c ^ n.toNat)]])) : Wr (m_gain [.int c, .int n] h) E Q := by
  unfold m_gain f_gain
  refine wr_run rfl ?_
  walk_at "wp"
  refine power_spec (by omega) (by omega) h3 h4 ?_
  walk_at "wp"
  refine power_spec (by omega) (by omega) h3 h4 ?_
  walk_at "wp"
  exact q
end Law
set_option Elab.async false
set_option linter.all false
set_option maxRecDepth 100000
set_option maxHeartbeats 4250000
namespace Law
open PySem PySem.Spec L2 Sp
theorem greatest_spec {E : Exn → Hh → Prop} {Q : W → Hh → Prop} {h : Hh} {X : List Nat} {v : Nat} {gs : List (Int × Int)} {cs ns : List Int} (lp : LP X h v gs) (g0 : 0 < gs.length)
    (hg : ∀ (i : Nat) p, gs[i]? = some p → p = (upP cs ns i, loP cs ns i) ∧ (upP cs ns i).natAbs < 2 ^ 26001 ∧ (loP cs ns i).natAbs < 2 ^ 26001) (q : Q (.int (best cs ns gs.length)) h) : Wr (m_place_of_greatest [.ref v] h) E Q := by
  obtain ⟨ws, lx⟩ := lp
  have lws := lx.len
  unfold m_place_of_greatest f_place_of_greatest
  refine wr_run rfl ?_
  walk_at "wp"
  refine ⟨_, _, rfl, lst_of lx.e, ?_⟩
  refine ⟨ws.mapIdx fun i w => Yv.pair (.int i) w, fun i σ h' => h' = h ∧ ∃ a2 a3 a4, σ = [some (.ref v), some (.int (best cs ns i)), a2, a3, a4], by simp, ⟨rfl, none, none, none, rfl⟩, ?_, ?_, ?_⟩
  · rintro i σ h' _ ⟨rfl, _⟩
    exact nxtE_of (lst_of lx.e)
  · rintro j y σ h' ey ⟨rfl, a2, a3, a4, rfl⟩
    obtain ⟨w, ew, rfl⟩ := get_mapIdx ey
    have jl : j < gs.length := by rw [← lws]; exact (List.getElem?_eq_some_iff.mp ew).1
    obtain ⟨m, em, _, hm⟩ := lx.get j gs[j] (List.getElem?_eq_getElem jl)
    rw [em] at ew
    cases ew
    have hb := best_lt cs ns j gs.length (by omega) g0
    have eb : best cs ns (j + 1) = better cs ns (best cs ns j) j := rfl
    generalize hbe : best cs ns j = b at *
    obtain ⟨m2, em2, _, hm2⟩ := lx.get b gs[b] (List.getElem?_eq_getElem hb)
    obtain ⟨e1, u1, l1⟩ := hg j gs[j] (List.getElem?_eq_getElem jl)
    obtain ⟨e2, u2, l2⟩ := hg b gs[b] (List.getElem?_eq_getElem hb)
    rw [e1] at hm
    rw [e2] at hm2
    have gt : gtTup 2 (gtsCons (gtName 2) (gtsCons (gtTup 2 (gtsCons (gtName 3) (gtsCons (gtName 4) gtsNil))) gtsNil)) (.pair (.int j) (.ref m)) h' = some [(2, .int j), (3, .int (upP cs ns j)), (4, .int (loP cs ns j))] := by
      have g3 := gt_pair (n := 2) (gs := gtsCons (gtName 3) (gtsCons (gtName 4) gtsNil)) hm rfl
      show gtsCons (gtName 2) (gtsCons (gtTup 2 (gtsCons (gtName 3) (gtsCons (gtName 4) gtsNil))) gtsNil) [.int j, .ref m] h' = _
      simp only [gtsCons, g3, gtsNil, gtName]
      rfl
    refine ⟨_, gt, ?_⟩
    walk_at "wp"
    refine ro_ix (seq_of_lst (lst_of lx.e)) (atI_nat em2) ?_
    walk_at "wp"
    refine ro_ix (seq_of_tup hm2) rfl ?_
    walk_at "wp"
    refine ro_mul (mulB u1 l2) ?_
    walk_at "wp"
    refine ro_ix (seq_of_lst (lst_of lx.e)) (atI_nat em2) ?_
    walk_at "wp"
    refine ro_ix (seq_of_tup hm2) rfl ?_
    walk_at "wp"
    refine ro_mul (mulB u2 l1) ?_
    walk_at "wp"
    refine ⟨fun hq => ?_, fun hq => ?_⟩
    · have hq := of_decide_eq_true hq
      have eb2 : better cs ns b j = j := by
        unfold better
        rw [if_pos hq]
      walk_at "wp"
      dsimp only
      rw [eb, eb2]
      exact ⟨rfl, _, _, _, rfl⟩
    · have hq := of_decide_eq_false hq
      have eb2 : better cs ns b j = b := by
        unfold better
        rw [if_neg hq]
      walk_at "wp"
      dsimp only
      rw [eb, eb2]
      exact ⟨rfl, _, _, _, rfl⟩
  · rintro σ h' ⟨rfl, a2, a3, a4, rfl⟩
    have jl : (ws.mapIdx fun i w => Yv.pair (.int i) w).length = gs.length := by simp [lws]
    rw [jl]
    walk_at "wp"
    exact q
theorem wr_listZip {E : Exn → Hh → Prop} {Q : W → Hh → Prop} {h : Hh} {σ : Sg} {fs : FA} (q : Wr (fs σ h) E fun ws h1 => ∃ n m xs ys, ws = [.ref n, .ref m] ∧ lstOf h1 n = some xs ∧ lstOf h1 m = some ys ∧ Q (zipT h1 xs ys).1 (zipT h1 xs ys).2) : Wr (fListZip fs σ h) E Q := by
  unfold fListZip
  refine wr_bnd (q.imp (fun _ _ e => e) ?_)
  rintro ws h1 ⟨n, m, xs, ys, rfl, e1, e2, q⟩
  simp only [e1, e2]
  unfold Wr
  exact q
theorem zip_lp {X : List Nat} {h : Hh} {ss cs : List Int} (inX : In X h) : ∃ r h', zipT h (ss.map W.int) (cs.map W.int) = (.ref r, h') ∧ Sub [] h h' ∧ h.length ≤ r ∧ LP X h' r (ss.zip cs) := by
  refine ⟨_, _, rfl, (Sub.refl _ _).new _, Nat.le_add_right _ _, ?_⟩
  have hl : ((ss.map W.int).zip (cs.map W.int)).length = (ss.zip cs).length := by simp
  refine ⟨(List.range ((ss.map W.int).zip (cs.map W.int)).length).map fun j => W.ref (h.length + j), ⟨by simp, ?_⟩, ?_, ?_⟩
  · intro i p e
    have il : i < (ss.zip cs).length := (List.getElem?_eq_some_iff.mp e).1
    refine ⟨h.length + i, by rw [List.getElem?_map, List.getElem?_range (by omega)]; rfl, fun m => by have := inX _ m; omega, ?_⟩
    rw [List.getElem?_append_right (by omega), Nat.add_sub_cancel_left, List.getElem?_append_left (by simp at il ⊢; omega), List.getElem?_map]
    obtain ⟨e1, e2⟩ := List.getElem?_zip_eq_some.mp e
    rw [(List.getElem?_zip_eq_some (z := (W.int p.1, W.int p.2))).mpr ⟨by rw [List.getElem?_map, e1]; rfl, by rw [List.getElem?_map, e2]; rfl⟩]
    rfl
  · rw [List.getElem?_append_right (by omega), Nat.add_sub_cancel_left, List.getElem?_append_right (by simp)]
    simp
  · intro m
    have := inX _ m
    omega
theorem bump_get {cs : List Int} {b i : Nat} (hb : b < cs.length) : (bump cs b).getD i 0 = if i = b then cs.getD b 0 + 1 else cs.getD i 0 := by
  unfold bump
  rw [List.getD_eq_getElem?_getD, List.getElem?_set]
  by_cases e : b = i
  · subst e
    simp [hb]
  · rw [if_neg e, if_neg (Ne.symm e), List.getD_eq_getElem?_getD]
theorem by_product_spec {E : Exn → Hh → Prop} {Q : W → Hh → Prop} {h : Hh} {X : List Nat} {v : Nat} {b : Int} {ps : List (Int × Int)} (lp : LP X h v ps) (inX : In X h) (p0 : 0 < ps.length) (p1 : ps.length ≤ 1000) (pn : Nums 2000 ps) (hs : (nsOf ps).sum ≤ 2000)
    (h1 : 1 ≤ b) (h2 : b ≤ 8) (h3 : (ps.length : Int) ≤ 1 * 2 ^ b.toNat)
    (k : ∀ r h', Sub [] h h' → h.length ≤ r → LP X h' r ((syOf ps).zip (gainsP (nsOf ps) ((1 * 2 ^ b.toNat - ps.length : Int)).toNat)) → Q (.ref r) h') : Wr (m_by_product [.ref v, .int b] h) E Q := by
  have hpn : Nums 1000000000000000000000000000000 ps := ⟨pn.asc, fun p m => by have := pn.pos p m; omega⟩
  have hb8 : (1 : Int) * 2 ^ b.toNat ≤ 256 := by
    obtain ⟨t, rfl⟩ := Int.eq_ofNat_of_zero_le (show 0 ≤ b by omega)
    have : t ≤ 8 := by omega
    have : (2 : Nat) ^ t ≤ 2 ^ 8 := Nat.pow_le_pow_right (by decide) this
    have e : ((2 : Int) ^ (t : Int).toNat) = ((2 ^ t : Nat) : Int) := by simp
    rw [e]
    omega
  unfold m_by_product f_by_product
  refine wr_run rfl ?_
  walk_at "wp"
  refine check_counting_ok lp p0 p1 hpn h1 (by omega) h3 ?_
  walk_at "wp"
  refine ⟨fun hb => absurd (of_decide_eq_true hb) (by omega), fun _ => ?_⟩
  walk_at "wp"
  refine check_sum_ok lp p1 hs fun os => ?_
  obtain ⟨ws, lx0⟩ := lp
  have lws := lx0.len
  have sb0 : Sub [] h (h ++ os) := (Sub.refl _ _).new _
  have lx := lx0.up sb0
  have inX0 := inX.up sb0
  generalize hh : h ++ os = ha at *
  walk_at "wp"
  refine ro_len (seq_of_lst (lst_of (gap lx.e))) ?_
  walk_at "wp"
  refine ro_rep gna (by omega) (by omega) (by simp [LIM]; omega) ?_
  have sbA : Sub [] ha ((ha ++ [O.lst [W.int 1]]) ++ [O.lst (List.replicate (ws.length : Int).toNat [W.int 1]).flatten]) := ((Sub.refl _ _).new _).new _
  have ec : ((ha ++ [O.lst [W.int 1]]) ++ [O.lst (List.replicate (ws.length : Int).toNat [W.int 1]).flatten])[ha.length + 1]? = some (.lst ((gainsP (nsOf ps) 0).map .int)) := by
    have : (ha ++ [O.lst [W.int 1]]).length = ha.length + 1 := by simp
    rw [← this, gna]
    simp [gainsP, List.flatten_replicate_singleton, lws]
  have el : (ha ++ [O.lst [W.int 1]]).length = ha.length + 1 := by simp
  rw [el]
  generalize hhb : (ha ++ [O.lst [W.int 1]]) ++ [O.lst (List.replicate (ws.length : Int).toNat [W.int 1]).flatten] = hb at *
  have lxb := lx.up sbA
  walk_at "wp"
  refine lc_pairs [] [ha.length + 1] (fun _ => True) (fun i p => ∃ q, ps[i]? = some q ∧ p = (((1 : Int) + 1) ^ q.2.toNat, (1 : Int) ^ q.2.toNat)) (by simp) ?_
  walk_at "wp"
  refine ⟨_, _, rfl, lst_of lxb.e, ?_⟩
  refine ⟨ws.map Yv.one, by simp, by simp; omega, fun k m => by simp at m; subst m; exact lt_of_get ec, trivial, fun _ _ _ => trivial, fun _ _ _ => trivial, Sub.refl _ _, ?_, ?_, ?_⟩
  · intro h3 sb3 i _
    exact nxtL_of (lst_of (sb3.get _ _ (by simp) lxb.e))
  · intro i y h3 ey _ sb3
    obtain ⟨w, ew, rfl⟩ := get_map ey
    have il : i < ps.length := by rw [← lws]; exact (List.getElem?_eq_some_iff.mp ew).1
    obtain ⟨m, em, _, hm⟩ := (lxb.up sb3).get i ps[i] (List.getElem?_eq_getElem il)
    rw [em] at ew
    cases ew
    have q1 := pn.pos ps[i] (List.getElem_mem _)
    refine ⟨_, gt_pair hm rfl, rfl, ?_⟩
    walk_at "wp"
    refine gain_spec (by decide) (by decide) (by omega) q1.2 ?_
    exact ⟨_, (((1 : Int) + 1) ^ ps[i].2.toNat, (1 : Int) ^ ps[i].2.toNat), rfl, Nat.le_refl _, gna, ⟨ps[i], List.getElem?_eq_getElem il, rfl⟩, trivial, (Sub.refl _ _).new _⟩
  · intro g hg gs0 _ sbg lg lpg hgl hgT
    have sbC : Sub [] ha hg := sbA.trans sbg
    have lxg := lxb.up sbg
    have hcg := sbg.get _ _ (by simp) ec
    obtain ⟨gws0, gx⟩ := lpg
    have gl1 : ha.length + 1 < hb.length := lt_of_get ec
    have lgn : ha.length + 1 < g := Nat.lt_of_lt_of_le gl1 lg
    have glen : gs0.length = ps.length := by simp [hgl, lws]
    walk_at "wp"
    refine ro_shl (powOk_1 (by omega) (by omega)) ?_
    walk_at "wp"
    refine ro_len (seq_of_lst (lst_of lxg.e)) ?_
    walk_at "wp"
    refine ⟨by simp [rngOk]; omega, ?_⟩
    refine ⟨(List.range (1 * 2 ^ b.toNat - (ws.length : Int)).toNat).map fun k : Nat => Yv.one (.int (0 + k)), fun i σ h' => ∃ a4 a5 a6 gws gs, σ = [some (.ref v), some (.int b), some (.ref (ha.length + 1)), some (.ref g), a4, a5, a6] ∧ Sub [] ha h' ∧ h'[ha.length + 1]? = some (.lst ((gainsP (nsOf ps) i).map .int)) ∧ h'[g]? = some (.lst gws) ∧ PL [ha.length + 1, g] h' gs gws ∧ gs.length = ps.length ∧ (∀ (j : Nat) p, gs[j]? = some p → p = (upP (gainsP (nsOf ps) i) (nsOf ps) j, loP (gainsP (nsOf ps) i) (nsOf ps) j)), by simp, ?_, ?_, ?_, ?_⟩
    · refine ⟨none, none, none, gws0, gs0, rfl, sbC, hcg, gx.e, ⟨gx.len, ?_⟩, glen, ?_⟩
      · intro j p e
        obtain ⟨m, h4, h5, h6⟩ := gx.get j p e
        refine ⟨m, h4, fun mm => ?_, h6⟩
        simp only [List.mem_cons, List.not_mem_nil, or_false] at mm h5
        rcases mm with rfl | rfl
        · exact h5 rfl
        · rw [gx.e] at h6; cases h6
      · intro j p e
        obtain ⟨q, e1, rfl⟩ := hgT j p e
        have jl : j < ps.length := (List.getElem?_eq_some_iff.mp e1).1
        have c0 : (gainsP (nsOf ps) 0).getD j 0 = 1 := getD_of (by simp [gainsP, jl])
        unfold upP loP
        rw [c0, ns_get e1]
    · rintro i σ h' _ _
      exact nxtR_of (h := h')
    · rintro i y σ h' ey ⟨a4, a5, a6, gws, gs, rfl, sb, hc, hgw, pl, gl, gp⟩
      obtain ⟨k1, ek, rfl⟩ := get_map ey
      obtain ⟨rfl, hk⟩ := get_range ek
      have lx' := lx.up sb
      have cl := gainsP_len (nsOf ps) k1
      have n0 : 0 < (nsOf ps).length := by simpa using p0
      have nl : (nsOf ps).length = ps.length := by simp
      have hk8 : (k1 : Int) ≤ 256 := by omega
      refine ⟨_, rfl, ?_⟩
      walk_at "wp"
      refine greatest_spec (X := []) (cs := gainsP (nsOf ps) k1) (ns := nsOf ps) ⟨gws, pl.hide (by simp), hgw, by simp⟩ (by omega) ?_ ?_
      · intro j p e
        have jl : j < ps.length := by rw [← gl]; exact (List.getElem?_eq_some_iff.mp e).1
        have c1 := gainsP_get (nsOf ps) (k := k1) (i := j) (by omega)
        have q1 := pn.pos ps[j] (List.getElem_mem _)
        have n1 := ns_get (List.getElem?_eq_getElem jl)
        refine ⟨gp j p e, ?_, ?_⟩
        · unfold upP
          rw [n1]
          exact pow_bound (by omega) (by omega) (by omega)
        · unfold loP
          rw [n1]
          exact pow_bound (by omega) (by omega) (by omega)
      have hb := best_lt (gainsP (nsOf ps) k1) (nsOf ps) gs.length ps.length (by omega) p0
      have eg : gainsP (nsOf ps) (k1 + 1) = bump (gainsP (nsOf ps) k1) (best (gainsP (nsOf ps) k1) (nsOf ps) gs.length) := by rw [gl, ← nl]; rfl
      generalize hbe : best (gainsP (nsOf ps) k1) (nsOf ps) gs.length = bb at *
      have e2 : ((gainsP (nsOf ps) k1).map W.int)[bb]? = some (.int ((gainsP (nsOf ps) k1).getD bb 0)) := by rw [List.getElem?_map, get_of_lt (by omega)]; rfl
      have c2 := gainsP_get (nsOf ps) (k := k1) (i := bb) (by omega)
      have q2 := pn.pos ps[bb] (List.getElem_mem _)
      have n2 := ns_get (List.getElem?_eq_getElem hb)
      have lc' : ha.length + 1 < h'.length := lt_of_get hc
      obtain ⟨m2, em2, m2X, hm2⟩ := lx'.get bb ps[bb] (List.getElem?_eq_getElem hb)
      walk_at "wp"
      refine ⟨_, _, _, _, rfl, rfl, lst_of hc, atI_nat e2, ?_⟩
      walk_at "wp"
      refine ⟨_, _, hc, ixN_nat (by simp; omega), ?_⟩
      have hm : ((gainsP (nsOf ps) k1).map W.int).set bb (.int ((gainsP (nsOf ps) k1).getD bb 0 + 1)) = (gainsP (nsOf ps) (k1 + 1)).map .int := by
        rw [eg]
        unfold bump
        rw [List.map_set]
      rw [hm]
      have hc2 : (h'.set (ha.length + 1) (.lst ((gainsP (nsOf ps) (k1 + 1)).map .int)))[ha.length + 1]? = some (.lst ((gainsP (nsOf ps) (k1 + 1)).map .int)) := gss lc'
      have sb2 : Sub [] ha (h'.set (ha.length + 1) (.lst ((gainsP (nsOf ps) (k1 + 1)).map .int))) := sb.set (.inr (by omega))
      have sb3 : Sub [ha.length + 1] h' (h'.set (ha.length + 1) (.lst ((gainsP (nsOf ps) (k1 + 1)).map .int))) := (Sub.refl _ _).set (.inl (by simp))
      have hgw2 := sb3.get _ _ (by simp; omega) hgw
      have pl2 := pl.up sb3 (by simp)
      have lx2 := lx.up sb2
      generalize hh2 : h'.set (ha.length + 1) (.lst ((gainsP (nsOf ps) (k1 + 1)).map .int)) = h2 at *
      obtain ⟨m3, em3, m3X, hm3⟩ := lx2.get bb ps[bb] (List.getElem?_eq_getElem hb)
      have e3 : ((gainsP (nsOf ps) (k1 + 1)).map W.int)[bb]? = some (.int ((gainsP (nsOf ps) k1).getD bb 0 + 1)) := by
        rw [List.getElem?_map, get_of_lt (by rw [gainsP_len]; omega), eg, bump_get (by omega), if_pos rfl]; rfl
      walk_at "wp"
      refine ro_ix (seq_of_lst (lst_of hc2)) (atI_nat e3) ?_
      walk_at "wp"
      refine ro_ix (seq_of_lst (lst_of lx2.e)) (atI_nat em3) ?_
      walk_at "wp"
      refine ro_ix (seq_of_tup hm3) rfl ?_
      walk_at "wp"
      refine gain_spec (by omega) (by omega) (by omega) q2.2 ?_
      walk_at "wp"
      have glw : gws.length = gs.length := pl.len
      have hg3 : g < h2.length := lt_of_get hgw2
      refine ⟨_, _, _, _, rfl, rfl, gap hgw2, ixN_nat (by omega), ?_⟩
      walk_at "wp"
      have sb4 : Sub [] h2 (h2 ++ [O.tup [W.int (((gainsP (nsOf ps) k1).getD bb 0 + 1 + 1) ^ ps[bb].2.toNat), W.int (((gainsP (nsOf ps) k1).getD bb 0 + 1) ^ ps[bb].2.toNat)]]) := (Sub.refl _ _).new _
      refine ⟨_, _, _, gws.set bb (.ref h2.length), gs.set bb (((gainsP (nsOf ps) k1).getD bb 0 + 1 + 1) ^ ps[bb].2.toNat, ((gainsP (nsOf ps) k1).getD bb 0 + 1) ^ ps[bb].2.toNat), rfl, (sb2.trans sb4).set (.inr (by omega)), gsn (by omega) (gap hc2), gss (by simp; omega), ?_, by simp [gl], ?_⟩
      · have p5 := (pl2.up sb4).set (a := ((gainsP (nsOf ps) k1).getD bb 0 + 1 + 1) ^ ps[bb].2.toNat) (b := ((gainsP (nsOf ps) k1).getD bb 0 + 1) ^ ps[bb].2.toNat) (m := h2.length) (j := bb) (by
          intro mm
          simp only [List.mem_cons, List.not_mem_nil, or_false] at mm
          have := lt_of_get hc2
          omega) gna
        exact p5.up ((Sub.refl [g] _).set (.inl (by simp))) (by simp)
      · intro j p e
        have jl : j < gs.length := by simpa using (List.getElem?_eq_some_iff.mp e).1
        unfold upP loP
        rw [eg, bump_get (by omega)]
        by_cases hj : bb = j
        · subst hj
          rw [List.getElem?_set_self jl] at e
          cases e
          rw [if_pos rfl, n2]
        · rw [List.getElem?_set_ne hj] at e
          rw [if_neg (Ne.symm hj)]
          exact gp j p e
    · rintro σ h' ⟨a4, a5, a6, gws, gs, rfl, sb, hc, hgw, pl, gl, gp⟩
      have hlr : ((List.range (1 * 2 ^ b.toNat - (ws.length : Int)).toNat).map fun k : Nat => Yv.one (.int (0 + k))).length = ((1 * 2 ^ b.toNat - ps.length : Int)).toNat := by simp [lws]
      rw [hlr] at hc
      have lx' := lx.up sb
      walk_at "wp"
      unfold m_named f_named
      refine wr_run rfl ?_
      walk_at "wp"
      refine wr_listZip ?_
      walk_at "wp"
      refine syms_spec ⟨ws, lx'⟩ p1 ?_
      walk_at "wp"
      refine ⟨_, _, _, _, rfl, lst_of gna, lst_of (gap hc), ?_⟩
      obtain ⟨r, h9, ez, sbz, lr, lpz⟩ := zip_lp (X := X) (h := h' ++ [O.lst ((syOf ps).map W.int)]) (ss := syOf ps) (cs := gainsP (nsOf ps) ((1 * 2 ^ b.toNat - ps.length : Int)).toNat) ((inX0.up sb).up ((Sub.refl [] _).new _))
      rw [ez]
      walk_at "wp"
      refine k r h9 (((sb0.trans sb).trans ((Sub.refl _ _).new _)).trans sbz) ?_ lpz
      have := sb0.len
      have := sb.len
      simp at lr
      omega
end Law
set_option Elab.async false
set_option linter.all false
set_option maxRecDepth 100000
set_option maxHeartbeats 4250000
namespace Law
open PySem PySem.Spec L2 Sp
def prodP (cs ns : List Int) : Nat → Int
  | 0 => 1
  | k + 1 => prodP cs ns k * (cs.getD k 0) ^ (ns.getD k 0).toNat
/-- counts for the numbers ps -/
structure CtOk (ps qs : List (Int × Int)) : Prop where
  sy : syOf qs = syOf ps
  c : ∀ q ∈ qs, 1 ≤ q.2 ∧ q.2 ≤ 8192
  s : ∃ t : Nat, t < 13 ∧ 0 < t ∧ (nsOf qs).sum = 2 ^ t
theorem CtOk.len {ps qs : List (Int × Int)} (c : CtOk ps qs) : qs.length = ps.length := by
  have := congrArg List.length c.sy
  simpa using this
theorem prodP_bound {ps qs : List (Int × Int)} (pn : Nums 2000 ps) (co : CtOk ps qs) : ∀ k : Nat, k ≤ ps.length → (prodP (nsOf qs) (nsOf ps) k).natAbs < 2 ^ (26001 * k + 1)
  | 0, _ => by simp [prodP]
  | k + 1, h => by
    have ih := prodP_bound pn co k (by omega)
    have kl : k < ps.length := by omega
    have kq : k < qs.length := by rw [co.len]; exact kl
    have h1 := co.c qs[k] (List.getElem_mem _)
    have h2 := pn.pos ps[k] (List.getElem_mem _)
    show (prodP (nsOf qs) (nsOf ps) k * _ ^ _).natAbs < _
    rw [ns_get (List.getElem?_eq_getElem kl), ns_get (List.getElem?_eq_getElem kq), Int.natAbs_mul]
    have b := pow_bound (b := qs[k].2) (n := ps[k].2.toNat) (by omega) (by omega) (by omega)
    have e : 26001 * (k + 1) + 1 = (26001 * k + 1) + 26001 := by omega
    rw [e, Nat.pow_add]
    exact Nat.mul_lt_mul'' ih b
theorem prod_mul {ps qs : List (Int × Int)} (pn : Nums 2000 ps) (co : CtOk ps qs) {k : Nat} (h : k < ps.length) (l : ps.length ≤ 30) (kq : k < qs.length) : mulOk (prodP (nsOf qs) (nsOf ps) k) (qs[k].2 ^ ps[k].2.toNat) = true := by
  have h1 := co.c qs[k] (List.getElem_mem _)
  have h2 := pn.pos ps[k] (List.getElem_mem _)
  exact mulOk_b (26001 * k + 1) 26001 (prodP_bound pn co k (by omega)) (pow_bound (by omega) (by omega) (by omega)) (by omega) (by decide) (by omega)
theorem prodP_succ {ps qs : List (Int × Int)} {k : Nat} (h : k < ps.length) (kq : k < qs.length) : prodP (nsOf qs) (nsOf ps) (k + 1) = prodP (nsOf qs) (nsOf ps) k * qs[k].2 ^ ps[k].2.toNat := by
  show prodP (nsOf qs) (nsOf ps) k * _ ^ _ = _
  rw [ns_get (List.getElem?_eq_getElem h), ns_get (List.getElem?_eq_getElem kq)]
theorem law_product_spec {E : Exn → Hh → Prop} {Q : W → Hh → Prop} {h : Hh} {X Y : List Nat} {v u : Nat} {ps qs : List (Int × Int)} (lp : LP X h v ps) (lq : LP Y h u qs) (pn : Nums 2000 ps) (co : CtOk ps qs) (l : ps.length ≤ 30) (q : Q (.int (prodP (nsOf qs) (nsOf ps) ps.length)) h) : Wr (m__law_product [.ref v, .ref u] h) E Q := by
  obtain ⟨ws, lx⟩ := lp
  obtain ⟨us, lu⟩ := lq
  have lws := lx.len
  have lqs := co.len
  unfold m__law_product f__law_product
  refine wr_run rfl ?_
  walk_at "wp"
  refine ⟨_, _, rfl, lst_of lx.e, ?_⟩
  refine ⟨ws.mapIdx fun i w => Yv.pair (.int i) w, fun i σ h' => h' = h ∧ ∃ a3 a4, σ = [some (.ref v), some (.ref u), some (.int (prodP (nsOf qs) (nsOf ps) i)), a3, a4], by simp, ⟨rfl, none, none, rfl⟩, ?_, ?_, ?_⟩
  · rintro i σ h' _ ⟨rfl, _⟩
    exact nxtE_of (lst_of lx.e)
  · rintro j y σ h' ey ⟨rfl, a3, a4, rfl⟩
    obtain ⟨w, ew, rfl⟩ := get_mapIdx ey
    have jl : j < ps.length := by rw [← lws]; exact (List.getElem?_eq_some_iff.mp ew).1
    have jq : j < qs.length := by omega
    obtain ⟨m, em, _, hm⟩ := lx.get j ps[j] (List.getElem?_eq_getElem jl)
    rw [em] at ew
    cases ew
    obtain ⟨m2, em2, _, hm2⟩ := lu.get j qs[j] (List.getElem?_eq_getElem jq)
    have h1 := co.c qs[j] (List.getElem_mem _)
    have h2 := pn.pos ps[j] (List.getElem_mem _)
    refine ⟨_, rfl, ?_⟩
    walk_at "wp"
    refine ro_ix (seq_of_lst (lst_of lu.e)) (atI_nat em2) ?_
    walk_at "wp"
    refine ro_ix (seq_of_tup hm2) rfl ?_
    walk_at "wp"
    refine ro_ix (seq_of_tup hm) rfl ?_
    walk_at "wp"
    refine times_spec (by omega) (by omega) (by omega) ?_
    walk_at "wp"
    refine ro_mul (prod_mul pn co jl l jq) ?_
    walk_at "wp"
    dsimp only
    rw [prodP_succ jl jq]
    exact ⟨rfl, _, _, rfl⟩
  · rintro σ h' ⟨rfl, a3, a4, rfl⟩
    have jl : (ws.mapIdx fun i w => Yv.pair (.int i) w).length = ps.length := by simp [lws]
    rw [jl]
    walk_at "wp"
    exact q
theorem product_of_spec {E : Exn → Hh → Prop} {Q : W → Hh → Prop} {h : Hh} {X Y : List Nat} {v u : Nat} {ps qs : List (Int × Int)} (lp : LP X h v ps) (lq : LP Y h u qs) (pn : Nums 2000 ps) (co : CtOk ps qs) (l : ps.length ≤ 30) (q : Q (.int (prodP (nsOf qs) (nsOf ps) ps.length)) h) : Wr (m_product_of [.ref v, .ref u] h) E Q := by
  obtain ⟨ws, lx⟩ := lp
  obtain ⟨us, lu⟩ := lq
  have lws := lx.len
  have lus := lu.len
  have lqs := co.len
  unfold m_product_of f_product_of
  refine wr_run rfl ?_
  walk_at "wp"
  refine ⟨_, _, _, _, rfl, lst_of lx.e, lst_of lu.e, ?_⟩
  refine ⟨(ws.zip us).map fun p => Yv.pair p.1 p.2, fun i σ h' => h' = h ∧ ∃ a3 a4 a5, σ = [some (.ref v), some (.ref u), some (.int (prodP (nsOf qs) (nsOf ps) i)), a3, a4, a5], by simp; omega, ⟨rfl, none, none, none, rfl⟩, ?_, ?_, ?_⟩
  · rintro i σ h' _ ⟨rfl, _⟩
    exact nxtZ_of (lst_of lx.e) (lst_of lu.e)
  · rintro j y σ h' ey ⟨rfl, a3, a4, a5, rfl⟩
    obtain ⟨⟨w1, w2⟩, ew, rfl⟩ := get_map ey
    obtain ⟨ew1, ew2⟩ := get_zip ew
    have jl : j < ps.length := by rw [← lws]; exact (List.getElem?_eq_some_iff.mp ew1).1
    have jq : j < qs.length := by omega
    obtain ⟨m, em, _, hm⟩ := lx.get j ps[j] (List.getElem?_eq_getElem jl)
    dsimp only at ew1 ew2
    rw [em] at ew1
    cases ew1
    obtain ⟨m2, em2, _, hm2⟩ := lu.get j qs[j] (List.getElem?_eq_getElem jq)
    rw [em2] at ew2
    cases ew2
    have h1 := co.c qs[j] (List.getElem_mem _)
    have h2 := pn.pos ps[j] (List.getElem_mem _)
    have gt : gtTup 2 (gtsCons (gtTup 2 (gtsCons (gtName 3) (gtsCons (gtName 4) gtsNil))) (gtsCons (gtTup 2 (gtsCons (gtName 3) (gtsCons (gtName 5) gtsNil))) gtsNil)) (.pair (.ref m) (.ref m2)) h' = some [(3, .int ps[j].1), (4, .int ps[j].2), (3, .int qs[j].1), (5, .int qs[j].2)] := by
      have g3 := gt_pair (n := 2) (gs := gtsCons (gtName 3) (gtsCons (gtName 4) gtsNil)) hm rfl
      have g4 := gt_pair (n := 2) (gs := gtsCons (gtName 3) (gtsCons (gtName 5) gtsNil)) hm2 rfl
      show gtsCons (gtTup 2 (gtsCons (gtName 3) (gtsCons (gtName 4) gtsNil))) (gtsCons (gtTup 2 (gtsCons (gtName 3) (gtsCons (gtName 5) gtsNil))) gtsNil) [.ref m, .ref m2] h' = _
      simp only [gtsCons, g3, g4, gtsNil, gtName]
      rfl
    refine ⟨_, gt, ?_⟩
    walk_at "wp"
    refine power_spec (by omega) (by omega) (by omega) (by omega) ?_
    walk_at "wp"
    refine ro_mul (prod_mul pn co jl l jq) ?_
    walk_at "wp"
    dsimp only
    rw [prodP_succ jl jq]
    exact ⟨rfl, _, _, _, rfl⟩
  · rintro σ h' ⟨rfl, a3, a4, a5, rfl⟩
    have jl : ((ws.zip us).map fun p => Yv.pair p.1 p.2).length = ps.length := by simp [lws, lus]; omega
    rw [jl]
    walk_at "wp"
    exact q
theorem bitAnd_pow : ∀ t, t < 13 → Builtin.bitAnd (2 ^ t) (2 ^ t - 1) = 0 := by decide +kernel
theorem asc_up {lo : Int} {xs : List Int} : Asc lo xs → Asc lo xs := id
theorem are_counts_yes {E : Exn → Hh → Prop} {Q : W → Hh → Prop} {h : Hh} {v u : Nat} {ps qs : List (Int × Int)} (lp : LP [] h v ps) (lq : LP [] h u qs) (p0 : 0 < ps.length) (pn : Nums 2000 ps) (co : CtOk ps qs) (l : ps.length ≤ 1000) (q : ∀ os, Q (.bl true) (h ++ os)) : Wr (m_are_counts_for [.ref u, .ref v] h) E Q := by
  have lqs := co.len
  obtain ⟨t, t1, t0, hs⟩ := co.s
  have qn : Nums 1000000000000000000000000000000 qs := ⟨by rw [show qs.map (·.1) = ps.map (·.1) from co.sy]; exact pn.asc, fun p m => by have := co.c p m; omega⟩
  unfold m_are_counts_for f_are_counts_for m_is_counts f_is_counts m_is_size f_is_size
  refine wr_run rfl ?_
  walk_at "wp"
  refine wr_run rfl ?_
  walk_at "wp"
  refine is_numbers_yes lq (by omega) (by omega) qn ?_
  walk_at "wp"
  refine sum_spec lq (by omega) ?_
  walk_at "wp"
  refine wr_run rfl ?_
  walk_at "wp"
  rw [hs]
  have hp1 : (2 : Int) ≤ 2 ^ t := by
    have : (2 : Nat) ^ 1 ≤ 2 ^ t := Nat.pow_le_pow_right (by decide) t0
    have e : ((2 : Int) ^ t) = ((2 ^ t : Nat) : Int) := by simp
    rw [e]; omega
  have hp2 : (2 : Int) ^ t ≤ 4096 := by
    have : (2 : Nat) ^ t ≤ 2 ^ 12 := Nat.pow_le_pow_right (by decide) (by omega)
    have e : ((2 : Int) ^ t) = ((2 ^ t : Nat) : Int) := by simp
    rw [e]; omega
  refine ⟨fun _ => ?_, fun hb => absurd hp1 (of_decide_eq_false hb)⟩
  walk_at "wp"
  refine ro_shl (by decide) ?_
  walk_at "wp"
  refine ⟨fun _ => ?_, fun hb => absurd hp2 (of_decide_eq_false hb)⟩
  walk_at "wp"
  rw [bitAnd_pow t t1]
  walk_at "wp"
  refine syms_spec (lq.up ((Sub.refl [] _).new _)) (by omega) ?_
  walk_at "wp"
  refine syms_spec (lp.up (((Sub.refl [] _).new _).new _)) (by omega) ?_
  walk_at "wp"
  refine ro_eqS (X := []) (d := .list ((syOf ps).map .int)) (.lst (vw_some.mpr ⟨by simp, gap gna⟩) ?_) (.lst (vw_some.mpr ⟨by simp, gna⟩) (rps_ints_mk _)) (shaped_ints _) ?_
  · rw [co.sy]; exact rps_ints_mk _
  · have := q (([O.lst ((nsOf qs).map W.int)] ++ [O.lst ((syOf qs).map W.int)]) ++ [O.lst ((syOf ps).map W.int)])
    rw [← List.append_assoc, ← List.append_assoc] at this
    walk_at "wp"
    exact this
def ordP (p q : Int) : Int := if p < q then -1 else if q < p then 1 else 0
theorem product_order_spec {E : Exn → Hh → Prop} {Q : W → Hh → Prop} {h : Hh} {v a b : Nat} {ps qs us : List (Int × Int)} (lp : LP [] h v ps) (lq : LP [] h a qs) (lu : LP [] h b us) (p0 : 0 < ps.length) (pn : Nums 2000 ps) (hs : (nsOf ps).sum ≤ 2000) (co : CtOk ps qs) (cu : CtOk ps us) (l : ps.length ≤ 30)
    (q : ∀ os, Q (.int (ordP (prodP (nsOf qs) (nsOf ps) ps.length) (prodP (nsOf us) (nsOf ps) ps.length))) (h ++ os)) : Wr (m_product_order [.ref v, .ref a, .ref b] h) E Q := by
  have hpn : Nums 1000000000000000000000000000000 ps := ⟨pn.asc, fun p m => by have := pn.pos p m; omega⟩
  unfold m_product_order f_product_order
  refine wr_run rfl ?_
  walk_at "wp"
  refine check_numbers_ok lp p0 (by omega) hpn ?_
  walk_at "wp"
  refine are_counts_yes lp lq p0 pn co (by omega) fun os1 => ?_
  walk_at "wp"
  refine are_counts_yes (lp.up ((Sub.refl [] _).new _)) (lu.up ((Sub.refl [] _).new _)) p0 pn cu (by omega) fun os2 => ?_
  have s2 : Sub [] h (h ++ os1 ++ os2) := ((Sub.refl [] _).new _).new _
  walk_at "wp"
  refine check_sum_ok (lp.up s2) (by omega) hs fun os3 => ?_
  have s3 : Sub [] h (h ++ os1 ++ os2 ++ os3) := s2.new _
  walk_at "wp"
  refine product_of_spec (lp.up s3) (lq.up s3) pn co l ?_
  walk_at "wp"
  refine product_of_spec (lp.up s3) (lu.up s3) pn cu l ?_
  walk_at "wp"
  have q9 := q (os1 ++ os2 ++ os3)
  rw [← List.append_assoc, ← List.append_assoc] at q9
  unfold ordP at q9
  refine ⟨fun hb => ?_, fun hb => ?_⟩
  · have hb := of_decide_eq_true hb
    walk_at "wp"
    rw [if_pos hb] at q9
    exact q9
  · have hb := of_decide_eq_false hb
    rw [if_neg hb] at q9
    walk_at "wp"
    refine ⟨fun hc => ?_, fun hc => ?_⟩
    · have hc := of_decide_eq_true hc
      rw [if_pos hc] at q9
      walk_at "wp"
      exact q9
    · have hc := of_decide_eq_false hc
      rw [if_neg hc] at q9
      walk_at "wp"
      exact q9
end Law
set_option Elab.async false
set_option linter.all false
set_option maxRecDepth 100000
set_option maxHeartbeats 4250000
namespace Law
open PySem PySem.Spec L2 Sp
theorem order_right_spec {E : Exn → Hh → Prop} {Q : W → Hh → Prop} {h : Hh} {v a b : Nat} {ps qs us : List (Int × Int)} (lp : LP [] h v ps) (lq : LP [] h a qs) (lu : LP [] h b us) (p0 : 0 < ps.length) (pn : Nums 2000 ps) (hs : (nsOf ps).sum ≤ 2000) (co : CtOk ps qs) (cu : CtOk ps us) (l : ps.length ≤ 30)
    (q : ∀ os, Q (.bl true) (h ++ os)) : Wr (m__law_order_right [.ref v, .ref a, .ref b] h) E Q := by
  unfold m__law_order_right f__law_order_right
  refine wr_run rfl ?_
  walk_at "wp"
  refine law_product_spec lp lq pn co l ?_
  walk_at "wp"
  refine law_product_spec lp lu pn cu l ?_
  walk_at "wp"
  have key : ∀ due : Int, due = ordP (prodP (nsOf qs) (nsOf ps) ps.length) (prodP (nsOf us) (nsOf ps) ps.length) → due = - ordP (prodP (nsOf us) (nsOf ps) ps.length) (prodP (nsOf qs) (nsOf ps) ps.length) ∧ True := by
    intro due hd
    refine ⟨?_, trivial⟩
    rw [hd]
    unfold ordP
    split <;> split <;> first | omega | (split <;> omega)
  refine ⟨fun hb => ?_, fun hb => ?_⟩
  case' refine_2 =>
    walk_at "wp"
    refine ⟨fun hc => ?_, fun hc => ?_⟩
  all_goals
    walk_at "wp"
    refine product_order_spec lp lq lu p0 pn hs co cu l fun os1 => ?_
  case' refine_1 =>
    have hd : (0 : Int) = ordP (prodP (nsOf qs) (nsOf ps) ps.length) (prodP (nsOf us) (nsOf ps) ps.length) := by
      have hb := of_decide_eq_true hb
      unfold ordP
      simp [hb]
  case' refine_2.refine_1 =>
    have hd : (1 : Int) = ordP (prodP (nsOf qs) (nsOf ps) ps.length) (prodP (nsOf us) (nsOf ps) ps.length) := by
      have hc := of_decide_eq_true hc
      unfold ordP
      rw [if_neg (by omega), if_pos (by omega)]
  case' refine_2.refine_2 =>
    have hd : (-1 : Int) = ordP (prodP (nsOf qs) (nsOf ps) ps.length) (prodP (nsOf us) (nsOf ps) ps.length) := by
      have hb := of_decide_eq_false hb
      have hc := of_decide_eq_false hc
      unfold ordP
      rw [if_pos (by omega)]
  all_goals
    have hk := (key _ hd).1
    walk_at "wp"
    refine ⟨fun he => absurd hd.symm (of_decide_eq_true he), fun _ => ?_⟩
    have s1 : Sub [] h (h ++ os1) := (Sub.refl _ _).new _
    walk_at "wp"
    refine product_order_spec (lp.up s1) (lu.up s1) (lq.up s1) p0 pn hs cu co l fun os2 => ?_
    have s2 : Sub [] h (h ++ os1 ++ os2) := s1.new _
    walk_at "wp"
    refine ⟨fun he => absurd (of_decide_eq_true he) (by omega), fun _ => ?_⟩
    walk_at "wp"
    refine product_order_spec (lp.up s2) (lq.up s2) (lu.up s2) p0 pn hs co cu l fun os3 => ?_
    walk_at "wp"
    rw [decide_eq_true hd.symm]
    have q9 := q (os1 ++ os2 ++ os3)
    rw [← List.append_assoc, ← List.append_assoc] at q9
    exact q9
end Law
set_option Elab.async false
set_option linter.all false
set_option maxRecDepth 100000
set_option maxHeartbeats 4250000
namespace Law
open PySem PySem.Spec L2 Sp
theorem sum_le : ∀ {ps : List (Int × Int)}, (∀ p ∈ ps, p.2 ≤ 40) → (nsOf ps).sum ≤ 40 * ps.length
  | [], _ => by simp
  | p :: ps, h => by
    have ih := sum_le (ps := ps) fun q m => h q (by simp [m])
    have := h p (by simp)
    simp only [nsOf, List.map_cons, List.sum_cons, List.length_cons] at ih ⊢
    omega
theorem gains_ct {ps : List (Int × Int)} {ns : List Int} (l : ns.length = ps.length) (p0 : 0 < ps.length) (t : Nat) (t0 : 0 < t) (t1 : t < 13) (hl : ps.length ≤ 2 ^ t) : CtOk ps ((syOf ps).zip (gainsP ns (1 * 2 ^ ((t : Nat) : Int).toNat - ps.length : Int).toNat)) := by
  have gl := gainsP_len ns (1 * 2 ^ ((t : Nat) : Int).toNat - ps.length : Int).toNat
  have e : ((2 : Int) ^ t) = ((2 ^ t : Nat) : Int) := by simp
  have h12 : (2 : Nat) ^ t ≤ 2 ^ 12 := Nat.pow_le_pow_right (by decide) (by omega)
  have hn : nsOf ((syOf ps).zip (gainsP ns (1 * 2 ^ ((t : Nat) : Int).toNat - ps.length : Int).toNat)) = gainsP ns (1 * 2 ^ ((t : Nat) : Int).toNat - ps.length : Int).toNat := List.map_snd_zip (by rw [gl, List.length_map]; omega)
  have hstep : (((1 * 2 ^ ((t : Nat) : Int).toNat - ps.length : Int).toNat : Nat) : Int) = 2 ^ t - ps.length := by
    simp only [Int.toNat_natCast, Int.one_mul]
    rw [e]
    omega
  refine ⟨List.map_fst_zip (by rw [gl, List.length_map]; omega), ?_, t, t1, t0, ?_⟩
  · intro q m
    have mm : q.2 ∈ nsOf ((syOf ps).zip (gainsP ns (1 * 2 ^ ((t : Nat) : Int).toNat - ps.length : Int).toNat)) := List.mem_map_of_mem m
    rw [hn] at mm
    have := gainsP_pos ns (by omega) _ _ mm
    rw [hstep, e] at this
    omega
  · rw [hn, gainsP_sum ns (by omega), hstep]
    omega
theorem pow_spec {E : Exn → Hh → Prop} {Q : W → Hh → Prop} {h : Hh} {b : Int} (h1 : 0 ≤ b) (h2 : b ≤ 12) (q : Q (.int (1 * 2 ^ b.toNat)) h) : Wr (m__law_power [.int b] h) E Q := by
  unfold m__law_power f__law_power
  refine wr_run rfl ?_
  walk_at "wp"
  refine ro_shl (powOk_1 h1 h2) ?_
  walk_at "wp"
  exact q
theorem LP.copy {X : List Nat} {h : Hh} {v : Nat} {ps : List (Int × Int)} {ws : List W} (lx : LPx X h v ps ws) (inX : In X h) : LP X (h ++ [.lst ws]) h.length ps := ⟨ws, lx.toPL.up ((Sub.refl [] _).new _), gna, fun m => by have := inX _ m; omega⟩
theorem pairs_eq {E : Exn → Hh → Prop} {Q : W → Hh → Prop} {X : List Nat} {h : Hh} {v u : Nat} {ps : List (Int × Int)} {neg : Bool} (l1 : LP X h v ps) (l2 : LP X h u ps) (q : Q (.bl (!neg)) h) : Wr (toRs (oEqB neg (.ref v) (.ref u) h)) E Q := ro_eqS l1.rp l2.rp (shaped_pairs _) q
theorem two_pow_small {t : Nat} (h1 : 3 ≤ t) : 6 ≤ 2 ^ t := by
  have : (2 : Nat) ^ 3 ≤ 2 ^ t := Nat.pow_le_pow_right (by decide) h1
  omega
theorem bern (x : Nat) : ∀ n : Nat, x ^ n * (x + n + 1) ≤ (x + 1) ^ (n + 1)
  | 0 => by simp
  | n + 1 => by
    have ih := bern x n
    have h1 : x * (x + (n + 1) + 1) ≤ (x + n + 1) * (x + 1) := by
      have : n * x = x * n := Nat.mul_comm n x
      simp only [Nat.mul_add, Nat.add_mul, Nat.mul_one, Nat.one_mul]
      omega
    have h2 : x ^ (n + 1) * (x + (n + 1) + 1) ≤ x ^ n * (x + n + 1) * (x + 1) := by
      rw [Nat.pow_succ, Nat.mul_assoc, Nat.mul_assoc]
      exact Nat.mul_le_mul_left _ h1
    exact Nat.le_trans h2 (by rw [Nat.pow_succ (x + 1) (n + 1)]; exact Nat.mul_le_mul_right _ ih)
theorem ineqN (x y : Nat) (h1 : 1 ≤ x) (h2 : x ≤ 4093) (hy : x + y = 4095) : (y + 1) * x ^ 1999 < y * (x + 1) ^ 1999 := by
  by_cases hx : x = 4093
  · obtain rfl : y = 2 := by omega
    subst hx
    decide +kernel
  · have b := bern x 1998
    have p : 0 < x ^ 1998 := Nat.pow_pos (by omega)
    have e : (y + 1) * x ^ 1999 = x ^ 1998 * ((y + 1) * x) := by
      rw [show 1999 = 1998 + 1 from rfl, Nat.pow_succ, Nat.mul_left_comm]
    have l : (y + 1) * x < y * (x + 1998 + 1) := by
      simp only [Nat.mul_add, Nat.add_mul, Nat.one_mul]
      omega
    rw [e]
    refine Nat.lt_of_lt_of_le (Nat.mul_lt_mul_of_pos_left l p) ?_
    rw [Nat.mul_left_comm]
    exact Nat.mul_le_mul_left _ b
theorem ineqZ (x : Int) (h1 : 1 ≤ x) (h2 : x ≤ 4093) : (4096 - x) * x ^ 1999 < (4095 - x) * (x + 1) ^ 1999 := by
  obtain ⟨k, rfl⟩ := Int.eq_ofNat_of_zero_le (show 0 ≤ x by omega)
  obtain ⟨y, hy⟩ : ∃ y : Nat, k + y = 4095 := ⟨4095 - k, by omega⟩
  have := ineqN k y (by omega) (by omega) hy
  rw [show (4096 : Int) - (k : Int) = ((y + 1 : Nat) : Int) by omega, show (4095 : Int) - (k : Int) = ((y : Nat) : Int) by omega, show (k : Int) + 1 = ((k + 1 : Nat) : Int) by omega]
  rw [← Int.natCast_pow, ← Int.natCast_pow, ← Int.natCast_mul, ← Int.natCast_mul]
  exact Int.ofNat_lt.mpr this
theorem lp_two {h : Hh} {n m1 m2 : Nat} {a b c d : Int} (e : h[n]? = some (.lst [.ref m1, .ref m2])) (e1 : h[m1]? = some (.tup [.int a, .int b])) (e2 : h[m2]? = some (.tup [.int c, .int d])) : LP [] h n [(a, b), (c, d)] :=
  ⟨_, (PL.nil.snoc (by simp) e1).snoc (by simp) e2, e, by simp⟩
theorem lp_three {h : Hh} {n m1 m2 m3 : Nat} {a b c d a3 b3 : Int} (e : h[n]? = some (.lst [.ref m1, .ref m2, .ref m3])) (e1 : h[m1]? = some (.tup [.int a, .int b])) (e2 : h[m2]? = some (.tup [.int c, .int d])) (e3 : h[m3]? = some (.tup [.int a3, .int b3])) : LP [] h n [(a, b), (c, d), (a3, b3)] :=
  ⟨_, ((PL.nil.snoc (by simp) e1).snoc (by simp) e2).snoc (by simp) e3, e, by simp⟩
theorem product_order_spec' {E : Exn → Hh → Prop} {Q : W → Hh → Prop} {h : Hh} {v a b : Nat} {ps qs us : List (Int × Int)} (lp : LP [] h v ps) (lq : LP [] h a qs) (lu : LP [] h b us) (p0 : 0 < ps.length) (pn : Nums 2000 ps) (hs : (nsOf ps).sum ≤ 2000) (co : CtOk ps qs) (cu : CtOk ps us) (l : ps.length ≤ 30)
    (q : ∀ h', Sub [] h h' → Q (.int (ordP (prodP (nsOf qs) (nsOf ps) ps.length) (prodP (nsOf us) (nsOf ps) ps.length))) h') : Wr (m_product_order [.ref v, .ref a, .ref b] h) E Q :=
  product_order_spec lp lq lu p0 pn hs co cu l fun os => q _ ((Sub.refl _ _).new _)
theorem law_wr {ns : List Int} {o : O} (hl : ns.length ≤ 63) (ho : o = .scr ns ∨ o = .ksc ns) : Wr (m_law [.ref 0] [o]) (fun _ _ => False) fun w _ => w = .bl true := by
  have e0 : ∀ h', Sub [] [o] h' → lstOf h' 0 = some (ns.map W.int) := by
    intro h' sb
    have := sb.get 0 o (by simp) rfl
    unfold lstOf
    rw [this]
    rcases ho with rfl | rfl <;> rfl
  unfold m_law f_law
  refine wr_run rfl ?_
  walk_at "wp"
  refine cell_spec (e0 _ (Sub.refl _ _)) hl fun z h1 sb1 => ?_
  walk_at "wp"
  refine ⟨_, _, rfl, e0 _ (sb1.new _), ?_⟩
  walk_at "wp"
  refine ro_cat (gap gna) gna ?_ ?_
  · simp [LIM, cutW]
    omega
  obtain ⟨us, hu⟩ : ∃ us : List Int, [W.int z] ++ cutW (ns.map W.int) (some 1) (some 4) = us.map W.int := by
    unfold cutW
    exact ⟨z :: (ns.drop (HT.sIx (ns.map W.int).length 0 (some 1))).take (HT.sIx (ns.map W.int).length (ns.map W.int).length (some 4) - HT.sIx (ns.map W.int).length 0 (some 1)), by simp [List.map_drop, List.map_take]⟩
  rw [hu]
  have sb2 : Sub [] [o] (((h1 ++ [O.lst [W.int z]]) ++ [O.lst (cutW (ns.map W.int) (some 1) (some 4))]) ++ [O.lst (us.map W.int)]) := ((sb1.new _).new _).new _
  have ed : (((h1 ++ [O.lst [W.int z]]) ++ [O.lst (cutW (ns.map W.int) (some 1) (some 4))]) ++ [O.lst (us.map W.int)])[((h1 ++ [O.lst [W.int z]]) ++ [O.lst (cutW (ns.map W.int) (some 1) (some 4))]).length]? = some (.lst (us.map W.int)) := gna
  generalize (((h1 ++ [O.lst [W.int z]]) ++ [O.lst (cutW (ns.map W.int) (some 1) (some 4))]) ++ [O.lst (us.map W.int)]) = h2 at *
  generalize ((h1 ++ [O.lst [W.int z]]) ++ [O.lst (cutW (ns.map W.int) (some 1) (some 4))]).length = d at *
  walk_at "wp"
  refine ⟨_, _, rfl, lst_of ed, ?_⟩
  refine ⟨(us.map W.int).map Yv.one, fun i σ h' => Sub [] h2 h' ∧ ∃ a1 a2 a3 a4 a5 a6 a7 a8 a9 a10 a11 a12, σ = [some (.ref 0), a1, a2, a3, a4, a5, a6, a7, a8, a9, a10, a11, a12, none, none], by simp, ⟨Sub.refl _ _, none, none, none, none, none, none, none, none, none, none, none, none, rfl⟩, ?_, ?_, ?_⟩
  · rintro i σ h' _ ⟨sb, _⟩
    exact nxtL_of (lst_of (sb.get _ _ (by simp) ed))
  · rintro i y σ h3 ey ⟨sb3, a1, a2, a3, a4, a5, a6, a7, a8, a9, a10, a11, a12, rfl⟩
    obtain ⟨w, ew, rfl⟩ := get_map ey
    obtain ⟨c, ec, rfl⟩ := get_map ew
    refine ⟨_, rfl, ?_⟩
    walk_at "wp"
    refine source_spec fun h4 s sb4 ls hs4 => ?_
    walk_at "wp"
    refine ⟨rfl, ?_⟩
    refine ⟨(List.range (6 : Int).toNat).map fun k : Nat => Yv.one (.int (0 + k)), fun i σ h' => Src h' s ∧ Sub [s] h4 h' ∧ ∃ a3 a4 a5 a6 a7 a8 a9 a10 a11 a12, σ = [some (.ref 0), some (.int c), some (.ref s), a3, a4, a5, a6, a7, a8, a9, a10, a11, a12, none, none], by decide, ⟨hs4, Sub.refl _ _, a3, a4, a5, a6, a7, a8, a9, a10, a11, a12, rfl⟩, ?_, ?_, ?_⟩
    · rintro i σ h' _ _
      exact nxtR_of (h := h')
    · rintro i y σ h5 ey ⟨hs5, sb5, a3, a4, a5, a6, a7, a8, a9, a10, a11, a12, rfl⟩
      obtain ⟨k1, ek, rfl⟩ := get_map ey
      refine ⟨_, rfl, ?_⟩
      walk_at "wp"
      refine numbers_spec hs5 (by decide) (by decide) (by decide) (by decide) fun v h6 ps hs6 sb6 lv lp6 p0 p6 pn40 => ?_
      have p6 : ps.length ≤ 6 := p6
      have pn : Nums 2000 ps := ⟨pn40.asc, fun p m => by have := pn40.pos p m; omega⟩
      have psum := sum_le (ps := ps) fun p m => by have := pn40.pos p m; omega
      walk_at "wp"
      refine next_spec hs6 (by decide) (by decide) fun b0 h7 b00 b01 hs7 sb7 ln7 => ?_
      obtain ⟨t, rfl⟩ := Int.eq_ofNat_of_zero_le b00
      have hb : (3 : Int) + ((t : Nat) : Int) = ((t + 3 : Nat) : Int) := by omega
      have lp7 := lp6.up sb7
      have in7 : In [s] h7 := fun k m => by simp at m; subst m; exact hs7.lt
      obtain ⟨ws, lx7⟩ := lp7
      walk_at "wp"
      rw [hb]
      have t3 : 3 ≤ t + 3 := by omega
      have t5 : t + 3 ≤ 5 := by omega
      generalize t + 3 = tt at *
      have hp6 := two_pow_small t3
      refine ro_list (seq_of_lst (lst_of lx7.e)) ?_
      have s8 : Sub [] h7 (h7 ++ [O.lst ws]) := (Sub.refl _ _).new _
      have kp8 := LP.copy lx7 in7
      walk_at "wp"
      refine pow_spec (by omega) (by omega) ?_
      walk_at "wp"
      have hL : (1 : Int) * 2 ^ ((tt : Nat) : Int).toNat ≤ 32 ∧ (6 : Int) ≤ 1 * 2 ^ ((tt : Nat) : Int).toNat := by
        have e : ((2 : Int) ^ tt) = ((2 ^ tt : Nat) : Int) := by simp
        have : (2 : Nat) ^ tt ≤ 2 ^ 5 := Nat.pow_le_pow_right (by decide) (by omega)
        simp only [Int.toNat_natCast, Int.one_mul]
        rw [e]
        omega
      refine gains_spec (X := [s]) (LP.up ⟨ws, lx7⟩ s8) (in7.up s8) p0 (by omega) pn.pos (by omega) (by omega) fun g h9 sb9 lg lpg => ?_
      walk_at "wp"
      have s9 : Sub [] h7 h9 := s8.trans sb9
      refine by_product_spec (X := [s]) (LP.up ⟨ws, lx7⟩ s9) (in7.up s9) p0 (by omega) pn (by omega) (by omega) (by omega) (by omega) fun g2 h10 sb10 lg2 lpg2 => ?_
      walk_at "wp"
      refine pairs_eq lpg2 (lpg.up sb10) ?_
      walk_at "wp"
      have s10 := s9.trans sb10
      refine by_product_spec (X := [s]) (LP.up ⟨ws, lx7⟩ s10) (in7.up s10) p0 (by omega) pn (by omega) (by omega) (by omega) (by omega) fun g3 h11 sb11 lg3 lpg3 => ?_
      walk_at "wp"
      refine pairs_eq lpg3 ((lpg.up sb10).up sb11) ?_
      have s11 := s10.trans sb11
      walk_at "wp"
      refine pairs_eq (LP.up ⟨ws, lx7⟩ s11) (((kp8.up sb9).up sb10).up sb11) ?_
      walk_at "wp"
      have hs11 : Src h11 s := by obtain ⟨a, b, c, e⟩ := hs7; exact ⟨a, b, c, s11.get _ _ (by simp) e⟩
      have lx11 := lx7.up s11
      have lpd11 := (lpg.up sb10).up sb11
      refine lc_drawn (s := s) 9 ?_
      walk_at "wp"
      refine ⟨_, _, rfl, lst_of lx11.e, ?_⟩
      refine ⟨ws.map Yv.one, syOf ps, by simp [lx11.len], by simp, by simp; omega, hs11, Sub.refl _ _, ?_, ?_, ?_⟩
      · intro h' sb i _
        exact nxtL_of (lst_of (sb.get _ _ lx11.nx lx11.e))
      · intro i x y h' ex ey hs' sb'
        obtain ⟨w, ew, rfl⟩ := get_map ey
        obtain ⟨p, ep, rfl⟩ := get_map ex
        obtain ⟨m, em, _, hm⟩ := (lx11.up sb').get i p ep
        rw [em] at ew
        cases ew
        refine ⟨_, gt_pair hm rfl, rfl, ?_⟩
        walk_at "wp"
        refine next_spec hs' (by decide) (by decide) fun r h12 r0 r1 hs12 sb12 ln12 => ?_
        walk_at "wp"
        exact ⟨_, _, rfl, by rw [ln12]; exact Nat.le_refl _, gna, by omega, by omega, hs12.app, sb12.new _⟩
      · intro r h12 qs hs12 sb12 lr lpq hq1 hq2
        have hql : qs.length = ps.length := by have := congrArg List.length hq1; simpa using this
        have in12 : In [s] h12 := fun k m => by simp at m; subst m; exact hs12.lt
        walk_at "wp"
        refine pow_spec (by omega) (by omega) ?_
        walk_at "wp"
        refine gains_spec (X := [s]) lpq in12 (by omega) (by omega) (fun p m => by have := hq2 p m; omega) (by omega) (by omega) fun g5 h13 sb13 lg5 lpg5 => ?_
        walk_at "wp"
        refine pow_spec (by omega) (by omega) ?_
        have e1 : (((tt : Nat) : Int) + 1) = ((tt + 1 : Nat) : Int) := by omega
        rw [e1]
        have hL2 : (1 : Int) * 2 ^ ((tt + 1 : Nat) : Int).toNat ≤ 64 ∧ (6 : Int) ≤ 1 * 2 ^ ((tt + 1 : Nat) : Int).toNat := by
          have e : ((2 : Int) ^ (tt + 1)) = ((2 ^ (tt + 1) : Nat) : Int) := by simp
          have h1 : (2 : Nat) ^ (tt + 1) ≤ 2 ^ 6 := Nat.pow_le_pow_right (by decide) (by omega)
          have h2 := two_pow_small (t := tt + 1) (by omega)
          simp only [Int.toNat_natCast, Int.one_mul]
          rw [e]
          omega
        walk_at "wp"
        have lx13 := (lx11.up sb12).up sb13
        refine gains_spec (X := [s]) ⟨ws, lx13⟩ (in12.up sb13) p0 (by omega) pn.pos (by omega) (by omega) fun g6 h14 sb14 lg6 lpg6 => ?_
        have lp14 : LP [] h14 v ps := LP.hide ⟨ws, lx13.up sb14⟩ (by simp)
        have ld14 := ((lpd11.up sb12).up (sb13.trans sb14)).hide (Y := []) (by simp)
        have lo14 := (lpg5.up sb14).hide (Y := []) (by simp)
        have lm14 := lpg6.hide (Y := []) (by simp)
        have nl : (nsOf ps).length = ps.length := by simp
        have hp := gains_ct nl p0 tt (by omega) (by omega) (by omega)
        have ho : CtOk ps ((syOf qs).zip (gainsP (nsOf qs) (1 * 2 ^ ((tt : Nat) : Int).toNat - qs.length : Int).toNat)) := by
          have := gains_ct (ps := ps) (ns := nsOf qs) (by simp [hql]) p0 tt (by omega) (by omega) (by omega)
          rw [hql, show syOf qs = syOf ps from hq1]
          exact this
        have hm2 := gains_ct nl p0 (tt + 1) (by omega) (by omega) (by have := two_pow_small (t := tt + 1) (by omega); omega)
        walk_at "wp"
        refine order_right_spec lp14 ld14 lo14 p0 pn (by omega) hp ho (by omega) fun os1 => ?_
        have s1 : Sub [] h14 (h14 ++ os1) := (Sub.refl _ _).new _
        walk_at "wp"
        refine order_right_spec (lp14.up s1) (ld14.up s1) (lm14.up s1) p0 pn (by omega) hp hm2 (by omega) fun os2 => ?_
        have s2 : Sub [] h14 (h14 ++ os1 ++ os2) := s1.new _
        walk_at "wp"
        refine order_right_spec (lp14.up s2) (ld14.up s2) (ld14.up s2) p0 pn (by omega) hp hp (by omega) fun os3 => ?_
        walk_at "wp"
        have sF : Sub [s] h4 (h14 ++ os1 ++ os2 ++ os3) := (((((sb5.trans sb6).trans sb7).trans s11.nil).trans sb12).trans (sb13.trans sb14).nil).trans (s2.new os3).nil
        have hsF : Src (h14 ++ os1 ++ os2 ++ os3) s := by
          have : Sub [] h12 (h14 ++ os1 ++ os2 ++ os3) := (sb13.trans sb14).trans (s2.new os3)
          obtain ⟨a, b, c, e⟩ := hs12
          exact ⟨a, b, c, this.get _ _ (by simp) e⟩
        exact ⟨hsF, sF, _, _, _, _, _, _, _, _, _, _, rfl⟩
    · rintro σ h5 ⟨hs5, sb5, a3, a4, a5, a6, a7, a8, a9, a10, a11, a12, rfl⟩
      walk_at "wp"
      refine ⟨?_, _, _, _, _, _, _, _, _, _, _, _, _, rfl⟩
      exact sb3.trans ((sb4.nil.trans sb5).down fun n m => .inr (by simp at m; omega))
  · rintro σ h3 ⟨sb3, a1, a2, a3, a4, a5, a6, a7, a8, a9, a10, a11, a12, rfl⟩
    walk_at "wp"
    have sbA := sb2.trans sb3
    refine cell_spec (e0 _ sbA) hl fun z2 h4 sb4 => ?_
    walk_at "wp"
    refine source_spec fun h5 s sb5 ls hs5 => ?_
    walk_at "wp"
    refine lc_drawn (s := s) 30 ?_
    walk_at "wp"
    refine symbols_spec hs5 (by decide) (by decide) fun v h6 syms hs6 sb6 lv hv hl6 ha6 => ?_
    walk_at "wp"
    refine ⟨_, _, rfl, lst_of hv, ?_⟩
    have hl6 : syms.length = 3 := hl6
    have lsv : s < h5.length := hs5.lt
    refine ⟨(syms.map W.int).map Yv.one, syms, by simp, by simp, by omega, hs6, sb6, ?_, ?_, ?_⟩
    · intro h' sb i _
      exact nxtL_of (lst_of (sb.get _ _ (by simp; omega) hv))
    · intro i x y h' ex ey hs' sb'
      obtain ⟨w, ew, rfl⟩ := get_map ey
      obtain ⟨x', ex', rfl⟩ := get_map ew
      rw [ex] at ex'
      cases ex'
      refine ⟨_, rfl, rfl, ?_⟩
      walk_at "wp"
      refine next_spec hs' (by decide) (by decide) fun r h12 r0 r1 hs12 sb12 ln12 => ?_
      walk_at "wp"
      exact ⟨_, _, rfl, by rw [ln12]; exact Nat.le_refl _, gna, by omega, by omega, hs12.app, sb12.new _⟩
    · intro r h7 ps hs7 sb7 lr lp hq1 hq2
      have pl : ps.length = 3 := by have := congrArg List.length hq1; simp at this; omega
      have pn : Nums 2000 ps := ⟨by rw [hq1]; exact ha6, fun p m => by have := hq2 p m; omega⟩
      have psum := sum_le (ps := ps) fun p m => by have := hq2 p m; omega
      have in7 : In [s] h7 := fun k m => by simp at m; subst m; exact hs7.lt
      walk_at "wp"
      refine by_product_spec (X := [s]) lp in7 (by omega) (by omega) pn (by omega) (by decide) (by decide) (by rw [pl]; decide) fun g8 h8 sb8 lg8 lpg8 => ?_
      walk_at "wp"
      refine gains_spec (X := [s]) (lp.up sb8) (in7.up sb8) (by omega) (by omega) pn.pos (by decide) (by decide) fun g9 h9 sb9 lg9 lpg9 => ?_
      walk_at "wp"
      refine pairs_eq (lpg8.up sb9) lpg9 ?_
      walk_at "wp"
      have hs9 : Src h9 s := by obtain ⟨a, b, c, e⟩ := hs7; exact ⟨a, b, c, (sb8.trans sb9).get _ _ (by simp) e⟩
      refine next_spec hs9 (by decide) (by decide) fun c h10 c0 c1 hs10 sb10 ln10 => ?_
      walk_at "wp"
      have hA : Asc 0 [0, 1] := ⟨by decide, by decide, by decide, by decide, trivial⟩
      refine product_order_spec' (ps := [(0, 1), (1, 1999)]) (qs := [(0, 4096 - (1 + c)), (1, 1 + c)]) (us := [(0, 4095 - (1 + c)), (1, 1 + c + 1)]) (lp_two (by walk_at "wg") (by walk_at "wg") (by walk_at "wg")) (lp_two (by walk_at "wg") (by walk_at "wg") (by walk_at "wg")) (lp_two (by walk_at "wg") (by walk_at "wg") (by walk_at "wg")) (by decide) ⟨hA, by simp⟩ (by decide)
        ⟨rfl, by simp; omega, 12, by decide, by decide, by simp⟩ ⟨rfl, by simp; omega, 12, by decide, by decide, by simp; omega⟩ (by decide) fun hA1 _ => ?_
      have e1 : ordP (prodP (nsOf [(0, 4096 - (1 + c)), (1, 1 + c)]) (nsOf [(0, 1), (1, 1999)]) 2) (prodP (nsOf [(0, 4095 - (1 + c)), (1, 1 + c + 1)]) (nsOf [(0, 1), (1, 1999)]) 2) = -1 := by
        have := ineqZ (1 + c) (by omega) (by omega)
        unfold ordP
        rw [if_pos]
        have p1 : ∀ x : Int, x ^ 1 = x := fun x => by rw [Int.pow_succ, Int.pow_zero, Int.one_mul]
        simpa [prodP, p1] using this
      rw [show ([(0, 1), (1, 1999)] : List (Int × Int)).length = 2 from rfl, e1]
      walk_at "wp"
      refine product_order_spec' (ps := [(0, 5), (1, 2)]) (qs := [(0, 3), (1, 1)]) (us := [(0, 2), (1, 2)]) (lp_two (by walk_at "wg") (by walk_at "wg") (by walk_at "wg")) (lp_two (by walk_at "wg") (by walk_at "wg") (by walk_at "wg")) (lp_two (by walk_at "wg") (by walk_at "wg") (by walk_at "wg")) (by decide) ⟨hA, by simp⟩ (by decide)
        ⟨rfl, by simp, 2, by decide, by decide, by decide⟩ ⟨rfl, by simp, 2, by decide, by decide, by decide⟩ (by decide) fun hA2 _ => ?_
      have e2 : ordP (prodP (nsOf [(0, 3), (1, 1)]) (nsOf [(0, 5), (1, 2)]) 2) (prodP (nsOf [(0, 2), (1, 2)]) (nsOf [(0, 5), (1, 2)]) 2) = 1 := by decide +kernel
      rw [show ([(0, 5), (1, 2)] : List (Int × Int)).length = 2 from rfl, e2]
      walk_at "wp"
      refine by_product_spec (X := []) (ps := [(0, 5), (1, 2), (2, 1)]) (lp_three (by walk_at "wg") (by walk_at "wg") (by walk_at "wg") (by walk_at "wg")) (fun _ m => by simp at m) (by decide) (by decide) ⟨⟨by decide, by decide, by decide, by decide, by decide, by decide, trivial⟩, by simp⟩ (by decide) (by decide) (by decide) (by decide) fun g11 h11 sb11 lg11 lpg11 => ?_
      have e3 : ((syOf [(0, 5), (1, 2), (2, 1)]).zip (gainsP (nsOf [(0, 5), (1, 2), (2, 1)]) (1 * 2 ^ (3 : Int).toNat - ([(0, 5), (1, 2), (2, 1)] : List (Int × Int)).length : Int).toNat)) = [(0, 5), (1, 2), (2, 1)] := by decide +kernel
      rw [e3] at lpg11
      walk_at "wp"
      refine pairs_eq (X := []) (lpg11.up ((((Sub.refl [] _).new _).new _).new _ |>.new _)) (lp_three (by walk_at "wg") (by walk_at "wg") (by walk_at "wg") (by walk_at "wg")) ?_
      walk_at "wp"
      rfl
end Law
set_option Elab.async false
set_option linter.all false
namespace Law
open PySem PySem.Spec L2 Sp
theorem law_true : ∀ (ns : List Int) (o : O), ns.length ≤ 63 → (∀ z ∈ ns, Builtin.Int.intBits z ≤ 1048576) → (o = .scr ns ∨ o = .ksc ns) → ∃ h', m_law [.ref 0] [o] = some (.ok (.bl true) h') := fun ns o hl _ ho => by
  have h := law_wr hl ho
  match e : m_law [.ref 0] [o], h with
  | some (.ok w h'), h =>
    have h2 : w = .bl true := h
    rw [h2]
    exact ⟨h', rfl⟩
end Law
set_option Elab.async false
set_option linter.all false
set_option maxRecDepth 100000
set_option maxHeartbeats 4250000
namespace Law
open PySem PySem.Spec L2 Sp
def top (i : Nat) : Stmt := PySem.Challenge.pw_spreadstates_k03_counts_by_products.main.body.getD i (.Pass ⟨0, 0, 0, 0⟩)
abbrev s__law_cell_at : Stmt := top 38
abbrev N__law_cell_at : List Str := ["_law_script", "_law_index"]
theorem sc__law_cell_at : FnScope N__law_cell_at ["_law_script", "_law_index"] (defScope s__law_cell_at) := ⟨rfl, rfl, rfl, by decide +kernel, rfl, by decide +kernel, by decide +kernel⟩
abbrev s__law_source_of : Stmt := top 35
abbrev N__law_source_of : List Str := ["_law_cell"]
theorem sc__law_source_of : FnScope N__law_source_of ["_law_cell"] (defScope s__law_source_of) := ⟨rfl, rfl, rfl, by decide +kernel, rfl, by decide +kernel, by decide +kernel⟩
abbrev s__law_next : Stmt := top 36
abbrev N__law_next : List Str := ["_law_source", "_law_many", "_law_found", "_law_prime", "_law_number"]
theorem sc__law_next : FnScope N__law_next ["_law_source", "_law_many"] (defScope s__law_next) := ⟨rfl, rfl, rfl, by decide +kernel, rfl, by decide +kernel, by decide +kernel⟩
abbrev s__law_one : Stmt := top 37
abbrev N__law_one : List Str := ["_law_source", "_law_some"]
theorem sc__law_one : FnScope N__law_one ["_law_source", "_law_some"] (defScope s__law_one) := ⟨rfl, rfl, rfl, by decide +kernel, rfl, by decide +kernel, by decide +kernel⟩
abbrev s__law_symbols : Stmt := top 40
abbrev N__law_symbols : List Str := ["_law_source", "_law_many", "_law_found", "_law_place", "_law_k", "_law_great"]
theorem sc__law_symbols : FnScope N__law_symbols ["_law_source", "_law_many"] (defScope s__law_symbols) := ⟨rfl, rfl, rfl, by decide +kernel, rfl, by decide +kernel, by decide +kernel⟩
abbrev s__law_numbers : Stmt := top 41
abbrev N__law_numbers : List Str := ["_law_source", "_law_most", "_law_great", "_law_symbols_here", "_law_one_here"]
theorem sc__law_numbers : FnScope N__law_numbers ["_law_source", "_law_most", "_law_great"] (defScope s__law_numbers) := ⟨rfl, rfl, rfl, by decide +kernel, rfl, by decide +kernel, by decide +kernel⟩
abbrev s__law_times : Stmt := top 44
abbrev N__law_times : List Str := ["_law_base", "_law_n", "_law_found", "_law_k"]
theorem sc__law_times : FnScope N__law_times ["_law_base", "_law_n"] (defScope s__law_times) := ⟨rfl, rfl, rfl, by decide +kernel, rfl, by decide +kernel, by decide +kernel⟩
abbrev s__law_gains : Stmt := top 43
abbrev N__law_gains : List Str := ["_law_numbers_here", "_law_size", "_law_counts_here", "_law_turn", "_law_best", "_law_at", "_law_pair", "_law_one_here", "_law_other", "_law_count"]
theorem sc__law_gains : FnScope N__law_gains ["_law_numbers_here", "_law_size"] (defScope s__law_gains) := ⟨rfl, rfl, rfl, by decide +kernel, rfl, by decide +kernel, by decide +kernel⟩
abbrev s__law_power : Stmt := top 42
abbrev N__law_power : List Str := ["_law_n"]
theorem sc__law_power : FnScope N__law_power ["_law_n"] (defScope s__law_power) := ⟨rfl, rfl, rfl, by decide +kernel, rfl, by decide +kernel, by decide +kernel⟩
abbrev s_is_integer : Stmt := top 5
abbrev N_is_integer : List Str := ["value"]
theorem sc_is_integer : FnScope N_is_integer ["value"] (defScope s_is_integer) := ⟨rfl, rfl, rfl, by decide +kernel, rfl, by decide +kernel, by decide +kernel⟩
abbrev s_is_within : Stmt := top 6
abbrev N_is_within : List Str := ["value", "least", "most"]
theorem sc_is_within : FnScope N_is_within ["value", "least", "most"] (defScope s_is_within) := ⟨rfl, rfl, rfl, by decide +kernel, rfl, by decide +kernel, by decide +kernel⟩
abbrev s_is_symbol : Stmt := top 12
abbrev N_is_symbol : List Str := ["value"]
theorem sc_is_symbol : FnScope N_is_symbol ["value"] (defScope s_is_symbol) := ⟨rfl, rfl, rfl, by decide +kernel, rfl, by decide +kernel, by decide +kernel⟩
abbrev s_is_entry : Stmt := top 15
abbrev N_is_entry : List Str := ["value"]
theorem sc_is_entry : FnScope N_is_entry ["value"] (defScope s_is_entry) := ⟨rfl, rfl, rfl, by decide +kernel, rfl, by decide +kernel, by decide +kernel⟩
abbrev s_is_numbers : Stmt := top 16
abbrev N_is_numbers : List Str := ["value", "ahead", "item"]
theorem sc_is_numbers : FnScope N_is_numbers ["value"] (defScope s_is_numbers) := ⟨rfl, rfl, rfl, by decide +kernel, rfl, by decide +kernel, by decide +kernel⟩
abbrev s_check_numbers : Stmt := top 20
abbrev N_check_numbers : List Str := ["numbers"]
theorem sc_check_numbers : FnScope N_check_numbers ["numbers"] (defScope s_check_numbers) := ⟨rfl, rfl, rfl, by decide +kernel, rfl, by decide +kernel, by decide +kernel⟩
abbrev s_is_bits : Stmt := top 13
abbrev N_is_bits : List Str := ["value"]
theorem sc_is_bits : FnScope N_is_bits ["value"] (defScope s_is_bits) := ⟨rfl, rfl, rfl, by decide +kernel, rfl, by decide +kernel, by decide +kernel⟩
abbrev s_check_bits : Stmt := top 21
abbrev N_check_bits : List Str := ["bits"]
theorem sc_check_bits : FnScope N_check_bits ["bits"] (defScope s_check_bits) := ⟨rfl, rfl, rfl, by decide +kernel, rfl, by decide +kernel, by decide +kernel⟩
abbrev s_check_counting : Stmt := top 27
abbrev N_check_counting : List Str := ["numbers", "bits"]
theorem sc_check_counting : FnScope N_check_counting ["numbers", "bits"] (defScope s_check_counting) := ⟨rfl, rfl, rfl, by decide +kernel, rfl, by decide +kernel, by decide +kernel⟩
abbrev s_sum_of : Stmt := top 18
abbrev N_sum_of : List Str := ["numbers", "_", "number"]
theorem sc_sum_of : FnScope N_sum_of ["numbers"] (defScope s_sum_of) := ⟨rfl, rfl, rfl, by decide +kernel, rfl, by decide +kernel, by decide +kernel⟩
abbrev s_check_product_sum : Stmt := top 28
abbrev N_check_product_sum : List Str := ["numbers"]
theorem sc_check_product_sum : FnScope N_check_product_sum ["numbers"] (defScope s_check_product_sum) := ⟨rfl, rfl, rfl, by decide +kernel, rfl, by decide +kernel, by decide +kernel⟩
abbrev s_power : Stmt := top 7
abbrev N_power : List Str := ["base", "exponent", "result", "square", "rest"]
theorem sc_power : FnScope N_power ["base", "exponent"] (defScope s_power) := ⟨rfl, rfl, rfl, by decide +kernel, rfl, by decide +kernel, by decide +kernel⟩
abbrev s_gain : Stmt := top 30
abbrev N_gain : List Str := ["count", "number"]
theorem sc_gain : FnScope N_gain ["count", "number"] (defScope s_gain) := ⟨rfl, rfl, rfl, by decide +kernel, rfl, by decide +kernel, by decide +kernel⟩
abbrev s_place_of_greatest : Stmt := top 31
abbrev N_place_of_greatest : List Str := ["gains", "best", "at", "above", "below"]
theorem sc_place_of_greatest : FnScope N_place_of_greatest ["gains"] (defScope s_place_of_greatest) := ⟨rfl, rfl, rfl, by decide +kernel, rfl, by decide +kernel, by decide +kernel⟩
abbrev s_symbols_of : Stmt := top 19
abbrev N_symbols_of : List Str := ["numbers", "symbol", "_"]
theorem sc_symbols_of : FnScope N_symbols_of ["numbers"] (defScope s_symbols_of) := ⟨rfl, rfl, rfl, by decide +kernel, rfl, by decide +kernel, by decide +kernel⟩
abbrev s_named : Stmt := top 29
abbrev N_named : List Str := ["numbers", "counts"]
theorem sc_named : FnScope N_named ["numbers", "counts"] (defScope s_named) := ⟨rfl, rfl, rfl, by decide +kernel, rfl, by decide +kernel, by decide +kernel⟩
abbrev s_by_product : Stmt := top 25
abbrev N_by_product : List Str := ["numbers", "bits", "counts", "gains", "_", "number", "at"]
theorem sc_by_product : FnScope N_by_product ["numbers", "bits"] (defScope s_by_product) := ⟨rfl, rfl, rfl, by decide +kernel, rfl, by decide +kernel, by decide +kernel⟩
abbrev s__law_product : Stmt := top 45
abbrev N__law_product : List Str := ["_law_numbers_here", "_law_counts_here", "_law_found", "_law_at", "_law_pair"]
theorem sc__law_product : FnScope N__law_product ["_law_numbers_here", "_law_counts_here"] (defScope s__law_product) := ⟨rfl, rfl, rfl, by decide +kernel, rfl, by decide +kernel, by decide +kernel⟩
abbrev s_is_size : Stmt := top 14
abbrev N_is_size : List Str := ["total"]
theorem sc_is_size : FnScope N_is_size ["total"] (defScope s_is_size) := ⟨rfl, rfl, rfl, by decide +kernel, rfl, by decide +kernel, by decide +kernel⟩
abbrev s_is_counts : Stmt := top 17
abbrev N_is_counts : List Str := ["value"]
theorem sc_is_counts : FnScope N_is_counts ["value"] (defScope s_is_counts) := ⟨rfl, rfl, rfl, by decide +kernel, rfl, by decide +kernel, by decide +kernel⟩
abbrev s_are_counts_for : Stmt := top 32
abbrev N_are_counts_for : List Str := ["counts", "numbers"]
theorem sc_are_counts_for : FnScope N_are_counts_for ["counts", "numbers"] (defScope s_are_counts_for) := ⟨rfl, rfl, rfl, by decide +kernel, rfl, by decide +kernel, by decide +kernel⟩
abbrev s_product_of : Stmt := top 33
abbrev N_product_of : List Str := ["numbers", "counts", "product", "_", "number", "count"]
theorem sc_product_of : FnScope N_product_of ["numbers", "counts"] (defScope s_product_of) := ⟨rfl, rfl, rfl, by decide +kernel, rfl, by decide +kernel, by decide +kernel⟩
abbrev s_product_order : Stmt := top 26
abbrev N_product_order : List Str := ["numbers", "counts", "others", "one", "other"]
theorem sc_product_order : FnScope N_product_order ["numbers", "counts", "others"] (defScope s_product_order) := ⟨rfl, rfl, rfl, by decide +kernel, rfl, by decide +kernel, by decide +kernel⟩
abbrev s__law_order_right : Stmt := top 46
abbrev N__law_order_right : List Str := ["_law_numbers_here", "_law_one_here", "_law_other", "_law_p", "_law_q", "_law_due"]
theorem sc__law_order_right : FnScope N__law_order_right ["_law_numbers_here", "_law_one_here", "_law_other"] (defScope s__law_order_right) := ⟨rfl, rfl, rfl, by decide +kernel, rfl, by decide +kernel, by decide +kernel⟩
abbrev s_law : Stmt := top 47
abbrev N_law : List Str := ["_law_script", "_law_cell", "_law_source", "_law_turn", "_law_numbers_here", "_law_bits_here", "_law_kept", "_law_due", "_law_drawn_here", "_law_symbol", "_law_number", "_law_other", "_law_more", "_law_three", "_law_c"]
theorem sc_law : FnScope N_law ["_law_script"] (defScope s_law) := ⟨rfl, rfl, rfl, by decide +kernel, rfl, by decide +kernel, by decide +kernel⟩
structure Tx (K : PySem.W.Frag) (mg : Str → Option Value) where
  a__law_cell_at : Addr
  d__law_cell_at : FuncData
  F__law_cell_at : Fun K "_law_cell_at" "_law_cell_at" s__law_cell_at a__law_cell_at d__law_cell_at
  g__law_cell_at : mg "_law_cell_at" = some (.ref a__law_cell_at)
  b__law_cell_at : Binds K d__law_cell_at ["_law_script", "_law_index"] []
  a__law_source_of : Addr
  d__law_source_of : FuncData
  F__law_source_of : Fun K "_law_source_of" "_law_source_of" s__law_source_of a__law_source_of d__law_source_of
  g__law_source_of : mg "_law_source_of" = some (.ref a__law_source_of)
  b__law_source_of : Binds K d__law_source_of ["_law_cell"] []
  a__law_next : Addr
  d__law_next : FuncData
  F__law_next : Fun K "_law_next" "_law_next" s__law_next a__law_next d__law_next
  g__law_next : mg "_law_next" = some (.ref a__law_next)
  b__law_next : Binds K d__law_next ["_law_source", "_law_many"] []
  a__law_one : Addr
  d__law_one : FuncData
  F__law_one : Fun K "_law_one" "_law_one" s__law_one a__law_one d__law_one
  g__law_one : mg "_law_one" = some (.ref a__law_one)
  b__law_one : Binds K d__law_one ["_law_source", "_law_some"] []
  a__law_symbols : Addr
  d__law_symbols : FuncData
  F__law_symbols : Fun K "_law_symbols" "_law_symbols" s__law_symbols a__law_symbols d__law_symbols
  g__law_symbols : mg "_law_symbols" = some (.ref a__law_symbols)
  b__law_symbols : Binds K d__law_symbols ["_law_source", "_law_many"] []
  a__law_numbers : Addr
  d__law_numbers : FuncData
  F__law_numbers : Fun K "_law_numbers" "_law_numbers" s__law_numbers a__law_numbers d__law_numbers
  g__law_numbers : mg "_law_numbers" = some (.ref a__law_numbers)
  b__law_numbers : Binds K d__law_numbers ["_law_source", "_law_most", "_law_great"] []
  a__law_times : Addr
  d__law_times : FuncData
  F__law_times : Fun K "_law_times" "_law_times" s__law_times a__law_times d__law_times
  g__law_times : mg "_law_times" = some (.ref a__law_times)
  b__law_times : Binds K d__law_times ["_law_base", "_law_n"] []
  a__law_gains : Addr
  d__law_gains : FuncData
  F__law_gains : Fun K "_law_gains" "_law_gains" s__law_gains a__law_gains d__law_gains
  g__law_gains : mg "_law_gains" = some (.ref a__law_gains)
  b__law_gains : Binds K d__law_gains ["_law_numbers_here", "_law_size"] []
  a__law_power : Addr
  d__law_power : FuncData
  F__law_power : Fun K "_law_power" "_law_power" s__law_power a__law_power d__law_power
  g__law_power : mg "_law_power" = some (.ref a__law_power)
  b__law_power : Binds K d__law_power ["_law_n"] []
  a_is_integer : Addr
  d_is_integer : FuncData
  F_is_integer : Fun K "is_integer" "is_integer" s_is_integer a_is_integer d_is_integer
  g_is_integer : mg "is_integer" = some (.ref a_is_integer)
  b_is_integer : Binds K d_is_integer ["value"] []
  a_is_within : Addr
  d_is_within : FuncData
  F_is_within : Fun K "is_within" "is_within" s_is_within a_is_within d_is_within
  g_is_within : mg "is_within" = some (.ref a_is_within)
  b_is_within : Binds K d_is_within ["value", "least", "most"] []
  a_is_symbol : Addr
  d_is_symbol : FuncData
  F_is_symbol : Fun K "is_symbol" "is_symbol" s_is_symbol a_is_symbol d_is_symbol
  g_is_symbol : mg "is_symbol" = some (.ref a_is_symbol)
  b_is_symbol : Binds K d_is_symbol ["value"] []
  a_is_entry : Addr
  d_is_entry : FuncData
  F_is_entry : Fun K "is_entry" "is_entry" s_is_entry a_is_entry d_is_entry
  g_is_entry : mg "is_entry" = some (.ref a_is_entry)
  b_is_entry : Binds K d_is_entry ["value"] []
  a_is_numbers : Addr
  d_is_numbers : FuncData
  F_is_numbers : Fun K "is_numbers" "is_numbers" s_is_numbers a_is_numbers d_is_numbers
  g_is_numbers : mg "is_numbers" = some (.ref a_is_numbers)
  b_is_numbers : Binds K d_is_numbers ["value"] []
  a_check_numbers : Addr
  d_check_numbers : FuncData
  F_check_numbers : Fun K "check_numbers" "check_numbers" s_check_numbers a_check_numbers d_check_numbers
  g_check_numbers : mg "check_numbers" = some (.ref a_check_numbers)
  b_check_numbers : Binds K d_check_numbers ["numbers"] []
  a_is_bits : Addr
  d_is_bits : FuncData
  F_is_bits : Fun K "is_bits" "is_bits" s_is_bits a_is_bits d_is_bits
  g_is_bits : mg "is_bits" = some (.ref a_is_bits)
  b_is_bits : Binds K d_is_bits ["value"] []
  a_check_bits : Addr
  d_check_bits : FuncData
  F_check_bits : Fun K "check_bits" "check_bits" s_check_bits a_check_bits d_check_bits
  g_check_bits : mg "check_bits" = some (.ref a_check_bits)
  b_check_bits : Binds K d_check_bits ["bits"] []
  a_check_counting : Addr
  d_check_counting : FuncData
  F_check_counting : Fun K "check_counting" "check_counting" s_check_counting a_check_counting d_check_counting
  g_check_counting : mg "check_counting" = some (.ref a_check_counting)
  b_check_counting : Binds K d_check_counting ["numbers", "bits"] []
  a_sum_of : Addr
  d_sum_of : FuncData
  F_sum_of : Fun K "sum_of" "sum_of" s_sum_of a_sum_of d_sum_of
  g_sum_of : mg "sum_of" = some (.ref a_sum_of)
  b_sum_of : Binds K d_sum_of ["numbers"] []
  a_check_product_sum : Addr
  d_check_product_sum : FuncData
  F_check_product_sum : Fun K "check_product_sum" "check_product_sum" s_check_product_sum a_check_product_sum d_check_product_sum
  g_check_product_sum : mg "check_product_sum" = some (.ref a_check_product_sum)
  b_check_product_sum : Binds K d_check_product_sum ["numbers"] []
  a_power : Addr
  d_power : FuncData
  F_power : Fun K "power" "power" s_power a_power d_power
  g_power : mg "power" = some (.ref a_power)
  b_power : Binds K d_power ["base", "exponent"] []
  a_gain : Addr
  d_gain : FuncData
  F_gain : Fun K "gain" "gain" s_gain a_gain d_gain
  g_gain : mg "gain" = some (.ref a_gain)
  b_gain : Binds K d_gain ["count", "number"] []
  a_place_of_greatest : Addr
  d_place_of_greatest : FuncData
  F_place_of_greatest : Fun K "place_of_greatest" "place_of_greatest" s_place_of_greatest a_place_of_greatest d_place_of_greatest
  g_place_of_greatest : mg "place_of_greatest" = some (.ref a_place_of_greatest)
  b_place_of_greatest : Binds K d_place_of_greatest ["gains"] []
  a_symbols_of : Addr
  d_symbols_of : FuncData
  F_symbols_of : Fun K "symbols_of" "symbols_of" s_symbols_of a_symbols_of d_symbols_of
  g_symbols_of : mg "symbols_of" = some (.ref a_symbols_of)
  b_symbols_of : Binds K d_symbols_of ["numbers"] []
  a_named : Addr
  d_named : FuncData
  F_named : Fun K "named" "named" s_named a_named d_named
  g_named : mg "named" = some (.ref a_named)
  b_named : Binds K d_named ["numbers", "counts"] []
  a_by_product : Addr
  d_by_product : FuncData
  F_by_product : Fun K "by_product" "by_product" s_by_product a_by_product d_by_product
  g_by_product : mg "by_product" = some (.ref a_by_product)
  b_by_product : Binds K d_by_product ["numbers", "bits"] []
  a__law_product : Addr
  d__law_product : FuncData
  F__law_product : Fun K "_law_product" "_law_product" s__law_product a__law_product d__law_product
  g__law_product : mg "_law_product" = some (.ref a__law_product)
  b__law_product : Binds K d__law_product ["_law_numbers_here", "_law_counts_here"] []
  a_is_size : Addr
  d_is_size : FuncData
  F_is_size : Fun K "is_size" "is_size" s_is_size a_is_size d_is_size
  g_is_size : mg "is_size" = some (.ref a_is_size)
  b_is_size : Binds K d_is_size ["total"] []
  a_is_counts : Addr
  d_is_counts : FuncData
  F_is_counts : Fun K "is_counts" "is_counts" s_is_counts a_is_counts d_is_counts
  g_is_counts : mg "is_counts" = some (.ref a_is_counts)
  b_is_counts : Binds K d_is_counts ["value"] []
  a_are_counts_for : Addr
  d_are_counts_for : FuncData
  F_are_counts_for : Fun K "are_counts_for" "are_counts_for" s_are_counts_for a_are_counts_for d_are_counts_for
  g_are_counts_for : mg "are_counts_for" = some (.ref a_are_counts_for)
  b_are_counts_for : Binds K d_are_counts_for ["counts", "numbers"] []
  a_product_of : Addr
  d_product_of : FuncData
  F_product_of : Fun K "product_of" "product_of" s_product_of a_product_of d_product_of
  g_product_of : mg "product_of" = some (.ref a_product_of)
  b_product_of : Binds K d_product_of ["numbers", "counts"] []
  a_product_order : Addr
  d_product_order : FuncData
  F_product_order : Fun K "product_order" "product_order" s_product_order a_product_order d_product_order
  g_product_order : mg "product_order" = some (.ref a_product_order)
  b_product_order : Binds K d_product_order ["numbers", "counts", "others"] []
  a__law_order_right : Addr
  d__law_order_right : FuncData
  F__law_order_right : Fun K "_law_order_right" "_law_order_right" s__law_order_right a__law_order_right d__law_order_right
  g__law_order_right : mg "_law_order_right" = some (.ref a__law_order_right)
  b__law_order_right : Binds K d__law_order_right ["_law_numbers_here", "_law_one_here", "_law_other"] []
  a_law : Addr
  d_law : FuncData
  F_law : Fun K "law" "law" s_law a_law d_law
  g_law : mg "law" = some (.ref a_law)
  b_law : Binds K d_law ["_law_script"] []
  n_bool : mg "bool" = none
  n_enumerate : mg "enumerate" = none
  n_int : mg "int" = none
  n_isinstance : mg "isinstance" = none
  n_len : mg "len" = none
  n_list : mg "list" = none
  n_max : mg "max" = none
  n_min : mg "min" = none
  n_range : mg "range" = none
  n_sum : mg "sum" = none
  n_tuple : mg "tuple" = none
  n_zip : mg "zip" = none
  c_GREATEST_NUMBER : ∃ t, mg "GREATEST_NUMBER" = some (.int 1000000000000000000000000000000 t)
  c_MOST_BITS : ∃ t, mg "MOST_BITS" = some (.int 12 t)
  c_MOST_PRODUCT_BITS : ∃ t, mg "MOST_PRODUCT_BITS" = some (.int 8 t)
  c_MOST_PRODUCT_SUM : ∃ t, mg "MOST_PRODUCT_SUM" = some (.int 2000 t)
  c_MOST_SYMBOLS : ∃ t, mg "MOST_SYMBOLS" = some (.int 1000 t)
  kb_kp_product_order_0 : KBinds K d_product_order ["numbers", "counts", "others"] ["others", "counts", "numbers"] kp_product_order_0 kp_product_order_0
  kb_kp_by_product_1 : KBinds K d_by_product ["numbers", "bits"] ["bits", "numbers"] kp_by_product_1 kp_by_product_1
section
variable {P : Program} {w : World} {K : PySem.W.Frag}
variable {base : Heap} {mg : Str → Option Value}
theorem ok__law_cell_at (T : Tx K mg) : FnOk P w K mg base (L2.CX P w) 1 T.a__law_cell_at T.d__law_cell_at ["_law_script", "_law_index"] (spOf K m__law_cell_at) :=
  fn_ok (k := 0) T.F__law_cell_at sc__law_cell_at fun cdv A outer s H E hr => ⟨_, (css_one (cs_ret (c_ix (c_cat (c_sl (c_var 0) (co_some (c_var 1)) (co_some (c_add (c_var 1) (c_int)))) (c_lst (ca_cons (c_int) ca_nil))) (c_int))))⟩
theorem ok__law_source_of (T : Tx K mg) : FnOk P w K mg base (L2.CX P w) 1 T.a__law_source_of T.d__law_source_of ["_law_cell"] (spOf K m__law_source_of) :=
  fn_ok (k := 0) T.F__law_source_of sc__law_source_of fun cdv A outer s H E hr => ⟨_, (css_cons (cs_set 0 sc__law_source_of.nd (c_if (ct_ge (c_var 0) (c_int)) (c_var 0) (c_sub (c_sub (c_int) (c_mul (c_int) (c_var 0))) (c_int))))
    (css_one (cs_ret (c_lst (ca_cons (c_mul (c_var 0) (c_cty call_int1 sc_int rfl T.n_int (by decide +kernel) (ca_cons (c_ge (c_var 0) (c_pow (c_int) (c_int))) ca_nil))) (ca_cons (c_mod (c_cty call_int1 sc_int rfl T.n_int (by decide +kernel) (ca_cons (c_var 0) ca_nil)) (c_int)) (ca_cons (c_int) ca_nil)))))))⟩
theorem ok__law_next (T : Tx K mg) : FnOk P w K mg base (L2.CX P w) 1 T.a__law_next T.d__law_next ["_law_source", "_law_many"] (spOf K m__law_next) :=
  fn_ok (k := 0) T.F__law_next sc__law_next fun cdv A outer s H E hr => ⟨_, (css_cons (cs_if (ct_gt (c_ix (c_var 0) (c_int)) (c_int)) (css_cons (cs_set 2 sc__law_next.nd (c_mod (c_cty call_int1 sc_int rfl T.n_int (by decide +kernel) (ca_cons (c_ix (c_var 0) (c_int)) ca_nil)) (c_var 1)))
    (css_cons (cs_sub (c_fdiv (c_ix (c_var 0) (c_int)) (c_var 1)) (c_var 0) (c_int))
    (css_one (cs_ret (c_var 2))))) css_nil)
    (css_cons (cs_sub (c_add (c_ix (c_var 0) (c_int)) (c_int)) (c_var 0) (c_int))
    (css_cons (cs_set 3 sc__law_next.nd (c_int))
    (css_cons (cs_set 4 sc__law_next.nd (c_mod (c_cty call_int1 sc_int rfl T.n_int (by decide +kernel) (ca_cons (c_add (c_add (c_ix (c_var 0) (c_int)) (c_mul (c_int) (c_ix (c_var 0) (c_int)))) (c_int)) ca_nil)) (c_var 3)))
    (css_cons (cs_set 4 sc__law_next.nd (c_mod (c_cty call_int1 sc_int rfl T.n_int (by decide +kernel) (ca_cons (c_mul (c_var 4) (c_int)) ca_nil)) (c_var 3)))
    (css_cons (cs_set 4 sc__law_next.nd (c_mod (c_cty call_int1 sc_int rfl T.n_int (by decide +kernel) (ca_cons (c_mul (c_var 4) (c_add (c_fdiv (c_var 4) (c_int)) (c_int))) ca_nil)) (c_var 3)))
    (css_cons (cs_set 4 sc__law_next.nd (c_mod (c_cty call_int1 sc_int rfl T.n_int (by decide +kernel) (ca_cons (c_mul (c_var 4) (c_add (c_fdiv (c_var 4) (c_int)) (c_int))) ca_nil)) (c_int)))
    (css_one (cs_ret (c_mod (c_cty call_int1 sc_int rfl T.n_int (by decide +kernel) (ca_cons (c_fdiv (c_var 4) (c_int)) ca_nil)) (c_var 1)))))))))))⟩
theorem ok__law_one (T : Tx K mg) : FnOk P w K mg base (L2.CX P w) 2 T.a__law_one T.d__law_one ["_law_source", "_law_some"] (spOf K m__law_one) :=
  fn_ok (k := 1) T.F__law_one sc__law_one fun cdv A outer s H E hr => ⟨_, (css_one (cs_ret (c_ix (c_var 1) (c_call (ok__law_next T) (hr.mono (by decide)) rfl T.g__law_next T.F__law_next.kp T.b__law_next .nil (fun _ => .nil) (fun σ => passAt (takes_of rfl rfl rfl rfl) σ) (ca_cons (c_var 0) (ca_cons (c_cb call_len_seq sc_len rfl T.n_len PySem.boot_len (ca_cons (c_var 1) ca_nil)) ca_nil))))))⟩
theorem ok__law_symbols (T : Tx K mg) : FnOk P w K mg base (L2.CX P w) 3 T.a__law_symbols T.d__law_symbols ["_law_source", "_law_many"] (spOf K m__law_symbols) :=
  fn_ok (k := 2) T.F__law_symbols sc__law_symbols fun cdv A outer s H E hr => ⟨_, (css_cons (cs_par 2 3 rfl sc__law_symbols.nd (ca_cons (c_lst ca_nil) (ca_cons (c_call (ok__law_next T) (hr.mono (by decide)) rfl T.g__law_next T.F__law_next.kp T.b__law_next .nil (fun _ => .nil) (fun σ => passAt (takes_of rfl rfl rfl rfl) σ) (ca_cons (c_var 0) (ca_cons (c_int) ca_nil))) ca_nil)))
    (css_cons (cs_for (passes_of rfl) rfl (ci_rng1 rfl T.n_range (ca_cons (c_var 1) ca_nil)) (cg_name 4 sc__law_symbols.nd) (css_cons (cs_expr (c_append (c_var 2) (ca_cons (c_var 3) ca_nil)))
    (css_cons (cs_set 5 sc__law_symbols.nd (c_cb (call_max2 rfl) sc_max2 rfl T.n_max (by decide +kernel) (ca_cons (c_int) (ca_cons (c_cb (call_min2 rfl) sc_min2 rfl T.n_min (by decide +kernel) (ca_cons (c_int) (ca_cons (c_fdiv (c_sub (c_int) (c_var 3)) (c_var 1)) ca_nil))) ca_nil))))
    (css_one (cs_set 3 sc__law_symbols.nd (c_add (c_add (c_var 3) (c_int)) (c_call (ok__law_next T) (hr.mono (by decide)) rfl T.g__law_next T.F__law_next.kp T.b__law_next .nil (fun _ => .nil) (fun σ => passAt (takes_of rfl rfl rfl rfl) σ) (ca_cons (c_var 0) (ca_cons (c_call (ok__law_one T) (hr.mono (by decide)) rfl T.g__law_one T.F__law_one.kp T.b__law_one .nil (fun _ => .nil) (fun σ => passAt (takes_of rfl rfl rfl rfl) σ) (ca_cons (c_var 0) (ca_cons (c_lst (ca_cons (c_int) (ca_cons (c_int) (ca_cons (c_int) (ca_cons (c_var 5) ca_nil))))) ca_nil))) ca_nil)))))))))
    (css_one (cs_ret (c_var 2)))))⟩
theorem ok__law_numbers (T : Tx K mg) : FnOk P w K mg base (L2.CX P w) 4 T.a__law_numbers T.d__law_numbers ["_law_source", "_law_most", "_law_great"] (spOf K m__law_numbers) :=
  fn_ok (k := 3) T.F__law_numbers sc__law_numbers fun cdv A outer s H E hr => ⟨_, (css_cons (cs_set 3 sc__law_numbers.nd (c_call (ok__law_symbols T) (hr.mono (by decide)) rfl T.g__law_symbols T.F__law_symbols.kp T.b__law_symbols .nil (fun _ => .nil) (fun σ => passAt (takes_of rfl rfl rfl rfl) σ) (ca_cons (c_var 0) (ca_cons (c_add (c_int) (c_call (ok__law_next T) (hr.mono (by decide)) rfl T.g__law_next T.F__law_next.kp T.b__law_next .nil (fun _ => .nil) (fun σ => passAt (takes_of rfl rfl rfl rfl) σ) (ca_cons (c_var 0) (ca_cons (c_var 1) ca_nil)))) ca_nil))))
    (css_one (cs_ret (c_lc [("_law_one_here", 4)] rfl sc__law_numbers.nd (ci_list (c_var 3)) (blkOk_by (N := N__law_numbers) (sc := defScope s__law_numbers) (by decide +kernel)) (fun _ _ _ _ _ => (cg_name 4 sc__law_numbers.nd)) (fun _ _ _ _ _ => cts_nil) (fun _ _ _ _ _ => (c_tup (ca_cons (c_var 4) (ca_cons (c_add (c_int) (c_call (ok__law_next T) (hr.mono (by decide)) rfl T.g__law_next T.F__law_next.kp T.b__law_next .nil (fun _ => .nil) (fun σ => passF σ) (ca_cons (c_var 0) (ca_cons (c_call (ok__law_one T) (hr.mono (by decide)) rfl T.g__law_one T.F__law_one.kp T.b__law_one .nil (fun _ => .nil) (fun σ => passF σ) (ca_cons (c_var 0) (ca_cons (c_lst (ca_cons (c_int) (ca_cons (c_int) (ca_cons (c_int) (ca_cons (c_var 2) ca_nil))))) ca_nil))) ca_nil)))) ca_nil))))))))⟩
theorem ok__law_times (T : Tx K mg) : FnOk P w K mg base (L2.CX P w) 1 T.a__law_times T.d__law_times ["_law_base", "_law_n"] (spOf K m__law_times) :=
  fn_ok (k := 0) T.F__law_times sc__law_times fun cdv A outer s H E hr => ⟨_, (css_cons (cs_set 2 sc__law_times.nd (c_int))
    (css_cons (cs_for (passes_of rfl) rfl (ci_rng1 rfl T.n_range (ca_cons (c_var 1) ca_nil)) (cg_name 3 sc__law_times.nd) (css_one (cs_set 2 sc__law_times.nd (c_mul (c_var 2) (c_var 0)))))
    (css_one (cs_ret (c_var 2)))))⟩
theorem ok__law_gains (T : Tx K mg) : FnOk P w K mg base (L2.CX P w) 2 T.a__law_gains T.d__law_gains ["_law_numbers_here", "_law_size"] (spOf K m__law_gains) :=
  fn_ok (k := 1) T.F__law_gains sc__law_gains fun cdv A outer s H E hr => ⟨_, (css_cons (cs_set 2 sc__law_gains.nd (c_rep (c_lst (ca_cons (c_int) ca_nil)) (c_cb call_len_seq sc_len rfl T.n_len PySem.boot_len (ca_cons (c_var 0) ca_nil))))
    (css_cons (cs_for (passes_of rfl) rfl (ci_rng1 rfl T.n_range (ca_cons (c_sub (c_var 1) (c_cb call_len_seq sc_len rfl T.n_len PySem.boot_len (ca_cons (c_var 0) ca_nil))) ca_nil)) (cg_name 3 sc__law_gains.nd) (css_cons (cs_set 4 sc__law_gains.nd (c_int))
    (css_cons (cs_for (passes_of rfl) rfl (ci_enum rfl T.n_enumerate (ca_cons (c_var 0) ca_nil)) (cg_tup rfl (cgs_cons (cg_name 5 sc__law_gains.nd) (cgs_cons (cg_name 6 sc__law_gains.nd) cgs_nil))) (css_cons (cs_set 7 sc__law_gains.nd (c_mul (c_call (ok__law_times T) (hr.mono (by decide)) rfl T.g__law_times T.F__law_times.kp T.b__law_times .nil (fun _ => .nil) (fun σ => passAt (takes_of rfl rfl rfl rfl) σ) (ca_cons (c_add (c_ix (c_var 2) (c_var 5)) (c_int)) (ca_cons (c_ix (c_var 6) (c_int)) ca_nil))) (c_call (ok__law_times T) (hr.mono (by decide)) rfl T.g__law_times T.F__law_times.kp T.b__law_times .nil (fun _ => .nil) (fun σ => passAt (takes_of rfl rfl rfl rfl) σ) (ca_cons (c_ix (c_var 2) (c_var 4)) (ca_cons (c_ix (c_ix (c_var 0) (c_var 4)) (c_int)) ca_nil)))))
    (css_cons (cs_set 8 sc__law_gains.nd (c_mul (c_call (ok__law_times T) (hr.mono (by decide)) rfl T.g__law_times T.F__law_times.kp T.b__law_times .nil (fun _ => .nil) (fun σ => passAt (takes_of rfl rfl rfl rfl) σ) (ca_cons (c_add (c_ix (c_var 2) (c_var 4)) (c_int)) (ca_cons (c_ix (c_ix (c_var 0) (c_var 4)) (c_int)) ca_nil))) (c_call (ok__law_times T) (hr.mono (by decide)) rfl T.g__law_times T.F__law_times.kp T.b__law_times .nil (fun _ => .nil) (fun σ => passAt (takes_of rfl rfl rfl rfl) σ) (ca_cons (c_ix (c_var 2) (c_var 5)) (ca_cons (c_ix (c_var 6) (c_int)) ca_nil)))))
    (css_one (cs_set 4 sc__law_gains.nd (c_if (ct_gt (c_var 7) (c_var 8)) (c_var 5) (c_var 4)))))))
    (css_one (cs_sub (c_add (c_ix (c_var 2) (c_var 4)) (c_int)) (c_var 2) (c_var 4))))))
    (css_one (cs_ret (c_lc [("_law_at", 5), ("_law_count", 9)] rfl sc__law_gains.nd (ci_enum rfl T.n_enumerate (ca_cons (c_var 2) ca_nil)) (blkOk_by (N := N__law_gains) (sc := defScope s__law_gains) (by decide +kernel)) (fun _ _ _ _ _ => (cg_tup rfl (cgs_cons (cg_name 5 sc__law_gains.nd) (cgs_cons (cg_name 9 sc__law_gains.nd) cgs_nil)))) (fun _ _ _ _ _ => cts_nil) (fun _ _ _ _ _ => (c_tup (ca_cons (c_ix (c_ix (c_var 0) (c_var 5)) (c_int)) (ca_cons (c_var 9) ca_nil)))))))))⟩
theorem ok__law_power (T : Tx K mg) : FnOk P w K mg base (L2.CX P w) 1 T.a__law_power T.d__law_power ["_law_n"] (spOf K m__law_power) :=
  fn_ok (k := 0) T.F__law_power sc__law_power fun cdv A outer s H E hr => ⟨_, (css_one (cs_ret (c_shl (c_int) (c_var 0))))⟩
theorem ok_is_integer (T : Tx K mg) : FnOk P w K mg base (L2.CX P w) 1 T.a_is_integer T.d_is_integer ["value"] (spOf K m_is_integer) :=
  fn_ok (k := 0) T.F_is_integer sc_is_integer fun cdv A outer s H E hr => ⟨_, (css_one (cs_ret (c_andV (c_cb call_isi sc_isi rfl T.n_isinstance (by decide +kernel) (ca_cons (c_var 0) (ca_cons (c_bty rfl T.n_int (by decide +kernel)) ca_nil))) (c_one (c_notV (c_cb call_isi sc_isi rfl T.n_isinstance (by decide +kernel) (ca_cons (c_var 0) (ca_cons (c_bty rfl T.n_bool (by decide +kernel)) ca_nil))))))))⟩
theorem ok_is_within (T : Tx K mg) : FnOk P w K mg base (L2.CX P w) 2 T.a_is_within T.d_is_within ["value", "least", "most"] (spOf K m_is_within) :=
  fn_ok (k := 1) T.F_is_within sc_is_within fun cdv A outer s H E hr => ⟨_, (css_one (cs_ret (c_andV (c_call (ok_is_integer T) (hr.mono (by decide)) rfl T.g_is_integer T.F_is_integer.kp T.b_is_integer .nil (fun _ => .nil) (fun σ => passAt (takes_of rfl rfl rfl rfl) σ) (ca_cons (c_var 0) ca_nil)) (c_one (c_lele (c_var 1) (c_var 0) (c_var 2))))))⟩
theorem ok_is_symbol (T : Tx K mg) : FnOk P w K mg base (L2.CX P w) 3 T.a_is_symbol T.d_is_symbol ["value"] (spOf K m_is_symbol) :=
  fn_ok (k := 2) T.F_is_symbol sc_is_symbol fun cdv A outer s H E hr => ⟨_, (css_one (cs_ret (c_call (ok_is_within T) (hr.mono (by decide)) rfl T.g_is_within T.F_is_within.kp T.b_is_within .nil (fun _ => .nil) (fun σ => passAt (takes_of rfl rfl rfl rfl) σ) (ca_cons (c_var 0) (ca_cons (c_int) (ca_cons (c_sub (c_gint rfl T.c_MOST_SYMBOLS) (c_int)) ca_nil))))))⟩
theorem ok_is_entry (T : Tx K mg) : FnOk P w K mg base (L2.CX P w) 4 T.a_is_entry T.d_is_entry ["value"] (spOf K m_is_entry) :=
  fn_ok (k := 3) T.F_is_entry sc_is_entry fun cdv A outer s H E hr => ⟨_, (css_cons (cs_if (CW.ct (cw_or (ct_not (ct_tru (c_cb call_isi sc_isi rfl T.n_isinstance (by decide +kernel) (ca_cons (c_var 0) (ca_cons (c_bty rfl T.n_tuple (by decide +kernel)) ca_nil))))) (cw_or1 (ct_ne hr.units (c_cb call_len_seq sc_len rfl T.n_len PySem.boot_len (ca_cons (c_var 0) ca_nil)) (c_int))))) (css_one (cs_ret (c_bl))) css_nil)
    (css_one (cs_ret (c_andV (c_call (ok_is_symbol T) (hr.mono (by decide)) rfl T.g_is_symbol T.F_is_symbol.kp T.b_is_symbol .nil (fun _ => .nil) (fun σ => passAt (takes_of rfl rfl rfl rfl) σ) (ca_cons (c_ix (c_var 0) (c_int)) ca_nil)) (c_one (c_call (ok_is_within T) (hr.mono (by decide)) rfl T.g_is_within T.F_is_within.kp T.b_is_within .nil (fun _ => .nil) (fun σ => passAt (takes_of rfl rfl rfl rfl) σ) (ca_cons (c_ix (c_var 0) (c_int)) (ca_cons (c_int) (ca_cons (c_gint rfl T.c_GREATEST_NUMBER) ca_nil)))))))))⟩
theorem ok_is_numbers (T : Tx K mg) : FnOk P w K mg base (L2.CX P w) 5 T.a_is_numbers T.d_is_numbers ["value"] (spOf K m_is_numbers) :=
  fn_ok (k := 4) T.F_is_numbers sc_is_numbers fun cdv A outer s H E hr => ⟨_, (css_cons (cs_if (CW.ct (cw_or (ct_not (ct_tru (c_cb call_isi sc_isi rfl T.n_isinstance (by decide +kernel) (ca_cons (c_var 0) (ca_cons (c_bty rfl T.n_list (by decide +kernel)) ca_nil))))) (cw_or1 (ct_not (ct_lele (c_int) (c_cb call_len_seq sc_len rfl T.n_len PySem.boot_len (ca_cons (c_var 0) ca_nil)) (c_gint rfl T.c_MOST_SYMBOLS)))))) (css_one (cs_ret (c_bl))) css_nil)
    (css_cons (cs_set 1 sc_is_numbers.nd (c_neg (c_int)))
    (css_cons (cs_for (passes_of rfl) rfl (ci_list (c_var 0)) (cg_name 2 sc_is_numbers.nd) (css_cons (cs_if (CW.ct (cw_or (ct_not (ct_tru (c_call (ok_is_entry T) (hr.mono (by decide)) rfl T.g_is_entry T.F_is_entry.kp T.b_is_entry .nil (fun _ => .nil) (fun σ => passAt (takes_of rfl rfl rfl rfl) σ) (ca_cons (c_var 2) ca_nil)))) (cw_or1 (ct_le (c_ix (c_var 2) (c_int)) (c_var 1))))) (css_one (cs_ret (c_bl))) css_nil)
    (css_one (cs_set 1 sc_is_numbers.nd (c_ix (c_var 2) (c_int))))))
    (css_one (cs_ret (c_bl))))))⟩
theorem ok_check_numbers (T : Tx K mg) : FnOk P w K mg base (L2.CX P w) 6 T.a_check_numbers T.d_check_numbers ["numbers"] (spOf K m_check_numbers) :=
  fn_ok (k := 5) T.F_check_numbers sc_check_numbers fun cdv A outer s H E hr => ⟨_, (css_one (cs_if (ct_not (ct_tru (c_call (ok_is_numbers T) (hr.mono (by decide)) rfl T.g_is_numbers T.F_is_numbers.kp T.b_is_numbers .nil (fun _ => .nil) (fun σ => passAt (takes_of rfl rfl rfl rfl) σ) (ca_cons (c_var 0) ca_nil)))) (css_one cs_never) css_nil))⟩
theorem ok_is_bits (T : Tx K mg) : FnOk P w K mg base (L2.CX P w) 3 T.a_is_bits T.d_is_bits ["value"] (spOf K m_is_bits) :=
  fn_ok (k := 2) T.F_is_bits sc_is_bits fun cdv A outer s H E hr => ⟨_, (css_one (cs_ret (c_call (ok_is_within T) (hr.mono (by decide)) rfl T.g_is_within T.F_is_within.kp T.b_is_within .nil (fun _ => .nil) (fun σ => passAt (takes_of rfl rfl rfl rfl) σ) (ca_cons (c_var 0) (ca_cons (c_int) (ca_cons (c_gint rfl T.c_MOST_BITS) ca_nil))))))⟩
theorem ok_check_bits (T : Tx K mg) : FnOk P w K mg base (L2.CX P w) 4 T.a_check_bits T.d_check_bits ["bits"] (spOf K m_check_bits) :=
  fn_ok (k := 3) T.F_check_bits sc_check_bits fun cdv A outer s H E hr => ⟨_, (css_one (cs_if (ct_not (ct_tru (c_call (ok_is_bits T) (hr.mono (by decide)) rfl T.g_is_bits T.F_is_bits.kp T.b_is_bits .nil (fun _ => .nil) (fun σ => passAt (takes_of rfl rfl rfl rfl) σ) (ca_cons (c_var 0) ca_nil)))) (css_one cs_never) css_nil))⟩
theorem ok_check_counting (T : Tx K mg) : FnOk P w K mg base (L2.CX P w) 7 T.a_check_counting T.d_check_counting ["numbers", "bits"] (spOf K m_check_counting) :=
  fn_ok (k := 6) T.F_check_counting sc_check_counting fun cdv A outer s H E hr => ⟨_, (css_cons (cs_expr (c_call (ok_check_numbers T) (hr.mono (by decide)) rfl T.g_check_numbers T.F_check_numbers.kp T.b_check_numbers .nil (fun _ => .nil) (fun σ => passAt (takes_of rfl rfl rfl rfl) σ) (ca_cons (c_var 0) ca_nil)))
    (css_cons (cs_expr (c_call (ok_check_bits T) (hr.mono (by decide)) rfl T.g_check_bits T.F_check_bits.kp T.b_check_bits .nil (fun _ => .nil) (fun σ => passAt (takes_of rfl rfl rfl rfl) σ) (ca_cons (c_var 1) ca_nil)))
    (css_one (cs_if (ct_gt (c_cb call_len_seq sc_len rfl T.n_len PySem.boot_len (ca_cons (c_var 0) ca_nil)) (c_shl (c_int) (c_var 1))) (css_one cs_never) css_nil))))⟩
theorem ok_sum_of (T : Tx K mg) : FnOk P w K mg base (L2.CX P w) 1 T.a_sum_of T.d_sum_of ["numbers"] (spOf K m_sum_of) :=
  fn_ok (k := 0) T.F_sum_of sc_sum_of fun cdv A outer s H E hr => ⟨_, (css_one (cs_ret (c_cb (cr_sum rfl) sc_sum rfl T.n_sum (by decide +kernel) (ca_cons (c_lc [("_", 1), ("number", 2)] rfl sc_sum_of.nd (ci_list (c_var 0)) (blkOk_by (N := N_sum_of) (sc := defScope s_sum_of) (by decide +kernel)) (fun _ _ _ _ _ => (cg_tup rfl (cgs_cons (cg_name 1 sc_sum_of.nd) (cgs_cons (cg_name 2 sc_sum_of.nd) cgs_nil)))) (fun _ _ _ _ _ => cts_nil) (fun _ _ _ _ _ => (c_var 2))) ca_nil))))⟩
theorem ok_check_product_sum (T : Tx K mg) : FnOk P w K mg base (L2.CX P w) 2 T.a_check_product_sum T.d_check_product_sum ["numbers"] (spOf K m_check_product_sum) :=
  fn_ok (k := 1) T.F_check_product_sum sc_check_product_sum fun cdv A outer s H E hr => ⟨_, (css_one (cs_if (ct_gt (c_call (ok_sum_of T) (hr.mono (by decide)) rfl T.g_sum_of T.F_sum_of.kp T.b_sum_of .nil (fun _ => .nil) (fun σ => passAt (takes_of rfl rfl rfl rfl) σ) (ca_cons (c_var 0) ca_nil)) (c_gint rfl T.c_MOST_PRODUCT_SUM)) (css_one cs_never) css_nil))⟩
theorem ok_power (T : Tx K mg) : FnOk P w K mg base (L2.CX P w) 1 T.a_power T.d_power ["base", "exponent"] (spOf K m_power) :=
  fn_ok (k := 0) T.F_power sc_power fun cdv A outer s H E hr => ⟨_, (css_cons (cs_set 2 sc_power.nd (c_int))
    (css_cons (cs_set 3 sc_power.nd (c_var 0))
    (css_cons (cs_set 4 sc_power.nd (c_var 1))
    (css_cons (cs_while 1000000 (passes_of rfl) (ct_gt (c_var 4) (c_int)) (css_cons (cs_if (ct_tru (c_and (c_var 4) (c_int))) (css_one (cs_set 2 sc_power.nd (c_mul (c_var 2) (c_var 3)))) css_nil)
    (css_cons (cs_set 3 sc_power.nd (c_mul (c_var 3) (c_var 3)))
    (css_one (cs_set 4 sc_power.nd (c_shr (c_var 4) (c_int)))))))
    (css_one (cs_ret (c_var 2)))))))⟩
theorem ok_gain (T : Tx K mg) : FnOk P w K mg base (L2.CX P w) 2 T.a_gain T.d_gain ["count", "number"] (spOf K m_gain) :=
  fn_ok (k := 1) T.F_gain sc_gain fun cdv A outer s H E hr => ⟨_, (css_one (cs_ret (c_tup (ca_cons (c_call (ok_power T) (hr.mono (by decide)) rfl T.g_power T.F_power.kp T.b_power .nil (fun _ => .nil) (fun σ => passAt (takes_of rfl rfl rfl rfl) σ) (ca_cons (c_add (c_var 0) (c_int)) (ca_cons (c_var 1) ca_nil))) (ca_cons (c_call (ok_power T) (hr.mono (by decide)) rfl T.g_power T.F_power.kp T.b_power .nil (fun _ => .nil) (fun σ => passAt (takes_of rfl rfl rfl rfl) σ) (ca_cons (c_var 0) (ca_cons (c_var 1) ca_nil))) ca_nil)))))⟩
theorem ok_place_of_greatest (T : Tx K mg) : FnOk P w K mg base (L2.CX P w) 1 T.a_place_of_greatest T.d_place_of_greatest ["gains"] (spOf K m_place_of_greatest) :=
  fn_ok (k := 0) T.F_place_of_greatest sc_place_of_greatest fun cdv A outer s H E hr => ⟨_, (css_cons (cs_set 1 sc_place_of_greatest.nd (c_int))
    (css_cons (cs_for (passes_of rfl) rfl (ci_enum rfl T.n_enumerate (ca_cons (c_var 0) ca_nil)) (cg_tup rfl (cgs_cons (cg_name 2 sc_place_of_greatest.nd) (cgs_cons (cg_tup rfl (cgs_cons (cg_name 3 sc_place_of_greatest.nd) (cgs_cons (cg_name 4 sc_place_of_greatest.nd) cgs_nil))) cgs_nil))) (css_one (cs_if (ct_gt (c_mul (c_var 3) (c_ix (c_ix (c_var 0) (c_var 1)) (c_int))) (c_mul (c_ix (c_ix (c_var 0) (c_var 1)) (c_int)) (c_var 4))) (css_one (cs_set 1 sc_place_of_greatest.nd (c_var 2))) css_nil)))
    (css_one (cs_ret (c_var 1)))))⟩
theorem ok_symbols_of (T : Tx K mg) : FnOk P w K mg base (L2.CX P w) 1 T.a_symbols_of T.d_symbols_of ["numbers"] (spOf K m_symbols_of) :=
  fn_ok (k := 0) T.F_symbols_of sc_symbols_of fun cdv A outer s H E hr => ⟨_, (css_one (cs_ret (c_lc [("symbol", 1), ("_", 2)] rfl sc_symbols_of.nd (ci_list (c_var 0)) (blkOk_by (N := N_symbols_of) (sc := defScope s_symbols_of) (by decide +kernel)) (fun _ _ _ _ _ => (cg_tup rfl (cgs_cons (cg_name 1 sc_symbols_of.nd) (cgs_cons (cg_name 2 sc_symbols_of.nd) cgs_nil)))) (fun _ _ _ _ _ => cts_nil) (fun _ _ _ _ _ => (c_var 1)))))⟩
theorem ok_named (T : Tx K mg) : FnOk P w K mg base (L2.CX P w) 2 T.a_named T.d_named ["numbers", "counts"] (spOf K m_named) :=
  fn_ok (k := 1) T.F_named sc_named fun cdv A outer s H E hr => ⟨_, (css_one (cs_ret (c_listZip rfl rfl T.n_list rfl T.n_zip (ca_cons (c_call (ok_symbols_of T) (hr.mono (by decide)) rfl T.g_symbols_of T.F_symbols_of.kp T.b_symbols_of .nil (fun _ => .nil) (fun σ => passAt (takes_of rfl rfl rfl rfl) σ) (ca_cons (c_var 0) ca_nil)) (ca_cons (c_var 1) ca_nil)))))⟩
theorem ok_by_product (T : Tx K mg) : FnOk P w K mg base (L2.CX P w) 8 T.a_by_product T.d_by_product ["numbers", "bits"] (spOf K m_by_product) :=
  fn_ok (k := 7) T.F_by_product sc_by_product fun cdv A outer s H E hr => ⟨_, (css_cons (cs_expr (c_call (ok_check_counting T) (hr.mono (by decide)) rfl T.g_check_counting T.F_check_counting.kp T.b_check_counting .nil (fun _ => .nil) (fun σ => passAt (takes_of rfl rfl rfl rfl) σ) (ca_cons (c_var 0) (ca_cons (c_var 1) ca_nil))))
    (css_cons (cs_if (ct_gt (c_var 1) (c_gint rfl T.c_MOST_PRODUCT_BITS)) (css_one cs_never) css_nil)
    (css_cons (cs_expr (c_call (ok_check_product_sum T) (hr.mono (by decide)) rfl T.g_check_product_sum T.F_check_product_sum.kp T.b_check_product_sum .nil (fun _ => .nil) (fun σ => passAt (takes_of rfl rfl rfl rfl) σ) (ca_cons (c_var 0) ca_nil)))
    (css_cons (cs_set 2 sc_by_product.nd (c_rep (c_lst (ca_cons (c_int) ca_nil)) (c_cb call_len_seq sc_len rfl T.n_len PySem.boot_len (ca_cons (c_var 0) ca_nil))))
    (css_cons (cs_setLc 3 [("_", 4), ("number", 5)] rfl sc_by_product.nd (ci_list (c_var 0)) (blkOk_by (N := N_by_product) (sc := defScope s_by_product) (by decide +kernel)) (fun _ _ _ _ _ => (cg_tup rfl (cgs_cons (cg_name 4 sc_by_product.nd) (cgs_cons (cg_name 5 sc_by_product.nd) cgs_nil)))) (fun _ _ _ _ _ => cts_nil) (fun _ _ _ _ _ => (c_call (ok_gain T) (hr.mono (by decide)) rfl T.g_gain T.F_gain.kp T.b_gain .nil (fun _ => .nil) (fun σ => passF σ) (ca_cons (c_int) (ca_cons (c_var 5) ca_nil)))) (sw_true rfl rfl rfl (by decide +kernel)))
    (css_cons (cs_for (passes_of rfl) rfl (ci_rng1 rfl T.n_range (ca_cons (c_sub (c_shl (c_int) (c_var 1)) (c_cb call_len_seq sc_len rfl T.n_len PySem.boot_len (ca_cons (c_var 0) ca_nil))) ca_nil)) (cg_name 4 sc_by_product.nd) (css_cons (cs_set 6 sc_by_product.nd (c_call (ok_place_of_greatest T) (hr.mono (by decide)) rfl T.g_place_of_greatest T.F_place_of_greatest.kp T.b_place_of_greatest .nil (fun _ => .nil) (fun σ => passAt (takes_of rfl rfl rfl rfl) σ) (ca_cons (c_var 3) ca_nil)))
    (css_cons (cs_augL ip_add sr_ip (c_var 2) (c_var 6) (c_int))
    (css_one (cs_sub (c_call (ok_gain T) (hr.mono (by decide)) rfl T.g_gain T.F_gain.kp T.b_gain .nil (fun _ => .nil) (fun σ => passAt (takes_of rfl rfl rfl rfl) σ) (ca_cons (c_ix (c_var 2) (c_var 6)) (ca_cons (c_ix (c_ix (c_var 0) (c_var 6)) (c_int)) ca_nil))) (c_var 3) (c_var 6))))))
    (css_one (cs_ret (c_call (ok_named T) (hr.mono (by decide)) rfl T.g_named T.F_named.kp T.b_named .nil (fun _ => .nil) (fun σ => passAt (takes_of rfl rfl rfl rfl) σ) (ca_cons (c_var 0) (ca_cons (c_var 2) ca_nil)))))))))))⟩
theorem ok__law_product (T : Tx K mg) : FnOk P w K mg base (L2.CX P w) 2 T.a__law_product T.d__law_product ["_law_numbers_here", "_law_counts_here"] (spOf K m__law_product) :=
  fn_ok (k := 1) T.F__law_product sc__law_product fun cdv A outer s H E hr => ⟨_, (css_cons (cs_set 2 sc__law_product.nd (c_int))
    (css_cons (cs_for (passes_of rfl) rfl (ci_enum rfl T.n_enumerate (ca_cons (c_var 0) ca_nil)) (cg_tup rfl (cgs_cons (cg_name 3 sc__law_product.nd) (cgs_cons (cg_name 4 sc__law_product.nd) cgs_nil))) (css_one (cs_set 2 sc__law_product.nd (c_mul (c_var 2) (c_call (ok__law_times T) (hr.mono (by decide)) rfl T.g__law_times T.F__law_times.kp T.b__law_times .nil (fun _ => .nil) (fun σ => passAt (takes_of rfl rfl rfl rfl) σ) (ca_cons (c_ix (c_ix (c_var 1) (c_var 3)) (c_int)) (ca_cons (c_ix (c_var 4) (c_int)) ca_nil)))))))
    (css_one (cs_ret (c_var 2)))))⟩
theorem ok_is_size (T : Tx K mg) : FnOk P w K mg base (L2.CX P w) 1 T.a_is_size T.d_is_size ["total"] (spOf K m_is_size) :=
  fn_ok (k := 0) T.F_is_size sc_is_size fun cdv A outer s H E hr => ⟨_, (css_one (cs_ret (c_andV (c_lele (c_int) (c_var 0) (c_shl (c_int) (c_gint rfl T.c_MOST_BITS))) (c_one (c_eq hr.units (c_and (c_var 0) (c_sub (c_var 0) (c_int))) (c_int))))))⟩
theorem ok_is_counts (T : Tx K mg) : FnOk P w K mg base (L2.CX P w) 6 T.a_is_counts T.d_is_counts ["value"] (spOf K m_is_counts) :=
  fn_ok (k := 5) T.F_is_counts sc_is_counts fun cdv A outer s H E hr => ⟨_, (css_one (cs_ret (c_andV (c_call (ok_is_numbers T) (hr.mono (by decide)) rfl T.g_is_numbers T.F_is_numbers.kp T.b_is_numbers .nil (fun _ => .nil) (fun σ => passAt (takes_of rfl rfl rfl rfl) σ) (ca_cons (c_var 0) ca_nil)) (c_one (c_call (ok_is_size T) (hr.mono (by decide)) rfl T.g_is_size T.F_is_size.kp T.b_is_size .nil (fun _ => .nil) (fun σ => passAt (takes_of rfl rfl rfl rfl) σ) (ca_cons (c_call (ok_sum_of T) (hr.mono (by decide)) rfl T.g_sum_of T.F_sum_of.kp T.b_sum_of .nil (fun _ => .nil) (fun σ => passAt (takes_of rfl rfl rfl rfl) σ) (ca_cons (c_var 0) ca_nil)) ca_nil))))))⟩
theorem ok_are_counts_for (T : Tx K mg) : FnOk P w K mg base (L2.CX P w) 7 T.a_are_counts_for T.d_are_counts_for ["counts", "numbers"] (spOf K m_are_counts_for) :=
  fn_ok (k := 6) T.F_are_counts_for sc_are_counts_for fun cdv A outer s H E hr => ⟨_, (css_one (cs_ret (c_andV (c_call (ok_is_counts T) (hr.mono (by decide)) rfl T.g_is_counts T.F_is_counts.kp T.b_is_counts .nil (fun _ => .nil) (fun σ => passAt (takes_of rfl rfl rfl rfl) σ) (ca_cons (c_var 0) ca_nil)) (c_one (c_eq hr.units (c_call (ok_symbols_of T) (hr.mono (by decide)) rfl T.g_symbols_of T.F_symbols_of.kp T.b_symbols_of .nil (fun _ => .nil) (fun σ => passAt (takes_of rfl rfl rfl rfl) σ) (ca_cons (c_var 0) ca_nil)) (c_call (ok_symbols_of T) (hr.mono (by decide)) rfl T.g_symbols_of T.F_symbols_of.kp T.b_symbols_of .nil (fun _ => .nil) (fun σ => passAt (takes_of rfl rfl rfl rfl) σ) (ca_cons (c_var 1) ca_nil)))))))⟩
theorem ok_product_of (T : Tx K mg) : FnOk P w K mg base (L2.CX P w) 2 T.a_product_of T.d_product_of ["numbers", "counts"] (spOf K m_product_of) :=
  fn_ok (k := 1) T.F_product_of sc_product_of fun cdv A outer s H E hr => ⟨_, (css_cons (cs_set 2 sc_product_of.nd (c_int))
    (css_cons (cs_for (passes_of rfl) rfl (ci_zip2 rfl T.n_zip (ca_cons (c_var 0) (ca_cons (c_var 1) ca_nil))) (cg_tup rfl (cgs_cons (cg_tup rfl (cgs_cons (cg_name 3 sc_product_of.nd) (cgs_cons (cg_name 4 sc_product_of.nd) cgs_nil))) (cgs_cons (cg_tup rfl (cgs_cons (cg_name 3 sc_product_of.nd) (cgs_cons (cg_name 5 sc_product_of.nd) cgs_nil))) cgs_nil))) (css_one (cs_set 2 sc_product_of.nd (c_mul (c_var 2) (c_call (ok_power T) (hr.mono (by decide)) rfl T.g_power T.F_power.kp T.b_power .nil (fun _ => .nil) (fun σ => passAt (takes_of rfl rfl rfl rfl) σ) (ca_cons (c_var 5) (ca_cons (c_var 4) ca_nil)))))))
    (css_one (cs_ret (c_var 2)))))⟩
theorem ok_product_order (T : Tx K mg) : FnOk P w K mg base (L2.CX P w) 8 T.a_product_order T.d_product_order ["numbers", "counts", "others"] (spOf K m_product_order) :=
  fn_ok (k := 7) T.F_product_order sc_product_order fun cdv A outer s H E hr => ⟨_, (css_cons (cs_expr (c_call (ok_check_numbers T) (hr.mono (by decide)) rfl T.g_check_numbers T.F_check_numbers.kp T.b_check_numbers .nil (fun _ => .nil) (fun σ => passAt (takes_of rfl rfl rfl rfl) σ) (ca_cons (c_var 0) ca_nil)))
    (css_cons (cs_if (ct_not (ct_tru (c_call (ok_are_counts_for T) (hr.mono (by decide)) rfl T.g_are_counts_for T.F_are_counts_for.kp T.b_are_counts_for .nil (fun _ => .nil) (fun σ => passAt (takes_of rfl rfl rfl rfl) σ) (ca_cons (c_var 1) (ca_cons (c_var 0) ca_nil))))) (css_one cs_never) css_nil)
    (css_cons (cs_if (ct_not (ct_tru (c_call (ok_are_counts_for T) (hr.mono (by decide)) rfl T.g_are_counts_for T.F_are_counts_for.kp T.b_are_counts_for .nil (fun _ => .nil) (fun σ => passAt (takes_of rfl rfl rfl rfl) σ) (ca_cons (c_var 2) (ca_cons (c_var 0) ca_nil))))) (css_one cs_never) css_nil)
    (css_cons (cs_expr (c_call (ok_check_product_sum T) (hr.mono (by decide)) rfl T.g_check_product_sum T.F_check_product_sum.kp T.b_check_product_sum .nil (fun _ => .nil) (fun σ => passAt (takes_of rfl rfl rfl rfl) σ) (ca_cons (c_var 0) ca_nil)))
    (css_cons (cs_set 3 sc_product_order.nd (c_call (ok_product_of T) (hr.mono (by decide)) rfl T.g_product_of T.F_product_of.kp T.b_product_of .nil (fun _ => .nil) (fun σ => passAt (takes_of rfl rfl rfl rfl) σ) (ca_cons (c_var 0) (ca_cons (c_var 1) ca_nil))))
    (css_cons (cs_set 4 sc_product_order.nd (c_call (ok_product_of T) (hr.mono (by decide)) rfl T.g_product_of T.F_product_of.kp T.b_product_of .nil (fun _ => .nil) (fun σ => passAt (takes_of rfl rfl rfl rfl) σ) (ca_cons (c_var 0) (ca_cons (c_var 2) ca_nil))))
    (css_cons (cs_if (ct_lt (c_var 3) (c_var 4)) (css_one (cs_ret (c_neg (c_int)))) css_nil)
    (css_one (cs_ret (c_if (ct_gt (c_var 3) (c_var 4)) (c_int) (c_int)))))))))))⟩
theorem ok__law_order_right (T : Tx K mg) : FnOk P w K mg base (L2.CX P w) 9 T.a__law_order_right T.d__law_order_right ["_law_numbers_here", "_law_one_here", "_law_other"] (spOf K m__law_order_right) :=
  fn_ok (k := 8) T.F__law_order_right sc__law_order_right fun cdv A outer s H E hr => ⟨_, (css_cons (cs_par 3 4 rfl sc__law_order_right.nd (ca_cons (c_call (ok__law_product T) (hr.mono (by decide)) rfl T.g__law_product T.F__law_product.kp T.b__law_product .nil (fun _ => .nil) (fun σ => passAt (takes_of rfl rfl rfl rfl) σ) (ca_cons (c_var 0) (ca_cons (c_var 1) ca_nil))) (ca_cons (c_call (ok__law_product T) (hr.mono (by decide)) rfl T.g__law_product T.F__law_product.kp T.b__law_product .nil (fun _ => .nil) (fun σ => passAt (takes_of rfl rfl rfl rfl) σ) (ca_cons (c_var 0) (ca_cons (c_var 2) ca_nil))) ca_nil)))
    (css_cons (cs_set 5 sc__law_order_right.nd (c_if (ct_eq hr.units (c_var 3) (c_var 4)) (c_int) (c_if (ct_gt (c_var 3) (c_var 4)) (c_int) (c_neg (c_int)))))
    (css_cons (cs_if (CW.ct (cw_or (ct_ne hr.units (c_call (ok_product_order T) (hr.mono (by decide)) rfl T.g_product_order T.F_product_order.kp T.b_product_order .nil (fun _ => .nil) (fun σ => passAt (takes_of rfl rfl rfl rfl) σ) (ca_cons (c_var 0) (ca_cons (c_var 1) (ca_cons (c_var 2) ca_nil)))) (c_var 5)) (cw_or1 (ct_ne hr.units (c_call (ok_product_order T) (hr.mono (by decide)) rfl T.g_product_order T.F_product_order.kp T.b_product_order .nil (fun _ => .nil) (fun σ => passAt (takes_of rfl rfl rfl rfl) σ) (ca_cons (c_var 0) (ca_cons (c_var 2) (ca_cons (c_var 1) ca_nil)))) (c_sub (c_int) (c_var 5)))))) (css_one (cs_ret (c_bl))) css_nil)
    (css_one (cs_ret (c_eq hr.units (c_callK0 E (ok_product_order T) (hr.mono (by decide)) rfl T.g_product_order T.F_product_order.kp (T.kb_kp_product_order_0) (fun _ _ _ _ _ => kp_product_order_0_rel) (passes_call (takes_of rfl rfl rfl rfl) fun _ _ _ _ h => h) (fun _ _ _ _ h => h) (ck_cons (c_var 2) (ck_cons (c_var 1) (ck_cons (c_var 0) ck_nil)))) (c_var 5)))))))⟩
theorem ok_law (T : Tx K mg) : FnOk P w K mg base (L2.CX P w) 10 T.a_law T.d_law ["_law_script"] (spOf K m_law) :=
  fn_ok (k := 9) T.F_law sc_law fun cdv A outer s H E hr => ⟨_, (css_cons (cs_for (passes_of rfl) rfl (ci_list (c_cat (c_lst (ca_cons (c_call (ok__law_cell_at T) (hr.mono (by decide)) rfl T.g__law_cell_at T.F__law_cell_at.kp T.b__law_cell_at .nil (fun _ => .nil) (fun σ => passAt (takes_of rfl rfl rfl rfl) σ) (ca_cons (c_var 0) (ca_cons (c_int) ca_nil))) ca_nil)) (c_sl (c_var 0) (co_some (c_int)) (co_some (c_int))))) (cg_name 1 sc_law.nd) (css_cons (cs_set 2 sc_law.nd (c_call (ok__law_source_of T) (hr.mono (by decide)) rfl T.g__law_source_of T.F__law_source_of.kp T.b__law_source_of .nil (fun _ => .nil) (fun σ => passAt (takes_of rfl rfl rfl rfl) σ) (ca_cons (c_var 1) ca_nil)))
    (css_one (cs_for (passes_of rfl) rfl (ci_rng1 rfl T.n_range (ca_cons (c_int) ca_nil)) (cg_name 3 sc_law.nd) (css_cons (cs_set 4 sc_law.nd (c_call (ok__law_numbers T) (hr.mono (by decide)) rfl T.g__law_numbers T.F__law_numbers.kp T.b__law_numbers .nil (fun _ => .nil) (fun σ => passAt (takes_of rfl rfl rfl rfl) σ) (ca_cons (c_var 2) (ca_cons (c_int) (ca_cons (c_int) ca_nil)))))
    (css_cons (cs_set 5 sc_law.nd (c_add (c_int) (c_call (ok__law_next T) (hr.mono (by decide)) rfl T.g__law_next T.F__law_next.kp T.b__law_next .nil (fun _ => .nil) (fun σ => passAt (takes_of rfl rfl rfl rfl) σ) (ca_cons (c_var 2) (ca_cons (c_int) ca_nil)))))
    (css_cons (cs_par 6 7 rfl sc_law.nd (ca_cons (c_cty call_list_of sc_list rfl T.n_list (by decide +kernel) (ca_cons (c_var 4) ca_nil)) (ca_cons (c_call (ok__law_gains T) (hr.mono (by decide)) rfl T.g__law_gains T.F__law_gains.kp T.b__law_gains .nil (fun _ => .nil) (fun σ => passAt (takes_of rfl rfl rfl rfl) σ) (ca_cons (c_var 4) (ca_cons (c_call (ok__law_power T) (hr.mono (by decide)) rfl T.g__law_power T.F__law_power.kp T.b__law_power .nil (fun _ => .nil) (fun σ => passAt (takes_of rfl rfl rfl rfl) σ) (ca_cons (c_var 5) ca_nil)) ca_nil))) ca_nil)))
    (css_cons (cs_if (ct_ne hr.units (c_call (ok_by_product T) (hr.mono (by decide)) rfl T.g_by_product T.F_by_product.kp T.b_by_product .nil (fun _ => .nil) (fun σ => passAt (takes_of rfl rfl rfl rfl) σ) (ca_cons (c_var 4) (ca_cons (c_var 5) ca_nil))) (c_var 7)) (css_one (cs_ret (c_bl))) css_nil)
    (css_cons (cs_if (ct_ne hr.units (c_callK0 E (ok_by_product T) (hr.mono (by decide)) rfl T.g_by_product T.F_by_product.kp (T.kb_kp_by_product_1) (fun _ _ _ _ _ => kp_by_product_1_rel) (passes_call (takes_of rfl rfl rfl rfl) fun _ _ _ _ h => h) (fun _ _ _ _ h => h) (ck_cons (c_var 5) (ck_cons (c_var 4) ck_nil))) (c_var 7)) (css_one (cs_ret (c_bl))) css_nil)
    (css_cons (cs_if (ct_ne hr.units (c_var 4) (c_var 6)) (css_one (cs_ret (c_bl))) css_nil)
    (css_cons (cs_setLc 8 [("_law_symbol", 9), ("_law_number", 10)] rfl sc_law.nd (ci_list (c_var 4)) (blkOk_by (N := N_law) (sc := defScope s_law) (by decide +kernel)) (fun _ _ _ _ _ => (cg_tup rfl (cgs_cons (cg_name 9 sc_law.nd) (cgs_cons (cg_name 10 sc_law.nd) cgs_nil)))) (fun _ _ _ _ _ => cts_nil) (fun _ _ _ _ _ => (c_tup (ca_cons (c_var 9) (ca_cons (c_add (c_int) (c_call (ok__law_next T) (hr.mono (by decide)) rfl T.g__law_next T.F__law_next.kp T.b__law_next .nil (fun _ => .nil) (fun σ => passF σ) (ca_cons (c_var 2) (ca_cons (c_int) ca_nil)))) ca_nil)))) (sw_true rfl rfl rfl (by decide +kernel)))
    (css_cons (cs_set 11 sc_law.nd (c_call (ok__law_gains T) (hr.mono (by decide)) rfl T.g__law_gains T.F__law_gains.kp T.b__law_gains .nil (fun _ => .nil) (fun σ => passAt (takes_of rfl rfl rfl rfl) σ) (ca_cons (c_var 8) (ca_cons (c_call (ok__law_power T) (hr.mono (by decide)) rfl T.g__law_power T.F__law_power.kp T.b__law_power .nil (fun _ => .nil) (fun σ => passAt (takes_of rfl rfl rfl rfl) σ) (ca_cons (c_var 5) ca_nil)) ca_nil))))
    (css_cons (cs_set 12 sc_law.nd (c_call (ok__law_gains T) (hr.mono (by decide)) rfl T.g__law_gains T.F__law_gains.kp T.b__law_gains .nil (fun _ => .nil) (fun σ => passAt (takes_of rfl rfl rfl rfl) σ) (ca_cons (c_var 4) (ca_cons (c_call (ok__law_power T) (hr.mono (by decide)) rfl T.g__law_power T.F__law_power.kp T.b__law_power .nil (fun _ => .nil) (fun σ => passAt (takes_of rfl rfl rfl rfl) σ) (ca_cons (c_add (c_var 5) (c_int)) ca_nil)) ca_nil))))
    (css_cons (cs_if (ct_not (ct_tru (c_call (ok__law_order_right T) (hr.mono (by decide)) rfl T.g__law_order_right T.F__law_order_right.kp T.b__law_order_right .nil (fun _ => .nil) (fun σ => passAt (takes_of rfl rfl rfl rfl) σ) (ca_cons (c_var 4) (ca_cons (c_var 7) (ca_cons (c_var 11) ca_nil)))))) (css_one (cs_ret (c_bl))) css_nil)
    (css_cons (cs_if (ct_not (ct_tru (c_call (ok__law_order_right T) (hr.mono (by decide)) rfl T.g__law_order_right T.F__law_order_right.kp T.b__law_order_right .nil (fun _ => .nil) (fun σ => passAt (takes_of rfl rfl rfl rfl) σ) (ca_cons (c_var 4) (ca_cons (c_var 7) (ca_cons (c_var 12) ca_nil)))))) (css_one (cs_ret (c_bl))) css_nil)
    (css_one (cs_if (ct_not (ct_tru (c_call (ok__law_order_right T) (hr.mono (by decide)) rfl T.g__law_order_right T.F__law_order_right.kp T.b__law_order_right .nil (fun _ => .nil) (fun σ => passAt (takes_of rfl rfl rfl rfl) σ) (ca_cons (c_var 4) (ca_cons (c_var 7) (ca_cons (c_var 7) ca_nil)))))) (css_one (cs_ret (c_bl))) css_nil)))))))))))))))))
    (css_cons (cs_set 2 sc_law.nd (c_call (ok__law_source_of T) (hr.mono (by decide)) rfl T.g__law_source_of T.F__law_source_of.kp T.b__law_source_of .nil (fun _ => .nil) (fun σ => passAt (takes_of rfl rfl rfl rfl) σ) (ca_cons (c_call (ok__law_cell_at T) (hr.mono (by decide)) rfl T.g__law_cell_at T.F__law_cell_at.kp T.b__law_cell_at .nil (fun _ => .nil) (fun σ => passAt (takes_of rfl rfl rfl rfl) σ) (ca_cons (c_var 0) (ca_cons (c_int) ca_nil))) ca_nil)))
    (css_cons (cs_setLc 13 [("_law_symbol", 9)] rfl sc_law.nd (ci_list (c_call (ok__law_symbols T) (hr.mono (by decide)) rfl T.g__law_symbols T.F__law_symbols.kp T.b__law_symbols .nil (fun _ => .nil) (fun σ => passAt (takes_of rfl rfl rfl rfl) σ) (ca_cons (c_var 2) (ca_cons (c_int) ca_nil)))) (blkOk_by (N := N_law) (sc := defScope s_law) (by decide +kernel)) (fun _ _ _ _ _ => (cg_name 9 sc_law.nd)) (fun _ _ _ _ _ => cts_nil) (fun _ _ _ _ _ => (c_tup (ca_cons (c_var 9) (ca_cons (c_add (c_int) (c_call (ok__law_next T) (hr.mono (by decide)) rfl T.g__law_next T.F__law_next.kp T.b__law_next .nil (fun _ => .nil) (fun σ => passF σ) (ca_cons (c_var 2) (ca_cons (c_int) ca_nil)))) ca_nil)))) (sw_true rfl rfl rfl (by decide +kernel)))
    (css_cons (cs_if (ct_ne hr.units (c_call (ok_by_product T) (hr.mono (by decide)) rfl T.g_by_product T.F_by_product.kp T.b_by_product .nil (fun _ => .nil) (fun σ => passAt (takes_of rfl rfl rfl rfl) σ) (ca_cons (c_var 13) (ca_cons (c_int) ca_nil))) (c_call (ok__law_gains T) (hr.mono (by decide)) rfl T.g__law_gains T.F__law_gains.kp T.b__law_gains .nil (fun _ => .nil) (fun σ => passAt (takes_of rfl rfl rfl rfl) σ) (ca_cons (c_var 13) (ca_cons (c_int) ca_nil)))) (css_one (cs_ret (c_bl))) css_nil)
    (css_cons (cs_set 14 sc_law.nd (c_add (c_int) (c_call (ok__law_next T) (hr.mono (by decide)) rfl T.g__law_next T.F__law_next.kp T.b__law_next .nil (fun _ => .nil) (fun σ => passAt (takes_of rfl rfl rfl rfl) σ) (ca_cons (c_var 2) (ca_cons (c_int) ca_nil)))))
    (css_cons (cs_if (ct_ne hr.units (c_call (ok_product_order T) (hr.mono (by decide)) rfl T.g_product_order T.F_product_order.kp T.b_product_order .nil (fun _ => .nil) (fun σ => passAt (takes_of rfl rfl rfl rfl) σ) (ca_cons (c_lst (ca_cons (c_tup (ca_cons (c_int) (ca_cons (c_int) ca_nil))) (ca_cons (c_tup (ca_cons (c_int) (ca_cons (c_int) ca_nil))) ca_nil))) (ca_cons (c_lst (ca_cons (c_tup (ca_cons (c_int) (ca_cons (c_sub (c_int) (c_var 14)) ca_nil))) (ca_cons (c_tup (ca_cons (c_int) (ca_cons (c_var 14) ca_nil))) ca_nil))) (ca_cons (c_lst (ca_cons (c_tup (ca_cons (c_int) (ca_cons (c_sub (c_int) (c_var 14)) ca_nil))) (ca_cons (c_tup (ca_cons (c_int) (ca_cons (c_add (c_var 14) (c_int)) ca_nil))) ca_nil))) ca_nil)))) (c_neg (c_int))) (css_one (cs_ret (c_bl))) css_nil)
    (css_cons (cs_if (ct_ne hr.units (c_call (ok_product_order T) (hr.mono (by decide)) rfl T.g_product_order T.F_product_order.kp T.b_product_order .nil (fun _ => .nil) (fun σ => passAt (takes_of rfl rfl rfl rfl) σ) (ca_cons (c_lst (ca_cons (c_tup (ca_cons (c_int) (ca_cons (c_int) ca_nil))) (ca_cons (c_tup (ca_cons (c_int) (ca_cons (c_int) ca_nil))) ca_nil))) (ca_cons (c_lst (ca_cons (c_tup (ca_cons (c_int) (ca_cons (c_int) ca_nil))) (ca_cons (c_tup (ca_cons (c_int) (ca_cons (c_int) ca_nil))) ca_nil))) (ca_cons (c_lst (ca_cons (c_tup (ca_cons (c_int) (ca_cons (c_int) ca_nil))) (ca_cons (c_tup (ca_cons (c_int) (ca_cons (c_int) ca_nil))) ca_nil))) ca_nil)))) (c_int)) (css_one (cs_ret (c_bl))) css_nil)
    (css_one (cs_ret (c_eq hr.units (c_call (ok_by_product T) (hr.mono (by decide)) rfl T.g_by_product T.F_by_product.kp T.b_by_product .nil (fun _ => .nil) (fun σ => passAt (takes_of rfl rfl rfl rfl) σ) (ca_cons (c_lst (ca_cons (c_tup (ca_cons (c_int) (ca_cons (c_int) ca_nil))) (ca_cons (c_tup (ca_cons (c_int) (ca_cons (c_int) ca_nil))) (ca_cons (c_tup (ca_cons (c_int) (ca_cons (c_int) ca_nil))) ca_nil)))) (ca_cons (c_int) ca_nil))) (c_lst (ca_cons (c_tup (ca_cons (c_int) (ca_cons (c_int) ca_nil))) (ca_cons (c_tup (ca_cons (c_int) (ca_cons (c_int) ca_nil))) (ca_cons (c_tup (ca_cons (c_int) (ca_cons (c_int) ca_nil))) ca_nil))))))))))))))⟩
end
theorem kp_product_order_0_to {kV dc pm cd ct : Value} {an : Option Addr} : ∀ (us ws : List Value), (kp_product_order_0 us ws).length = (["numbers", "counts", "others"] : List Str).length →
    bindArgs (PySem.W.fnOf "product_order" "product_order" (defArgs s_product_order) (defBody s_product_order) (defScope s_product_order) .none kV dc pm an cd ct) ⟨us, (["others", "counts", "numbers"] : List Str).zip ws⟩ = pure ((["numbers", "counts", "others"] : List Str).zip (kp_product_order_0 us ws)) := by
  intro us ws hl
  unfold kp_product_order_0 at hl ⊢
  split at hl
  · rfl
  · cases hl
theorem kp_by_product_1_to {kV dc pm cd ct : Value} {an : Option Addr} : ∀ (us ws : List Value), (kp_by_product_1 us ws).length = (["numbers", "bits"] : List Str).length →
    bindArgs (PySem.W.fnOf "by_product" "by_product" (defArgs s_by_product) (defBody s_by_product) (defScope s_by_product) .none kV dc pm an cd ct) ⟨us, (["bits", "numbers"] : List Str).zip ws⟩ = pure ((["numbers", "bits"] : List Str).zip (kp_by_product_1 us ws)) := by
  intro us ws hl
  unfold kp_by_product_1 at hl ⊢
  split at hl
  · rfl
  · cases hl
theorem all_mk {P : Program} {w : World} {K : PySem.W.Frag} {h : Heap} {mg : Str → Option Value} {fa : Addr} (X : K.In h) (G : h.Ns mainGlobals mg) (hfa : mg "law" = some (.ref fa))
    {f0 : Addr} {od0 an0 : Option Addr} {sl0 : Array (Option Value)} {oc0 kV0 dc0 pm0 cd0 ct0 : Value}
    {f1 : Addr} {od1 an1 : Option Addr} {sl1 : Array (Option Value)} {oc1 kV1 dc1 pm1 cd1 ct1 : Value}
    {f2 : Addr} {od2 an2 : Option Addr} {sl2 : Array (Option Value)} {oc2 kV2 dc2 pm2 cd2 ct2 : Value}
    {f3 : Addr} {od3 an3 : Option Addr} {sl3 : Array (Option Value)} {oc3 kV3 dc3 pm3 cd3 ct3 : Value}
    {f4 : Addr} {od4 an4 : Option Addr} {sl4 : Array (Option Value)} {oc4 kV4 dc4 pm4 cd4 ct4 : Value}
    {f5 : Addr} {od5 an5 : Option Addr} {sl5 : Array (Option Value)} {oc5 kV5 dc5 pm5 cd5 ct5 : Value}
    {f6 : Addr} {od6 an6 : Option Addr} {sl6 : Array (Option Value)} {oc6 kV6 dc6 pm6 cd6 ct6 : Value}
    {f7 : Addr} {od7 an7 : Option Addr} {sl7 : Array (Option Value)} {oc7 kV7 dc7 pm7 cd7 ct7 : Value}
    {f8 : Addr} {od8 an8 : Option Addr} {sl8 : Array (Option Value)} {oc8 kV8 dc8 pm8 cd8 ct8 : Value}
    {f9 : Addr} {od9 an9 : Option Addr} {sl9 : Array (Option Value)} {oc9 kV9 dc9 pm9 cd9 ct9 : Value}
    {f10 : Addr} {od10 an10 : Option Addr} {sl10 : Array (Option Value)} {oc10 kV10 dc10 pm10 cd10 ct10 : Value}
    {f11 : Addr} {od11 an11 : Option Addr} {sl11 : Array (Option Value)} {oc11 kV11 dc11 pm11 cd11 ct11 : Value}
    {f12 : Addr} {od12 an12 : Option Addr} {sl12 : Array (Option Value)} {oc12 kV12 dc12 pm12 cd12 ct12 : Value}
    {f13 : Addr} {od13 an13 : Option Addr} {sl13 : Array (Option Value)} {oc13 kV13 dc13 pm13 cd13 ct13 : Value}
    {f14 : Addr} {od14 an14 : Option Addr} {sl14 : Array (Option Value)} {oc14 kV14 dc14 pm14 cd14 ct14 : Value}
    {f15 : Addr} {od15 an15 : Option Addr} {sl15 : Array (Option Value)} {oc15 kV15 dc15 pm15 cd15 ct15 : Value}
    {f16 : Addr} {od16 an16 : Option Addr} {sl16 : Array (Option Value)} {oc16 kV16 dc16 pm16 cd16 ct16 : Value}
    {f17 : Addr} {od17 an17 : Option Addr} {sl17 : Array (Option Value)} {oc17 kV17 dc17 pm17 cd17 ct17 : Value}
    {f18 : Addr} {od18 an18 : Option Addr} {sl18 : Array (Option Value)} {oc18 kV18 dc18 pm18 cd18 ct18 : Value}
    {f19 : Addr} {od19 an19 : Option Addr} {sl19 : Array (Option Value)} {oc19 kV19 dc19 pm19 cd19 ct19 : Value}
    {f20 : Addr} {od20 an20 : Option Addr} {sl20 : Array (Option Value)} {oc20 kV20 dc20 pm20 cd20 ct20 : Value}
    {f21 : Addr} {od21 an21 : Option Addr} {sl21 : Array (Option Value)} {oc21 kV21 dc21 pm21 cd21 ct21 : Value}
    {f22 : Addr} {od22 an22 : Option Addr} {sl22 : Array (Option Value)} {oc22 kV22 dc22 pm22 cd22 ct22 : Value}
    {f23 : Addr} {od23 an23 : Option Addr} {sl23 : Array (Option Value)} {oc23 kV23 dc23 pm23 cd23 ct23 : Value}
    {f24 : Addr} {od24 an24 : Option Addr} {sl24 : Array (Option Value)} {oc24 kV24 dc24 pm24 cd24 ct24 : Value}
    {f25 : Addr} {od25 an25 : Option Addr} {sl25 : Array (Option Value)} {oc25 kV25 dc25 pm25 cd25 ct25 : Value}
    {f26 : Addr} {od26 an26 : Option Addr} {sl26 : Array (Option Value)} {oc26 kV26 dc26 pm26 cd26 ct26 : Value}
    {f27 : Addr} {od27 an27 : Option Addr} {sl27 : Array (Option Value)} {oc27 kV27 dc27 pm27 cd27 ct27 : Value}
    {f28 : Addr} {od28 an28 : Option Addr} {sl28 : Array (Option Value)} {oc28 kV28 dc28 pm28 cd28 ct28 : Value}
    {f29 : Addr} {od29 an29 : Option Addr} {sl29 : Array (Option Value)} {oc29 kV29 dc29 pm29 cd29 ct29 : Value}
    {f30 : Addr} {od30 an30 : Option Addr} {sl30 : Array (Option Value)} {oc30 kV30 dc30 pm30 cd30 ct30 : Value}
    {f31 : Addr} {od31 an31 : Option Addr} {sl31 : Array (Option Value)} {oc31 kV31 dc31 pm31 cd31 ct31 : Value}
    {f32 : Addr} {od32 an32 : Option Addr} {sl32 : Array (Option Value)} {oc32 kV32 dc32 pm32 cd32 ct32 : Value}
    {f33 : Addr} {od33 an33 : Option Addr} {sl33 : Array (Option Value)} {oc33 kV33 dc33 pm33 cd33 ct33 : Value}
    {t_GREATEST_NUMBER : Tok}
    {t_MOST_BITS : Tok}
    {t_MOST_PRODUCT_BITS : Tok}
    {t_MOST_PRODUCT_SUM : Tok}
    {t_MOST_SYMBOLS : Tok}
    (a0 : PySem.W.nsIn K mainGlobals "_law_cell_at" = some (some (.ref f0))) (l0 : K.lookup f0 = some ⟨oc0, od0, .func (PySem.W.fnOf "_law_cell_at" "_law_cell_at" (defArgs s__law_cell_at) (defBody s__law_cell_at) (defScope s__law_cell_at) .none kV0 dc0 pm0 an0 cd0 ct0), sl0⟩) (c0 : PySem.W.codeIn K cd0 "_law_cell_at" = true) (k0 : PySem.W.keepIn K (.ref f0) = true)
    (a1 : PySem.W.nsIn K mainGlobals "_law_source_of" = some (some (.ref f1))) (l1 : K.lookup f1 = some ⟨oc1, od1, .func (PySem.W.fnOf "_law_source_of" "_law_source_of" (defArgs s__law_source_of) (defBody s__law_source_of) (defScope s__law_source_of) .none kV1 dc1 pm1 an1 cd1 ct1), sl1⟩) (c1 : PySem.W.codeIn K cd1 "_law_source_of" = true) (k1 : PySem.W.keepIn K (.ref f1) = true)
    (a2 : PySem.W.nsIn K mainGlobals "_law_next" = some (some (.ref f2))) (l2 : K.lookup f2 = some ⟨oc2, od2, .func (PySem.W.fnOf "_law_next" "_law_next" (defArgs s__law_next) (defBody s__law_next) (defScope s__law_next) .none kV2 dc2 pm2 an2 cd2 ct2), sl2⟩) (c2 : PySem.W.codeIn K cd2 "_law_next" = true) (k2 : PySem.W.keepIn K (.ref f2) = true)
    (a3 : PySem.W.nsIn K mainGlobals "_law_one" = some (some (.ref f3))) (l3 : K.lookup f3 = some ⟨oc3, od3, .func (PySem.W.fnOf "_law_one" "_law_one" (defArgs s__law_one) (defBody s__law_one) (defScope s__law_one) .none kV3 dc3 pm3 an3 cd3 ct3), sl3⟩) (c3 : PySem.W.codeIn K cd3 "_law_one" = true) (k3 : PySem.W.keepIn K (.ref f3) = true)
    (a4 : PySem.W.nsIn K mainGlobals "_law_symbols" = some (some (.ref f4))) (l4 : K.lookup f4 = some ⟨oc4, od4, .func (PySem.W.fnOf "_law_symbols" "_law_symbols" (defArgs s__law_symbols) (defBody s__law_symbols) (defScope s__law_symbols) .none kV4 dc4 pm4 an4 cd4 ct4), sl4⟩) (c4 : PySem.W.codeIn K cd4 "_law_symbols" = true) (k4 : PySem.W.keepIn K (.ref f4) = true)
    (a5 : PySem.W.nsIn K mainGlobals "_law_numbers" = some (some (.ref f5))) (l5 : K.lookup f5 = some ⟨oc5, od5, .func (PySem.W.fnOf "_law_numbers" "_law_numbers" (defArgs s__law_numbers) (defBody s__law_numbers) (defScope s__law_numbers) .none kV5 dc5 pm5 an5 cd5 ct5), sl5⟩) (c5 : PySem.W.codeIn K cd5 "_law_numbers" = true) (k5 : PySem.W.keepIn K (.ref f5) = true)
    (a6 : PySem.W.nsIn K mainGlobals "_law_times" = some (some (.ref f6))) (l6 : K.lookup f6 = some ⟨oc6, od6, .func (PySem.W.fnOf "_law_times" "_law_times" (defArgs s__law_times) (defBody s__law_times) (defScope s__law_times) .none kV6 dc6 pm6 an6 cd6 ct6), sl6⟩) (c6 : PySem.W.codeIn K cd6 "_law_times" = true) (k6 : PySem.W.keepIn K (.ref f6) = true)
    (a7 : PySem.W.nsIn K mainGlobals "_law_gains" = some (some (.ref f7))) (l7 : K.lookup f7 = some ⟨oc7, od7, .func (PySem.W.fnOf "_law_gains" "_law_gains" (defArgs s__law_gains) (defBody s__law_gains) (defScope s__law_gains) .none kV7 dc7 pm7 an7 cd7 ct7), sl7⟩) (c7 : PySem.W.codeIn K cd7 "_law_gains" = true) (k7 : PySem.W.keepIn K (.ref f7) = true)
    (a8 : PySem.W.nsIn K mainGlobals "_law_power" = some (some (.ref f8))) (l8 : K.lookup f8 = some ⟨oc8, od8, .func (PySem.W.fnOf "_law_power" "_law_power" (defArgs s__law_power) (defBody s__law_power) (defScope s__law_power) .none kV8 dc8 pm8 an8 cd8 ct8), sl8⟩) (c8 : PySem.W.codeIn K cd8 "_law_power" = true) (k8 : PySem.W.keepIn K (.ref f8) = true)
    (a9 : PySem.W.nsIn K mainGlobals "is_integer" = some (some (.ref f9))) (l9 : K.lookup f9 = some ⟨oc9, od9, .func (PySem.W.fnOf "is_integer" "is_integer" (defArgs s_is_integer) (defBody s_is_integer) (defScope s_is_integer) .none kV9 dc9 pm9 an9 cd9 ct9), sl9⟩) (c9 : PySem.W.codeIn K cd9 "is_integer" = true) (k9 : PySem.W.keepIn K (.ref f9) = true)
    (a10 : PySem.W.nsIn K mainGlobals "is_within" = some (some (.ref f10))) (l10 : K.lookup f10 = some ⟨oc10, od10, .func (PySem.W.fnOf "is_within" "is_within" (defArgs s_is_within) (defBody s_is_within) (defScope s_is_within) .none kV10 dc10 pm10 an10 cd10 ct10), sl10⟩) (c10 : PySem.W.codeIn K cd10 "is_within" = true) (k10 : PySem.W.keepIn K (.ref f10) = true)
    (a11 : PySem.W.nsIn K mainGlobals "is_symbol" = some (some (.ref f11))) (l11 : K.lookup f11 = some ⟨oc11, od11, .func (PySem.W.fnOf "is_symbol" "is_symbol" (defArgs s_is_symbol) (defBody s_is_symbol) (defScope s_is_symbol) .none kV11 dc11 pm11 an11 cd11 ct11), sl11⟩) (c11 : PySem.W.codeIn K cd11 "is_symbol" = true) (k11 : PySem.W.keepIn K (.ref f11) = true)
    (a12 : PySem.W.nsIn K mainGlobals "is_entry" = some (some (.ref f12))) (l12 : K.lookup f12 = some ⟨oc12, od12, .func (PySem.W.fnOf "is_entry" "is_entry" (defArgs s_is_entry) (defBody s_is_entry) (defScope s_is_entry) .none kV12 dc12 pm12 an12 cd12 ct12), sl12⟩) (c12 : PySem.W.codeIn K cd12 "is_entry" = true) (k12 : PySem.W.keepIn K (.ref f12) = true)
    (a13 : PySem.W.nsIn K mainGlobals "is_numbers" = some (some (.ref f13))) (l13 : K.lookup f13 = some ⟨oc13, od13, .func (PySem.W.fnOf "is_numbers" "is_numbers" (defArgs s_is_numbers) (defBody s_is_numbers) (defScope s_is_numbers) .none kV13 dc13 pm13 an13 cd13 ct13), sl13⟩) (c13 : PySem.W.codeIn K cd13 "is_numbers" = true) (k13 : PySem.W.keepIn K (.ref f13) = true)
    (a14 : PySem.W.nsIn K mainGlobals "check_numbers" = some (some (.ref f14))) (l14 : K.lookup f14 = some ⟨oc14, od14, .func (PySem.W.fnOf "check_numbers" "check_numbers" (defArgs s_check_numbers) (defBody s_check_numbers) (defScope s_check_numbers) .none kV14 dc14 pm14 an14 cd14 ct14), sl14⟩) (c14 : PySem.W.codeIn K cd14 "check_numbers" = true) (k14 : PySem.W.keepIn K (.ref f14) = true)
    (a15 : PySem.W.nsIn K mainGlobals "is_bits" = some (some (.ref f15))) (l15 : K.lookup f15 = some ⟨oc15, od15, .func (PySem.W.fnOf "is_bits" "is_bits" (defArgs s_is_bits) (defBody s_is_bits) (defScope s_is_bits) .none kV15 dc15 pm15 an15 cd15 ct15), sl15⟩) (c15 : PySem.W.codeIn K cd15 "is_bits" = true) (k15 : PySem.W.keepIn K (.ref f15) = true)
    (a16 : PySem.W.nsIn K mainGlobals "check_bits" = some (some (.ref f16))) (l16 : K.lookup f16 = some ⟨oc16, od16, .func (PySem.W.fnOf "check_bits" "check_bits" (defArgs s_check_bits) (defBody s_check_bits) (defScope s_check_bits) .none kV16 dc16 pm16 an16 cd16 ct16), sl16⟩) (c16 : PySem.W.codeIn K cd16 "check_bits" = true) (k16 : PySem.W.keepIn K (.ref f16) = true)
    (a17 : PySem.W.nsIn K mainGlobals "check_counting" = some (some (.ref f17))) (l17 : K.lookup f17 = some ⟨oc17, od17, .func (PySem.W.fnOf "check_counting" "check_counting" (defArgs s_check_counting) (defBody s_check_counting) (defScope s_check_counting) .none kV17 dc17 pm17 an17 cd17 ct17), sl17⟩) (c17 : PySem.W.codeIn K cd17 "check_counting" = true) (k17 : PySem.W.keepIn K (.ref f17) = true)
    (a18 : PySem.W.nsIn K mainGlobals "sum_of" = some (some (.ref f18))) (l18 : K.lookup f18 = some ⟨oc18, od18, .func (PySem.W.fnOf "sum_of" "sum_of" (defArgs s_sum_of) (defBody s_sum_of) (defScope s_sum_of) .none kV18 dc18 pm18 an18 cd18 ct18), sl18⟩) (c18 : PySem.W.codeIn K cd18 "sum_of" = true) (k18 : PySem.W.keepIn K (.ref f18) = true)
    (a19 : PySem.W.nsIn K mainGlobals "check_product_sum" = some (some (.ref f19))) (l19 : K.lookup f19 = some ⟨oc19, od19, .func (PySem.W.fnOf "check_product_sum" "check_product_sum" (defArgs s_check_product_sum) (defBody s_check_product_sum) (defScope s_check_product_sum) .none kV19 dc19 pm19 an19 cd19 ct19), sl19⟩) (c19 : PySem.W.codeIn K cd19 "check_product_sum" = true) (k19 : PySem.W.keepIn K (.ref f19) = true)
    (a20 : PySem.W.nsIn K mainGlobals "power" = some (some (.ref f20))) (l20 : K.lookup f20 = some ⟨oc20, od20, .func (PySem.W.fnOf "power" "power" (defArgs s_power) (defBody s_power) (defScope s_power) .none kV20 dc20 pm20 an20 cd20 ct20), sl20⟩) (c20 : PySem.W.codeIn K cd20 "power" = true) (k20 : PySem.W.keepIn K (.ref f20) = true)
    (a21 : PySem.W.nsIn K mainGlobals "gain" = some (some (.ref f21))) (l21 : K.lookup f21 = some ⟨oc21, od21, .func (PySem.W.fnOf "gain" "gain" (defArgs s_gain) (defBody s_gain) (defScope s_gain) .none kV21 dc21 pm21 an21 cd21 ct21), sl21⟩) (c21 : PySem.W.codeIn K cd21 "gain" = true) (k21 : PySem.W.keepIn K (.ref f21) = true)
    (a22 : PySem.W.nsIn K mainGlobals "place_of_greatest" = some (some (.ref f22))) (l22 : K.lookup f22 = some ⟨oc22, od22, .func (PySem.W.fnOf "place_of_greatest" "place_of_greatest" (defArgs s_place_of_greatest) (defBody s_place_of_greatest) (defScope s_place_of_greatest) .none kV22 dc22 pm22 an22 cd22 ct22), sl22⟩) (c22 : PySem.W.codeIn K cd22 "place_of_greatest" = true) (k22 : PySem.W.keepIn K (.ref f22) = true)
    (a23 : PySem.W.nsIn K mainGlobals "symbols_of" = some (some (.ref f23))) (l23 : K.lookup f23 = some ⟨oc23, od23, .func (PySem.W.fnOf "symbols_of" "symbols_of" (defArgs s_symbols_of) (defBody s_symbols_of) (defScope s_symbols_of) .none kV23 dc23 pm23 an23 cd23 ct23), sl23⟩) (c23 : PySem.W.codeIn K cd23 "symbols_of" = true) (k23 : PySem.W.keepIn K (.ref f23) = true)
    (a24 : PySem.W.nsIn K mainGlobals "named" = some (some (.ref f24))) (l24 : K.lookup f24 = some ⟨oc24, od24, .func (PySem.W.fnOf "named" "named" (defArgs s_named) (defBody s_named) (defScope s_named) .none kV24 dc24 pm24 an24 cd24 ct24), sl24⟩) (c24 : PySem.W.codeIn K cd24 "named" = true) (k24 : PySem.W.keepIn K (.ref f24) = true)
    (a25 : PySem.W.nsIn K mainGlobals "by_product" = some (some (.ref f25))) (l25 : K.lookup f25 = some ⟨oc25, od25, .func (PySem.W.fnOf "by_product" "by_product" (defArgs s_by_product) (defBody s_by_product) (defScope s_by_product) .none kV25 dc25 pm25 an25 cd25 ct25), sl25⟩) (c25 : PySem.W.codeIn K cd25 "by_product" = true) (k25 : PySem.W.keepIn K (.ref f25) = true)
    (a26 : PySem.W.nsIn K mainGlobals "_law_product" = some (some (.ref f26))) (l26 : K.lookup f26 = some ⟨oc26, od26, .func (PySem.W.fnOf "_law_product" "_law_product" (defArgs s__law_product) (defBody s__law_product) (defScope s__law_product) .none kV26 dc26 pm26 an26 cd26 ct26), sl26⟩) (c26 : PySem.W.codeIn K cd26 "_law_product" = true) (k26 : PySem.W.keepIn K (.ref f26) = true)
    (a27 : PySem.W.nsIn K mainGlobals "is_size" = some (some (.ref f27))) (l27 : K.lookup f27 = some ⟨oc27, od27, .func (PySem.W.fnOf "is_size" "is_size" (defArgs s_is_size) (defBody s_is_size) (defScope s_is_size) .none kV27 dc27 pm27 an27 cd27 ct27), sl27⟩) (c27 : PySem.W.codeIn K cd27 "is_size" = true) (k27 : PySem.W.keepIn K (.ref f27) = true)
    (a28 : PySem.W.nsIn K mainGlobals "is_counts" = some (some (.ref f28))) (l28 : K.lookup f28 = some ⟨oc28, od28, .func (PySem.W.fnOf "is_counts" "is_counts" (defArgs s_is_counts) (defBody s_is_counts) (defScope s_is_counts) .none kV28 dc28 pm28 an28 cd28 ct28), sl28⟩) (c28 : PySem.W.codeIn K cd28 "is_counts" = true) (k28 : PySem.W.keepIn K (.ref f28) = true)
    (a29 : PySem.W.nsIn K mainGlobals "are_counts_for" = some (some (.ref f29))) (l29 : K.lookup f29 = some ⟨oc29, od29, .func (PySem.W.fnOf "are_counts_for" "are_counts_for" (defArgs s_are_counts_for) (defBody s_are_counts_for) (defScope s_are_counts_for) .none kV29 dc29 pm29 an29 cd29 ct29), sl29⟩) (c29 : PySem.W.codeIn K cd29 "are_counts_for" = true) (k29 : PySem.W.keepIn K (.ref f29) = true)
    (a30 : PySem.W.nsIn K mainGlobals "product_of" = some (some (.ref f30))) (l30 : K.lookup f30 = some ⟨oc30, od30, .func (PySem.W.fnOf "product_of" "product_of" (defArgs s_product_of) (defBody s_product_of) (defScope s_product_of) .none kV30 dc30 pm30 an30 cd30 ct30), sl30⟩) (c30 : PySem.W.codeIn K cd30 "product_of" = true) (k30 : PySem.W.keepIn K (.ref f30) = true)
    (a31 : PySem.W.nsIn K mainGlobals "product_order" = some (some (.ref f31))) (l31 : K.lookup f31 = some ⟨oc31, od31, .func (PySem.W.fnOf "product_order" "product_order" (defArgs s_product_order) (defBody s_product_order) (defScope s_product_order) .none kV31 dc31 pm31 an31 cd31 ct31), sl31⟩) (c31 : PySem.W.codeIn K cd31 "product_order" = true) (k31 : PySem.W.keepIn K (.ref f31) = true)
    (a32 : PySem.W.nsIn K mainGlobals "_law_order_right" = some (some (.ref f32))) (l32 : K.lookup f32 = some ⟨oc32, od32, .func (PySem.W.fnOf "_law_order_right" "_law_order_right" (defArgs s__law_order_right) (defBody s__law_order_right) (defScope s__law_order_right) .none kV32 dc32 pm32 an32 cd32 ct32), sl32⟩) (c32 : PySem.W.codeIn K cd32 "_law_order_right" = true) (k32 : PySem.W.keepIn K (.ref f32) = true)
    (a33 : PySem.W.nsIn K mainGlobals "law" = some (some (.ref f33))) (l33 : K.lookup f33 = some ⟨oc33, od33, .func (PySem.W.fnOf "law" "law" (defArgs s_law) (defBody s_law) (defScope s_law) .none kV33 dc33 pm33 an33 cd33 ct33), sl33⟩) (c33 : PySem.W.codeIn K cd33 "law" = true) (k33 : PySem.W.keepIn K (.ref f33) = true)
    (z_bool : PySem.W.nsIn K mainGlobals "bool" = some none)
    (z_enumerate : PySem.W.nsIn K mainGlobals "enumerate" = some none)
    (z_int : PySem.W.nsIn K mainGlobals "int" = some none)
    (z_isinstance : PySem.W.nsIn K mainGlobals "isinstance" = some none)
    (z_len : PySem.W.nsIn K mainGlobals "len" = some none)
    (z_list : PySem.W.nsIn K mainGlobals "list" = some none)
    (z_max : PySem.W.nsIn K mainGlobals "max" = some none)
    (z_min : PySem.W.nsIn K mainGlobals "min" = some none)
    (z_range : PySem.W.nsIn K mainGlobals "range" = some none)
    (z_sum : PySem.W.nsIn K mainGlobals "sum" = some none)
    (z_tuple : PySem.W.nsIn K mainGlobals "tuple" = some none)
    (z_zip : PySem.W.nsIn K mainGlobals "zip" = some none)
    (v_GREATEST_NUMBER : PySem.W.nsIn K mainGlobals "GREATEST_NUMBER" = some (some (.int 1000000000000000000000000000000 t_GREATEST_NUMBER)))
    (v_MOST_BITS : PySem.W.nsIn K mainGlobals "MOST_BITS" = some (some (.int 12 t_MOST_BITS)))
    (v_MOST_PRODUCT_BITS : PySem.W.nsIn K mainGlobals "MOST_PRODUCT_BITS" = some (some (.int 8 t_MOST_PRODUCT_BITS)))
    (v_MOST_PRODUCT_SUM : PySem.W.nsIn K mainGlobals "MOST_PRODUCT_SUM" = some (some (.int 2000 t_MOST_PRODUCT_SUM)))
    (v_MOST_SYMBOLS : PySem.W.nsIn K mainGlobals "MOST_SYMBOLS" = some (some (.int 1000 t_MOST_SYMBOLS))) :
    ∃ fd : FuncData, (∀ (s : Shared) (v : Value), BindsTo s fd ⟨[v], []⟩ [("_law_script", v)]) ∧ ∀ base : Heap, K.In base → base.Ns mainGlobals mg → FnOk P w K mg base (L2.CX P w) 10 fa fd ["_law_script"] (spOf K m_law) := by
  have e : fa = f33 := by
    have e := hfa.symm.trans (PySem.W.mg_of X G a33)
    injection e with e
    injection e
  rw [e]
  exact ⟨PySem.W.fnOf "law" "law" (defArgs s_law) (defBody s_law) (defScope s_law) .none kV33 dc33 pm33 an33 cd33 ct33, fun s v => .of_eq rfl, fun base _ _ => ok_law
  {
    a__law_cell_at := f0, d__law_cell_at := _, F__law_cell_at := fun_mk (st := s__law_cell_at) l0 c0 k0, g__law_cell_at := PySem.W.mg_of X G a0
    b__law_cell_at := (fun_mk (st := s__law_cell_at) l0 c0 k0).binds (ps := ["_law_script", "_law_index"]) fun _ _ _ _ _ _ us hl => match us, hl with | [_, _], _ => rfl
    a__law_source_of := f1, d__law_source_of := _, F__law_source_of := fun_mk (st := s__law_source_of) l1 c1 k1, g__law_source_of := PySem.W.mg_of X G a1
    b__law_source_of := (fun_mk (st := s__law_source_of) l1 c1 k1).binds (ps := ["_law_cell"]) fun _ _ _ _ _ _ us hl => match us, hl with | [_], _ => rfl
    a__law_next := f2, d__law_next := _, F__law_next := fun_mk (st := s__law_next) l2 c2 k2, g__law_next := PySem.W.mg_of X G a2
    b__law_next := (fun_mk (st := s__law_next) l2 c2 k2).binds (ps := ["_law_source", "_law_many"]) fun _ _ _ _ _ _ us hl => match us, hl with | [_, _], _ => rfl
    a__law_one := f3, d__law_one := _, F__law_one := fun_mk (st := s__law_one) l3 c3 k3, g__law_one := PySem.W.mg_of X G a3
    b__law_one := (fun_mk (st := s__law_one) l3 c3 k3).binds (ps := ["_law_source", "_law_some"]) fun _ _ _ _ _ _ us hl => match us, hl with | [_, _], _ => rfl
    a__law_symbols := f4, d__law_symbols := _, F__law_symbols := fun_mk (st := s__law_symbols) l4 c4 k4, g__law_symbols := PySem.W.mg_of X G a4
    b__law_symbols := (fun_mk (st := s__law_symbols) l4 c4 k4).binds (ps := ["_law_source", "_law_many"]) fun _ _ _ _ _ _ us hl => match us, hl with | [_, _], _ => rfl
    a__law_numbers := f5, d__law_numbers := _, F__law_numbers := fun_mk (st := s__law_numbers) l5 c5 k5, g__law_numbers := PySem.W.mg_of X G a5
    b__law_numbers := (fun_mk (st := s__law_numbers) l5 c5 k5).binds (ps := ["_law_source", "_law_most", "_law_great"]) fun _ _ _ _ _ _ us hl => match us, hl with | [_, _, _], _ => rfl
    a__law_times := f6, d__law_times := _, F__law_times := fun_mk (st := s__law_times) l6 c6 k6, g__law_times := PySem.W.mg_of X G a6
    b__law_times := (fun_mk (st := s__law_times) l6 c6 k6).binds (ps := ["_law_base", "_law_n"]) fun _ _ _ _ _ _ us hl => match us, hl with | [_, _], _ => rfl
    a__law_gains := f7, d__law_gains := _, F__law_gains := fun_mk (st := s__law_gains) l7 c7 k7, g__law_gains := PySem.W.mg_of X G a7
    b__law_gains := (fun_mk (st := s__law_gains) l7 c7 k7).binds (ps := ["_law_numbers_here", "_law_size"]) fun _ _ _ _ _ _ us hl => match us, hl with | [_, _], _ => rfl
    a__law_power := f8, d__law_power := _, F__law_power := fun_mk (st := s__law_power) l8 c8 k8, g__law_power := PySem.W.mg_of X G a8
    b__law_power := (fun_mk (st := s__law_power) l8 c8 k8).binds (ps := ["_law_n"]) fun _ _ _ _ _ _ us hl => match us, hl with | [_], _ => rfl
    a_is_integer := f9, d_is_integer := _, F_is_integer := fun_mk (st := s_is_integer) l9 c9 k9, g_is_integer := PySem.W.mg_of X G a9
    b_is_integer := (fun_mk (st := s_is_integer) l9 c9 k9).binds (ps := ["value"]) fun _ _ _ _ _ _ us hl => match us, hl with | [_], _ => rfl
    a_is_within := f10, d_is_within := _, F_is_within := fun_mk (st := s_is_within) l10 c10 k10, g_is_within := PySem.W.mg_of X G a10
    b_is_within := (fun_mk (st := s_is_within) l10 c10 k10).binds (ps := ["value", "least", "most"]) fun _ _ _ _ _ _ us hl => match us, hl with | [_, _, _], _ => rfl
    a_is_symbol := f11, d_is_symbol := _, F_is_symbol := fun_mk (st := s_is_symbol) l11 c11 k11, g_is_symbol := PySem.W.mg_of X G a11
    b_is_symbol := (fun_mk (st := s_is_symbol) l11 c11 k11).binds (ps := ["value"]) fun _ _ _ _ _ _ us hl => match us, hl with | [_], _ => rfl
    a_is_entry := f12, d_is_entry := _, F_is_entry := fun_mk (st := s_is_entry) l12 c12 k12, g_is_entry := PySem.W.mg_of X G a12
    b_is_entry := (fun_mk (st := s_is_entry) l12 c12 k12).binds (ps := ["value"]) fun _ _ _ _ _ _ us hl => match us, hl with | [_], _ => rfl
    a_is_numbers := f13, d_is_numbers := _, F_is_numbers := fun_mk (st := s_is_numbers) l13 c13 k13, g_is_numbers := PySem.W.mg_of X G a13
    b_is_numbers := (fun_mk (st := s_is_numbers) l13 c13 k13).binds (ps := ["value"]) fun _ _ _ _ _ _ us hl => match us, hl with | [_], _ => rfl
    a_check_numbers := f14, d_check_numbers := _, F_check_numbers := fun_mk (st := s_check_numbers) l14 c14 k14, g_check_numbers := PySem.W.mg_of X G a14
    b_check_numbers := (fun_mk (st := s_check_numbers) l14 c14 k14).binds (ps := ["numbers"]) fun _ _ _ _ _ _ us hl => match us, hl with | [_], _ => rfl
    a_is_bits := f15, d_is_bits := _, F_is_bits := fun_mk (st := s_is_bits) l15 c15 k15, g_is_bits := PySem.W.mg_of X G a15
    b_is_bits := (fun_mk (st := s_is_bits) l15 c15 k15).binds (ps := ["value"]) fun _ _ _ _ _ _ us hl => match us, hl with | [_], _ => rfl
    a_check_bits := f16, d_check_bits := _, F_check_bits := fun_mk (st := s_check_bits) l16 c16 k16, g_check_bits := PySem.W.mg_of X G a16
    b_check_bits := (fun_mk (st := s_check_bits) l16 c16 k16).binds (ps := ["bits"]) fun _ _ _ _ _ _ us hl => match us, hl with | [_], _ => rfl
    a_check_counting := f17, d_check_counting := _, F_check_counting := fun_mk (st := s_check_counting) l17 c17 k17, g_check_counting := PySem.W.mg_of X G a17
    b_check_counting := (fun_mk (st := s_check_counting) l17 c17 k17).binds (ps := ["numbers", "bits"]) fun _ _ _ _ _ _ us hl => match us, hl with | [_, _], _ => rfl
    a_sum_of := f18, d_sum_of := _, F_sum_of := fun_mk (st := s_sum_of) l18 c18 k18, g_sum_of := PySem.W.mg_of X G a18
    b_sum_of := (fun_mk (st := s_sum_of) l18 c18 k18).binds (ps := ["numbers"]) fun _ _ _ _ _ _ us hl => match us, hl with | [_], _ => rfl
    a_check_product_sum := f19, d_check_product_sum := _, F_check_product_sum := fun_mk (st := s_check_product_sum) l19 c19 k19, g_check_product_sum := PySem.W.mg_of X G a19
    b_check_product_sum := (fun_mk (st := s_check_product_sum) l19 c19 k19).binds (ps := ["numbers"]) fun _ _ _ _ _ _ us hl => match us, hl with | [_], _ => rfl
    a_power := f20, d_power := _, F_power := fun_mk (st := s_power) l20 c20 k20, g_power := PySem.W.mg_of X G a20
    b_power := (fun_mk (st := s_power) l20 c20 k20).binds (ps := ["base", "exponent"]) fun _ _ _ _ _ _ us hl => match us, hl with | [_, _], _ => rfl
    a_gain := f21, d_gain := _, F_gain := fun_mk (st := s_gain) l21 c21 k21, g_gain := PySem.W.mg_of X G a21
    b_gain := (fun_mk (st := s_gain) l21 c21 k21).binds (ps := ["count", "number"]) fun _ _ _ _ _ _ us hl => match us, hl with | [_, _], _ => rfl
    a_place_of_greatest := f22, d_place_of_greatest := _, F_place_of_greatest := fun_mk (st := s_place_of_greatest) l22 c22 k22, g_place_of_greatest := PySem.W.mg_of X G a22
    b_place_of_greatest := (fun_mk (st := s_place_of_greatest) l22 c22 k22).binds (ps := ["gains"]) fun _ _ _ _ _ _ us hl => match us, hl with | [_], _ => rfl
    a_symbols_of := f23, d_symbols_of := _, F_symbols_of := fun_mk (st := s_symbols_of) l23 c23 k23, g_symbols_of := PySem.W.mg_of X G a23
    b_symbols_of := (fun_mk (st := s_symbols_of) l23 c23 k23).binds (ps := ["numbers"]) fun _ _ _ _ _ _ us hl => match us, hl with | [_], _ => rfl
    a_named := f24, d_named := _, F_named := fun_mk (st := s_named) l24 c24 k24, g_named := PySem.W.mg_of X G a24
    b_named := (fun_mk (st := s_named) l24 c24 k24).binds (ps := ["numbers", "counts"]) fun _ _ _ _ _ _ us hl => match us, hl with | [_, _], _ => rfl
    a_by_product := f25, d_by_product := _, F_by_product := fun_mk (st := s_by_product) l25 c25 k25, g_by_product := PySem.W.mg_of X G a25
    b_by_product := (fun_mk (st := s_by_product) l25 c25 k25).binds (ps := ["numbers", "bits"]) fun _ _ _ _ _ _ us hl => match us, hl with | [_, _], _ => rfl
    a__law_product := f26, d__law_product := _, F__law_product := fun_mk (st := s__law_product) l26 c26 k26, g__law_product := PySem.W.mg_of X G a26
    b__law_product := (fun_mk (st := s__law_product) l26 c26 k26).binds (ps := ["_law_numbers_here", "_law_counts_here"]) fun _ _ _ _ _ _ us hl => match us, hl with | [_, _], _ => rfl
    a_is_size := f27, d_is_size := _, F_is_size := fun_mk (st := s_is_size) l27 c27 k27, g_is_size := PySem.W.mg_of X G a27
    b_is_size := (fun_mk (st := s_is_size) l27 c27 k27).binds (ps := ["total"]) fun _ _ _ _ _ _ us hl => match us, hl with | [_], _ => rfl
    a_is_counts := f28, d_is_counts := _, F_is_counts := fun_mk (st := s_is_counts) l28 c28 k28, g_is_counts := PySem.W.mg_of X G a28
    b_is_counts := (fun_mk (st := s_is_counts) l28 c28 k28).binds (ps := ["value"]) fun _ _ _ _ _ _ us hl => match us, hl with | [_], _ => rfl
    a_are_counts_for := f29, d_are_counts_for := _, F_are_counts_for := fun_mk (st := s_are_counts_for) l29 c29 k29, g_are_counts_for := PySem.W.mg_of X G a29
    b_are_counts_for := (fun_mk (st := s_are_counts_for) l29 c29 k29).binds (ps := ["counts", "numbers"]) fun _ _ _ _ _ _ us hl => match us, hl with | [_, _], _ => rfl
    a_product_of := f30, d_product_of := _, F_product_of := fun_mk (st := s_product_of) l30 c30 k30, g_product_of := PySem.W.mg_of X G a30
    b_product_of := (fun_mk (st := s_product_of) l30 c30 k30).binds (ps := ["numbers", "counts"]) fun _ _ _ _ _ _ us hl => match us, hl with | [_, _], _ => rfl
    a_product_order := f31, d_product_order := _, F_product_order := fun_mk (st := s_product_order) l31 c31 k31, g_product_order := PySem.W.mg_of X G a31
    b_product_order := (fun_mk (st := s_product_order) l31 c31 k31).binds (ps := ["numbers", "counts", "others"]) fun _ _ _ _ _ _ us hl => match us, hl with | [_, _, _], _ => rfl
    a__law_order_right := f32, d__law_order_right := _, F__law_order_right := fun_mk (st := s__law_order_right) l32 c32 k32, g__law_order_right := PySem.W.mg_of X G a32
    b__law_order_right := (fun_mk (st := s__law_order_right) l32 c32 k32).binds (ps := ["_law_numbers_here", "_law_one_here", "_law_other"]) fun _ _ _ _ _ _ us hl => match us, hl with | [_, _, _], _ => rfl
    a_law := f33, d_law := _, F_law := fun_mk (st := s_law) l33 c33 k33, g_law := PySem.W.mg_of X G a33
    b_law := (fun_mk (st := s_law) l33 c33 k33).binds (ps := ["_law_script"]) fun _ _ _ _ _ _ us hl => match us, hl with | [_], _ => rfl
    n_bool := PySem.W.mg_none_of X G z_bool
    n_enumerate := PySem.W.mg_none_of X G z_enumerate
    n_int := PySem.W.mg_none_of X G z_int
    n_isinstance := PySem.W.mg_none_of X G z_isinstance
    n_len := PySem.W.mg_none_of X G z_len
    n_list := PySem.W.mg_none_of X G z_list
    n_max := PySem.W.mg_none_of X G z_max
    n_min := PySem.W.mg_none_of X G z_min
    n_range := PySem.W.mg_none_of X G z_range
    n_sum := PySem.W.mg_none_of X G z_sum
    n_tuple := PySem.W.mg_none_of X G z_tuple
    n_zip := PySem.W.mg_none_of X G z_zip
    c_GREATEST_NUMBER := ⟨_, PySem.W.mg_of X G v_GREATEST_NUMBER⟩
    c_MOST_BITS := ⟨_, PySem.W.mg_of X G v_MOST_BITS⟩
    c_MOST_PRODUCT_BITS := ⟨_, PySem.W.mg_of X G v_MOST_PRODUCT_BITS⟩
    c_MOST_PRODUCT_SUM := ⟨_, PySem.W.mg_of X G v_MOST_PRODUCT_SUM⟩
    c_MOST_SYMBOLS := ⟨_, PySem.W.mg_of X G v_MOST_SYMBOLS⟩
    kb_kp_product_order_0 := ⟨fun s us ws _ hl => .of_eq (kp_product_order_0_to us ws hl), fun r q => kp_product_order_0_rel r q⟩
    kb_kp_by_product_1 := ⟨fun s us ws _ hl => .of_eq (kp_by_product_1_to us ws hl), fun r q => kp_by_product_1_rel r q⟩ }⟩
end Law
set_option Elab.async false
set_option linter.all false
set_option maxRecDepth 100000
set_option maxHeartbeats 4250000
open PyProof.Rows PySem PySem.W in
set_option maxRecDepth 120000 in
set_option maxHeartbeats 0 in
theorem PySem.Challenge.cw_spreadstates_k03_counts_by_products_holds : PySem.Challenge.rw_spreadstates_k03_counts_by_products.Holds := by
  w_on; o_law; k_head; (case hw => w_witness2)
  k_fill
  refine Sp.walk_law (l := PySem.Challenge.rw_spreadstates_k03_counts_by_products) (n := 63) (k := 10) (m := Law.m_law) (x := "_law_script") Law.law_true rfl (by decide) rfl ⟨rfl, by decide, by decide⟩ (fun w h Y => PySem.W.kIn_of Y) ?F
  case F =>
    intro w mg fa h KX G hmg
    refine' Law.all_mk KX G hmg ?a0 ?l0 ?c0 ?k0 ?a1 ?l1 ?c1 ?k1 ?a2 ?l2 ?c2 ?k2 ?a3 ?l3 ?c3 ?k3 ?a4 ?l4 ?c4 ?k4 ?a5 ?l5 ?c5 ?k5 ?a6 ?l6 ?c6 ?k6 ?a7 ?l7 ?c7 ?k7 ?a8 ?l8 ?c8 ?k8 ?a9 ?l9 ?c9 ?k9 ?a10 ?l10 ?c10 ?k10 ?a11 ?l11 ?c11 ?k11 ?a12 ?l12 ?c12 ?k12 ?a13 ?l13 ?c13 ?k13 ?a14 ?l14 ?c14 ?k14 ?a15 ?l15 ?c15 ?k15 ?a16 ?l16 ?c16 ?k16 ?a17 ?l17 ?c17 ?k17 ?a18 ?l18 ?c18 ?k18 ?a19 ?l19 ?c19 ?k19 ?a20 ?l20 ?c20 ?k20 ?a21 ?l21 ?c21 ?k21 ?a22 ?l22 ?c22 ?k22 ?a23 ?l23 ?c23 ?k23 ?a24 ?l24 ?c24 ?k24 ?a25 ?l25 ?c25 ?k25 ?a26 ?l26 ?c26 ?k26 ?a27 ?l27 ?c27 ?k27 ?a28 ?l28 ?c28 ?k28 ?a29 ?l29 ?c29 ?k29 ?a30 ?l30 ?c30 ?k30 ?a31 ?l31 ?c31 ?k31 ?a32 ?l32 ?c32 ?k32 ?a33 ?l33 ?c33 ?k33 ?z_bool ?z_enumerate ?z_int ?z_isinstance ?z_len ?z_list ?z_max ?z_min ?z_range ?z_sum ?z_tuple ?z_zip ?v_GREATEST_NUMBER ?v_MOST_BITS ?v_MOST_PRODUCT_BITS ?v_MOST_PRODUCT_SUM ?v_MOST_SYMBOLS
    (case a0 => k_is)
    (case l0 => k_is)
    (case c0 => k_is)
    (case k0 => k_is)
    (case a1 => k_is)
    (case l1 => k_is)
    (case c1 => k_is)
    (case k1 => k_is)
    (case a2 => k_is)
    (case l2 => k_is)
    (case c2 => k_is)
    (case k2 => k_is)
    (case a3 => k_is)
    (case l3 => k_is)
    (case c3 => k_is)
    (case k3 => k_is)
    (case a4 => k_is)
    (case l4 => k_is)
    (case c4 => k_is)
    (case k4 => k_is)
    (case a5 => k_is)
    (case l5 => k_is)
    (case c5 => k_is)
    (case k5 => k_is)
    (case a6 => k_is)
    (case l6 => k_is)
    (case c6 => k_is)
    (case k6 => k_is)
    (case a7 => k_is)
    (case l7 => k_is)
    (case c7 => k_is)
    (case k7 => k_is)
    (case a8 => k_is)
    (case l8 => k_is)
    (case c8 => k_is)
    (case k8 => k_is)
    (case a9 => k_is)
    (case l9 => k_is)
    (case c9 => k_is)
    (case k9 => k_is)
    (case a10 => k_is)
    (case l10 => k_is)
    (case c10 => k_is)
    (case k10 => k_is)
    (case a11 => k_is)
    (case l11 => k_is)
    (case c11 => k_is)
    (case k11 => k_is)
    (case a12 => k_is)
    (case l12 => k_is)
    (case c12 => k_is)
    (case k12 => k_is)
    (case a13 => k_is)
    (case l13 => k_is)
    (case c13 => k_is)
    (case k13 => k_is)
    (case a14 => k_is)
    (case l14 => k_is)
    (case c14 => k_is)
    (case k14 => k_is)
    (case a15 => k_is)
    (case l15 => k_is)
    (case c15 => k_is)
    (case k15 => k_is)
    (case a16 => k_is)
    (case l16 => k_is)
    (case c16 => k_is)
    (case k16 => k_is)
    (case a17 => k_is)
    (case l17 => k_is)
    (case c17 => k_is)
    (case k17 => k_is)
    (case a18 => k_is)
    (case l18 => k_is)
    (case c18 => k_is)
    (case k18 => k_is)
    (case a19 => k_is)
    (case l19 => k_is)
    (case c19 => k_is)
    (case k19 => k_is)
    (case a20 => k_is)
    (case l20 => k_is)
    (case c20 => k_is)
    (case k20 => k_is)
    (case a21 => k_is)
    (case l21 => k_is)
    (case c21 => k_is)
    (case k21 => k_is)
    (case a22 => k_is)
    (case l22 => k_is)
    (case c22 => k_is)
    (case k22 => k_is)
    (case a23 => k_is)
    (case l23 => k_is)
    (case c23 => k_is)
    (case k23 => k_is)
    (case a24 => k_is)
    (case l24 => k_is)
    (case c24 => k_is)
    (case k24 => k_is)
    (case a25 => k_is)
    (case l25 => k_is)
    (case c25 => k_is)
    (case k25 => k_is)
    (case a26 => k_is)
    (case l26 => k_is)
    (case c26 => k_is)
    (case k26 => k_is)
    (case a27 => k_is)
    (case l27 => k_is)
    (case c27 => k_is)
    (case k27 => k_is)
    (case a28 => k_is)
    (case l28 => k_is)
    (case c28 => k_is)
    (case k28 => k_is)
    (case a29 => k_is)
    (case l29 => k_is)
    (case c29 => k_is)
    (case k29 => k_is)
    (case a30 => k_is)
    (case l30 => k_is)
    (case c30 => k_is)
    (case k30 => k_is)
    (case a31 => k_is)
    (case l31 => k_is)
    (case c31 => k_is)
    (case k31 => k_is)
    (case a32 => k_is)
    (case l32 => k_is)
    (case c32 => k_is)
    (case k32 => k_is)
    (case a33 => k_is)
    (case l33 => k_is)
    (case c33 => k_is)
    (case k33 => k_is)
    (case z_bool => k_is)
    (case z_enumerate => k_is)
    (case z_int => k_is)
    (case z_isinstance => k_is)
    (case z_len => k_is)
    (case z_list => k_is)
    (case z_max => k_is)
    (case z_min => k_is)
    (case z_range => k_is)
    (case z_sum => k_is)
    (case z_tuple => k_is)
    (case z_zip => k_is)
    (case v_GREATEST_NUMBER => k_is)
    (case v_MOST_BITS => k_is)
    (case v_MOST_PRODUCT_BITS => k_is)
    (case v_MOST_PRODUCT_SUM => k_is)
    (case v_MOST_SYMBOLS => k_is)
